import PyProof.Rows.All
import Wide.All
import OpenK.AllK
import Wide.FinOn
import Lean
import PyProof.EqAt
import PyProof.EqKinds
import PyProof.TupleCall
import KE.KNestM
import KE.KRevIter
import PyProof.ListNew
import PyProof.Draws
import PyProof.EnumMake
import PyProof.Rows.EnumRows
import PyProof.ZipIter
import PyProof.ConsumeWalk
import KE.LcSums
import PyProof.AttrMissHeap
import KE.KDictOf
import PyProof.DictWalks
import PyProof.ListMulRoad
import PyProof.FactsAll.tuple
import PyProof.NeKinds
import KE.RegKTryMore
import KE.RegKIsAll
import PyProof.StrWalks
import PyProof.Rows.SetFrom
import PyProof.FString5
import Wide.Txt
import PyProof.Rows.SeqMore
import PyProof.StrOps2
import KE.KEqDict
import PyProof.CollectIter
import PyProof.JoinWalk
import PyProof.CallStr
import PyProof.DictRoadsH
import PyProof.MeetsDictList
import PyProof.DictTruth
import PyProof.StrLawsChain
import PyProof.StrCalls6
import PyProof.ToksMono
import PyProof.StrCalls2
import KE.KWords
import PyProof.MeetsStr2
import KE.KLam
import KE.KDictLaws
import PyProof.DictItems
import PyProof.DictValues
import PyProof.DictItemsLoops
import KE.BitLaws
import KE.KMinKey
import PyProof.ListRange
import PySem.Challenge.RW_boughbook_k47_whole_notes_are_closed
set_option maxHeartbeats 0
set_option Elab.async false
set_option linter.all false
set_option maxRecDepth 100000
set_option genInjectivity false
set_option genSizeOf false
local macro_rules(kind:=«term{_}»)|`({$a,*})=>`(⟨$a,*⟩)
open List renaming length_map->Wt,getElem?_eq_getElem->Wv,mem_of_getElem?->Ww,getElem?_map->Wz,mem_singleton->WG,mem_iff_getElem?->WK,length_append->WL,mem_cons_self->WM,mem_append->WQ,mem_cons_of_mem->WR,size_toArray->WT,length_cons->WV,mem_cons->WW,mem_append_left->WX,mem_map->WY,getD_eq_getElem?_getD->W0,map_append->W3,map_cons->W9,mem_append_right->Xc,length_singleton->Xe,map_map->Xg,getElem?_append_left->Xk,getElem?_append_right->Xu,replicate->Xx,length_take->Xy,take_of_length_le->XF,nodup_cons->XH,getElem?_eq_none->XJ,length_drop->XR,getElem_mem->XS,reverse_cons->X0,getElem?_set_self->X5,getElem?_set_ne->X6,length->X9,nodup_append->Yc,mem_of_mem_take->Yl,lookup_cons->Ym,getElem?_zip_eq_some->Yq,replicate_succ->Yt,range->Yu,mem_filter->Yx,take_add_one->YG,ext_getElem?->YH,getElem?_eq_some_iff->YI,take_length->YJ,map_nil->YL,take_zero->YM,length_eq_zero_iff->YQ,length_set->YR,dropLast_concat_getLast->YS,reverse_append->YX,nodup_nil->Y4,reverse_reverse->Ze,append_assoc->Zf,length_reverse->Zj,filterMap_cons->Zk,mem_flatMap->Zn,reverse_singleton->Zw,mem_zipIdx_iff_getElem?->ZA,length_nil->ZC,singleton_append->ZG,flatten_cons->ZJ,range'->ZP,pairwise_append->ZQ,drop_zero->ZR,of_mem_zip->Z5,length_zip->Z6,forIn_cons->Z7,find?_cons->Z8,append_nil->Z9
open PySem renaming wpAny_bind->Wu,Addr->Wx,Value->WA,wpAny_pure->WC,Shared->WH,wpAny->WZ,sizeLine->W5,Str->W8,Program->Xa,Paired->Xb,model->Xf,boot_len->Xj,World->Xq,Around->Xv,starEach->Xw,wpAny_newObj_type->XC,Expr->XD,wpAny_field->XG,wpAny_callSpecial?_slot->XM,wpAny_call_entry->XQ,Heap->XT,wpAny_holding->XU,wpAny_Call_Name_kw->X2,wpAny_seqItems->Ye,mainGlobals->Yg,wpAny_mono->Yn,sysModules->Yo,wpAny_updateSeq->Yr,mem_of_lookup->Ys,Obj->Yw,eval->YC,wpAny_setField_rec->YN,compareOp->YO,rawInt->YW,wpAny_dictEntries->YZ,NameKind->Y3,binaryOp->Zc,FuncData->Zg,IsPair->Zh,wpAny_letGo->Zl,plainId_quiet->Zq,backTo->Zr,Scope->Zs,Builtin->Zx,wpAny_typeNameOfWhole_itemiter->Zy,pyNext->Zz,Pos->ZD,wpAny_typeNameOfWhole_keyiter->ZI,wpAny_pyIter_tuple->ZL,wpAny_passesOwn->ZN,codeAny_builtin->ZO,wpAny_truthy_bool->ZU,codeAny->ZV,sizeLine_eq->ZX,cLine->ZY
open PySem.Heap renaming get?_push_of_some->WB,get?_push_size->WO,lt_size->W6,get?_update_self->XW,size_push->XZ,SameBut->X3,get?_update_other->X7
open Nat renaming le_refl->WD,ne_of_lt->Xn,zero_le->Xo,lt_of_lt_of_le->Xz,le_trans->XB,lt_irrefl->X1,le_of_lt->Yj,pow_le_pow_right->YA,mul_le_mul_right->Zd,succ_mul->Zt,sub_self->Zu,ne_of_gt->Zv,lt_trans->ZT,not_lt_zero->Z4
open PySem.Str renaming ofString->WE
open PySem.W renaming Frag->WJ,findIn->Yv,emptyDict->YE,kla_obj->Y8,instObj->Y9,boot_heap->Zb,keepIn->Zm
open Option.some renaming inj->WN
open PySem.Paired renaming length->WS
open Int renaming toNat_natCast->WU,emod_lt_of_pos->Xp,emod_nonneg->Xr,eq_ofNat_of_zero_le->Zo
open Bool renaming false_ne_true->W2,and_eq_true->YK,false_eq_true->Y5
open Option renaming map_eq_some_iff->W4
open PySem.F renaming plainAttrs_list->W7,type_list_append->Xl,slot_list_append->Xm,slot_dict_itemiterator_next->Yh,plain_extend_loop->Yy,plain_min_loop->YF,slot_dict_keyiterator_next->Y1,type_list_pop->ZE,slot_list_pop->ZF,slot_dict_itemiterator_iter->ZK,type_list_extend->Z0,slot_list_extend->Z1,slot_tuple_iterator_next->Z2
open PySem.PassesOwn renaming never->Xd
open Sum renaming inl->Xh
open Array renaming length_toList->Xi,getElem?_eq_getElem->Y7,getElem?_toList->ZH,getElem?_eq_some_iff->ZS
open PySem.Value renaming ref->Xs,none->Yb,type->ZM
open PyProof.Rows renaming boot_tuple->XA,slot_tuple_getitem->XI,callWith_type1->XY,boot_sum->Y6,envOfC->Zp
open PySem.Builtin.SmallTypes renaming nextOf->XE,ownedTupleIsFree->XN
open PySem.Builtin renaming bitAnd->XO,bitNot->X8,bitOr->YT
open PySem.Obj renaming mapSeq->XX
open PySem.NameKind renaming free->X4
open PySem.Heap.SameBut renaming update->Yd
open PySem.Builtin.Slice renaming slicePlaces->Yi,sliceAdjust->Zi,sliceApplied->Z3
open PySem.Builtin.Tuple renaming tupleExact->Yk
open PySem.Value.type renaming inj->Yp
open False renaming elim->Yz
open Ne renaming symm->YB
open PySem.Calls renaming spliced_cons->YD,spliced_nil->Y0
open PySem.Builtin.List renaming listTooLong->YU,listExtendWith->ZW
open PySem.AutoSeq1 renaming wpAny_loadPart'->YV
open PySem.Around renaming under_plainId->YY
open PySem.Builtin.Dict_items renaming ownsTuple->Y2
open ForInStep renaming yield->Za
open Option renaming some->A?,none->B?
open Bool renaming true->C?,false->D?
theorem E?.{u}{α:Sort u}{a:α}:a=a:=rfl
variable{w:Xq}{m i t' j n ep:Nat}{h base h':XT}{α β κ:Type}{a f b c l it pl C sl d z tp l1 l2 i1 i2 nl al wl CT CW:Wx}{loose N ps:List W8}{as ch fp S:List Wx}{K:WJ}{P prog:Xa}{x qual name nm p1 p2:W8}{us its:List WA}{u vl vu:WA}{M:Model}{A:Xv}{E Q:WA->WH->Prop}{s' s:WH}{pos pos':ZD}{pins:List (Wx×Yw)}{op:CmpOp}{st:Stmt}{tg iter elt:XD}{body:List Stmt}{lo hi:Option Int}{ns Z:List Int}{kw:List (W8×WA)}{env:Env}{mg:W8->Option WA}{outer:List Env}{fd:Zg}{kindOf:W8->Option Y3}{sc scope:Zs}{params:Arguments}{items ys:Array WA}{XP:(W8->Option WA)->XT->Prop}{YP:Xq->XT->Prop}{B:Prop}{js:List (Option Nat)}{cl:List (W8×Wx)}{ifs elts:List XD}{W:List (Int×Int×Wx)}{cell:Int}{ins outs:List (W8×Int)}{ids:List Nat}{ar:W8->Nat}{vs:List (κ×WA)}
def a!:=@if_neg
def b!:=@if_pos
def c!:=@decide_eq_false
def d!:=@decide_eq_true
def e!:=@of_decide_eq_true
def g!:=@absurd
def h!:=@congrArg
set_option hygiene false
local macro_rules
|`(tactic|walk_at"a")=>`(tactic|(refine hid λZZ kZ=>?_))
|`(tactic|walk_at"aa")=>`(tactic|(intro X hP hw hK hc i Y s σ H E I hf st hg;subst hP hw hK))
|`(tactic|walk_at"ab")=>`(tactic|(show WZ _ _ (field (.ref z) 2 >>= _) _ _ _;refine Wu (XG hz rfl (x:=.bool D?) rfl ?_);show WZ _ _ (field (.ref z) 3 >>= _) _ _ _;refine Wu (XG hz rfl (x:=.ref TI) rfl ?_);refine Wu (Ye hTI rfl ?_);show WZ _ _ (XN (.ref z) >>= _) _ _ _))
|`(tactic|walk_at"ac")=>`(tactic|(show WZ _ _ (newExc (.type "StopIteration") [] >>= _) _ _ _;refine Wu ?_;simp only[newExc,newTuple];refine Wu (XC ?_ (by size_fits));refine Wu (m:=firstArgMember _ _) (wpAny_of_eq (a:=Yb) (by first|rfl|(simp only[firstArgMember];rfl)) ?_);refine XC ?_ (by size_fits);simp only[raiseNew];refine Wu (wpAny_handled ?_)))
set_option hygiene true
namespace HD
open PySem PySem.W PySem.Calls PyProof.Rows
def j9(tb:String->Option Zx)(p:Xa)(w:Xq)(m:Nat)(ann:Option WA):Nat->SharedT->Thread->Option SharedT
 |0,_,_=>B?
 | n+1,s,t=>match through t with
   |true=>A? s
   | false=>match stepOk m ann t with
     |false=>B?
     | true=>match stepT (denote tb) p w s t with
       |some (s',t')=>j9 tb p w m ann n s' t'
       |none=>B?
theorem lG{tb:String->Option Zx}{p:Xa}{ann:Option WA}:∀{n:Nat}{s s':SharedT}{t:Thread},j9 tb p w m ann n s t=A? s'->topRun tb p w m ann n s.abs t=A? s'.abs
 |0,_,_,_,h=>by cases h
 | n+1,s,s',t,h=>by
   unfold j9 at h;unfold topRun;cases he:through t with
   |true=>rw[he]at h;cases h;rfl
   | false =>
     rw[he]at h;cases hk:stepOk m ann t with
     |false=>rw[hk]at h;cases h
     | true =>
       rw[hk]at h;cases hs:stepT (denote tb) p w s t with
       |none=>rw[hs]at h;cases h
       | some r =>
         obtain⟨s2,t2⟩:=r;rw[hs]at h;rw[stepT_spec hs];exact lG h
def sJ:List Yw->Nat->BT->BT
 | [],_,t=>t
 |o::l,n,t=>sJ l (n+1) (t.ins n o)
def uP:List Yw->Nat->BT->Bool
 | [],_,_=>C?
 |o::l,n,t=>((t.ins n o).get n).isSome && uP l (n+1) (t.ins n o)
theorem mf:∀(l:List Yw)(n:Nat)(t:BT),uP l n t=C?->(sJ l n t).list (n+l.length)=t.list n++l
 | [],n,t,_=>by rw[Z9];rfl
 | o::l,n,t,h=>by
   obtain⟨h1,h2⟩:=Bool.and_eq_true_iff.mp h;have e:=absHeap_ins (life:=default) h1
   have e2:(t.ins n o).list (n+1)=t.list n++[o]:=by
    have:=h! (λx:XT=>x.objs.toList) e;simpa[absHeap,Heap.push]using this
   have ih:=mf l (n+1) (t.ins n o) h2;rw[e2,Zf]at ih;rw[WV,show n+(l.length+1)=n+1+l.length by lia];exact ih
theorem wq(ok:uP h.objs.toList 0 .nil=C?):absHeap (sJ h.objs.toList 0 .nil) h.objs.size h.life=h:=by
 have e:=mf _ _ _ ok;rw[Nat.zero_add]at e;unfold absHeap;rw[<-Xi,e];rfl
noncomputable abbrev lO(p:Xa)(N:Nat)(w:Xq)(os:OsState):Option SharedT :=
 j9 treeTable p w 11 (A? (.ref 6)) N {sJ (Zb w.params).objs.toList 0 .nil,11,(Zb w.params).life,Array.mk [],boot_drawn,boot_toks,os} (topStub p)
theorem uY(P:Params):(uP (Zb P).objs.toList 0 .nil,(Zb P).isNs Yg,(Zb P).objs.size,(Zb P).nsMap Yg "__annotations__")=(C?,C?,11,A? (.ref 6)):=by kernel_rfl
theorem map_some{o:Option α}{a:α}{f:α->β}{b:β}(h:o=A? a)(e:o.map f=A? b):f a=b:=by rw[h]at e;exact WN e
abbrev Tr0(p q:Xa)(loose:List W8)(Xt:WH->Bool)(N:Nat)(g0:Bool):Prop:=∀(w:Xq)(os:OsState),((lO p N w os).map λs=>(staticsOk (importedModules p.main.body) (Zb w.params) s.abs.heap && namesBound p s.abs.heap && gensDone s.abs && laidKept (Zb w.params) s.abs.heap,s.abs.heap.bltView,pinSeenD q (drecsOf q) s.abs,plainSeenD q loose s.abs,clsSeenW q loose s.abs,(s.abs.heap.accountedOkI (importedModules p.main.body),s.abs.heap.isNs Yg,s.abs.heap.isNs builtinsNs,tablesOk q s.abs.heap,Xt s.abs,(if g0 then s.abs.gens.size == 0 else !leftWithCleanup s.abs.gens))))=A? (C?,bltViewBooted,pinGoodD (drecsOf q),plainGoodD q loose,clsGoodW q loose,(C?,C?,C?,C?,C?,C?))
abbrev Tr1(p q:Xa)(N:Nat):Prop:=∀(w:Xq)(os:OsState),((lO p N w os).map λs=>seen ((recsOf q).map (·.name)) (ownsOf q) [] {s.abs with gens:=#[]})=A? (expectedOf q)
abbrev Tr2(p q:Xa)(loose:List W8)(N:Nat):Prop:=∀(w:Xq)(os:OsState),((lO p N w os).map λs=>s.abs.heap.keysOk (looseW q loose) ((recsOf q).map (·.name)) ((litsOf q).map (·.1)) ((clssOf q (looseW q loose)).map (·.name)))=A? C?
abbrev Tr3(p q:Xa)(N:Nat):Prop:=∀(w:Xq)(os:OsState),((lO p N w os).map λs=>tabsOk q s.abs)=A? C?
abbrev Tr4(p q:Xa)(loose:List W8)(N:Nat):Prop:=∀(w:Xq)(os:OsState),((lO p N w os).map λs=>plainSeenE q (looseW q loose) s.abs)=A? (plainGoodE q (looseW q loose))
abbrev Tr5(p q:Xa)(N:Nat):Prop:=∀(w:Xq)(os:OsState),((lO p N w os).map λs=>wideSeen q s.abs)=A? (wideGood q)
theorem sy{p q:Xa}{Xt:WH->Bool}{Yf:WH->α}{Ya:Xq->α}{N:Nat}{g0:Bool}
 (e:opening p=plainProg p.main.scope.names) (hN:Nat.ble 600 N=C?) (f:∀s,fenceModules? p s=A? s)
 (r0:Tr0 p q loose Xt N g0)
 (r1:Tr1 p q N)
 (r2:Tr2 p q loose N)
 (r3:Tr3 p q N)
 (r4:Tr4 p q loose N)
 (r5:Tr5 p q N)
 (rY:∀(w:Xq)(os:OsState),((lO p N w os).map λs=>Yf s.abs)=A? (Ya w)) :
 LeftO p q loose Xt Yf Ya N g0:=λw=>by
 obtain⟨⟨h,gs,d,k,os⟩,e1,e'⟩:=W4.mp (boot_open e hN f w);obtain⟨rfl,rfl,rfl,rfl⟩:h=Zb w.params/\gs=Array.mk []/\d=boot_drawn/\k=boot_toks:=by simpa using e'
 have KH:=uY w.params;have z0:=h! Prod.fst KH;have z1:=h! (λx=>x.2.1) KH;have z2:=h! (λx=>x.2.2.1) KH;have z3:=h! (λx=>x.2.2.2) KH;dsimp only at z0 z1 z2 z3;obtain⟨s1,FN,hY⟩:=W4.mp (rY w os);have q0:=map_some FN (r0 w os);have q1:=map_some FN (r1 w os);have q2:=map_some FN (r2 w os);have q3:=map_some FN (r3 w os);have q4:=map_some FN (r4 w os);have q5:=map_some FN (r5 w os);have rr:=lG FN
 have LY:SharedT.abs {sJ (Zb w.params).objs.toList 0 .nil,11,(Zb w.params).life,Array.mk [],boot_drawn,boot_toks,os}={Zb w.params,Array.mk [],boot_drawn,boot_toks,os}:=by
  unfold SharedT.abs;dsimp only;rw[<-z2,wq z0]
 rw[LY]at rr;have a0:=h! Prod.fst q0;have a1:=h! (λx=>x.2.1) q0;have a2:=h! (λx=>x.2.2.1) q0;have a3:=h! (λx=>x.2.2.2.1) q0;have a4:=h! (λx=>x.2.2.2.2.1) q0;have b0:=h! (λx=>x.2.2.2.2.2.1) q0;have b1:=h! (λx=>x.2.2.2.2.2.2.1) q0;have b2:=h! (λx=>x.2.2.2.2.2.2.2.1) q0;have b3:=h! (λx=>x.2.2.2.2.2.2.2.2.1) q0;have b4:=h! (λx=>x.2.2.2.2.2.2.2.2.2.1) q0;have b5:=h! (λx=>x.2.2.2.2.2.2.2.2.2.2) q0;dsimp only at a0 a1 a2 a3 a4 b0 b1 b2 b3 b4 b5
 have l2:openSeen q loose (importedModules p.main.body) Xt g0 s1.abs=openGood q loose:=by
  unfold openSeen openGood;rw[q1,a1,q2,b0,b1,b2,b3,b4,b5,q3,a2,q4,a3,q5,a4];rfl
 have t:topFrom treeTable p w N {Zb w.params,Array.mk [],boot_drawn,boot_toks,os}=A? s1.abs:=by
  unfold topFrom;dsimp only;rw[z1,z2,z3,rr];show(match staticsOk (importedModules p.main.body) (Zb w.params) s1.abs.heap && namesBound p s1.abs.heap && gensDone s1.abs && laidKept (Zb w.params) s1.abs.heap with|true=>_|false=>_)=_;rw[a0]
 unfold openEnds;rw[e1];show(topFrom treeTable p w N _).map _=_;rw[t];exact h! A? (Prod.ext l2 hY)
def p0:Params:={strHash:=λ_=>0,shareClass:=λ_=>0,mergeTok:=λt=>t,idOf:=λ_=>0,idOfShared:=λ_ _=>0,followText:=λ_=>D?,idOfImm:=λ_=>0}
structure Pc(p:Xa)(N:Nat)(as:List Wx)(vs:Xq->List (Option Yw)):Prop where
 out:∀(w:Xq)(os:OsState),((lO p N w os).map λs=>as.map s.abs.heap.get?)=A? (vs w)
theorem Pc.k{p:Xa}{N:Nat}{K:Params->Frag}{e:∀P,as=(K P).map (·.1)}(h:Pc p N as λw=>(K w.params).map λp=>A? p.2):∀(w:Xq)(os:OsState),((lO p N w os).map λs=>(kHook K as e).obs s.abs)=A? ((kHook K as e).val w):=h.out
def lg(K:Frag):List Wx:=K.filterMap λp=>match p.2 with
 | ⟨.type "code",_,.fields vs,_⟩=>(match(vs[11]?:Option WA)with
   |some (.ref P)=>A? P
   |_=>B?)
 |_=>B?
theorem p9{K:Frag}{P:Wx}(h:codeHdIn K c P=C?):P∈lg K:=by
 unfold codeHdIn at h;split at h
 .rename_i od vs sl e
  have hm:=mem_of_lookupK e;refine List.mem_filterMap.mpr {_,hm,?_};simp only[YK]at h;have h1:=h.1.1.1.1.1;show(match(vs[11]?:Option WA)with|some (.ref P)=>A? P|_=>B?)=A? P;split at h1
  .rename_i P' e2
   rw[e2];exact h! A? (beq_iff_eq.mp h1)
  .cases h1
 .cases h
theorem Pc.km{p:Xa}{N:Nat}{ts:List Wx}{K:Params->Frag}{e:∀P,as=(K P).map (·.1)}(h:Pc p N as λw=>(K w.params).map λp=>A? p.2)(t:Pc p N ts λ_=>ts.map λ_=>A? (tabObj #[])):∀(w:Xq)(os:OsState),((lO p N w os).map λs=>(kmHook K as e ts).obs s.abs)=A? ((kmHook K as e ts).val w):=λw os=>by
 obtain⟨s,e1,a1⟩:=W4.mp (h.out w os);have a2:=map_some e1 (t.out w os);rw[e1];exact h! A? (Prod.ext a1 a2)
end HD
section
open PySem PySem.W PyProof.Rows
def LAW.vw:Xa:=PySem.W.view PySem.Challenge.pw_boughbook_k47_whole_notes_are_closed [1,2,4,5,6,8,9,11,12,13,15,16,17,19,20,21,22,23,24,25,27,28,29,30,31,32,33,34,35,36,37,38,39,40,41,42,43,44,45,46,47,48,49,50,51]
def LAW.xt(s:WH):Bool:=xlAt LAW.vw [] s && recOk (RowW.records (OpenRow.toRowW (OpenLaw.row PySem.Challenge.rw_boughbook_k47_whole_notes_are_closed))) s
theorem LAW.ws:OpenLaw.wellSaid PySem.Challenge.rw_boughbook_k47_whole_notes_are_closed=true:=by kernel_rfl
theorem LAW.lk0:HD.Tr0 PySem.Challenge.pw_boughbook_k47_whole_notes_are_closed LAW.vw [] LAW.xt 90000 true:=λ_ _=>by kernel_rfl
theorem LAW.lk1:HD.Tr1 PySem.Challenge.pw_boughbook_k47_whole_notes_are_closed LAW.vw 90000:=λ_ _=>by kernel_rfl
theorem LAW.lk2:HD.Tr2 PySem.Challenge.pw_boughbook_k47_whole_notes_are_closed LAW.vw [] 90000:=λ_ _=>by kernel_rfl
theorem LAW.lk3:HD.Tr3 PySem.Challenge.pw_boughbook_k47_whole_notes_are_closed LAW.vw 90000:=λ_ _=>by kernel_rfl
theorem LAW.lk4:HD.Tr4 PySem.Challenge.pw_boughbook_k47_whole_notes_are_closed LAW.vw [] 90000:=λ_ _=>by kernel_rfl
theorem LAW.lk5:HD.Tr5 PySem.Challenge.pw_boughbook_k47_whole_notes_are_closed LAW.vw 90000:=λ_ _=>by kernel_rfl
section
local macro_rules | `(tactic| o_head $_H) => `(tactic| assumption)
theorem LAW.d0(h:OpenRow.Holds (OpenLaw.row PySem.Challenge.rw_boughbook_k47_whole_notes_are_closed)):OpenRow.Holds (OpenLaw.row PySem.Challenge.rw_boughbook_k47_whole_notes_are_closed):=by
 k_head
end
noncomputable def LAW.ks:List Wx:=(LAW.d0.heap_1 HD.p0).map (·.1)
theorem LAW.ke:∀P,LAW.ks=(LAW.d0.heap_1 P).map (·.1):=λ_=>by kernel_rfl
theorem LAW.kp:HD.Pc PySem.Challenge.pw_boughbook_k47_whole_notes_are_closed 90000 LAW.ks λw=>(LAW.d0.heap_1 w.params).map λp=>A? p.2:={λ_ _=>by kernel_rfl}
noncomputable def LAW.ts:List Wx:=HD.lg (LAW.d0.heap_1 HD.p0)
theorem LAW.te:∀P,LAW.ts=HD.lg (LAW.d0.heap_1 P):=λ_=>by kernel_rfl
theorem LAW.kt:HD.Pc PySem.Challenge.pw_boughbook_k47_whole_notes_are_closed 90000 LAW.ts λ_=>LAW.ts.map λ_=>A? (tabObj #[]):={λ_ _=>by kernel_rfl}
end
namespace L2
open PySem PySem.Spec PyProof.Rows
theorem gmE{f:α->β}{l:List α}{x:α}(h:l[i]?=A? x):(l.map f)[i]?=A? (f x):=by rw[Wz,h];rfl
theorem glE{l:List α}{x:α}(h:l[i]?=A? x):i<l.length:=(YI.mp h).1
abbrev Key:=Sum Int W8
def mD:Key->WA->Bool
 |.inl k,v=>Value.isInt k v
 |.inr x,v=>Value.isStrOf x v
def yD(w:Xq):Key->Int
 |.inl k=>hashInt k
 |.inr x=>hashStr w x
theorem bV:∀{k:Key}{v:WA},mD k v=C?->(∃i t,k=Xh i/\v=Value.int i t)\/(∃x t,k=Sum.inr x/\v=Value.str x t)
 | .inl i,v,h=>by
   obtain⟨t,e⟩:=Value.isInt_shape (k:=i) (v:=v) h;exact .inl ⟨i,t,rfl,e⟩
 | .inr x,v,h=>by
   obtain⟨t,e⟩:=Value.isStrOf_shape (x:=x) (v:=v) h;exact .inr ⟨x,t,rfl,e⟩
theorem rq(i:Int)(t:Tok):mD (.inl i) (.int i t)=true:=by simp[mD,Value.isInt]
theorem rX(x:W8)(t:Tok):mD (.inr x) (.str x t)=true:=by simp[mD,Value.isStrOf]
theorem wT(a b:Int):decide ((Xh a:Key)=Xh b)=(a == b):=by
 by_cases e:a=b
 .subst e;simp
 .have h:¬(Xh a:Key)=Xh b:=λq=>e (Sum.inl.inj q);rw[c! h];exact(beq_eq_false_iff_ne.mpr e).symm
theorem xj(a b:W8):decide ((Sum.inr a:Key)=Sum.inr b)=decide (a=b):=by
 by_cases e:a=b
 .subst e;simp
 .have h:¬(Sum.inr a:Key)=Sum.inr b:=λq=>e (Sum.inr.inj q);rw[c! h,c! e]
theorem wH(a:Int)(b:W8):decide ((Xh a:Key)=Sum.inr b)=false:=c! (λq=>nomatch q)
theorem wt(a:W8)(b:Int):decide ((Sum.inr a:Key)=Xh b)=false:=c! (λq=>nomatch q)
def bD(prog:Xa)(w:Xq):PySem.KeyKind prog w Key where
 is:=mD
 hash:=yD w
 inj:=λv a b ha hb=>by
  rcases bV ha with⟨i,t,rfl,rfl⟩|⟨x,t,rfl,rfl⟩
  .rcases bV hb with⟨j,u,rfl,e⟩|⟨y,u,rfl,e⟩
   .injection e with e1 _;rw[e1]
   .exact nomatch e
  .rcases bV hb with⟨j,u,rfl,e⟩|⟨y,u,rfl,e⟩
   .exact nomatch e
   .injection e with e1 _;rw[e1]
 byValue:=λk v h=>by
  rcases bV h with⟨i,t,rfl,rfl⟩|⟨x,t,rfl,rfl⟩ <;> rfl
 pyHash:=λhv h=>by
  rcases bV hv with⟨i,t,rfl,rfl⟩|⟨x,t,rfl,rfl⟩
  .exact wpAny_pyHash_int h
  .exact wpAny_pyHash_str h
 eqBool:=λhu hv h=>by
  rcases bV hu with⟨i,t,rfl,rfl⟩|⟨x,t,rfl,rfl⟩
  .rcases bV hv with⟨j,u,rfl,rfl⟩|⟨y,u,rfl,rfl⟩
   .rw[wT]at h;exact wpAny_eqBool_int h
   .rw[wH]at h;exact SeqAt.EqAt.int_str i t y u _ _ _ _ h
  .rcases bV hv with⟨j,u,rfl,rfl⟩|⟨y,u,rfl,rfl⟩
   .rw[wt]at h;exact SeqAt.EqAt.str_int x t j u _ _ _ _ h
   .rw[xj]at h;exact wpAny_eqBool_str h
 «strs»:=λk x t v h=>by
  rcases bV h with⟨i,u,rfl,e⟩|⟨y,u,rfl,e⟩
  .exact nomatch e
  .injection e with e1 _;subst e1;cases v <;> rfl
theorem o9(prog:Xa)(w:Xq)(i:Int)(t:Tok):(bD prog w).is (.inl i) (.int i t)=true:=rq i t
theorem oE(prog:Xa)(w:Xq)(x:W8)(t:Tok):(bD prog w).is (.inr x) (.str x t)=true:=rX x t
set_option genInjectivity true in
inductive V where
 |non|bl (b:Bool)|int (i:Int)|str (x:W8)|byt (b:Array UInt8)|flt (b:UInt64)|ref (a:Wx)|ty (n:String)
 deriving DecidableEq
def RelV:V->WA->Prop
 |.non,u=>u=Yb
 |.bl b,u=>u=Value.bool b
 |.int i,u=>∃t,u=Value.int i t
 |.str x,u=>∃t,u=Value.str x t
 |.byt b,u=>∃t,u=Value.bytes b t
 |.flt b,u=>∃t,u=Value.float b t
 |.ref a,u=>u=Xs a
 |.ty n,u=>u=ZM n
abbrev Vals:List V->List WA->Prop:=Xb RelV
theorem Vals.length{xs:List V}(r:Vals xs us):xs.length=us.length:=WS r
theorem Vals.get:∀{xs:List V}{us:List WA}{i:Nat}{x:V},Vals xs us->xs[i]?=A? x->∃u,us[i]?=A? u/\RelV x u
 |_,_,_,_,.nil,e=>by simp at e
 |_,_,0,_,.cons r _,e=>by simp at e;subst e;exact{_,E?,r}
 | _,_,i+1,x,.cons _ t,e=>by
   obtain⟨u,h1,h2⟩:=Vals.get (i:=i) (x:=x) t (by simpa using e);exact{u,by simpa using h1,h2}
theorem Vals.set{x:V}(r:RelV x u):∀{xs:List V}{us:List WA}(i:Nat),Vals xs us->Vals (xs.set i x) (us.set i u)
 |_,_,_,.nil=>.nil
 |_,_,0,.cons _ t=>.cons r t
 |_,_,i+1,.cons q t=>.cons q (Vals.set r i t)
theorem Vals.append:∀{xs ys:List V}{us ws:List WA},Vals xs us->Vals ys ws->Vals (xs++ys) (us++ws)
 |_,_,_,_,.nil,s=>s
 |_,_,_,_,.cons r t,s=>.cons r (Vals.append t s)
theorem Vals.take:∀{xs:List V}{us:List WA}(n:Nat),Vals xs us->Vals (xs.take n) (us.take n)
 |_,_,0,_=>.nil
 |_,_,_+1,.nil=>.nil
 |_,_,n+1,.cons r t=>.cons r (Vals.take n t)
theorem Vals.drop:∀{xs:List V}{us:List WA}(n:Nat),Vals xs us->Vals (xs.drop n) (us.drop n)
 |_,_,0,r=>r
 |_,_,_+1,.nil=>.nil
 |_,_,n+1,.cons _ t=>Vals.drop n t
def RelO:Option V->Option WA->Prop
 |some v,A? u=>RelV v u
 |none,B?=>True
 |_,_=>False
def KV{κ:Type}:List (κ×V)->List (κ×WA)->Prop:=Xb λ(p:κ×V)(q:κ×WA)=>p.1=q.1/\RelV p.2 q.2
def kV:Key->V
 |.inl i=>.int i
 |.inr x=>.str x
set_option genSizeOf true in
inductive HO where
 |lst (xs:List V)
 |tup (xs:List V)
 |dK (kvs:List (Key×V))|dT (kvs:List (List Key×V))
 |set (S:Int->Bool) (n:Nat)
 |ins (C dx:Wx) (fs:List (W8×V))
 |own (x:Wx)
 |xd (fs:List (W8×V))
 |met (f x:Wx)
 |rng (lo hi:Int)
 |frz (o:Yw) (u:HO)
 |tbl (ps:Array WA)
 |ext (φ:XT->Prop)
abbrev Hp:=Wx->Option HO
def upd(H:Hp)(a:Wx)(o:HO):Hp:=λb=>if b=a then A? o else H b
theorem af{H:Hp}{o:HO}:upd H a o a=A? o:=by unfold upd;rw[b! rfl]
theorem aj{H:Hp}{o:HO}(h:b≠a):upd H a o b=H b:=by unfold upd;rw[a! h]
theorem uD{H:Hp}{o u:HO}:upd (upd H a o) a u=upd H a u:=by
 funext b;unfold upd;split <;> rfl
theorem aF{H:Hp}{o u:HO}(h:H a=A? o)(h':H b=A? u)(d:o≠u):a≠b:=by
 intro e;subst e;rw[h]at h';exact d (WN h')
theorem aq{H:Hp}{o:HO}(h:H a=A? o)(h':H b=B?):a≠b:=by
 intro e;subst e;rw[h]at h';cases h'
section
variable(P:Xa)(w:Xq)
def ObjOk(H:Hp)(h:XT)(a:Wx):HO->Prop
 |.lst xs=>xs.length<=W5/\∃(its:List WA)(n:Nat),Vals xs its/\h.get? a=A? {cls:=.type "list",data:=.seq its.toArray n}
 |.tup xs=>xs.length<=W5/\∃(its:List WA)(n:Nat),Vals xs its/\h.get? a=A? {cls:=.type "tuple",data:=.seq its.toArray n}
 |.dK kvs=>kvs.length<=W5/\(a == Yo)=D?/\∃vs,KV kvs vs/\h.DictOf (bD P w) a vs
 |.dT kvs=>kvs.length<=W5/\(a == Yo)=D?/\∃xs:List (List Key×Wx×WA),
  Xb (λ(p:List Key×V)(q:List Key×Wx×WA)=>p.1=q.1/\H q.2.1=A? (.tup (p.1.map kV))/\RelV p.2 q.2.2) kvs xs /\
  ∃o es ep,h.get? a=A? o/\o.ExactDict/\o.data=.dict es ep/\es.toList=xs.map (entryOfKey (tupleKind (bD P w)))/\(xs.map (·.1)).Nodup
 |.set S n=>h.SetOf (intKind P w) a S n
 |.ins C dx fs=>H dx=A? (.own a)/\fs.length<=1000/\dx≠a/\h.get? a=A? (Y9 C dx) /\
  ∃mA,h.Ns1 dx mA/\(∀f,RelO (fs.lookup f) (mA f))/\PySem.Within mA (fs.map (·.1))
 |.own _=>∃o,h.get? a=A? o
 |.xd fs=>∃mA,h.Ns1 a mA/\∀f,RelO (fs.lookup f) (mA f)
 |.rng lo hi=>∃t u v,h.get? a=A? {cls:=.type "range",data:=.fields #[.int lo t,.int hi u,.int 1 v]}
 |.frz o u=>h.get? a=A? o/\ObjOk H h a u
 |.tbl ps=>h.get? a=A? {cls:=.none,data:=.fields ps}
 |.met f x=>h.get? a=A? (PySem.W.methodObj (.ref f) (.ref x))
 |.ext φ=>φ h/\(∃o,h.get? a=A? o)/\∀h1 h2:XT,φ h1->(∀o,h1.get? a=A? o->h2.get? a=A? o)->φ h2
def HOk(H:Hp)(h:XT):Prop:=∀a o,H a=A? o->ObjOk P w H h a o
end
section
variable{H H':Hp}{o:HO}
theorem ObjOk.lt(x:ObjOk P w H h a o):a<h.objs.size:=by
 cases o with
 |lst xs=>obtain⟨_,_,_,_,e⟩:=x;exact W6 e
 |tup xs=>obtain⟨_,_,_,_,e⟩:=x;exact W6 e
 |dK kvs=>obtain⟨_,_,_,_,o,_,_,e,_⟩:=x;exact W6 e
 |dT kvs=>obtain⟨_,_,_,_,o,_,_,e,_⟩:=x;exact W6 e
 |set S n=>obtain⟨o,_,_,_,e,_⟩:=x;exact W6 e
 |ins C dx fs=>obtain⟨_,_,_,e,_⟩:=x;exact W6 e
 |own y=>obtain⟨_,e⟩:=x;exact W6 e
 |xd fs=>obtain⟨_,⟨_,_,_,e,_⟩,_⟩:=x;exact W6 e
 |rng lo hi=>obtain⟨_,_,_,e⟩:=x;exact W6 e
 |frz ob u=>obtain⟨e,_⟩:=x;exact W6 e
 |tbl ps=>exact W6 (show h.get? a=A? _ from x)
 |met f y=>exact W6 (show h.get? a=A? _ from x)
 |ext φ=>obtain⟨_,⟨_,e⟩,_⟩:=x;exact W6 e
theorem Xb.mapP{F G:α->β->Prop}:∀{HP:List α}{l₂:List β},Xb F HP l₂->(∀a b,F a b->G a b)->Xb G HP l₂
 |_,_,.nil,_=>.nil
 |_,_,.cons r t,f=>.cons (f _ _ r) (Xb.mapP t f)
theorem ObjOk.stay(x:ObjOk P w H h a o)(k:∀b u,(b=a\/H b=A? (.own a))->h.get? b=A? u->h'.get? b=A? u)
 (ho:∀b,H b=A? (.own a)->H' b=A? (.own a)) (ht:∀b xs,H b=A? (.tup xs)->H' b=A? (.tup xs)):ObjOk P w H' h' a o:=by
 induction o with
 |lst xs=>obtain⟨z,its,n,r,e⟩:=x;exact{z,its,n,r,k _ _ (.inl rfl) e}
 |tup xs=>obtain⟨z,its,n,r,e⟩:=x;exact{z,its,n,r,k _ _ (.inl rfl) e}
 |dK kvs=>obtain⟨z,y,vs,r,ob,es,ep,e,c⟩:=x;exact{z,y,vs,r,ob,es,ep,k _ _ (.inl rfl) e,c}
 | dT kvs =>
   obtain⟨z,y,xs,r,ob,es,ep,e,c⟩:=x;exact{z,y,xs,Xb.mapP r λp q z=>{z.1,ht _ _ z.2.1,z.2.2},ob,es,ep,k _ _ (.inl rfl) e,c}
 |set S n=>obtain⟨ob,es,ep,t,e,c⟩:=x;exact{ob,es,ep,t,k _ _ (.inl rfl) e,c}
 | ins C dx fs =>
   obtain⟨d,z,ne,e,mA,⟨od,es,ep,e2,c⟩,r⟩:=x;exact{ho _ d,z,ne,k _ _ (.inl rfl) e,mA,{od,es,ep,k _ _ (.inr d) e2,c},r}
 |own y=>obtain⟨ob,e⟩:=x;exact{ob,k _ _ (.inl rfl) e}
 |xd fs=>obtain⟨mA,⟨od,es,ep,e,c⟩,r⟩:=x;exact{mA,{od,es,ep,k _ _ (.inl rfl) e,c},r}
 |rng lo hi=>obtain⟨t,u,v,e⟩:=x;exact{t,u,v,k _ _ (.inl rfl) e}
 |frz ob u ih=>obtain⟨e,q⟩:=x;exact{k _ _ (.inl rfl) e,ih q}
 | tbl ps =>
   have e:h.get? a=A? {cls:=.none,data:=.fields ps}:=x;show h'.get? a=A? {cls:=.none,data:=.fields ps};exact k a _ (.inl rfl) e
 | met f y =>
   have e:h.get? a=A? (PySem.W.methodObj (.ref f) (.ref y)):=x;show h'.get? a=A? (PySem.W.methodObj (.ref f) (.ref y));exact k a _ (.inl rfl) e
 |ext φ=>obtain⟨p,⟨o,e⟩,st⟩:=x;exact{st _ _ p λo q=>k _ _ (.inl rfl) q,{o,k _ _ (.inl rfl) e},st}
theorem HOk.lt(x:HOk P w H h)(e:H a=A? o):a<h.objs.size:=(x a o e).lt
theorem HOk.fresh(x:HOk P w H h)(e:h.objs.size<=a):H a=none:=by
 cases q:H a with
 |none=>rfl
 |some u=>exact g! (Xz (x.lt q) e) (X1 _)
theorem HOk.kept(x:HOk P w H h)(k:∀b u,h.get? b=A? u->h'.get? b=A? u):HOk P w H h':=λa o e =>
 (x a o e).stay (λb u _ q=>k b u q) (λ_ q=>q) λ_ _ q=>q
theorem HOk.laid(x:HOk P w H h)(k:∀b u,h.get? b=A? u->h'.get? b=A? u)(hp:h.objs.size<=a)(new:ObjOk P w (upd H a o) h' a o):HOk P w (upd H a o) h':=λb u e=>by
 have hn:=x.fresh hp;by_cases hb:b=a
 .subst hb;rw[af]at e;cases e;exact new
 .rw[aj hb]at e;exact(x b u e).stay (λc v _ q=>k c v q) (λc q=>by rw[aj (aq q hn)];exact q) λc xs q=>by rw[aj (aq q hn)];exact q
end
def Rd(H:Hp)(a:Wx)(u:HO):Prop:=H a=A? u\/∃o,H a=A? (.frz o u)
theorem Rd.ok{H:Hp}{u:HO}(r:Rd H a u)(x:HOk P w H h):ObjOk P w H h a u:=by
 rcases r with r|⟨o,r⟩
 .exact x a u r
 .obtain⟨_,q⟩:=x a _ r;exact q
def Mut:Option HO->Prop
 |some (.lst _)=>True
 |some (.dK _)=>True
 |some (.dT _)=>True
 |some (.set _ _)=>True
 |some (.ins _ _ _)=>True
 |some (.ext _)=>True
 |_=>False
section
variable{H:Hp}{x e:Wx}{o':HO}
theorem HOk.write(ok:HOk P w H h)(mu:Mut (H x))(he:e=x\/H e=A? (.own x))(k:∀b u,b≠e->h.get? b=A? u->h'.get? b=A? u)(GU:∃u,h'.get? e=A? u)
 (new:ObjOk P w (upd H x o') h' x o'):HOk P w (upd H x o') h':=λb u q=>by
 have HQ:∀c y,H c=A? (.own y)->c≠x:=λc y r z=>by subst z;rw[r]at mu;exact mu
 have LZ:∀c xs,H c=A? (.tup xs)->c≠x:=λc xs r z=>by subst z;rw[r]at mu;exact mu
 by_cases hb:b=x
 .subst hb;rw[af]at q;cases q;exact new
 .rw[aj hb]at q;by_cases CO:b=e
  .have q':H b=A? (.own x):=by
    rcases he with z|z
    .exact g! (CO.trans z) hb
    .rw[CO];exact z
   rw[q]at q';cases q';obtain⟨v,hv⟩:=GU;exact{v,by rw[CO];exact hv}
  .refine(ok b u q).stay (λc v hc r=>k c v ?_ r) (λc r=>by rw[aj (HQ c b r)];exact r) λc xs r=>by rw[aj (LZ c xs r)];exact r
   rcases hc with rfl|hc
   .exact CO
   .rintro rfl;rcases he with z|z
    .exact HQ c b hc z
    .rw[hc]at z;cases z;exact hb rfl
end
structure Un(fs ex:List Wx)(H H':Hp)(h h':XT):Prop where
 keep:∀b o,h.get? b=A? o->H b=B?->b∉fs->b∉ex->h'.get? b=A? o
 slot:∀b o,h.get? b=A? o->H b=B?->b∈fs->b∉ex->∃sl,h'.get? b=A? {o with slots:=sl}
 free:∀b o,h.get? b=A? o->H b=B?->b∉ex->H' b=B?
 there:∀b o,h.get? b=A? o->b∉ex->∃o',h'.get? b=A? o'
 tups:∀b xs,H b=A? (.tup xs)->H' b=A? (.tup xs)
 frzs:∀b o u,H b=A? (.frz o u)->H' b=A? (.frz o u)
 tbls:∀b ps,H b=A? (.tbl ps)->∃more,H' b=A? (.tbl (ps++more))
section
variable{fs Rr ex VA:List Wx}{H H1 H2:Hp}{h1 h2:XT}{x e:Wx}{o:HO}
theorem Un.any(u:Un fs ex H H1 h h1){ob:Yw}(q:h.get? b=A? ob)(n:H b=B?)(hx:b∉ex):∃sl,h1.get? b=A? {ob with slots:=sl}:=by
 by_cases hb:b∈fs
 .exact u.slot b ob q n hb hx
 .exact{ob.slots,u.keep b ob q n hb hx}
theorem Un.kept(k:∀b u,h.get? b=A? u->h'.get? b=A? u):Un fs ex H H h h' :=
 {λb ob q _ _ _=>k b ob q,λb ob q _ _ _=>{ob.slots,k b ob q},λ_ _ _ n _=>n,λb ob q _=>{ob,k b ob q},λ_ _ q=>q,λ_ _ _ q=>q,λ_ ps q=>{#[],by rw[q];simp}}
theorem Un.refl:Un fs ex H H h h:=Un.kept λ_ _ q=>q
theorem Un.laid(k:∀b u,h.get? b=A? u->h'.get? b=A? u)(hp:h.objs.size<=a)(hn:H a=B?):Un fs ex H (upd H a o) h h' where
 keep:=λb u q _ _ _=>k b u q
 slot:=λb u q _ _ _=>{u.slots,k b u q}
 free:=λb u q n _=>by rw[aj (Xn (Xz (W6 q) hp))];exact n
 there:=λb u q _=>{u,k b u q}
 tups:=λb xs q=>by rw[aj (aq q hn)];exact q
 frzs:=λb u xs q=>by rw[aj (aq q hn)];exact q
 tbls:=λb ps q=>{#[],by rw[aj (aq q hn),q];simp}
theorem Un.write(mu:Mut (H x))(he:e=x\/H e=A? (.own x))(k:∀b u,b≠e->h.get? b=A? u->h'.get? b=A? u)(GU:∃u,h'.get? e=A? u):Un fs ex H (upd H x o) h h':=by
 have hx:∀b,H b=B?->b≠x:=λb n z=>by subst z;rw[n]at mu;exact mu
 have hb:∀b,H b=B?->b≠e:=λb n z=>by
  subst z;rcases he with r|r
  .exact hx b n r
  .rw[n]at r;cases r
 have hm:∀b u,H b=A? u->¬Mut (A? u)->b≠x:=λb u q nm z=>by subst z;rw[q]at mu;exact nm mu
 refine{λb u q n _ _=>k b u (hb b n) q,λb u q n _ _=>{u.slots,k b u (hb b n) q},λb u q n _=>by rw[aj (hx b n)];exact n,λb u q _=>?_,
  λb xs q=>by rw[aj (hm b _ q λz=>z)];exact q,λb u xs q=>by rw[aj (hm b _ q λz=>z)];exact q,λb ps q=>{#[],by rw[aj (hm b _ q λz=>z),q];simp}}
 by_cases CO:b=e
 .subst CO;exact GU
 .exact{u,k b u CO q}
end
def trk(h:XT)(H:Hp):List Wx:=(Yu h.objs.size).filter λa=>(H a).isSome
def lM(h:XT)(H:Hp):XT:=PySem.W.hideAll h (trk h H)
theorem sw(h:XT)(H:Hp):(lM h H).objs.size=h.objs.size:=PySem.W.hideAll_size _ _
theorem sT{H:Hp}{o:Yw}(e:h.get? b=A? o)(n:H b=B?):(lM h H).get? b=A? o :=
 PySem.W.hideAll_get _ e λhm=>by
  have q:(H b).isSome=true:=(Yx.mp hm).2;rw[n]at q;simp at q
theorem vj{H:Hp}{o:Yw}(e:(lM h H).get? b=A? o):h.get? b=A? o/\H b=none:=by
 have e':h.get? b=A? o:=PySem.W.of_hideAll (trk h H) e;refine{e',?_};cases q:H b with
 |none=>rfl
 | some x =>
   have hm:b∈trk h H:=Yx.mpr {List.mem_range.mpr (W6 e'),by simp[q]};have z:(lM h H).get? b=none:=PySem.W.hideAll_none (trk h H) hm;rw[z]at e;cases e
end L2
open L2.V renaming ref->j!,int->o!,str->B!
variable{o:L2.HO}{xs:List L2.V}{H H' H1 H2 H8 H7:L2.Hp}{v y:L2.V}{kvs:List (List L2.Key×L2.V)}{fin:Wx->L2.Hp->Prop}
namespace L2
open PySem PySem.Spec PyProof.Rows
structure Mod(K:WJ)(mg:W8->Option WA)(base:XT):Prop where
 kin:K.In base
 glob:base.Ns Yg mg
 blt:∃mb,base.Ns builtinsNs mb/\∀x:W8,x≠"__name__"->mb x=bootBuiltins x
 nolimit:base.NoLimit
set_option genInjectivity true in
structure Cx where
 prog:Xa
 w:Xq
 K:WJ
 mg:W8->Option WA
 base:XT
 A:Xv
 N:List W8
 s₀:WH
 H₀:Hp
 env:Env
 outer:List Env
 stack:List Env
 ex:List Wx
 fn:W8->Bool
 calm:Bool
 pn:List (Wx×Yw)
 xe:WA->WH->Prop
def frs(l:List Env):List Wx:=l.filterMap (·.frame)
abbrev Cx.fs(X:Cx):List Wx:=frs X.outer
def Vis(sc:Zs)(x:W8):Prop:=sc.names.lookup x=A? .local\/sc.names.lookup x=A? .cell\/sc.names.lookup x=A? .free
def Loc(sc:Zs)(x:W8):Prop:=sc.names.lookup x=A? .local\/sc.names.lookup x=A? .cell
def Look(env:Env)(h:XT)(m:W8->Option WA)(x:W8)(u:WA):Prop :=
 (env.kindOf x=A? .local/\m x=A? u)\/((env.kindOf x=A? .cell\/env.kindOf x=A? .free)/\∃c,env.cells.lookup x=A? c/\h.IsCell c (A? u))
structure Cx.Ok(X:Cx):Prop where
 mod:Mod X.K X.mg X.base
 kind:X.env.scope.kind=.function
 glob:X.env.globals=Yg
 blt:X.env.builtins=builtinsNs
 above:X.s₀.heap.1.size<=X.env.locals
 inj:∀x y c,X.env.cells.lookup x=A? c->X.env.cells.lookup y=A? c->x=y
 has:∀x,(X.env.kindOf x=A? .cell\/X.env.kindOf x=A? .free)->∃c,X.env.cells.lookup x=A? c
 cab:∀x c,X.fn x=C?->X.env.cells.lookup x=A? c->X.s₀.heap.1.size<=c
 hd:X.calm=C?->X.A.handled=B?
 frames:X.A.frames=A? X.stack
 stk:X.stack=X.outer\/(X.stack=X.env::X.outer/\X.env.frame=A? X.env.locals)
 exf:∀b∈X.ex,b≠X.env.locals/\∀x c,X.env.cells.lookup x=A? c->c≠b
 bs:∀b o,X.base.get? b=A? o->X.s₀.heap.get? b=A? o/\X.H₀ b=B?
 bsz:X.base.objs.size<=X.s₀.heap.1.size
 noex:∀b o,X.base.get? b=A? o->b∉X.ex
 exfs:∀b∈X.ex,b∉X.fs
 funs:X.s₀.heap.FunFrames X.base X.outer
 frf:∀b∈X.fs,X.H₀ b=B?
structure Inv(X:Cx)(Y:List (Wx×Yw))(σ:List (Option V))(H:Hp)(s:WH):Prop where
 ok:X.Ok
 os:s.os=X.s₀.os
 bare:AllBare s.gens
 base:Un X.fs X.ex X.H₀ H X.s₀.heap s.1
 loc:∃m,s.1.Ns X.env.locals m/\∀(i:Nat)(x:W8)(v:V),X.N[i]?=A? x->σ[i]?=A? (A? v)->Vis X.env.scope x->∃u,RelV v u/\Look X.env s.1 m x u
 cell:∀x c,X.env.cells.lookup x=A? c->∃v,s.1.IsCell c v
 free:H X.env.locals=B?
 freeC:∀x c,X.env.cells.lookup x=A? c->H c=B?
 pin:∀p∈X.pn++Y,s.1.get? p.1=A? p.2/\H p.1=B?/\p.1≠X.env.locals/\p.1∉X.fs/\∀v,p.2.data≠.cell v
 hok:HOk X.prog X.w H s.1
 len:σ.length=X.N.length
section
variable{X:Cx}{σ:List (Option V)}
theorem Cx.Ok.nofr(ok:X.Ok){o:Yw}(e:X.base.get? b=A? o):b∉X.fs:=λhb=>by
 have:=(ok.funs.mem hb).1;rw[e]at this;cases this
theorem Inv.bs(I:Inv X Y σ H s):∀b o,X.base.get? b=A? o->s.1.get? b=A? o/\H b=none:=λb o e =>
 {I.base.keep b o (I.ok.bs b o e).1 (I.ok.bs b o e).2 (I.ok.nofr e) (I.ok.noex b o e),I.base.free b o (I.ok.bs b o e).1 (I.ok.bs b o e).2 (I.ok.noex b o e)}
theorem Inv.bk(I:Inv X Y σ H s):∀b o,X.base.get? b=A? o->s.1.get? b=A? o:=λb o e=>(I.bs b o e).1
theorem Inv.mod(I:Inv X Y σ H s):Mod X.K X.mg X.base:=I.ok.mod
theorem Inv.kIn(I:Inv X Y σ H s):X.K.In s.1:=I.ok.mod.kin.keeps I.bk
theorem Inv.lt(I:Inv X Y σ H s):X.env.locals<s.1.1.size:=let⟨_,hn,_⟩:=I.loc;hn.lt
theorem Inv.sz(I:Inv X Y σ H s):X.s₀.heap.1.size<=s.1.1.size:=XB I.ok.above (Yj I.lt)
theorem Inv.nofs(I:Inv X Y σ H s)(h:s.1.1.size<=a):a∉X.fs:=λhb=>by
 obtain⟨_,o,ho,_⟩:=I.ok.funs.mem hb;exact g! (Xz (W6 ho) (XB I.sz h)) (X1 _)
theorem Inv.cne(I:Inv X Y σ H s):∀x c,X.env.cells.lookup x=A? c->c≠X.env.locals:=λx c e z=>by
 obtain⟨v,o,ho,hd⟩:=I.cell x c e;obtain⟨m,⟨o',es,ep,Bt,HR,_⟩,_⟩:=I.loc;rw[z,Bt]at ho;cases ho;rw[HR]at hd;cases hd
theorem Inv.funs(I:Inv X Y σ H s):s.1.FunFrames X.base X.outer:=by
 have all:∀(l:List Env),(∀b∈frs l,b∈X.fs)->X.s₀.heap.FunFrames X.base l->s.1.FunFrames X.base l:=by
  intro l;induction l with
  |nil=>intro _ _;trivial
  | cons env r ih =>
    intro hs hl;obtain⟨hk,⟨L,o,hf,hn,ho,hd⟩,hr⟩:=hl;have hL:L∈X.fs:=hs L (by unfold frs;rw[Zk,hf];exact WM);obtain⟨sl,e⟩:=I.base.slot L o ho (I.ok.frf L hL) hL λz=>I.ok.exfs L z hL;exact{hk,{L,_,hf,hn,e,hd},ih (λb hb=>hs b (by unfold frs;rw[Zk,hf];exact WR _ hb)) hr}
 exact all X.outer (λ_ hb=>hb) I.ok.funs
theorem Inv.stack(I:Inv X Y σ H s):s.1.FunFrames X.base X.stack:=by
 rcases I.ok.stk with e|⟨e,hf⟩
 .rw[e];exact I.funs
 .rw[e];obtain⟨m,hn,_⟩:=I.loc;refine .cons (by rw[I.ok.kind];decide) hf hn ?_ I.funs;exact Heap.get?_none_of_le (XB I.ok.bsz I.ok.above)
theorem Inv.stkSub(I:Inv X Y σ H s):∀b∈frs X.stack,b∈X.env.locals::X.fs:=λb hb=>by
 rcases I.ok.stk with e|⟨e,hf⟩
 .rw[e]at hb;exact WR _ hb
 .rw[e]at hb;unfold frs at hb;rw[Zk,hf]at hb;exact hb
theorem Inv.stkFree(I:Inv X Y σ H s):∀b∈frs X.stack,H b=none:=λb hb=>by
 rcases WW.mp (I.stkSub b hb)with e|hb
 .rw[e];exact I.free
 .obtain⟨_,o,ho,_⟩:=I.ok.funs.mem hb;exact I.base.free b o ho (I.ok.frf b hb) λz=>I.ok.exfs b z hb
theorem Inv.step{g':Array GenState}{d':Drawn}(I:Inv X Y σ H s)
 (Ec:∀b∈ch,(b∈X.ex\/X.s₀.heap.1.size<=b)/\b≠X.env.locals/\(∀x c,X.env.cells.lookup x=A? c->c≠b)/\∀p∈X.pn++Y,p.1≠b)
 (keep:∀b o,b≠X.env.locals->b∉X.fs->b∉ch->s.1.get? b=A? o->H b=B?->h'.get? b=A? o)
 (slot:∀b o,b≠X.env.locals->b∈X.fs->b∉ch->s.1.get? b=A? o->H b=B?->∃sl,h'.get? b=A? {o with slots:=sl}) (free:∀b o,b∉ch->s.1.get? b=A? o->H b=B?->H' b=B?)
 (there:∀b o,b∉ch->s.1.get? b=A? o->∃o',h'.get? b=A? o')
 (tups:∀b xs,H b=A? (.tup xs)->H' b=A? (.tup xs)) (frzs:∀b o u,H b=A? (.frz o u)->H' b=A? (.frz o u)) (tbls:∀b ps,H b=A? (.tbl ps)->∃more,H' b=A? (.tbl (ps++more)))
 (ns:∀m,s.1.Ns X.env.locals m->h'.Ns X.env.locals m) (hok:HOk X.prog X.w H' h') (hg:AllBare g') :
 Inv X Y σ H' {s with heap:=h',gens:=g',drawn:=d',toks:=t'}:=by
 have Pb:∀b o,X.s₀.heap.get? b=A? o->b≠X.env.locals:=λb o e=>Xn (Xz (W6 e) I.ok.above)
 have KI:∀b o,X.s₀.heap.get? b=A? o->b∉X.ex->b∉ch:=λb o e hx hb=>by
  rcases(Ec b hb).1 with z|z
  .exact hx z
  .exact g! (Xz (W6 e) z) (X1 _)
 have cellK:∀x c,X.env.cells.lookup x=A? c->∀v,s.1.IsCell c v->h'.IsCell c v:=λx c e v⟨o,ho,hd⟩=>by
  have HS:c∉ch:=λz=>(Ec c z).2.2.1 x c e rfl;by_cases hc:c∈X.fs
  .obtain⟨sl,q⟩:=slot c o (I.cne x c e) hc HS ho (I.freeC x c e);exact{_,q,hd}
  .exact{o,keep c o (I.cne x c e) hc HS ho (I.freeC x c e),hd}
 refine{I.ok,I.os,hg,{λb o e n hb hx=>?_,λb o e n hb hx=>?_,λb o e n hx=>?_,λb o e hx=>?_,λb xs e=>tups b xs (I.base.tups b xs e),λb o xs e=>frzs b o xs (I.base.frzs b o xs e),λb ps e=>?_},?_,λx c e=>?_,?_,λx c e=>?_,λp hp=>?_,hok,I.len}
 .exact keep b o (Pb b o e) hb (KI b o e hx) (I.base.keep b o e n hb hx) (I.base.free b o e n hx)
 .obtain⟨sl,e1⟩:=I.base.slot b o e n hb hx;obtain⟨Rt,e2⟩:=slot b _ (Pb b o e) hb (KI b o e hx) e1 (I.base.free b o e n hx);exact⟨Rt,e2⟩
 .obtain⟨o',e1⟩:=I.base.there b o e hx;exact free b o' (KI b o e hx) e1 (I.base.free b o e n hx)
 .obtain⟨o',e1⟩:=I.base.there b o e hx;exact there b o' (KI b o e hx) e1
 .obtain⟨m1,e1⟩:=I.base.tbls b ps e;obtain⟨m2,e2⟩:=tbls b _ e1;exact{m1++m2,by rw[e2,Array.append_assoc]}
 .obtain⟨m,hn,hl⟩:=I.loc;refine{m,ns m hn,λi x v e1 e2 e3=>?_};obtain⟨u,r,l⟩:=hl i x v e1 e2 e3;refine{u,r,?_};rcases l with l|⟨k,c,e,z⟩
  .exact .inl l
  .exact .inr {k,c,e,cellK x c e _ z}
 .obtain⟨v,z⟩:=I.cell x c e;exact{v,cellK x c e v z}
 .obtain⟨m,⟨o,_,_,ho,_⟩,_⟩:=I.loc;exact free _ o (λz=>(Ec _ z).2.1 rfl) ho I.free
 .obtain⟨v,o,ho,hd⟩:=I.cell x c e;exact free c o (λz=>(Ec c z).2.2.1 x c e rfl) ho (I.freeC x c e)
 .obtain⟨e,n,ne,nf,d⟩:=I.pin p hp;have HS:p.1∉ch:=λz=>(Ec p.1 z).2.2.2 p hp rfl;exact{keep p.1 p.2 ne nf HS e n,free p.1 p.2 HS e n,ne,nf,d}
theorem Inv.un(I:Inv X Y σ H s)(u:Un X.fs [] H H' s.1 h')(hok:HOk X.prog X.w H' h'):Inv X Y σ H' {s with heap:=h',toks:=t'}:=by
 obtain⟨m,⟨o,es,ep,ho,r⟩,_⟩:=id I.loc;obtain⟨sl,hL⟩:=u.any ho I.free (by simp)
 exact I.step (g':=s.gens) (d':=s.drawn) (ch:=[]) (λ_ z=>nomatch z) (λb o _ hb _ e n=>u.keep b o e n hb (by simp)) (λb o _ hb _ e n=>u.slot b o e n hb (by simp)) (λb o _ e n=>u.free b o e n (by simp)) (λb o _ e=>u.there b o e (by simp)) u.tups u.frzs u.tbls (λm' hm=>by
  obtain⟨o',GV,GW,Bt,r'⟩:=hm;rw[ho]at Bt;cases Bt;exact{_,GV,GW,hL,r'}) hok I.bare
theorem Inv.call{g':Array GenState}{d':Drawn}(I:Inv X Y σ H s)(u:Un (frs X.stack) ch H H' s.1 h')(hok:HOk X.prog X.w H' h')(hg:AllBare g')
 (Ec:∀b∈ch,(b∈X.ex\/X.s₀.heap.1.size<=b)/\b≠X.env.locals/\(∀x c,X.env.cells.lookup x=A? c->c≠b)/\∀p∈X.pn++Y,p.1≠b) :
 Inv X Y σ H' {s with heap:=h',gens:=g',drawn:=d',toks:=t'}:=by
 obtain⟨m,⟨o,es,ep,ho,r⟩,_⟩:=id I.loc;obtain⟨sl,hL⟩:=u.any ho I.free λz=>(Ec _ z).2.1 rfl
 exact I.step (ch:=ch) Ec (λb o hL hb hc e n=>u.keep b o e n (λz=>(WW.mp (I.stkSub b z)).elim hL hb) hc) (λb o _ _ hc e n=>u.any e n hc) (λb o hc e n=>u.free b o e n hc) (λb o hc e=>u.there b o e hc) u.tups u.frzs u.tbls (λm' hm=>by
  obtain⟨o',GV,GW,Bt,r'⟩:=hm;rw[ho]at Bt;cases Bt;exact{_,GV,GW,hL,r'}) hok hg
theorem Inv.turned(I:Inv X Y σ H s)(k:∀b o,b≠it->s.1.get? b=A? o->h'.get? b=A? o)(hn:H it=B?)(hL:it≠X.env.locals)
 (h1:it∈X.ex\/X.s₀.heap.1.size<=it) (h2:∀x c,X.env.cells.lookup x=A? c->c≠it) (h3:∀p∈X.pn++Y,p.1≠it):Inv X Y σ H {s with heap:=h',toks:=t'}:=by
 have HU:∀b u,H b=A? u->b≠it:=λb u e z=>by rw[z,hn]at e;cases e
 refine I.step (g':=s.gens) (d':=s.drawn) (ch:=[it]) (λb hb=>?_) (λb o _ _ hc e _=>k b o (λz=>hc (by simp[z])) e) (λb o _ _ hc e _=>{o.slots,k b o (λz=>hc (by simp[z])) e}) (λ_ _ _ _ n=>n)
  (λb o hc e=>{o,k b o (λz=>hc (by simp[z])) e}) (λ_ _ e=>e) (λ_ _ _ e=>e) (λb ps e=>{#[],by rw[e];simp}) (λm hm=>?_) (λb u e=>?_) I.bare
 .have e:b=it:=by simpa using hb
  subst e;exact⟨h1,hL,h2,h3⟩
 .obtain⟨o,es,ep,ho,r⟩:=hm;exact{o,es,ep,k _ o (YB hL) ho,r}
 .refine(I.hok b u e).stay (λc v hc q=>k c v ?_ q) (λ_ q=>q) λ_ _ q=>q;rcases hc with z|z
  .rw[z];exact HU b u e
  .exact HU c _ z
theorem Inv.tok(I:Inv X Y σ H s)(t:Nat):Inv X Y σ H {s with toks:=t}:=I.un (h':=s.1) (t':=t) Un.refl I.hok
theorem Inv.kept(I:Inv X Y σ H s)(k:∀b u,s.1.get? b=A? u->h'.get? b=A? u):Inv X Y σ H {s with heap:=h',toks:=t'}:=I.un (Un.kept k) (I.hok.kept k)
theorem Inv.laid(I:Inv X Y σ H s)(k:∀b u,s.1.get? b=A? u->h'.get? b=A? u)(hp:s.1.1.size<=a)(new:ObjOk X.prog X.w (upd H a o) h' a o) :
 Inv X Y σ (upd H a o) {s with heap:=h',toks:=t'}:=I.un (Un.laid k hp (I.hok.fresh hp)) (I.hok.laid k hp new)
theorem Inv.write{x e:Wx}(I:Inv X Y σ H s)(mu:Mut (H x))(he:e=x\/H e=A? (.own x))(k:∀b u,b≠e->s.1.get? b=A? u->h'.get? b=A? u)(GU:∃u,h'.get? e=A? u)
 (new:ObjOk X.prog X.w (upd H x o) h' x o):Inv X Y σ (upd H x o) {s with heap:=h',toks:=t'}:=I.un (Un.write mu he k GU) (I.hok.write mu he k GU new)
theorem Inv.weak{i':List (Option V)}(I:Inv X Y σ H s)(hl:i'.length=σ.length)(w:∀(i:Nat)v,i'[i]?=A? (A? v)->σ[i]?=A? (A? v)):Inv X Y i' H s :=
 {I.ok,I.os,I.bare,I.base,let⟨m,hn,C8⟩:=I.loc;{m,hn,λi x v e1 e2 e3=>C8 i x v e1 (w i v e2) e3},I.cell,I.free,I.freeC,I.pin,I.hok,hl.trans I.len}
theorem Inv.pins_of{Ba:List (Wx×Yw)}(I:Inv X Y σ H s)(h:∀p∈Ba,s.1.get? p.1=A? p.2/\H p.1=B?/\p.1≠X.env.locals/\p.1∉X.fs/\∀v,p.2.data≠.cell v):Inv X Ba σ H s :=
 {I.ok,I.os,I.bare,I.base,I.loc,I.cell,I.free,I.freeC,λp hp=>(WQ.mp hp).elim (λz=>I.pin p (WX _ z)) (h p),I.hok,I.len}
theorem oT(hN:N.Nodup)(a:N[i]?=A? x)(b:N[j]?=A? x):i=j:=by
 obtain⟨h1,e1⟩:=YI.mp a;obtain⟨h2,e2⟩:=YI.mp b;exact(List.getElem_inj hN).mp (e1.trans e2.symm)
theorem mw{Q:Unit->WH->Prop}(I:Inv X Y σ H s)(hN:X.N.Nodup)(hi:X.N[i]?=A? x)(hx:Loc X.env.scope x)(r:RelV v u)
 (h:∀s',Inv X Y (σ.set i (A? v)) H s'->(∃a,X3 a s.1 s'.1/\(a=X.env.locals\/X.env.cells.lookup x=A? a))->Q () s') (hf:X.fn x=C?\/X.env.scope.names.lookup x=A? .local:=by first|exact .inl rfl|exact .inr rfl|assumption):WZ M A (storeName X.env x u) Q E s:=by
 obtain⟨m,hn,hl⟩:=id I.loc;have L0:(X.env.scope.kind == .class ||(X.env.scope.kind == .module && X.env.locals != X.env.globals))=false:=by rw[I.ok.kind];rfl
 have HV:i<σ.length:=by rw[I.len];exact(glE hi)
 have cne:=I.cne
 have tracked:∀{a:Wx}{h':XT},(∃o,s.1.get? a=A? o/\H a=B?)->X3 a s.1 h'->HOk X.prog X.w H h':=λ{a h'}ha hs b ob e=>by
  obtain⟨_,_,Bz⟩:=ha;refine(I.hok b ob e).stay (λc w' hc q=>(hs.2 c ?_).trans q) (λ_ q=>q) λ_ _ q=>q;rintro rfl;rcases hc with rfl|hc
  .rw[Bz]at e;cases e
  .rw[Bz]at hc;cases hc
 rcases hx with hk|hk
 .refine wpAny_storeName_local hk hn (λh' Fb hs=>?_) L0;obtain⟨oL,_,_,Ru,_⟩:=id hn;refine h _ {I.ok,I.os,I.bare,{λb o e n hb hx=>?_,λb o e n hb hx=>?_,I.base.free,λb o e hx=>?_,I.base.tups,I.base.frzs,I.base.tbls},{_,Fb,λj y v' e1 e2 e3=>?_},λy c e=>?_,I.free,I.freeC,λp hp=>?_,tracked ⟨oL,Ru,I.free⟩ hs,by simpa using I.len} {_,hs,.inl rfl}
  .exact(hs.2 b (Xn (Xz (W6 e) I.ok.above))).trans (I.base.keep b o e n hb hx)
  .obtain⟨sl,e1⟩:=I.base.slot b o e n hb hx;exact{sl,(hs.2 b (Xn (Xz (W6 e) I.ok.above))).trans e1}
  .obtain⟨o',e1⟩:=I.base.there b o e hx;exact{o',(hs.2 b (Xn (Xz (W6 e) I.ok.above))).trans e1}
  .by_cases hj:j=i
   .subst hj;rw[hi]at e1;cases e1;rw[X5 HV]at e2;cases e2;exact{u,r,.inl {hk,by simp}}
   .rw[X6 (YB hj)]at e2;obtain⟨u',r',q⟩:=hl j y v' e1 e2 e3;refine{u',r',?_};rcases q with⟨k,e⟩|⟨k,c,e,z⟩
    .refine .inl {k,?_};have:y≠x:=λe=>hj (oT hN e1 (e ▸ hi));simp[this,e]
    .exact .inr {k,c,e,z.sameBut hs (cne y c e)}
  .obtain⟨w',z⟩:=I.cell y c e;exact{w',z.sameBut hs (cne y c e)}
  .obtain⟨e,n,ne,nf,d⟩:=I.pin p hp;exact{(hs.2 p.1 ne).trans e,n,ne,nf,d}
 .have HW:X.fn x=true:=by
   rcases hf with z|z
   .exact z
   .rw[z]at hk;cases hk
  obtain⟨c,hc⟩:=I.ok.has x (.inl hk);obtain⟨w',z⟩:=I.cell x c hc;refine wpAny_storeName_cell I.ok.kind hk hc z (λh' zT hs=>?_);obtain⟨oc,Fc,L1⟩:=id z;refine h {s with heap:=h'} {I.ok,I.os,I.bare,{λb o e n hb hx=>?_,λb o e n hb hx=>?_,I.base.free,λb o e hx=>?_,I.base.tups,I.base.frzs,I.base.tbls},{m,hn.sameBut hs (YB (cne x c hc)),λj y v' e1 e2 e3=>?_},λy c' e=>?_,I.free,I.freeC,λp hp=>?_,tracked {oc,Fc,I.freeC x c hc} hs,by simpa using I.len} {c,hs,.inr hc}
  .exact(hs.2 b (Xn (Xz (W6 e) (I.ok.cab x c HW hc)))).trans (I.base.keep b o e n hb hx)
  .obtain⟨sl,e1⟩:=I.base.slot b o e n hb hx;exact{sl,(hs.2 b (Xn (Xz (W6 e) (I.ok.cab x c HW hc)))).trans e1}
  .obtain⟨o',e1⟩:=I.base.there b o e hx;exact{o',(hs.2 b (Xn (Xz (W6 e) (I.ok.cab x c HW hc)))).trans e1}
  .by_cases hj:j=i
   .subst hj;rw[hi]at e1;cases e1;rw[X5 HV]at e2;cases e2;exact{u,r,.inr {.inl hk,c,hc,zT}}
   .rw[X6 (YB hj)]at e2;obtain⟨u',r',q⟩:=hl j y v' e1 e2 e3;refine{u',r',?_};rcases q with q|⟨k,c',e,z'⟩
    .exact .inl q
    .refine .inr {k,c',e,z'.sameBut hs ?_};rintro rfl;exact hj (oT hN e1 (I.ok.inj _ _ _ e hc ▸ hi))
  .by_cases Ez:c'=c
   .subst Ez;exact{_,zT}
   .obtain⟨w2,z2⟩:=I.cell y c' e;exact{w2,z2.sameBut hs Ez}
  .obtain⟨e,n,ne,nf,d⟩:=I.pin p hp;refine{(hs.2 p.1 ?_).trans e,n,ne,nf,d};intro q;rw[q,Fc]at e;have q':oc=p.2:=WN e;exact d w' (by rw[<-q'];exact L1)
theorem kM{Q:Unit->WH->Prop}(I:Inv X Y σ H s)(hN:X.N.Nodup)(hi:X.N[i]?=A? x)(hx:Loc X.env.scope x)(r:RelV v u)
 (h:∀s',Inv X Y (σ.set i (A? v)) H s'->Q () s') (hf:X.fn x=C?\/X.env.scope.names.lookup x=A? .local:=by first|exact .inl rfl|exact .inr rfl|assumption):WZ M A (storeName X.env x u) Q E s :=
 mw I hN hi hx r (λs' I' _=>h s' I') hf
theorem Inv.call'(I:Inv X Y σ H s)(ho:s'.os=s.os)(u:Un (frs X.stack) ch H H' s.1 s'.1)(hok:HOk X.prog X.w H' s'.1)(hg:AllBare s'.gens)
 (Ec:∀b∈ch,(b∈X.ex\/X.s₀.heap.1.size<=b)/\b≠X.env.locals/\(∀x c,X.env.cells.lookup x=A? c->c≠b)/\∀p∈X.pn++Y,p.1≠b):Inv X Y σ H' s':=by
 obtain⟨h',g',d',t',o'⟩:=s';have e:o'=s.os:=ho;subst e;exact I.call (g':=g') (t':=t') (d':=d') u hok hg Ec
end
abbrev XK:=WA->Option Wx->Hp->Prop
abbrev St:=List (Option V)
abbrev VK:=V->Hp->Prop
abbrev TE:=St->Hp->VK->Prop
abbrev TT:=St->Hp->(Bool->Hp->Prop)->Prop
abbrev TA:=St->Hp->(List V->Hp->Prop)->Prop
structure Ends where
 nx:St->Hp->Prop
 rt:VK
 bk:St->Hp->Prop:=λ_ _=>False
 ct:St->Hp->Prop:=λ_ _=>False
abbrev TS:=Ends->St->Hp->Prop
def EP(X:Cx)(Y:List (Wx×Yw))(σ:St)(Q:VK)(u:WA)(s':WH):Prop:=∃v H',Inv X Y σ H' s'/\RelV v u/\Q v H'
def TP(X:Cx)(Y:List (Wx×Yw))(σ:St)(Q:Bool->Hp->Prop)(b:Bool)(s':WH):Prop:=∃H',Inv X Y σ H' s'/\Q b H'
def AP(X:Cx)(Y:List (Wx×Yw))(σ:St)(Q:List V->Hp->Prop)(us:List WA)(s':WH):Prop:=∃vs H',Inv X Y σ H' s'/\Vals vs us/\Q vs H'
def SP(X:Cx)(Y:List (Wx×Yw))(D:Ends)(f:Flow)(s':WH):Prop :=
 match f with
 |.next=>∃i' H',Inv X Y i' H' s'/\D.nx i' H'
 |.brk=>∃i' H',Inv X Y i' H' s'/\D.bk i' H'
 |.cont=>∃i' H',Inv X Y i' H' s'/\D.ct i' H'
 |.ret u=>∃v i' H',Inv X Y i' H' s'/\RelV v u/\D.rt v H'
def PE(X:Cx)(e:XD)(t:TE):Prop :=
 ∀(Y:List (Wx×Yw))(s:WH)(σ:St)(H:Hp)(Q:VK),Inv X Y σ H s->t σ H Q->WZ (Xf X.prog X.w) X.A (YC e X.env) (EP X Y σ Q) X.xe s
def PT(X:Cx)(e:XD)(t:TT):Prop :=
 ∀(Y:List (Wx×Yw))(s:WH)(σ:St)(H:Hp)(Q:Bool->Hp->Prop),Inv X Y σ H s->t σ H Q->WZ (Xf X.prog X.w) X.A (isTrue e X.env (YC e X.env)) (TP X Y σ Q) X.xe s
def PW(X:Cx)(e:XD)(t:TT):Prop :=
 ∀(whole:Sem WA)(Y:List (Wx×Yw))(s:WH)(σ:St)(H:Hp)(Q:Bool->Hp->Prop),Inv X Y σ H s->t σ H Q->WZ (Xf X.prog X.w) X.A (isTrue e X.env whole) (TP X Y σ Q) X.xe s
theorem PW.pt{X:Cx}{e:XD}{t:TT}(h:PW X e t):PT X e t:=h _
def PA(X:Cx)(es:List XD)(t:TA):Prop :=
 ∀(pos:ZD)(Y:List (Wx×Yw))(s:WH)(σ:St)(H:Hp)(Q:List V->Hp->Prop),Inv X Y σ H s->t σ H Q->WZ (Xf X.prog X.w) X.A (spliced (Zr pos (Xw es X.env))) (AP X Y σ Q) X.xe s
def PS(X:Cx)(st:Stmt)(t:TS):Prop :=
 ∀(Y:List (Wx×Yw))(s:WH)(σ:St)(H:Hp)(D:Ends),Inv X Y σ H s->t D σ H->WZ (Xf X.prog X.w) X.A (exec st X.env) (SP X Y D) X.xe s
def PSs(X:Cx)(st:List Stmt)(t:TS):Prop :=
 ∀(Y:List (Wx×Yw))(s:WH)(σ:St)(H:Hp)(D:Ends),Inv X Y σ H s->t D σ H->WZ (Xf X.prog X.w) X.A (execs st X.env) (SP X Y D) X.xe s
theorem thn{t:Sem α}{Q Q':α->WH->Prop}(h:WZ M A t Q E s)(hQ:∀a s,Q a s->Q' a s):WZ M A t Q' E s:=Yn h hQ λ_ _ x=>x
end L2
variable{tb:L2.TS}{σ:L2.St}{D:L2.Ends}{tl:L2.TE}{R:L2.St->WA->L2.Hp->Prop}{tt:L2.TT}
namespace L2
open PySem PySem.Spec PyProof.Rows
section
variable{X:Cx}
inductive v5(i:Nat)(σ:St)(H:Hp)(Q:VK):Prop
 |mk (v:_) (Bb:σ[i]?=A? (A? v)) (Bc:Q v H):v5 i σ H Q
def bf(i:Nat):TE:=v5 i
def tC(v:V):TE:=λ_ H Q=>Q v H
theorem xa(hN:X.N[i]?=A? x)(hv:Vis X.env.scope x)(hd:(x == ("__debug__":W8))=false:=by decide)(AO:(x == ("__classdict__":W8))=false:=by decide):PE X (.Name x pos) (bf i):=by
 intro Y s σ H Q I h;obtain⟨v,e,h⟩:=h;obtain⟨m,hn,hl⟩:=I.loc;obtain⟨u,r,l⟩:=hl i x v hN e hv;have fin:EP X Y σ Q u s:=⟨v,H,I,r,h⟩;rcases l with⟨hk,hm⟩|⟨hk,c,hc,Bd⟩
 .exact wpAny_Name (wpAny_loadName_local I.ok.kind hk hn hm fin) hd
 .rcases hk with hk|hk
  .exact wpAny_Name (wpAny_loadName_cell I.ok.kind hk hc Bd fin) hd
  .exact wpAny_Name (wpAny_loadName_free I.ok.kind hk hc Bd fin AO) hd
theorem ac{i j pos}:PE X (.Constant (.int i) j pos) (tC (.int i)):=λ_ _ _ H _ I h=>wpAny_Constant_int {.int i,H,I.tok _,{_,rfl},h}
theorem mj{b j pos}:PE X (.Constant (.bool b) j pos) (tC (.bl b)):=λ_ _ _ H _ I h=>Constant_bool {.bl b,H,I,rfl,h}
theorem m8{j pos}:PE X (.Constant .none j pos) (tC .non):=λ_ _ _ H _ I h=>Constant_none {.non,H,I,rfl,h}
theorem gJ{x j pos}:PE X (.Constant (.str x) j pos) (tC (.str x)):=λ_ _ _ H _ I h=>Calls.Constant_str {.str x,H,I.tok _,{_,rfl},h}
def Gl(X:Cx)(x:W8):Prop:=X.env.kindOf x=A? .globalImplicit
theorem iZ(I:Inv X Y σ H s)(hg:Gl X x)(hm:X.mg x=A? u)(h:Q u s)
 (hd:(x == ("__debug__":W8))=false:=by decide):WZ (Xf X.prog X.w) X.A (YC (.Name x pos) X.env) Q E s :=
 Calls.Name_function_global I.ok.kind hg (Calls.loadGlobal_global (by rw[I.ok.glob];exact I.mod.glob.keeps I.bk) hm h) hd
theorem ej(I:Inv X Y σ H s)(hg:Gl X x)(hm:X.mg x=B?)(hv:bootBuiltins x=A? u)(h:Q u s)
 (hn:x≠"__name__":=by decide) (hd:(x == ("__debug__":W8))=false:=by decide):WZ (Xf X.prog X.w) X.A (YC (.Name x pos) X.env) Q E s:=by
 obtain⟨mb,h1,h2⟩:=I.mod.blt;exact Calls.Name_function_global I.ok.kind hg (Calls.loadGlobal_builtin (by rw[I.ok.glob];exact I.mod.glob.keeps I.bk) hm (by rw[I.ok.blt];exact h1.keeps I.bk) ((h2 x hn).trans hv) h) hd
theorem nQ(hg:Gl X x)(hm:X.mg x=A? u)(r:RelV v u)(hd:(x == ("__debug__":W8))=false:=by decide):PE X (.Name x pos) (tC v) :=
 λ_ _ _ H _ I h=>iZ I hg hm ⟨v,H,I,r,h⟩ hd
variable{a b:XD}{ta tb:TE}
def PC(X:Cx)(op:CmpOp)(a b:XD)(t:TE):Prop :=
 ∀(Y:List (Wx×Yw))(s:WH)(σ:St)(H:Hp)(Q:VK),Inv X Y σ H s->t σ H Q ->
   WZ (Xf X.prog X.w) X.A (YC a X.env) (λv l'=>WZ (Xf X.prog X.w) X.A (YC b X.env) (λu zR=>WZ (Xf X.prog X.w) X.A (YO op v u) (EP X Y σ Q) X.xe zR) X.xe l') X.xe s
def tB(t:TE):TT:=λσ H Q=>t σ H λx H1=>∃c,x=.bl c/\Q c H1
theorem iH{t:TE}(h:PC X op a b t)(h1:behindInMarks op b=false:=by first|exact HX _ (by decide) (by decide)|rfl):PT X (.Compare a [op] [b] pos) (tB t):=by
 intro Y s σ H Q I hw;refine wpAny_isTrue_Compare1 (thn (h Y s σ H _ I hw) λv s1 h1=>thn h1 λu s2 h2=>thn h2 λc s3⟨x,H1,I1,r1,q1⟩=>?_) h1;obtain⟨d,rfl,q⟩:=q1;cases r1;exact ZU ⟨H1,I1,q⟩
variable{tA KJ:TT}{rest:List XD}
def yQ(t u:TT):TT:=λσ H Q=>t σ H λc H1=>if c=C? then u σ H1 Q else Q D? H1
def tOr(t u:TT):TT:=λσ H Q=>t σ H λc H1=>if c=C? then Q C? H1 else u σ H1 Q
def yI(t:TT):TT:=λσ H Q=>t σ H λc H1=>Q (!c) H1
theorem gY(ha:PT X a tA):PW X (.BoolOp .And [a] pos) tA:=by
 intro wh Y s σ H Q I h;refine isTrue_and (thn (ha Y s σ H Q I h) λc s1 e=>?_);cases c with
 |true=>exact isTrue_and_nil e
 |false=>exact e
theorem li(ha:PT X a tA):PW X (.BoolOp .Or [a] pos) tA:=by
 intro wh Y s σ H Q I h;refine isTrue_or (thn (ha Y s σ H Q I h) λc s1 e=>?_);cases c with
 |false=>exact isTrue_or_nil e
 |true=>exact e
theorem iD(ha:PT X a tA)(hb:PW X (.BoolOp .And (b::rest) pos) KJ):PW X (.BoolOp .And (a::b::rest) pos) (yQ tA KJ):=by
 intro wh Y s σ H Q I h;refine isTrue_and (thn (ha Y s σ H _ I h) λc s1⟨H1,I1,q1⟩=>?_);cases c with
 |true=>exact hb wh Y s1 σ H1 Q I1 q1
 |false=>exact⟨H1,I1,q1⟩
theorem oY(ha:PT X a tA)(hb:PW X (.BoolOp .Or (b::rest) pos) KJ):PW X (.BoolOp .Or (a::b::rest) pos) (tOr tA KJ):=by
 intro wh Y s σ H Q I h;refine isTrue_or (thn (ha Y s σ H _ I h) λc s1⟨H1,I1,q1⟩=>?_);cases c with
 |true=>exact⟨H1,I1,q1⟩
 |false=>exact hb wh Y s1 σ H1 Q I1 q1
theorem wo(ha:PT X a tA):PT X (.UnaryOp .Not a pos) (yI tA):=by
 intro Y s σ H Q I h;exact isTrue_not (ha Y s σ H (λc H1=>Q (!c) H1) I h)
def tIf(t:TT)(ta tb:TE):TE:=λσ H Q=>t σ H λc H1=>if c=C? then ta σ H1 Q else tb σ H1 Q
theorem oG{c:XD}(hc:PT X c tA)(ha:PE X a ta)(hb:PE X b tb):PE X (.IfExp c a b pos) (tIf tA ta tb):=by
 intro Y s σ H Q I h;refine wpAny_IfExp (thn (hc Y s σ H _ I h) λd s1⟨H1,I1,q1⟩=>?_);cases d with
 |true=>exact ha Y s1 σ H1 Q I1 q1
 |false=>exact hb Y s1 σ H1 Q I1 q1
end
def SqL(K:WJ)(H:Hp)(a:Wx)(xs:List V):Prop :=
 Rd H a (.lst xs) \/
  ∃(o:Yw)(its:Array WA)(n:Nat),K.lookup a=A? o/\o.cls=.type "list"/\o.dict=B?/\o.data=.seq its n/\its.size<=W5/\Vals xs its.toList
def SqT(K:WJ)(H:Hp)(a:Wx)(xs:List V):Prop :=
 Rd H a (.tup xs) \/
  ∃(o:Yw)(its:Array WA)(n:Nat),K.lookup a=A? o/\o.cls=.type "tuple"/\o.data=.seq its n/\its.size<=W5/\Vals xs its.toList
def yT:WA->Option V
 |.none=>A? .non
 |.bool b=>A? (.bl b)
 |.int i _=>A? (.int i)
 |.str x _=>A? (.str x)
 |.bytes b _=>A? (.byt b)
 |.float b _=>A? (.flt b)
 |.ref a=>A? (.ref a)
 |.type n=>A? (.ty n)
 |_=>B?
theorem RelV.abs{x:V}(r:RelV x u):yT u=A? x:=by
 cases x with
 |non=>cases r;rfl
 |bl _=>cases r;rfl
 |int _=>obtain⟨t,rfl⟩:=r;rfl
 |str _=>obtain⟨t,rfl⟩:=r;rfl
 |byt _=>obtain⟨t,rfl⟩:=r;rfl
 |flt _=>obtain⟨t,rfl⟩:=r;rfl
 |ref _=>cases r;rfl
 |ty _=>cases r;rfl
theorem RelV.inj{x:V}(r:RelV x u)(q:RelV y u):x=y:=WN (r.abs.symm.trans q.abs)
theorem Vals.inj:∀{xs ys:List V}{us:List WA},Vals xs us->Vals ys us->xs=ys
 |_,_,_,.nil,.nil=>rfl
 |_,_,_,.cons r t,.cons r' t'=>by rw[r.inj r',Vals.inj t t']
section
variable{X:Cx}{ys:List V}
theorem SqL.of(h:H a=A? (.lst xs)):SqL K H a xs:=.inl (.inl h)
theorem SqT.of(h:H a=A? (.tup xs)):SqT K H a xs:=.inl (.inl h)
theorem Inv.list(I:Inv X Y σ H s)(h:SqL X.K H a xs):∃its:List WA,Vals xs its/\PlainL s.1 a its.toArray/\xs.length<=W5:=by
 rcases h with h|⟨o,its,n,hk,hc,hd,hs,hz,r⟩
 .obtain⟨z,its,n,r,e⟩:=h.ok I.hok;exact{its,r,{_,n,e,E?,E?,E?},z}
 .refine{its.toList,r,{o,n,I.kIn a o hk,hc,hd,by simpa using hs},?_};have e:=r.length;simp only[Xi]at e;lia
theorem Inv.tuple(I:Inv X Y σ H s)(h:SqT X.K H a xs):∃its:List WA,Vals xs its/\IsTup s.1 a its.toArray/\xs.length<=W5:=by
 rcases h with h|⟨o,its,n,hk,hc,hs,hz,r⟩
 .obtain⟨z,its,n,r,p⟩:=h.ok I.hok;exact{its,r,{_,p,E?,n,E?},z}
 .refine{its.toList,r,{o,I.kIn a o hk,hc,n,by simpa using hs},?_};have e:=r.length;simp only[Xi]at e;lia
theorem Inv.list_inj(I:Inv X Y σ H s)(h:SqL X.K H a xs)(h':SqL X.K H a ys):xs=ys:=by
 obtain⟨its,r,⟨o,n,e,_,_,d⟩,_⟩:=I.list h;obtain⟨its',r',⟨o',n',e',_,_,d'⟩,_⟩:=I.list h';rw[e]at e';cases e';rw[d]at d';injection d' with d1 _;have:its=its':=by simpa using h! Array.toList d1
 subst this;exact r.inj r'
theorem Inv.tuple_inj(I:Inv X Y σ H s)(h:SqT X.K H a xs)(h':SqT X.K H a ys):xs=ys:=by
 obtain⟨its,r,⟨o,e,_,n,d⟩,_⟩:=I.tuple h;obtain⟨its',r',⟨o',e',_,n',d'⟩,_⟩:=I.tuple h';rw[e]at e';cases e';rw[d]at d';injection d' with d1 _;have:its=its':=by simpa using h! Array.toList d1
 subst this;exact r.inj r'
end
abbrev Cx.wish(X:Cx)(E:WA->WH->Prop):Cx:={X with xe:=E}
abbrev Cx.nox(X:Cx):Cx:=X.wish λ_ _=>False
theorem Cx.Ok.wish{X:Cx}(ok:X.Ok)(E:WA->WH->Prop):(X.wish E).Ok :=
 ⟨ok.mod,ok.kind,ok.glob,ok.blt,ok.above,ok.inj,ok.has,ok.cab,ok.hd,ok.frames,ok.stk,ok.exf,ok.bs,ok.bsz,ok.noex,ok.exfs,ok.funs,ok.frf⟩
theorem Cx.Ok.unwish{X:Cx}(ok:(X.wish E).Ok):X.Ok :=
 ⟨ok.mod,ok.kind,ok.glob,ok.blt,ok.above,ok.inj,ok.has,ok.cab,ok.hd,ok.frames,ok.stk,ok.exf,ok.bs,ok.bsz,ok.noex,ok.exfs,ok.funs,ok.frf⟩
section
variable{X:Cx}
theorem Inv.wish(I:Inv X Y σ H s)(E:WA->WH->Prop):Inv (X.wish E) Y σ H s:={I.ok.wish E,I.os,I.bare,I.base,I.loc,I.cell,I.free,I.freeC,I.pin,I.hok,I.len}
theorem Inv.unwish(I:Inv (X.wish E) Y σ H s):Inv X Y σ H s:=⟨I.ok.unwish,I.os,I.bare,I.base,I.loc,I.cell,I.free,I.freeC,I.pin,I.hok,I.len⟩
theorem SP.unwish{f:Flow}(h:SP (X.wish E) Y D f s'):SP X Y D f s':=by
 cases f with
 |next=>obtain⟨i',H',I,q⟩:=h;exact⟨i',H',I.unwish,q⟩
 |brk=>obtain⟨i',H',I,q⟩:=h;exact⟨i',H',I.unwish,q⟩
 |cont=>obtain⟨i',H',I,q⟩:=h;exact⟨i',H',I.unwish,q⟩
 |ret u=>obtain⟨v,i',H',I,r,q⟩:=h;exact⟨v,i',H',I.unwish,r,q⟩
theorem PSs.nox{st:List Stmt}{t:TS}(h:PSs X.nox st t):PSs X st t:=λY s σ H D I hw =>
 Yn (h Y s σ H D (I.wish _) hw) (λ_ _ q=>q.unwish) λ_ _ z=>Yz z
end
section
variable{X:Cx}{rest:List Stmt}{t u:TS}{e:XD}{te:TE}
def yi:TS:=λD σ H=>D.nx σ H
def wY(t u:TS):TS:=λD σ H=>t {D with nx:=u D} σ H
theorem aW:PSs X [] yi:=λ_ _ σ H _ I h=>wpAny_execs_nil ⟨σ,H,I,h⟩
theorem ad(h1:PS X st t)(h2:PSs X rest u):PSs X (st::rest) (wY t u):=by
 intro Y s σ H D I h;refine wpAny_execs_cons (thn (h1 Y s σ H {D with nx:=u D} I h) λf s1 q=>?_);cases f with
 | next =>
   obtain⟨i',H',I',q⟩:=q;exact h2 Y s1 i' H' D I' q
 |ret v=>exact q
 |brk=>exact q
 |cont=>exact q
theorem ak(h1:PS X st t):PSs X [st] t:=by
 intro Y s σ H D I h;refine wpAny_execs_cons (thn (h1 Y s σ H D I h) λf s1 q=>?_);cases f with
 |next=>exact wpAny_execs_nil q
 |ret v=>exact q
 |brk=>exact q
 |cont=>exact q
theorem Inv.quiet(I:Inv X Y σ H s):interactive X.env=false:=by simp[interactive,I.ok.kind]
def xZ(te:TE):TS:=λD σ H=>te σ H λ_ H1=>D.nx σ H1
theorem aV(he:PE X e te)(hs:swapsWith e B? pos.line X.env=pure false:=by rfl):PS X (.Expr e pos) (xZ te):=by
 intro Y s σ H D I h;exact wpAny_Expr_any (thn (he Y s σ H _ I h) λv s1⟨x,H1,I1,r1,q1⟩=>⟨σ,H1,I1,q1⟩) I.quiet hs
def yK(te:TE):TS:=λD σ H=>te σ H D.rt
theorem aD(he:PE X e te):PS X (.Return (A? e) pos) (yK te):=by
 intro Y s σ H D I h;exact wpAny_Return_some (thn (he Y s σ H _ I h) λv s1⟨x,H1,I1,r1,q1⟩=>⟨x,σ,H1,I1,r1,q1⟩)
def xJ(c:TT)(t u:TS):TS:=λD σ H=>c σ H λb H1=>if b=C? then t D σ H1 else u D σ H1
theorem bI{c:XD}{a b:List Stmt}{tc:TT}(hc:PT X c tc)(ha:PSs X a t)(hb:PSs X b u):PS X (.If c a b pos) (xJ tc t u):=by
 intro Y s σ H D I h;refine wpAny_If (thn (hc Y s σ H _ I h) λd s1⟨H1,I1,q1⟩=>?_);cases d with
 |true=>exact ha Y s1 σ H1 D I1 q1
 |false=>exact hb Y s1 σ H1 D I1 q1
end
abbrev TG:=V->St->Hp->(St->Hp->Prop)->Prop
abbrev TGs:=List V->St->Hp->(St->Hp->Prop)->Prop
def PG(X:Cx)(target:XD)(t:TG):Prop :=
 ∀(Y:List (Wx×Yw))(s:WH)(σ:St)(H:Hp)(v:V)(u:WA)(Q:St->Hp->Prop),Inv X Y σ H s->RelV v u->t v σ H Q ->
   WZ (Xf X.prog X.w) X.A (assign target X.env u) (λ_ s'=>∃i' H',Inv X Y i' H' s'/\Q i' H') X.xe s
def PGs(X:Cx)(ts:List XD)(t:TGs):Prop :=
 ∀(Y:List (Wx×Yw))(s:WH)(σ:St)(H:Hp)(vs:List V)(us:List WA)(Q:St->Hp->Prop),Inv X Y σ H s->Vals vs us->t vs σ H Q ->
   WZ (Xf X.prog X.w) X.A (assignInOrder ((assignEach ts X.env).map (·.2)) us) (λ_ s'=>∃i' H',Inv X Y i' H' s'/\Q i' H') X.xe s
abbrev xc:=V->V->V->Hp->(Hp->Prop)->Prop
def yk(X:Cx)(t:xc):Prop :=
 ∀(Y:List (Wx×Yw))(s:WH)(σ:St)(H:Hp)(o i v:V)(ov iv u:WA)(Q:Hp->Prop),Inv X Y σ H s->RelV o ov->RelV i iv->RelV v u->t o i v H Q ->
   WZ (Xf X.prog X.w) X.A (setItem ov iv u) (λ_ s'=>∃H',Inv X Y σ H' s'/\Q H') X.xe s
abbrev TIp:=V->V->Hp->VK->Prop
def PIp(X:Cx)(op:Operator)(t:TIp):Prop :=
 ∀(Y:List (Wx×Yw))(s:WH)(σ:St)(H:Hp)(x y:V)(v u:WA)(Q:VK),Inv X Y σ H s->RelV x v->RelV y u->t x y H Q ->
   WZ (Xf X.prog X.w) X.A (inplaceOp op v u) (EP X Y σ Q) X.xe s
section
variable{X:Cx}
def av(i:Nat):TG:=λv σ H Q=>Q (σ.set i (A? v)) H
theorem vm(hN:X.N.Nodup)(hi:X.N[i]?=A? x)(hx:Loc X.env.scope x)(hf:X.fn x=C?\/X.env.scope.names.lookup x=A? .local:=by first|exact .inl rfl|exact .inr rfl|assumption):PG X (.Name x pos) (av i):=by
 intro Y s σ H v u Q I r h;exact wpAny_assign_Name (kM I hN hi hx r (λs' I'=>{_,H,I',h}) hf)
def sr:TGs:=λvs σ H Q=>vs=[]/\Q σ H
def fo(t:TG)(u:TGs):TGs:=λvs σ H Q=>∃v r,vs=v::r/\t v σ H λi' H'=>u r i' H' Q
theorem bK:PGs X [] sr:=by
 intro Y s σ H vs us Q I r h;obtain⟨e,h⟩:=h;subst e;cases r;exact assignInOrder_nil ⟨σ,H,I,h⟩
theorem aA{e:XD}{es:List XD}{t:TG}{u:TGs}(h1:PG X e t)(h2:PGs X es u)
 (hs:(assignEach (e::es) X.env).map (·.2)=assign e X.env::(assignEach es X.env).map (·.2):=by rfl):PGs X (e::es) (fo t u):=by
 intro Y s σ H vs us Q I r h;obtain⟨v,vr,e1,h⟩:=h;subst e1;cases r with
 | cons r rr =>
   rw[hs];refine assignInOrder_cons (thn (h1 Y s σ H _ _ _ I r h) λ_ s1⟨zz,H1,I1,q1⟩=>?_);exact h2 Y s1 zz H1 _ _ Q I1 rr q1
def rE(K:WJ)(n:Nat)(t:TGs):TG:=λv σ H Q=>∃a xs,v=.ref a/\SqT K H a xs/\xs.length=n/\t xs σ H Q
theorem cb{es:List XD}{k:Nat}{t:TGs}(hc:X.calm=C?)(h:PGs X es t)
 (hn:(assignEach es X.env).length=n:=by rfl) (zG:(assignEach es X.env).findIdx? (·.1)=none:=by rfl):PG X (.Tuple es k pos) (rE X.K n t):=by
 intro Y s σ H v u Q I r hw;obtain⟨a,xs,e1,hq,hl,hw⟩:=hw;subst e1;cases r;obtain⟨its,rv,ht,hz⟩:=I.tuple hq;refine assign_Tuple_tuple (I.ok.hd hc) ht (by simp[hn,<-hl,rv.length]) zG λh' hx=>?_;have I1:Inv X Y σ H {s with heap:=h'}:=I.kept (t':=s.toks) λb o e=>hx b o (Xn (W6 e)) e;exact h Y _ σ H xs _ Q I1 (by simpa using rv) hw
def yF(to ti:TE)(t:xc):TG:=λv σ H Q=>to σ H λo H1=>ti σ H1 λi H2=>t o i v H2 λH3=>Q σ H3
theorem nD{o i:XD}{to ti:TE}{t:xc}(ho:PE X o to)(hi:PE X i ti)(hs:yk X t)
 (ha:∀v,assign (.Subscript o i pos) X.env v=(do
  let ov <-holding [v] (YC o X.env)
  let iv <-holding [v,ov] (YC i X.env)
  standAt pos
  holding [v,ov,iv] (setItem ov iv v)
  release [v,ov,iv] []):=by intro _;rfl):PG X (.Subscript o i pos) (yF to ti t):=by
 intro Y s σ H v u Q I r h;rw[ha];refine Wu (XU (thn (ho Y s σ H _ I h) λov s1⟨x,H1,I1,r1,q1⟩=>?_));refine Wu (XU (thn (hi Y s1 σ H1 _ I1 q1) λiv s2⟨y,H2,I2,r2,q2⟩=>?_));refine Wu (wpAny_standAt (Wu (XU (thn (hs Y s2 σ H2 x y v ov iv u _ I2 r1 r2 r q2) λ_ s3⟨H3,I3,q3⟩=>?_))));exact wpAny_release ⟨σ,H3,I3,q3⟩
def qq(te:TE)(g:TG):TS:=λD σ H=>te σ H λx H1=>g x σ H1 D.nx
theorem jm{e:XD}{te:TE}{g:TG}(he:PE X e te)(hg:PG X tg g)(hs:swapsWithSole [tg] e pos.line X.env=pure false:=by rfl)(hw:swappedStores [tg] e X.env=pure none:=by rfl)
 (h1:(assignEach [tg] X.env).map (·.2)=[assign tg X.env]:=by rfl):PS X (.Assign [tg] e pos) (qq te g):=by
 intro Y s σ H D I h;refine wpAny_Assign_stores (thn (he Y s σ H _ I h) λv s1⟨x,H1,I1,r1,q1⟩=>?_) hs hw;rw[h1];exact thn (hg Y s1 σ H1 x v _ I1 r1 q1) λ_ s2 q=>q
theorem wy{e:XD}{te:TE}(hN:X.N.Nodup)(hi:X.N[i]?=A? x)(hx:Loc X.env.scope x)(he:PE X e te)(hs:swapsWith e (A? (.Name x pos')) pos.line X.env=pure false:=by rfl)(hf:X.fn x=C?\/X.env.scope.names.lookup x=A? .local:=by first|exact .inl rfl|exact .inr rfl|assumption) :
 PS X (.Assign [.Name x pos'] e pos) (qq te (av i)):=by
 intro Y s σ H D I h;refine wpAny_Assign_Name (thn (he Y s σ H _ I h) λv s1⟨y,H1,I1,r1,q1⟩=>?_) hs;exact kM I1 hN hi hx r1 (λs2 I2=>{_,H1,I2,q1}) hf
def yB(i:Nat)(te:TE)(ti:TIp):TS:=λD σ H=>∃x,σ[i]?=A? (A? x)/\te σ H λy H1=>ti x y H1 λz H2=>D.nx (σ.set i (A? z)) H2
theorem wO{e:XD}{te:TE}{op:Operator}{ti:TIp}(hN:X.N.Nodup)(hi:X.N[i]?=A? x)(hx:Loc X.env.scope x)(he:PE X e te)(ho:PIp X op ti)(hf:X.fn x=C?\/X.env.scope.names.lookup x=A? .local:=by first|exact .inl rfl|exact .inr rfl|assumption) :
 PS X (.AugAssign (.Name x pos') op e pos) (yB i te ti):=by
 intro Y s σ H D I h;obtain⟨v,e1,h⟩:=h;obtain⟨m,hn,hl⟩:=I.loc;have Pd:Vis X.env.scope x:=by rcases hx with k|k;exact .inl k;exact .inr (.inl k)
 obtain⟨u,r,l⟩:=hl i x v hi e1 Pd;refine wpAny_AugAssign_Name ?_
 have go:WZ (Xf X.prog X.w) X.A (YC e X.env) (λw zR=>WZ (Xf X.prog X.w) X.A (inplaceOp op u w) (λr Bl=>WZ (Xf X.prog X.w) X.A (storeName X.env x r) (λ_=>SP X Y D .next) X.xe Bl) X.xe zR) X.xe s:=by
  refine thn (he Y s σ H _ I h) λw s1⟨y,H1,I1,r1,q1⟩=>?_;refine thn (ho Y s1 σ H1 v y u w _ I1 r r1 q1) λz s2⟨zv,H2,I2,r2,q2⟩=>?_;exact kM I2 hN hi hx r2 (λs3 I3=>{_,H2,I3,q2}) hf
 rcases l with⟨hk,hm⟩|⟨hk,c,hc,Bd⟩
 .exact wpAny_loadName_local I.ok.kind hk hn hm go
 .rcases hk with hk|hk
  .exact wpAny_loadName_cell I.ok.kind hk hc Bd go
  .rcases hx with k|k
   .have:X.env.scope.names.lookup x=A? .free:=hk;rw[k]at this;cases this
   .have:X.env.scope.names.lookup x=A? .free:=hk;rw[k]at this;cases this
def ipI(f:Int->Int->Int):TIp:=λx y H Q=>∃i j,x=.int i/\y=.int j/\Q (.int (f i j)) H
end
section
variable{X:Cx}
def wC(c:TT)(tb:TS):TS:=λD σ H=>∃W:Nat->St->Hp->Prop,(∃m,W m σ H)/\∀m σ H,W m σ H ->
 c σ H λb H1=>if b=C? then∃N:St->Hp->Prop,(∀i' H',N i' H'->∃m',m'<m/\W m' i' H')/\tb {D with nx:=N,ct:=N,bk:=D.nx} σ H1 else D.nx σ H1
theorem jd{c:XD}{tc:TT}(hp:PassesOwn (Xf X.prog X.w) X.A X.env X.xe)(hc:PT X c tc)(hb:PSs X body tb):PS X (.While c body [] pos) (wC tc tb):=by
 intro Y s σ H D I h;obtain⟨W,⟨m0,w0⟩,turn⟩:=h;refine wpAny_While (codeAny_whileLoop (λn s'=>∃i' H',Inv X Y i' H' s'/\W n i' H') ?_ m0 ⟨σ,H,I,w0⟩);rintro n s1 ⟨zz,H1,I1,w1⟩;refine ZN hp (thn (hc Y s1 zz H1 _ I1 (turn n zz H1 w1)) λb s2⟨H2,I2,q2⟩=>?_);cases b with
 | true =>
   obtain⟨N,hN,q2⟩:=q2;rw[b! rfl];refine ZN hp (thn (hb Y s2 zz H2 _ I2 q2) λf s3 q3=>?_);cases f with
   | next =>
     obtain⟨Dn,H3,I3,n3⟩:=q3;obtain⟨m',hm,w3⟩:=hN Dn H3 n3;exact⟨m',hm,Dn,H3,I3,w3⟩
   | cont =>
     obtain⟨Dn,H3,I3,n3⟩:=q3;obtain⟨m',hm,w3⟩:=hN Dn H3 n3;exact⟨m',hm,Dn,H3,I3,w3⟩
   |brk=>exact q3
   |ret v=>exact q3
 | false =>
   rw[a! W2];exact wpAny_execs_nil ⟨zz,H2,I2,q2⟩
end
structure It where
 go:Nat->Hp->Prop
 yld:Nat->Hp->V->Hp->Prop
 stop:Nat->Hp->Prop
def FpOk(X:Cx)(Y:List (Wx×Yw))(H:Hp)(b:Wx):Prop :=
 H b=B?/\b≠X.env.locals/\b∉X.fs/\(b∈X.ex\/X.s₀.heap.1.size<=b)/\(∀x c,X.env.cells.lookup x=A? c->c≠b)/\∀p∈X.pn++Y,p.1≠b
theorem Inv.fpOk{X:Cx}(I:Inv X Y σ H s)(hb:s.1.1.size<=b)(hn:H' b=B?):FpOk X Y H' b:=by
 refine{hn,Zv (Xz I.lt hb),I.nofs hb,.inr (XB I.sz hb),λx c e z=>?_,λp hp z=>?_}
 .obtain⟨v,q⟩:=I.cell x c e;exact g! (Xz q.lt (by rw[z];exact hb)) (X1 _)
 .exact g! (Xz (W6 (I.pin p hp).1) (by rw[z];exact hb)) (X1 _)
structure Turn(P:Xa)(w:Xq)(K:WJ)(tg:XD)(J:It)(fp:List Wx)(it:Wx)(tn:Nat->XT->Prop):Prop where
 mem:it∈fp
 obj:∀i h,tn i h->∀b∈fp,∃o,h.get? b=A? o/\∀v,o.data≠.cell v
 keep:∀i h h',tn i h->(∀b∈fp,∀o,h.get? b=A? o->h'.get? b=A? o)->tn i h'
 item:∀(X:Cx),X.prog=P->X.w=w->X.K=K->X.calm=C?->∀(i:Nat)(Y:List (Wx×Yw))(s:WH)(σ:St)(H:Hp)(E:WA->WH->Prop),Inv X Y σ H s->(∀b∈fp,FpOk X Y H b)->tn i s.1->J.go i H ->
  WZ (Xf P w) X.A (Zz (.ref it)) (λr s1=>∃u,r=A? u /\
   WZ (Xf P w) X.A (letOwnedTupleGo tg (.ref it) u) (λ_ s2=>∃x H',Inv X Y σ H' s2/\RelV x u/\J.yld i H x H'/\tn (i+1) s2.1/\∀b∈fp,H' b=B?) E s1) E s
 done:∀(X:Cx),X.prog=P->X.w=w->X.K=K->X.calm=C?->∀(i:Nat)(Y:List (Wx×Yw))(s:WH)(σ:St)(H:Hp)(E:WA->WH->Prop),Inv X Y σ H s->(∀b∈fp,FpOk X Y H b)->tn i s.1->J.stop i H ->
  WZ (Xf P w) X.A (Zz (.ref it)) (λr s1=>r=B?/\Inv X Y σ H s1) E s
 self:∀(A:Xv)(i:Nat)(s:WH)(Q:WA->WH->Prop)(E:WA->WH->Prop),tn i s.1->Q (.ref it) s->WZ (Xf P w) A (pyIter (.ref it)) Q E s
abbrev TI:=St->Hp->(It->Hp->Prop)->Prop
def PIE(X:Cx)(Y:List (Wx×Yw))(σ:St)(tg:XD)(R:It->Hp->Prop)(KL:WA)(s2:WH):Prop :=
 ∃(it:Wx)(fp:List Wx)(tn:Nat->XT->Prop)(J:It)(H':Hp),KL=.ref it/\Inv X Y σ H' s2/\Turn X.prog X.w X.K tg J fp it tn/\tn 0 s2.1/\(∀b∈fp,FpOk X Y H' b)/\R J H'
def PI(X:Cx)(tg iter:XD)(wi:TI):Prop :=
 ∀(Y:List (Wx×Yw))(s:WH)(σ:St)(H:Hp)(R:It->Hp->Prop),Inv X Y σ H s->wi σ H R ->
   WZ (Xf X.prog X.w) X.A (YC iter X.env) (λv s1=>WZ (Xf X.prog X.w) X.A (pyIter v) (PIE X Y σ tg R) X.xe s1) X.xe s
theorem qy{o:Yw}{n:String}{vs:Array WA}{Q:Unit->WH->Prop}(ho:s.1.get? it=A? o)(hc:o.cls=.type n)(hd:o.data=.fields vs)
 (hn:["enumerate","zip","dict_itemiterator","dict_reverseitemiterator","odict_iterator","itertools.zip_longest","itertools.pairwise"].contains n=D?) (hQ:Q () s):WZ M A (letOwnedTupleGo tg (.ref it) u) Q E s:=by
 unfold letOwnedTupleGo
 cases tg <;> first
  |exact WC hQ
  |(cases u <;> first
   |exact WC hQ
   | (refine Wu (wpAny_load ho ?_)
      rw[hc,hd];show WZ M A (if(["enumerate","zip","dict_itemiterator","dict_reverseitemiterator","odict_iterator","itertools.zip_longest","itertools.pairwise"].contains n && vs[0]? == A? (YW _))=C? then _ else _) Q E s;rw[a! (by intro h;rw[hn,Bool.false_and]at h;cases h)];exact WC hQ))
def Itl(K:WJ)(a:Wx):It :=
 {λi H=>∃xs x,SqL K H a xs/\xs[i]?=A? x,λi H x H'=>H'=H/\∀xs,SqL K H a xs->xs[i]?=A? x,λi H=>∃xs,SqL K H a xs/\xs.length<=i}
def Itt(K:WJ)(a:Wx):It :=
 {λi H=>∃xs x,SqT K H a xs/\xs[i]?=A? x,λi H x H'=>H'=H/\∀xs,SqT K H a xs->xs[i]?=A? x,λi H=>∃xs,SqT K H a xs/\xs.length<=i}
def Itr(lo:Int)(n:Nat):It:={λi _=>i<n,λi H x H'=>H'=H/\x=.int (lo+i),λi _=>n<=i}
theorem rN(a it:Wx):Turn P w K tg (Itl K a) [it] it (λi h=>h.IsListIter it a i) where
 mem:=by simp
 obj:=λi h st b hb=>by
  have e:b=it:=by simpa using hb
  subst e;obtain⟨o,e,c,d⟩:=st;exact{o,e,λv z=>by rw[d]at z;cases z}
 keep:=λi h h' st k=>st.at λo e=>k it (by simp) o e
 item:=by
  walk_at"aa";obtain⟨xs,x,hq,hx⟩:=hg;obtain⟨its,rv,p,hz⟩:=I.list hq;obtain⟨u,hu,ru⟩:=rv.get hx;obtain⟨f0,f1,f2,f3,f4,f5⟩:=hf it (by simp);refine wpAny_pyNext_list_item st p.isList (x:=u) (by simpa using hu) λh' C9 sb=>?_;have I1:Inv X Y σ H {s with heap:=h'}:=I.turned (t':=s.toks) (λb o hb e=>(sb.2 b hb).trans e) f0 f1 f3 f4 f5;obtain⟨o,e,c,d⟩:=id C9;exact{u,E?,qy (s:={s with heap:=h'}) e c d (by decide) {x,H,I1,ru,{E?,λys hy=>by rw[I.list_inj hy hq];exact hx},C9,λb hb=>(hf b hb).1}}
 done:=by
  walk_at"aa";obtain⟨xs,hq,hx⟩:=hg;obtain⟨its,rv,p,hz⟩:=I.list hq;obtain⟨f0,f1,f2,f3,f4,f5⟩:=hf it (by simp);have hl:=rv.length;exact wpAny_pyNext_list_end (I.ok.hd hc) st p.isList (by simp;lia) λh' eb=>{rfl,I.turned (t':=s.toks) (λb o hb e=>eb b o hb e) f0 f1 f3 f4 f5}
 self:=λ_ _ _ _ _ st h=>wpAny_pyIter_listiter st h
theorem qb(a it:Wx):Turn P w K tg (Itt K a) [it] it (λi h=>h.IsTupleIter it a i) where
 mem:=by simp
 obj:=λi h st b hb=>by
  have e:b=it:=by simpa using hb
  subst e;obtain⟨o,e,c,d⟩:=st;exact{o,e,λv z=>by rw[d]at z;cases z}
 keep:=λi h h' st k=>st.at λo e=>k it (by simp) o e
 item:=by
  walk_at"aa";obtain⟨xs,x,hq,hx⟩:=hg;obtain⟨its,rv,p,hz⟩:=I.tuple hq;obtain⟨u,hu,ru⟩:=rv.get hx;obtain⟨f0,f1,f2,f3,f4,f5⟩:=hf it (by simp);refine wpAny_pyNext_tuple_item st (show s.1.IsTuple a its.toArray from p) (x:=u) (by simpa using hu) λh' C9 sb=>?_;have I1:Inv X Y σ H {s with heap:=h'}:=I.turned (t':=s.toks) (λb o hb e=>(sb.2 b hb).trans e) f0 f1 f3 f4 f5;obtain⟨o,e,c,d⟩:=id C9;exact{u,E?,qy (s:={s with heap:=h'}) e c d (by decide) {x,H,I1,ru,{E?,λys hy=>by rw[I.tuple_inj hy hq];exact hx},C9,λb hb=>(hf b hb).1}}
 done:=by
  walk_at"aa";obtain⟨xs,hq,hx⟩:=hg;obtain⟨its,rv,p,hz⟩:=I.tuple hq;obtain⟨f0,f1,f2,f3,f4,f5⟩:=hf it (by simp);have hl:=rv.length;exact wpAny_pyNext_tuple_end (I.ok.hd hc) st (show s.1.IsTuple a its.toArray from p) (by simp;lia) λh' eb=>{rfl,I.turned (t':=s.toks) (λb o hb e=>eb b o hb e) f0 f1 f3 f4 f5}
 self:=λ_ _ _ _ _ st h=>wpAny_pyIter_tupleiter st h
theorem qf(it:Wx)(lo:Int)(n:Nat):Turn P w K tg (Itr lo n) [it] it (λi h=>IsRangeIter h it (lo+(i:Nat) * 1) ((n:Int) - (i:Nat)) 1) where
 mem:=by simp
 obj:=λi h st b hb=>by
  have e:b=it:=by simpa using hb
  subst e
  exact{_,st,λv z=>by
   have z':Data.fields _=Data.cell v:=z;cases z'}
 keep:=λi h h' st k=>k it (by simp) _ st
 item:=by
  walk_at"aa";obtain⟨f0,f1,f2,f3,f4,f5⟩:=hf it (by simp);have W:=Walks.range (prog:=X.prog) (w:=X.w) (I.ok.hd hc) it lo 1 n;refine W.item i s _ _ hg st λv h' tk hv C9 kk=>?_;obtain⟨t,rfl⟩:=hv;have I1:Inv X Y σ H {s with heap:=h',toks:=tk}:=I.turned (λb o hb e=>kk b o (by simpa using hb) e) f0 f1 f3 f4 f5;refine{_,E?,qy (s:={s with heap:=h',toks:=tk}) (n:="range_iterator") C9 rfl rfl (by decide) {.int (lo+i),H,I1,{t,?_},⟨E?,E?⟩,C9,λb hb=>(hf b hb).1}};rw[Int.mul_one]
 done:=by
  walk_at"aa";obtain⟨f0,f1,f2,f3,f4,f5⟩:=hf it (by simp);exact wpAny_pyNext_range_end (I.ok.hd hc) st (by have:n<=i:=hg;lia) λh' eb=>{rfl,I.turned (t':=s.toks) (λb o hb e=>eb b o hb e) f0 f1 f3 f4 f5}
 self:=λ_ _ _ _ _ st h=>wpAny_pyIter_rangeiter st h
end L2
open L2.SqT renaming of->i!
open L2.SqL renaming of->l!
variable{wi:L2.TI}{J:L2.It}
namespace L2
open PySem PySem.Spec PyProof.Rows
section
variable{X:Cx}
def yw(K:WJ)(tl:TE):TI:=λσ H R=>tl σ H λx H1=>∃a,x=.ref a/\(∃xs,SqL K H1 a xs)/\R (Itl K a) H1
def yJ(K:WJ)(tl:TE):TI:=λσ H R=>tl σ H λx H1=>∃a,x=.ref a/\(∃xs,SqT K H1 a xs)/\R (Itt K a) H1
theorem bz{l:XD}(hl:PE X l tl):PI X tg l (yw X.K tl):=by
 intro Y s σ H R I h;refine thn (hl Y s σ H _ I h) λv s1⟨x,H1,I1,r1,q1⟩=>?_;obtain⟨a,e,⟨xs,hq⟩,q⟩:=q1;subst e;cases r1;obtain⟨its,rv,p,hz⟩:=I1.list hq;refine wpAny_pyIter_list p.isList ?_;refine{s1.1.1.size,[s1.1.1.size],_,_,H1,E?,I1.kept (t':=s1.toks) λb o e=>WB _ e,rN a _,{_,WO _ rfl,E?,E?},λb hb=>?_,q};have e:b=s1.1.1.size:=by simpa using hb
 subst e;exact I1.fpOk (WD _) (I1.hok.fresh (WD _))
theorem bU{l:XD}(hl:PE X l tl):PI X tg l (yJ X.K tl):=by
 intro Y s σ H R I h;refine thn (hl Y s σ H _ I h) λv s1⟨x,H1,I1,r1,q1⟩=>?_;obtain⟨a,e,⟨xs,hq⟩,q⟩:=q1;subst e;cases r1;obtain⟨its,rv,p,hz⟩:=I1.tuple hq;refine ZL (show s1.1.IsTuple a its.toArray from p) ?_;refine{s1.1.1.size,[s1.1.1.size],_,_,H1,E?,I1.kept (t':=s1.toks) λb o e=>WB _ e,qb a _,{_,WO _ rfl,E?,E?},λb hb=>?_,q};have e:b=s1.1.1.size:=by simpa using hb
 subst e;exact I1.fpOk (WD _) (I1.hok.fresh (WD _))
theorem ub{R:It->Hp->Prop}{lo hi:Int}{t u v:Tok}{tk:Nat}(I:Inv X Y σ H s)(h1:-(2 ^ 62)<=lo)(h2:lo<2 ^ 62)(h3:-(2 ^ 62)<=hi)(h4:hi<2 ^ 62)
 (q:R (Itr lo (hi - lo).toNat) H):WZ (Xf X.prog X.w) X.A (pyIter (.ref s.1.1.size)) (PIE X Y σ tg R) E {s with heap:=s.1.push {cls:=.type "range",data:=.fields #[.int lo t,.int hi u,.int 1 v]},toks:=tk}:=by
 refine wpAny_pyIter_range (IsRange.new ..) (small_one h1 h2 h3 h4) ?_;have I1:Inv X Y σ H {s with heap:=s.1.push {cls:=.type "range",data:=.fields #[.int lo t,.int hi u,.int 1 v]},toks:=tk}:=I.kept λb o e=>WB _ e
 refine{(s.1.push {cls:=.type "range",data:=.fields #[.int lo t,.int hi u,.int 1 v]}).objs.size,[(s.1.push {cls:=.type "range",data:=.fields #[.int lo t,.int hi u,.int 1 v]}).objs.size],_,_,H,E?,
  I1.kept (t':=tk) λb o e=>WB _ e,qf _ lo (hi - lo).toNat,?_,λb hb=>?_,q}
 .have e1:lo+((0:Nat):Int) * 1=lo:=by simp
  have e2:(((hi - lo).toNat:Nat):Int) - ((0:Nat):Int)=Builtin.Range.rangeSize lo hi 1:=by rw[rangeSize_one];split <;> lia
  show IsRangeIter _ _ (lo+((0:Nat):Int) * 1) ((((hi - lo).toNat:Nat):Int) - ((0:Nat):Int)) 1;rw[e1,e2];exact WO _ rfl
 .have e:b=(s.1.push {cls:=.type "range",data:=.fields #[.int lo t,.int hi u,.int 1 v]}).objs.size:=by simpa using hb
  subst e;exact I1.fpOk (WD _) (I1.hok.fresh (WD _))
def xV(ta:TA):TI:=λσ H R=>ta σ H λvs H1=>∃j:Int,vs=[.int j]/\-(2 ^ 62)<=j/\j<2 ^ 62/\R (Itr 0 j.toNat) H1
theorem bL{a:XD}{ta:TA}{p:ZD}(hg:Gl X "range")(hm:X.mg "range"=B?)(ha:PA X [a] ta)(hs:Xw [a] X.env=[(D?,YC a X.env)]:=by rfl):PI X tg (.Call (.Name "range" p) [a] [] pos) (xV ta):=by
 intro Y s σ H R I h;refine Call_ (ej I hg hm boot_range (XY (thn (ha pos Y s σ H _ I h) λus s1⟨vs,H1,I1,r1,q1⟩=>?_) hs rfl));obtain⟨j,e,q1,q2,q⟩:=q1;subst e;cases r1 with
 | cons r rr =>
   cases rr;obtain⟨t,rfl⟩:=r;exact call_range_1 (ub I1 (by lia) (by lia) q1 q2 (by simpa using q))
def yN(wi:TI)(g:TG)(tb:TS):TS:=λD σ H=>wi σ H λJ H1=>∃W:Nat->Nat->St->Hp->Prop,(∃m,W 0 m σ H1)/\∀i m σ H,W i m σ H ->
 (J.stop i H/\D.nx σ H)\/(J.go i H/\∃N:St->Hp->Prop,(∀i' H',N i' H'->∃m',m'<m/\W (i+1) m' i' H')/\∀x H',J.yld i H x H'->g x σ H' λze H2=>tb {D with nx:=N,ct:=N,bk:=D.nx} ze H2)
def kG(fp:List Wx)(h:XT):List (Wx×Yw):=fp.filterMap λb=>(h.get? b).map λo=>(b,o)
theorem dw{o:Yw}(hb:b∈fp)(e:h.get? b=A? o):(b,o)∈kG fp h:=List.mem_filterMap.mpr {b,hb,by rw[e];rfl}
theorem rM{p:Wx×Yw}(hp:p∈kG fp h):p.1∈fp/\h.get? p.1=A? p.2:=by
 obtain⟨b,hb,e⟩:=List.mem_filterMap.mp hp;cases q:h.get? b with
 |none=>rw[q]at e;cases e
 | some o =>
   rw[q]at e;have e':(b,o)=p:=WN e;subst e';exact⟨hb,q⟩
theorem Inv.pinned(I:Inv X Y σ H s)(hf:∀b∈fp,FpOk X Y H b)(ho:∀b∈fp,∃o,s.1.get? b=A? o/\∀v,o.data≠.cell v):Inv X (Y++kG fp s.1) σ H s :=
 I.pins_of λp hp=>(WQ.mp hp).elim (λz=>I.pin p (Xc _ z)) λz=>by
  obtain⟨hb,e⟩:=rM z;obtain⟨f0,f1,f2,_⟩:=hf p.1 hb;obtain⟨o,e',d⟩:=ho p.1 hb;rw[e]at e';cases e';exact⟨e,f0,f1,f2,d⟩
theorem Inv.unpinned{pl:List (Wx×Yw)}(I:Inv X (Y++pl) σ H s):Inv X Y σ H s:=I.pins_of λp hp=>I.pin p (Xc _ (WX _ hp))
theorem bj{g:TG}(hp:PassesOwn (Xf X.prog X.w) X.A X.env X.xe)(hc:X.calm=C?)(hi:PI X tg iter wi)(hg:PG X tg g)(hb:PSs X body tb)
 (hs:∀x,foldedSetIterable iter X.env x=pure x:=by intro _;rfl):PS X (.For tg iter body [] pos) (yN wi g tb):=by
 intro Y s σ H D I h;refine wpAny_For (thn (hi Y s σ H _ I h) λv s1 h1=>thn h1 λKL s2 h2=>?_) hs;obtain⟨it,fp,tn,J,H2,e,I2,T,EA,f2,W,⟨m0,w0⟩,turn⟩:=h2;subst e
 have B1:∀{H':Hp},(∀b∈fp,H' b=B?)->∀b∈fp,FpOk X Y H' b:=λhn b hb=>{hn b hb,(f2 b hb).2};refine codeAny_forLoop_any (λn s'=>∃i i' H',Inv X Y i' H' s'/\tn i s'.1/\(∀b∈fp,H' b=B?)/\W i n i' H') ?_ m0 {0,σ,H2,I2,EA,λb hb=>(f2 b hb).1,w0};rintro n s3 ⟨i,Dn,H3,I3,Pe,Pf,w3⟩;rcases turn i n Dn H3 w3 with⟨stop,qn⟩|⟨go,N,hN,step⟩
 .refine ZN hp (thn (T.done X rfl rfl rfl hc i Y s3 Dn H3 X.xe I3 (B1 Pf) Pe stop) λr s4⟨hr,I4⟩=>?_);subst hr;exact wpAny_execs_nil ⟨Dn,H3,I4,qn⟩
 .refine ZN hp (thn (T.item X rfl rfl rfl hc i Y s3 Dn H3 X.xe I3 (B1 Pf) Pe go) λr s4⟨u,hr,h4⟩=>?_);subst hr;refine ZN hp (thn h4 λ_ s5⟨x,H5,I5,r5,y5,GX,KN⟩=>?_);have Rv:=I5.pinned (B1 KN) (T.obj _ _ GX);refine ZN hp (thn (hg _ s5 Dn H5 x u _ Rv r5 (step x H5 y5)) λ_ s6⟨Rw,H6,I6,q6⟩=>?_);refine ZN hp (thn (hb _ s6 Rw H6 _ I6 q6) λf s7 q7=>?_)
  have again:∀{Dq:St}{H7:Hp},Inv X (Y++kG fp s5.1) Dq H7 s7->N Dq H7->∃m,m<n/\∃i i' H',Inv X Y i' H' s7/\tn i s7.1/\(∀b∈fp,H' b=B?)/\W i m i' H':=λ{Dq H7}I7 n7=>by
   obtain⟨m',hm,w7⟩:=hN Dq H7 n7;refine{m',hm,i+1,Dq,H7,I7.unpinned,T.keep _ _ _ GX λb hb o e=>(I7.pin (b,o) (Xc _ (Xc _ (dw hb e)))).1,λb hb=>?_,w7};obtain⟨o,e,d⟩:=T.obj _ _ GX b hb;exact(I7.pin (b,o) (Xc _ (Xc _ (dw hb e)))).2.1
  cases f with
  |next=>obtain⟨Dq,H7,I7,n7⟩:=q7;exact again I7 n7
  |cont=>obtain⟨Dq,H7,I7,n7⟩:=q7;exact again I7 n7
  |brk=>obtain⟨Dq,H7,I7,q7⟩:=q7;exact⟨Dq,H7,I7.unpinned,q7⟩
  |ret v=>obtain⟨x7,Dq,H7,I7,r7,q7⟩:=q7;exact⟨x7,Dq,H7,I7.unpinned,r7,q7⟩
end
theorem dh{g:TG}(Pv:Nat->St->Hp->Prop)(h0:Pv 0 σ H)(hl:∀i σ H,i<=xs.length->Pv i σ H->SqL K H a xs)
 (hs:∀i x σ H,xs[i]?=A? x->Pv i σ H->g x σ H λze H2=>tb {D with nx:=Pv (i+1),ct:=Pv (i+1),bk:=D.nx} ze H2) (hd:∀σ H,Pv xs.length σ H->D.nx σ H) :
 ∃W:Nat->Nat->St->Hp->Prop,(∃m,W 0 m σ H)/\∀i m σ H,W i m σ H ->
   ((Itl K a).stop i H/\D.nx σ H)\/((Itl K a).go i H/\∃N:St->Hp->Prop,(∀i' H',N i' H'->∃m',m'<m/\W (i+1) m' i' H')/\∀x H',(Itl K a).yld i H x H'->g x σ H' λze H2=>tb {D with nx:=N,ct:=N,bk:=D.nx} ze H2):=by
 refine{λi m σ H=>m=xs.length - i/\i<=xs.length/\Pv i σ H,{xs.length,by simp,Xo _,h0},?_};rintro i m σ H ⟨rfl,hi,p⟩;have q:=hl i σ H hi p;by_cases yY:i<xs.length
 .refine .inr {{xs,xs[i],q,by simp[yY]},Pv (i+1),λi' H' p'=>{xs.length - (i+1),by lia,rfl,yY,p'},λx H' y=>?_};obtain⟨e,y⟩:=y;subst e;exact hs i x σ _ (y xs q) p
 .have e:i=xs.length:=by lia
  subst e;exact .inl {{xs,q,WD _},hd σ H p}
theorem uw{g:TG}(Pv:Nat->St->Hp->Prop)(h0:Pv 0 σ H)(hl:∀i σ H,i<=xs.length->Pv i σ H->SqT K H a xs)
 (hs:∀i x σ H,xs[i]?=A? x->Pv i σ H->g x σ H λze H2=>tb {D with nx:=Pv (i+1),ct:=Pv (i+1),bk:=D.nx} ze H2) (hd:∀σ H,Pv xs.length σ H->D.nx σ H) :
 ∃W:Nat->Nat->St->Hp->Prop,(∃m,W 0 m σ H)/\∀i m σ H,W i m σ H ->
   ((Itt K a).stop i H/\D.nx σ H)\/((Itt K a).go i H/\∃N:St->Hp->Prop,(∀i' H',N i' H'->∃m',m'<m/\W (i+1) m' i' H')/\∀x H',(Itt K a).yld i H x H'->g x σ H' λze H2=>tb {D with nx:=N,ct:=N,bk:=D.nx} ze H2):=by
 refine{λi m σ H=>m=xs.length - i/\i<=xs.length/\Pv i σ H,{xs.length,by simp,Xo _,h0},?_};rintro i m σ H ⟨rfl,hi,p⟩;have q:=hl i σ H hi p;by_cases yY:i<xs.length
 .refine .inr {{xs,xs[i],q,by simp[yY]},Pv (i+1),λi' H' p'=>{xs.length - (i+1),by lia,rfl,yY,p'},λx H' y=>?_};obtain⟨e,y⟩:=y;subst e;exact hs i x σ _ (y xs q) p
 .have e:i=xs.length:=by lia
  subst e;exact .inl {{xs,q,WD _},hd σ H p}
theorem bX{lo:Int}{g:TG}(Pv:Nat->St->Hp->Prop)(h0:Pv 0 σ H)
 (hs:∀i σ H,i<n->Pv i σ H->g (.int (lo+i)) σ H λze H2=>tb {D with nx:=Pv (i+1),ct:=Pv (i+1),bk:=D.nx} ze H2) (hd:∀σ H,Pv n σ H->D.nx σ H) :
 ∃W:Nat->Nat->St->Hp->Prop,(∃m,W 0 m σ H)/\∀i m σ H,W i m σ H ->
   ((Itr lo n).stop i H/\D.nx σ H)\/((Itr lo n).go i H/\∃N:St->Hp->Prop,(∀i' H',N i' H'->∃m',m'<m/\W (i+1) m' i' H')/\∀x H',(Itr lo n).yld i H x H'->g x σ H' λze H2=>tb {D with nx:=N,ct:=N,bk:=D.nx} ze H2):=by
 refine{λi m σ H=>m=n - i/\i<=n/\Pv i σ H,{n,by simp,Xo _,h0},?_};rintro i m σ H ⟨rfl,hi,p⟩;by_cases yY:i<n
 .refine .inr {yY,Pv (i+1),λi' H' p'=>{n - (i+1),by lia,rfl,yY,p'},λx H' y=>?_};obtain⟨e,y⟩:=y;subst e y;exact hs i σ _ yY p
 .have e:i=n:=by lia
  subst e;exact .inl {WD _,hd σ H p}
abbrev R2:=V->V->Hp->VK->Prop
def OpR(X:Cx)(f:WA->WA->Sem WA)(r:R2):Prop :=
 ∀(Y:List (Wx×Yw))(s:WH)(σ:St)(H:Hp)(x y:V)(v u:WA)(Q:VK),Inv X Y σ H s->RelV x v->RelV y u->r x y H Q ->
   WZ (Xf X.prog X.w) X.A (f v u) (EP X Y σ Q) X.xe s
def UnR(X:Cx)(f:WA->Sem WA)(r:V->Hp->VK->Prop):Prop :=
 ∀(Y:List (Wx×Yw))(s:WH)(σ:St)(H:Hp)(x:V)(v:WA)(Q:VK),Inv X Y σ H s->RelV x v->r x H Q ->
   WZ (Xf X.prog X.w) X.A (f v) (EP X Y σ Q) X.xe s
def iR(X:Cx)(f:WA)(r:List V->Hp->VK->Prop):Prop :=
 ∀(Y:List (Wx×Yw))(s:WH)(σ:St)(H:Hp)(xs:List V)(us:List WA)(Q:VK),Inv X Y σ H s->Vals xs us->r xs H Q ->
   WZ (Xf X.prog X.w) X.A (call f us) (EP X Y σ Q) X.xe s
def yy(X:Cx)(r:V->Hp->(Bool->Hp->Prop)->Prop):Prop :=
 ∀(Y:List (Wx×Yw))(s:WH)(σ:St)(H:Hp)(x:V)(v:WA)(Q:Bool->Hp->Prop),Inv X Y σ H s->RelV x v->r x H Q ->
   WZ (Xf X.prog X.w) X.A (truthy v) (TP X Y σ Q) X.xe s
def tOp(r:R2)(ta tb:TE):TE:=λσ H Q=>ta σ H λx H1=>tb σ H1 λy H2=>r x y H2 Q
def tUn(r:V->Hp->VK->Prop)(ta:TE):TE:=λσ H Q=>ta σ H λx H1=>r x H1 Q
inductive IrI(C:Int->Int->Prop)(g:Int->Int->V)(x:V)(y:V)(H:Hp)(Q:VK):Prop
 |mk (i:_) (j:_) (Bb:x=.int i) (Bc:y=.int j) (Cs:C i j) (EB:Q (g i j) H):IrI C g x y H Q
def rI(C:Int->Int->Prop)(g:Int->Int->V):R2:=IrI C g
inductive xO(g:Int->Int->V)(x:V)(y:V)(H:Hp)(Q:VK):Prop
 |mk (i:_) (j:_) (Bb:x=.int i) (Bc:y=.int j) (Cs:Q (g i j) H):xO g x y H Q
def rI0(g:Int->Int->V):R2:=xO g
inductive IrU(g:Int->V)(x:V)(H:Hp)(Q:VK):Prop
 |mk (i:_) (Bb:x=.int i) (Bc:Q (g i) H):IrU g x H Q
def rU(g:Int->V):V->Hp->VK->Prop:=IrU g
section
variable{X:Cx}{a b c:XD}{ta tb tc:TE}
theorem xh(ha:PE X a ta)(hb:PE X b tb){R:V->V->Hp->Prop}(I:Inv X Y σ H s)
 (h:ta σ H λx H1=>tb σ H1 λy H2=>R x y H2) {f:WA->WA->Sem WA}
 (hf:∀v u s2 x y H2,Inv X Y σ H2 s2->RelV x v->RelV y u->R x y H2->WZ (Xf X.prog X.w) X.A (f v u) Q X.xe s2) :
 WZ (Xf X.prog X.w) X.A (YC a X.env) (λv l'=>WZ (Xf X.prog X.w) X.A (YC b X.env) (λu zR=>WZ (Xf X.prog X.w) X.A (f v u) Q X.xe zR) X.xe l') X.xe s:=by
 refine thn (ha Y s σ H _ I h) λv s1⟨x,H1,I1,r1,q1⟩=>?_;refine thn (hb Y s1 σ H1 _ I1 q1) λu s2⟨y,H2,I2,r2,q2⟩=>?_;exact hf v u s2 x y H2 I2 r1 r2 q2
theorem ay{op:Operator}{r:R2}(ho:OpR X (Zc op) r)(ha:PE X a ta)(hb:PE X b tb):PE X (.BinOp a op b pos) (tOp r ta tb):=by
 intro Y s σ H Q I h;exact wpAny_BinOp (xh ha hb I h λv u s2 x y H2 I2 rx ry q=>ho Y s2 σ H2 x y v u Q I2 rx ry q)
theorem oN{op:UnaryOp}{r:V->Hp->VK->Prop}(ho:UnR X (unaryOp op) r)(ha:PE X a ta):PE X (.UnaryOp op a pos) (tUn r ta):=by
 intro Y s σ H Q I h;exact UnaryOp_ (thn (ha Y s σ H _ I h) λv s1⟨x,H1,I1,r1,q1⟩=>ho Y s1 σ H1 x v Q I1 r1 q1)
theorem opI{f:WA->WA->Sem WA}{C:Int->Int->Prop}{g:Int->Int->Int}
 (rule:∀(i j:Int)(t u:Tok)(s:WH)(Q:WA->WH->Prop)(E:WA->WH->Prop),C i j->Q (.int (g i j) s.toks) {s with toks:=s.toks+1}->WZ (Xf X.prog X.w) X.A (f (.int i t) (.int j u)) Q E s) :
 OpR X f (rI C λi j=>.int (g i j)):=by
 intro Y s σ H x y v u Q I rx ry h;obtain⟨i,j,rfl,rfl,hc,q⟩:=h;obtain⟨t,rfl⟩:=rx;obtain⟨t',rfl⟩:=ry;exact rule i j t t' s _ _ hc {.int (g i j),H,I.tok _,{_,rfl},q}
theorem vD{f:WA->WA->Sem WA}{g:Int->Int->Int}
 (rule:∀(i j:Int)(t u:Tok)(s:WH)(Q:WA->WH->Prop)(E:WA->WH->Prop),Q (.int (g i j) s.toks) {s with toks:=s.toks+1}->WZ (Xf X.prog X.w) X.A (f (.int i t) (.int j u)) Q E s) :
 OpR X f (rI0 λi j=>.int (g i j)):=by
 intro Y s σ H x y v u Q I rx ry h;obtain⟨i,j,rfl,rfl,q⟩:=h;obtain⟨t,rfl⟩:=rx;obtain⟨t',rfl⟩:=ry;exact rule i j t t' s _ _ {.int (g i j),H,I.tok _,{_,rfl},q}
theorem xx{f:WA->WA->Sem WA}{g:Int->Int->Bool}
 (rule:∀(i j:Int)(t u:Tok)(s:WH)(Q:WA->WH->Prop)(E:WA->WH->Prop),Q (.bool (g i j)) s->WZ (Xf X.prog X.w) X.A (f (.int i t) (.int j u)) Q E s) :
 OpR X f (rI0 λi j=>.bl (g i j)):=by
 intro Y s σ H x y v u Q I rx ry h;obtain⟨i,j,rfl,rfl,q⟩:=h;obtain⟨t,rfl⟩:=rx;obtain⟨t',rfl⟩:=ry;exact rule i j t t' s _ _ {.bl (g i j),H,I,rfl,q}
def yL(i j:Int):Prop:=0<j/\j<1073741824
def yt(i j:Int):Prop:=0<=j/\j<=1000000/\i.natAbs<2 ^ 64
def CMul(i j:Int):Prop:=(-(2 ^ 64)<i/\i<2 ^ 64)\/(-(2 ^ 64)<j/\j<2 ^ 64)
theorem CMul.ok{i j:Int}(h:CMul i j):IntMulOk i j:=by
 rcases h with⟨h1,h2⟩|⟨h1,h2⟩
 .exact .of_left (intBits_le_64 h1 h2)
 .exact .of_right (intBits_le_64 h1 h2)
theorem pL(k:Nat):(0:Int)<=2 ^ k:=by
 rw[two_pow_cast];exact Int.natCast_nonneg _
theorem bG:OpR X (Zc .Add) (rI0 λi j=>.int (i+j)):=vD λ_ _ _ _ _ _ _ q=>add_int q
theorem iC:OpR X (Zc .Sub) (rI0 λi j=>.int (i - j)):=vD λ_ _ _ _ _ _ _ q=>sub_int q
theorem fQ:OpR X (Zc .Mult) (rI CMul λi j=>.int (i * j)):=opI λ_ _ _ _ _ _ _ hc q=>mul_int q hc.ok
theorem bQ:OpR X (Zc .FloorDiv) (rI yL λi j=>.int (i / j)):=opI λi j _ _ _ _ _ hc q=>by
 have h1:(0:Int)<j:=hc.1;have h2:j<1073741824:=hc.2;exact floordiv_int (by lia) (by rw[Int.fdiv_eq_ediv_of_nonneg i (by lia)];exact q) (.inl (PyProof.noPylong_small (by lia)))
theorem bu:OpR X (Zc .Mod) (rI (λ_ j=>0<j) λi j=>.int (i%j)):=opI λi j _ _ _ _ _ hc q=>by
 have h1:(0:Int)<j:=hc;exact mod_int' (by lia) (by rw[Int.fmod_eq_emod_of_nonneg i (by lia)];exact q)
theorem pC:OpR X (Zc .Pow) (rI yt λi j=>.int (i ^ j.toNat)):=opI λ_ _ _ _ _ _ _ hc q=>pow_int_small hc.1 hc.2.1 hc.2.2 q
theorem uk:OpR X (Zc .LShift) (rI yt λi j=>.int (i * 2 ^ j.toNat)):=opI λ_ _ _ _ _ _ _ hc q=>lshift_int_small hc.1 hc.2.1 hc.2.2 q
theorem wD:OpR X (Zc .RShift) (rI (λ_ j=>0<=j) λi j=>.int (i / 2 ^ j.toNat)):=opI λi j _ _ _ _ _ hc q =>
 rshift_int hc (by rw[Int.fdiv_eq_ediv_of_nonneg i (pL _)];exact q)
theorem p8:OpR X (Zc .BitAnd) (rI0 λi j=>.int (XO i j)):=vD λ_ _ _ _ _ _ _ q=>and_int q
theorem xW:OpR X (Zc .BitOr) (rI0 λi j=>.int (YT i j)):=vD λ_ _ _ _ _ _ _ q=>or_int q
theorem unI{f:WA->Sem WA}{g:Int->Int}
 (rule:∀(i:Int)(t:Tok)(s:WH)(Q:WA->WH->Prop)(E:WA->WH->Prop),Q (.int (g i) s.toks) {s with toks:=s.toks+1}->WZ (Xf X.prog X.w) X.A (f (.int i t)) Q E s) :
 UnR X f (rU λi=>.int (g i)):=by
 intro Y s σ H x v Q I rx h;obtain⟨i,rfl,q⟩:=h;obtain⟨t,rfl⟩:=rx;exact rule i t s _ _ {.int (g i),H,I.tok _,{_,rfl},q}
theorem nk:UnR X (unaryOp .USub) (rU λi=>.int (-i)):=unI λ_ _ _ _ _ q=>neg_int q
theorem w8:UnR X (unaryOp .Invert) (rU λi=>.int (X8 i)):=unI λ_ _ _ _ _ q=>invert_int q
end
def yn:V->V->Bool
 |.non,.non=>C?|.non,.int _=>C?|.int _,.non=>C?|.non,.bl _=>C?|.bl _,.non=>C?|.non,.str _=>C?|.str _,.non=>C?
 |.int _,.int _=>C?|.bl _,.bl _=>C?|.str _,.str _=>C?|.byt _,.byt _=>C?
 |.int _,.str _=>C?|.str _,.int _=>C?|.bl _,.str _=>C?|.str _,.bl _=>C?
 |_,_=>D?
inductive yh(x:V)(y:V)(H:Hp)(Q:VK):Prop
 |mk  (Bb:yn x y=C?) (Bc:Q (.bl (decide (x=y))) H):yh  x y H Q
def rEq:R2:=yh
inductive xC(x:V)(y:V)(H:Hp)(Q:VK):Prop
 |mk  (Bb:yn x y=C?) (Bc:Q (.bl (!decide (x=y))) H):xC  x y H Q
def rNe:R2:=xC
theorem nU{i j:Int}:decide (o! i=o! j)=(i == j):=by
 rw[Bool.eq_iff_iff];simp
theorem tF{i j:Bool}:decide (V.bl i=V.bl j)=(i == j):=by
 rw[Bool.eq_iff_iff];simp
theorem rg{i j:W8}:decide (B! i=B! j)=(i == j):=by
 rw[Bool.eq_iff_iff];simp
theorem qJ{i j:Array UInt8}:decide (V.byt i=V.byt j)=(i.toList == j.toList):=by
 rw[Bool.eq_iff_iff];cases i;cases j;simp
section
variable{X:Cx}{a b c:XD}{ta tb tc:TE}
theorem bB{Q:VK}{k k':Bool}(I:Inv X Y σ H s)(q:Q (.bl k) H)(e:k=k'):EP X Y σ Q (.bool k') s:=by
 subst e;exact{.bl k,H,I,E?,q}
theorem cO:OpR X (YO .Eq) rEq:=by
 intro Y s σ H x y v u Q I rx ry h;obtain⟨hs,q⟩:=h;cases x with
 | non =>
   cases rx;cases y with
   |non=>cases ry;exact PySem.EqNone.eq_none_none (bB I q (by simp))
   |bl j=>cases ry;exact PySem.EqNone.eq_none_bool (bB I q (by simp))
   |int j=>obtain⟨t',rfl⟩:=ry;exact PySem.EqNone.eq_none_int (bB I q (by simp))
   |str j=>obtain⟨t',rfl⟩:=ry;exact PySem.EqNone.eq_none_str (bB I q (by simp))
   |_=>exact g! (show D?=C? from hs) W2
 | bl i =>
   cases rx;cases y with
   |non=>cases ry;exact PySem.EqNone.eq_bool_none (bB I q (by simp))
   |bl j=>cases ry;exact eq_bool (bB I q tF)
   |str j=>obtain⟨t',rfl⟩:=ry;exact PySem.EqMixed.eq_bool_str (bB I q (by simp))
   |_=>exact g! (show D?=C? from hs) W2
 | int i =>
   obtain⟨t,rfl⟩:=rx;cases y with
   |non=>cases ry;exact PySem.EqNone.eq_int_none (bB I q (by simp))
   |int j=>obtain⟨t',rfl⟩:=ry;exact eq_int (bB I q nU)
   |str j=>obtain⟨t',rfl⟩:=ry;exact PySem.EqMixed.eq_int_str (bB I q (by simp))
   |_=>exact g! (show D?=C? from hs) W2
 | str i =>
   obtain⟨t,rfl⟩:=rx;cases y with
   |non=>cases ry;exact PySem.EqNone.eq_str_none (bB I q (by simp))
   |bl j=>cases ry;exact PySem.EqMixed.eq_str_bool (bB I q (by simp))
   |int j=>obtain⟨t',rfl⟩:=ry;exact PySem.EqMixed.eq_str_int (bB I q (by simp))
   |str j=>obtain⟨t',rfl⟩:=ry;exact eq_str (bB I q rg)
   |_=>exact g! (show D?=C? from hs) W2
 | byt i =>
   obtain⟨t,rfl⟩:=rx;cases y with
   |byt j=>obtain⟨t',rfl⟩:=ry;exact PySem.W.eq_bytes (bB I q qJ)
   |_=>exact g! (show D?=C? from hs) W2
 |_=>cases y <;> exact g! (show D?=C? from hs) W2
theorem uj:OpR X (YO .NotEq) rNe:=by
 intro Y s σ H x y v u Q I rx ry h;obtain⟨hs,q⟩:=h;cases x with
 | non =>
   cases rx;cases y with
   |non=>cases ry;exact PySem.EqNone.ne_none_none (bB I q (by simp))
   |bl j=>cases ry;exact PySem.EqNone.ne_none_bool (bB I q (by simp))
   |int j=>obtain⟨t',rfl⟩:=ry;exact PySem.EqNone.ne_none_int (bB I q (by simp))
   |str j=>obtain⟨t',rfl⟩:=ry;exact PySem.EqNone.ne_none_str (bB I q (by simp))
   |_=>exact g! (show D?=C? from hs) W2
 | bl i =>
   cases rx;cases y with
   |non=>cases ry;exact PySem.EqNone.ne_bool_none (bB I q (by simp))
   |bl j=>cases ry;exact ne_bool (bB I q (h! not tF))
   |str j=>obtain⟨t',rfl⟩:=ry;exact PySem.EqMixed.ne_bool_str (bB I q (by simp))
   |_=>exact g! (show D?=C? from hs) W2
 | int i =>
   obtain⟨t,rfl⟩:=rx;cases y with
   |non=>cases ry;exact PySem.EqNone.ne_int_none (bB I q (by simp))
   |int j=>obtain⟨t',rfl⟩:=ry;exact ne_int (bB I q (h! not nU))
   |str j=>obtain⟨t',rfl⟩:=ry;exact PySem.EqMixed.ne_int_str (bB I q (by simp))
   |_=>exact g! (show D?=C? from hs) W2
 | str i =>
   obtain⟨t,rfl⟩:=rx;cases y with
   |non=>cases ry;exact PySem.EqNone.ne_str_none (bB I q (by simp))
   |bl j=>cases ry;exact PySem.EqMixed.ne_str_bool (bB I q (by simp))
   |int j=>obtain⟨t',rfl⟩:=ry;exact PySem.EqMixed.ne_str_int (bB I q (by simp))
   |str j=>obtain⟨t',rfl⟩:=ry;exact ne_str (bB I q (h! not rg))
   |_=>exact g! (show D?=C? from hs) W2
 | byt i =>
   obtain⟨t,rfl⟩:=rx;cases y with
   |byt j=>obtain⟨t',rfl⟩:=ry;exact PySem.W.ne_bytes (bB I q (h! not qJ))
   |_=>exact g! (show D?=C? from hs) W2
 |_=>cases y <;> exact g! (show D?=C? from hs) W2
theorem fZ:OpR X (YO .Lt) (rI0 λi j=>.bl (decide (i<j))):=xx λ_ _ _ _ _ _ _ q=>lt_int q
theorem vG:OpR X (YO .LtE) (rI0 λi j=>.bl (decide (i<=j))):=xx λ_ _ _ _ _ _ _ q=>le_int q
theorem oi:OpR X (YO .Gt) (rI0 λi j=>.bl (decide (j<i))):=xx λ_ _ _ _ _ _ _ q=>gt_int q
theorem uB:OpR X (YO .IsNot) (λx y H Q=>y=.non/\Q (.bl (!decide (x=.non))) H):=by
 intro Y s σ H x y v u Q I rx ry h;obtain⟨rfl,q⟩:=h;cases ry;refine isnot_none_gen (bB I q ?_)
 cases x <;> first
  |(cases rx;rfl)
  |(obtain⟨t,rfl⟩:=rx;rfl)
theorem aO(b:XD)(h:op≠.In:=by decide)(h2:op≠.NotIn:=by decide):behindInMarks op b=false:=by
 have e1:(op == CmpOp.In)=false:=by cases op <;> first|rfl|exact g! rfl h
 have e2:(op == CmpOp.NotIn)=false:=by cases op <;> first|rfl|exact g! rfl h2
 cases b <;> simp[behindInMarks,e1,e2]
theorem rb{r:R2}(ho:OpR X (YO op) r)(ha:PE X a ta)(hb:PE X b tb)(hm:behindInMarks op b=D?):PE X (.Compare a [op] [b] pos) (tOp r ta tb):=by
 intro Y s σ H Q I h;exact wpAny_Compare1 (xh ha hb I h λv u s2 x y H2 I2 rx ry q=>ho Y s2 σ H2 x y v u Q I2 rx ry q) hm
inductive vH(x:V)(Q:Bool->Hp->Prop)(H':Hp):Prop
 |mk (k:Bool) (Bb:x=.bl k) (Bc:Q k H'):vH x Q H'
def mV(t:TE):TT:=λσ H Q=>t σ H λx H'=>vH x Q H'
theorem aG{r:R2}(ho:OpR X (YO op) r)(ha:PE X a ta)(hb:PE X b tb)(hm:behindInMarks op b=D?):PT X (.Compare a [op] [b] pos) (mV (tOp r ta tb)):=by
 intro Y s σ H Q I h
 refine wpAny_isTrue_Compare1 (thn (ha Y s σ H _ I h) λv s1⟨x,H1,I1,r1,q1⟩=>thn (hb Y s1 σ H1 _ I1 q1) λu s2⟨y,H2,I2,r2,q2⟩ =>
  thn (ho Y s2 σ H2 x y v u _ I2 r1 r2 q2) λc s3⟨z,H3,I3,r3,k,e,q3⟩=>?_) hm
 subst e;cases r3;exact ZU ⟨H3,I3,q3⟩
def wG(r r':R2)(ta tb tc:TE):TE:=λσ H Q=>ta σ H λx H1=>tb σ H1 λy H2=>r x y H2 λz H3=>∃k,z=.bl k /\
 (if k=C? then tc σ H3 λw' H4=>r' y w' H4 Q else Q (.bl D?) H3)
theorem uc{L3:CmpOp}{r r':R2}(ho:OpR X (YO op) r)(Bt:OpR X (YO L3) r')(ha:PE X a ta)(hb:PE X b tb)(hc:PE X c tc)
 (hm:lastMarks [op,L3] [b,c]=false:=by with_unfolding_all rfl):PT X (.Compare a [op,L3] [b,c] pos) (mV (wG r r' ta tb tc)):=by
 intro Y s σ H Q I h
 refine isTrue_chain (thn (ha Y s σ H _ I h) λv s1⟨x,H1,I1,r1,q1⟩=>test_link (thn (hb Y s1 σ H1 _ I1 q1) λu s2⟨y,H2,I2,r2,q2⟩ =>
  thn (ho Y s2 σ H2 x y v u _ I2 r1 r2 q2) λd s3⟨z,H3,I3,r3,k,e,q3⟩=>?_)) hm
 subst e;cases r3;refine ZU ?_;cases k with
 | false =>
   obtain⟨k',e',q'⟩:=q3;cases e';exact ite_ff ⟨H3,I3,q'⟩
 | true =>
   refine ite_tt (test_last (thn (hc Y s3 σ H3 _ I3 q3) λw' s4⟨z',H4,I4,r4,q4⟩=>thn (Bt Y s4 σ H4 y z' u w' _ I4 r2 r4 q4) λd' s5⟨z2,H5,I5,r5,k2,e2,q5⟩=>?_));subst e2;cases r5;exact ZU ⟨H5,I5,q5⟩
def yp(K:WJ)(x:V)(H:Hp)(k:Bool):Prop :=
 match x with
 |.non=>k=D?
 |.bl b=>k=b
 |.int i=>k=(i != 0)
 |.str y=>y.length<=W5/\k=((y.length:Int) != 0)
 |.byt y=>y.size<=W5/\k=((y.size:Int) != 0)
 |.ref p=>(∃xs,SqL K H p xs/\k=!xs.isEmpty)\/(∃xs,SqT K H p xs/\k=!xs.isEmpty)\/∃kvs,H p=A? (.dK kvs)/\k=!kvs.isEmpty
 |_=>False
theorem pO{kvs:List (κ×V)}(r:KV kvs vs):(!vs.isEmpty)=!kvs.isEmpty:=by
 cases r <;> rfl
theorem kJ(r:Vals xs its):(!its.toArray.isEmpty)=!xs.isEmpty:=by
 cases r <;> simp
theorem jD:(W5:Nat)<2 ^ 63:=by rw[ZX];decide
theorem wA:yy X (λx H Q=>∃k,yp X.K x H k/\Q k H):=by
 intro Y s σ H x v Q I rx h;obtain⟨k,e,q⟩:=h;have hl:=jD;have hs:W5=16777216:=ZX;cases x with
 | non =>
   cases rx;have e':k=false:=e;subst e';exact truthy_none ⟨H,I,q⟩
 | bl b =>
   cases rx;have e':k=b:=e;subst e';exact ZU ⟨H,I,q⟩
 | int i =>
   obtain⟨t,rfl⟩:=rx;have e':k=(i != 0):=e;subst e';exact PySem.P.truthy_int ⟨H,I,q⟩
 | str y =>
   obtain⟨t,rfl⟩:=rx;obtain⟨hy,e'⟩:y.length<=W5/\k=((y.length:Int) != 0):=e;subst e';exact PySem.P.truthy_str (by lia) {H,I.tok _,q}
 | byt y =>
   obtain⟨t,rfl⟩:=rx;obtain⟨hy,e'⟩:y.size<=W5/\k=((y.size:Int) != 0):=e;subst e';exact PySem.W.truthy_bytes (by lia) {H,I.tok _,q}
 | ref p =>
   cases rx;have e':(∃xs,SqL X.K H p xs/\k=!xs.isEmpty)\/(∃xs,SqT X.K H p xs/\k=!xs.isEmpty)\/∃kvs,H p=A? (.dK kvs)/\k=!kvs.isEmpty:=e;rcases e' with⟨xs,hx,e'⟩|⟨xs,hx,e'⟩|⟨kvs,hx,e'⟩
   .subst e';obtain⟨its,r,pl,hz⟩:=I.list hx;have hlen:=r.length;exact wpAny_truthy_list pl.isList (by simp only[WT];lia) {H,I.tok _,by rw[kJ r];exact q}
   .subst e';obtain⟨its,r,pl,hz⟩:=I.tuple hx;have hlen:=r.length;exact truthy_tuple pl (by simp only[WT];lia) {H,I.tok _,by rw[kJ r];exact q}
   .subst e';obtain⟨hz,hS,vs,r,m⟩:kvs.length<=W5/\(p == Yo)=D?/\∃vs,KV kvs vs/\s.1.DictOf (bD X.prog X.w) p vs:=I.hok p _ hx;have hlen:kvs.length=vs.length:=WS r;exact wpAny_truthy_dict hS m (by lia) {H,I.tok _,by rw[pO r];exact q}
 |_=>exact(show False from e).elim
theorem cP(ha:PE X a ta)(he:∀whole,isTrue a X.env whole=(do let v <-whole;standAt a.pos;holding [v] (truthy v))) :
 PT X a (λσ H Q=>ta σ H λx H'=>∃k,yp X.K x H' k/\Q k H'):=by
 intro Y s σ H Q I h;exact isTrue_plain (thn (ha Y s σ H _ I h) λv s1⟨x,H1,I1,r1,q1⟩=>wA Y s1 σ H1 x v Q I1 r1 q1) (he _)
theorem iJ:OpR X (Zc .Add) (λx y H Q=>∃i j,x=.str i/\y=.str j/\i.length+j.length<=W5/\Q (.str (i++j)) H):=by
 intro Y s σ H x y v u Q I rx ry h;obtain⟨i,j,rfl,rfl,hz,q⟩:=h;obtain⟨t,rfl⟩:=rx;obtain⟨t',rfl⟩:=ry;exact add_str (λt' tk=>{.str (i++j),H,I.tok _,{_,rfl},q}) hz
theorem vals1{x:V}(r:Vals [x] us):∃u,us=[u]/\RelV x u:=by
 cases r with
 |cons r1 r2=>cases r2;exact{_,E?,r1}
theorem vals2{x:V}(r:Vals [x,y] us):∃u w',us=[u,w']/\RelV x u/\RelV y w':=by
 cases r with
 | cons r1 r2 =>
   cases r2 with
   |cons r3 r4=>cases r4;exact{_,_,E?,r1,r3}
theorem ss(hc:X.calm=C?):iR X (.builtin "min") (λxs H Q=>∃i j,xs=[.int i,.int j]/\Q (.int (if j<i then j else i)) H):=by
 intro Y s σ H xs us Q I r h;obtain⟨i,j,rfl,q⟩:=h;obtain⟨u,w',rfl,⟨t,rfl⟩,⟨t',rfl⟩⟩:=vals2 r;refine min_two_ints (I.ok.hd hc) λh' tk k=>{_,H,I.kept k,?_,q};by_cases hj:j<i
 .rw[b! hj,b! hj];exact{_,E?}
 .rw[a! hj,a! hj];exact{_,E?}
end
end L2
variable{r:L2.R2}
namespace L2
open PySem PySem.Spec PyProof.Rows
structure ObjM(h:XT)(x dx C:Wx)(mA:W8->Option WA):Prop where
 obj:h.get? x=A? (Y9 C dx)
 ns:h.Ns1 dx mA
 ne:dx≠x
theorem rn{dx:Wx}{mA:W8->Option WA}(n:h.Ns1 dx mA):∃od,h.get? dx=A? od/\∀name,PySem.W.lookIn name od=A? (mA name):=by
 obtain⟨o,es,ep,ho,hd,hk,_,hm⟩:=n;refine{o,ho,λname=>?_};have e:=hm name;unfold nsFind findBy at e;rw[<-Array.find?_toList]at e;unfold PySem.W.lookIn;rw[hd];dsimp only;split
 .rename_i y q
  rw[q]at e;exact h! A? e
 .rename_i q
  rw[q]at e
  have a:es.toList.any (·.refKey)=false:=by
   rw[List.any_eq_false];intro y hy;obtain⟨z,t,Bm⟩:=hk y (Array.mem_toList_iff.mp hy);simp[DictEntry.refKey,Bm]
  have a':¬es.toList.any (·.refKey)=true:=by rw[a];exact W2
  rw[a! a'];exact h! A? e
theorem ObjM.look{x dx:Wx}{mA:W8->Option WA}(I:ObjM h x dx C mA):∃od,PySem.W.InstAt h x (Y9 C dx) C (A? od)/\∀name,PySem.W.lookIn name od=A? (mA name) :=
 let⟨od,ho,hl⟩:=rn I.ns
 {od,⟨I.obj,rfl,rfl,ho⟩,hl}
section
variable{x dx:Wx}{mA:W8->Option WA}{v:WA}
theorem get_map{expr:Bool}(X:K.In s.1)(I:ObjM s.1 x dx C mA)(hg:PySem.W.plainGet K C name=C?)(hh:PySem.W.hasDictIn K C=C?)
 (ha:Yv K (.ref C) name=A? B?) (hv:mA name=A? v) (Ct:PySem.W.handedIn v=C?) (h:Q v {s with toks:=s.toks+1}) :
 WZ (Xf prog w) A (getAttr (.ref x) name expr) Q E s:=by
 obtain⟨od,J,hl⟩:=I.look;exact PySem.W.get_value X J (PySem.W.plainGet_of hg).1 (PySem.W.findObj_own hh ha rfl (by rw[hl,hv])) Ct h
theorem tj{pl:Sem Bool}{Q:WA×List WA->WH->Prop}(X:K.In s.1)(I:ObjM s.1 x dx C mA)(hg:PySem.W.plainGet K C name=C?)
 (hf:Yv K (.ref C) name=A? (A? (.ref f))) (ht:PySem.W.isFn K (.ref f)=C?) (hv:mA name=B?) (h:Q (.ref f,[.ref x]) s) :
 WZ (Xf prog w) A (getMethod (.ref x) name pl) Q E s:=by
 obtain⟨od,J,hl⟩:=I.look;exact PySem.W.method_fn X J (PySem.W.plainGet_of hg).1 (PySem.W.plainGet_of hg).2 hf (beq_iff_eq.mp ht) (by show(PySem.W.lookIn name od).map (·.isSome)=A? D?;rw[hl,hv];rfl) h
theorem uC{ns:List W8}{Q:Unit->WH->Prop}(X:K.In s.1)(I:ObjM s.1 x dx C mA)
 (hs:Yv K (.ref C) "__setattr__"=A? (A? (.builtin "object.__setattr__"))) (hp:PySem.W.plainOver K C=C?) (ht:PySem.W.takerIn K C name=A? B?) (hh:PySem.W.hasDictIn K C=C?)
 (hw:PySem.Within mA ns) (hsz:ns.length<=W5)
 (h:∀h',ObjM h' x dx C (λy=>if y=name then A? v else mA y)->X3 dx s.1 h'->Q () {s with heap:=h',toks:=s.toks+2}) :
 WZ (Xf prog w) A (setAttr (.ref x) name v) Q E s:=by
 obtain⟨od,J,hl⟩:=I.look;refine PySem.W.set_plain X J hs (PySem.W.osa_open (s:={s with toks:=s.toks+1}) (r:=B?) X J hp ht λb=>?_);obtain⟨cd,hc,HR⟩:=PySem.W.any_some hh;have hx:s.1.get? x=A? {.ref C,A? dx,.plain,#[]}:=I.obj;refine Wu (WC (Wu (Wu (wpAny_loadPart hx (Wu (PySem.W.Looks.here (s:={s with toks:=s.toks+1}) (PySem.W.looks_clsIn X hc) ?_))))));rw[HR];refine WC (a:=A? dx) (Wu (WC (Wu ?_)));refine wpAny_nsSet1 (s:={s with toks:=s.toks+1}) I.ns λh' KO Pg=>?_;obtain⟨oD,VB,VC,Rx,Ry,Rz⟩:=KO.count (PySem.Within.cons name v hw);refine Wu (wpAny_lookBehind Rx (by rw[Ry];exact pastItsLine_dict (XB Rz (by rw[WV];lia))) ?_);exact WC (h _ {(Pg.2 _ (YB I.ne)).trans I.obj,KO,I.ne} Pg)
theorem sY{R:Result->WH->Prop}{vs:List WA}(X:K.In s.1)(hm:PySem.W.makesIn K C=C?)
 (hi:Yv K (.ref C) "__init__"=A? (A? (.ref f))) (hf:PySem.W.typeIn K (.ref f)=A? (.type "function"))
 (h:ZV (Xf prog w) (A.under (.builtin "type.__call__" {.ref C::vs,kw})) (.call (.ref f) {.ref (s.1.1.size+1)::vs,kw}) (PySem.W.InitBack (s.1.1.size+1) R)
  {s with heap:=(s.1.push YE).push (Y9 C s.1.1.size)}) :
 ZV (Xf prog w) A (.call (.ref C) ⟨vs,kw⟩) R s:=by
 obtain⟨hh,g,d,t,os⟩:=s;exact PySem.W.make_core (PySem.W.makes_of X hm) (PySem.W.looks_findIn X hi) (λself=>PySem.W.bind_fn X self hf) (.inl rfl) h
end
def aP(f:W8)(v:V):List (W8×V)->List (W8×V)
 | []=>[(f,v)]
 |(g,x)::r=>if g=f then(g,v)::r else(g,x)::aP f v r
theorem jT(f g:W8)(v:V):∀fs:List (W8×V),(aP f v fs).lookup g=if g=f then A? v else fs.lookup g
 | []=>by
   show List.lookup g [(f,v)]=_;by_cases h:g=f
   .have hb:(g == f)=true:=beq_iff_eq.mpr h;simp only[List.lookup,hb,b! h]
   .have hb:(g == f)=false:=beq_eq_false_iff_ne.mpr h;simp only[List.lookup,hb,a! h]
 | (k,x)::r=>by
   have ih:=jT f g v r;rw[show aP f v ((k,x)::r)=(if k=f then(k,v)::r else(k,x)::aP f v r)from rfl];by_cases hk:k=f
   .rw[b! hk];by_cases h:g=k
    .have hb:(g == k)=true:=beq_iff_eq.mpr h;simp only[List.lookup,hb,b! (h.trans hk)]
    .have hb:(g == k)=false:=beq_eq_false_iff_ne.mpr h;simp only[List.lookup,hb,a! (λe:g=f=>h (e.trans hk.symm))]
   .rw[a! hk];by_cases h:g=k
    .have hb:(g == k)=true:=beq_iff_eq.mpr h;simp only[List.lookup,hb,a! (λe:g=f=>hk (h.symm.trans e))]
    .have hb:(g == k)=false:=beq_eq_false_iff_ne.mpr h;simp only[List.lookup,hb];exact ih
theorem jA(f:W8)(v:V):∀fs:List (W8×V),f∈(aP f v fs).map (·.1)/\∀g,g∈fs.map (·.1)->g∈(aP f v fs).map (·.1)
 | []=>{by simp[aP],λg h=>by simp at h}
 | (k,x)::r=>by
   obtain⟨i1,i2⟩:=jA f v r;rw[show aP f v ((k,x)::r)=(if k=f then(k,v)::r else(k,x)::aP f v r)from rfl];by_cases hk:k=f
   .rw[b! hk];subst hk;exact{by simp,λg h=>by simpa using h}
   .rw[a! hk];refine{?_,λg h=>?_}
    .rw[W9];exact WR _ i1
    .rw[W9]at h |-;rcases WW.mp h with e|e
     .exact WW.mpr (.inl e)
     .exact WR _ (i2 g e)
theorem jY(f:W8)(v:V):∀fs:List (W8×V),(aP f v fs).length<=fs.length+1
 | []=>by simp[aP]
 | (k,x)::r=>by
   have ih:=jY f v r;rw[show aP f v ((k,x)::r)=(if k=f then(k,v)::r else(k,x)::aP f v r)from rfl];by_cases hk:k=f
   .rw[b! hk,WV,WV];lia
   .rw[a! hk,WV,WV];lia
theorem RelO.some_of{o:Option WA}(r:RelO (A? v) o):∃u,o=A? u/\RelV v u:=by
 cases o with
 |none=>exact(show False from r).elim
 |some u=>exact⟨u,E?,r⟩
theorem RelO.none_of{o:Option WA}(r:RelO B? o):o=none:=by
 cases o with
 |none=>rfl
 |some u=>exact(show False from r).elim
theorem rB(r:RelV v u):PySem.W.handedIn u=true:=by
 cases v with
 |non=>cases(show u=Yb from r);rfl
 |bl b=>cases(show u=Value.bool b from r);rfl
 |int i=>obtain⟨t,e⟩:=(show∃t,u=Value.int i t from r);cases e;rfl
 |str x=>obtain⟨t,e⟩:=(show∃t,u=Value.str x t from r);cases e;rfl
 |byt b=>obtain⟨t,e⟩:=(show∃t,u=Value.bytes b t from r);cases e;rfl
 |flt b=>obtain⟨t,e⟩:=(show∃t,u=Value.float b t from r);cases e;rfl
 |ref a=>cases(show u=Xs a from r);rfl
 |ty n=>cases(show u=ZM n from r);rfl
section
variable{dx:Wx}{fs Rr:List (W8×V)}
theorem nY(hok:HOk P w H h)(e:H a=A? (.ins C dx fs)):∃mA,ObjM h a dx C mA/\(∀f,RelO (fs.lookup f) (mA f))/\PySem.Within mA (fs.map (·.1))/\fs.length<=1000/\H dx=A? (.own a):=by
 obtain⟨d,z,ne,ob,mA,n,r,q⟩:=(show ObjOk P w H h a (.ins C dx fs)from hok a _ e);exact{mA,⟨ob,n,ne⟩,r,q,z,d}
end
structure Cls(K:WJ)(C:Wx):Prop where
 pg:PySem.W.plainGet K C Str.empty=C?
 hd:PySem.W.hasDictIn K C=C?
 po:PySem.W.plainOver K C=C?
 sa:Yv K (.ref C) "__setattr__"=A? (A? (.builtin "object.__setattr__"))
theorem Cls.get(c:Cls K C)(f:W8):PySem.W.plainGet K C f=true:=c.pg
def NoAttr(K:WJ)(C:Wx)(f:W8):Prop:=Yv K (.ref C) f=A? B?
theorem NoAttr.taker{f:W8}(n:NoAttr K C f):PySem.W.takerIn K C f=A? none:=by
 unfold PySem.W.takerIn;rw[show Yv K (.ref C) f=A? B? from n];rfl
structure Meth(K:WJ)(C:Wx)(m:W8)(f:Wx):Prop where
 at_:Yv K (.ref C) m=A? (A? (.ref f))
 fn:PySem.W.isFn K (.ref f)=C?
 kp:Zm K (.ref f)=C?
section
variable{X:Cx}{dx:Wx}{fs:List (W8×V)}{f:W8}
theorem qj{b:Bool}(I:Inv X Y σ H s)(e:H a=A? (.ins C dx fs))(c:Cls X.K C)(n:NoAttr X.K C f)(l:fs.lookup f=A? v)
 (h:∀u s',Inv X Y σ H s'->RelV v u->Q u s'):WZ (Xf X.prog X.w) A (getAttr (.ref a) f b) Q E s:=by
 obtain⟨mA,O,r,_,_,_⟩:=nY I.hok e;obtain⟨u,hu,ru⟩:=RelO.some_of (v:=v) (o:=mA f) (by rw[<-l];exact r f);exact get_map I.kIn O (c.get f) c.hd n hu (rB ru) (h u _ (I.tok _) ru)
theorem ki{m:W8}{g:Wx}{pl:Sem Bool}{Q:WA×List WA->WH->Prop}(I:Inv X Y σ H s)(e:H a=A? (.ins C dx fs))(c:Cls X.K C)(k:Meth X.K C m g)(l:fs.lookup m=B?)
 (h:Q (.ref g,[.ref a]) s):WZ (Xf X.prog X.w) A (getMethod (.ref a) m pl) Q E s:=by
 obtain⟨mA,O,r,_,_,_⟩:=nY I.hok e;have hn:mA m=none:=RelO.none_of (by rw[<-l];exact r m);exact tj I.kIn O (c.get m) k.at_ k.fn hn h
theorem pD{Q:Unit->WH->Prop}(I:Inv X Y σ H s)(e:H a=A? (.ins C dx fs))(c:Cls X.K C)(n:NoAttr X.K C f)(hl:fs.length<1000)(ry:RelV y u)
 (h:∀s',Inv X Y σ (upd H a (.ins C dx (aP f y fs))) s'->Q () s'):WZ (Xf X.prog X.w) A (setAttr (.ref a) f u) Q E s:=by
 obtain⟨mA,O,r,wi,_,ho⟩:=nY I.hok e;have hz:(fs.map (·.1)).length<=W5:=by rw[Wt,ZX];lia
 refine uC I.kIn O c.sa c.po n.taker c.hd wi hz λh' O' sb=>h _ ?_;have hd:∃o,h'.get? dx=A? o:=let⟨o,_,_,e',_⟩:=O'.ns;⟨o,e'⟩
 refine I.write (x:=a) (e:=dx) (by rw[e];exact True.intro) (.inr ho) (λb q hb z=>(sb.2 b hb).trans z) hd ?_;refine{by rw[aj O.ne];exact ho,?_,O.ne,O'.obj,_,O'.ns,λg=>?_,λg hg=>?_}
 .have:=jY f y fs;lia
 .show RelO ((aP f y fs).lookup g) (if g=f then A? u else mA g);rw[jT];by_cases q:g=f
  .rw[b! q,b! q];exact ry
  .rw[a! q,a! q];exact r g
 .by_cases q:g=f
  .rw[q];exact(jA f y fs).1
  .refine(jA f y fs).2 g (wi g λz=>hg ?_);show(if g=f then A? u else mA g)=B?;rw[a! q];exact z
theorem Inv.made(I:Inv X Y σ H s):Inv X Y σ (upd (upd H s.1.1.size (.own (s.1.1.size+1))) (s.1.1.size+1) (.ins C s.1.1.size []))
 {s with heap:=(s.1.push YE).push (Y9 C s.1.1.size)}:=by
 have e1:(s.1.push YE).get? s.1.1.size=A? YE:=WO s.1 rfl
 have e2:((s.1.push YE).push (Y9 C s.1.1.size)).get? (s.1.1.size+1)=A? (Y9 C s.1.1.size):=by
  have:=WO (s.1.push YE) (o:=Y9 C s.1.1.size) rfl
  rwa [XZ]at this
 have e3:(s.1.push YE).Ns s.1.1.size (λ_=>B?):={YE,#[],_,e1,rfl,(λe he=>g! he (by simp)),λ_=>rfl};have I1:=I.laid (a:=s.1.1.size) (o:=.own (s.1.1.size+1)) (h':=s.1.push YE) (t':=s.toks) (λb u q=>WB _ q) (WD _) {_,e1};refine I1.laid (a:=s.1.1.size+1) (o:=.ins C s.1.1.size []) (t':=s.toks) (λb u q=>WB _ q) (Nat.le_of_eq (XZ _ _)) ?_;have ne:s.1.1.size≠s.1.1.size+1:=Xn (Nat.lt_succ_self _);refine{by rw[aj ne,af],Xo _,ne,e2,λ_=>B?,(Heap.Ns1.of_empty e3).at λo q=>WB _ q,λ_=>True.intro,λy hy=>g! rfl hy}
theorem uE{e:XD}{f:W8}(hb:attributeBase e f env (YC e env)=YC e env)
 (h:WZ (Xf prog w) A (YC e env) (λo l'=>WZ (Xf prog w) A (getAttr o f C?) Q E l') E s):WZ (Xf prog w) A (YC (.Attribute e f pos) env) Q E s :=
 Attribute_any_ h (by rw[arm_eval_Attribute,hb])
end
def xT(K:WJ)(ta:TE)(f:W8):TE:=λσ H Q=>ta σ H λx H1=>∃a C dx fs v,x=.ref a/\H1 a=A? (.ins C dx fs)/\Cls K C/\NoAttr K C f/\fs.lookup f=A? v/\Q v H1
def yU(K:WJ)(ta tv:TE)(f:W8):TS:=λD σ H=>tv σ H λy H1=>ta σ H1 λx H2=>∃a C dx fs,x=.ref a/\H2 a=A? (.ins C dx fs)/\Cls K C/\NoAttr K C f/\fs.length<1000 /\
 D.nx σ (upd H2 a (.ins C dx (aP f y fs)))
section
variable{X:Cx}{o e value:XD}{f:W8}{L4:ZD}{ta tv:TE}
theorem bF(he:PE X e ta)(hb:attributeBase e f X.env (YC e X.env)=YC e X.env):PE X (.Attribute e f pos) (xT X.K ta f):=by
 intro Y s σ H Q I h;refine uE hb (thn (he Y s σ H _ I h) λu s1⟨x,H1,I1,rx,a,C,dx,fs,v,ex,ea,c,n,l,q⟩=>?_);subst ex;obtain rfl:u=Xs a:=rx;exact qj I1 ea c n l λu' s2 I2 ru=>⟨v,H1,I2,ru,q⟩
theorem gH(ha:PE X o ta)(hv:PE X value tv)(hs:swapsWith value (A? (.Attribute o f pos')) pos.line X.env=pure D?):PS X (.Assign [.Attribute o f pos'] value pos) (yU X.K ta tv f):=by
 intro Y s σ H D I h;refine plainObj_wpAny_Assign_Attribute (thn (hv Y s σ H _ I h) λu s1⟨y,H1,I1,ry,q⟩=>thn (ha Y s1 σ H1 _ I1 q) λov s2⟨x,H2,I2,rx,a,C,dx,fs,ex,ea,c,n,l,q2⟩=>?_) hs;subst ex;obtain rfl:ov=Xs a:=rx;exact pD I2 ea c n l ry λs3 I3=>{σ,_,I3,q2}
end
section
variable{X:Cx}{c:WA}{b:Bool}
end
structure Room(k:Nat)(A:Xv):Prop where
 hd:A.handled=B?
 dp:A.depth+3 * k+5<recursionLimit
 un:A.units+16 * k+200<ZY
theorem Room.mono{k:Nat}(r:Room k A)(h:j<=k):Room j A:={r.hd,by have:=r.dp;lia,by have:=r.un;lia}
theorem Room.deeper{k:Nat}(r:Room (k+1) A)(env:Env):Room k (A.deeper env) :=
 {r.hd,by have:=r.dp;show A.depth+1+3 * k+5<_;lia,by have:=r.un;show A.units+3+16 * k+200<_;lia}
theorem Room.in1{k:Nat}(r:Room (k+1) A):Room k A.in1 :=
 {r.hd,by have:=r.dp;show A.depth+3 * k+5<_;lia,by have:=r.un;show A.units+1+16 * k+200<_;lia}
theorem pE:(A.under (.builtin "type.__call__" {.ref C::us,kw})).depth=A.depth+1:=by
 first|rfl|simp[Around.under,Code.weight,Code.isCreation,Code.isGuard,Code.isCaller,Code.frames,Code.isFrame,guardIds]
theorem qc:(A.under (.builtin "type.__call__" {.ref C::us,kw})).units=A.units+1:=by
 first|rfl|simp[Around.under,Code.cUnits,Code.frames,Code.isFrame]
theorem Room.make{k:Nat}(r:Room (k+1) A)(C:Wx)(us:List WA)(kw:List (W8×WA)):Room k (A.under (.builtin "type.__call__" {.ref C::us,kw})) :=
 {r.hd,by have:=r.dp;rw[pE];lia,by have:=r.un;rw[qc];lia}
theorem Room.depth{k:Nat}(r:Room k A):A.depth<recursionLimit:=by have:=r.dp;lia
theorem Room.units{k:Nat}(r:Room k A):A.units+64<ZY:=by have:=r.un;lia
def gm:TA:=λ_ H Q=>Q [] H
def bZ(ta:TE)(tr:TA):TA:=λσ H Q=>ta σ H λx H1=>tr σ H1 λxs H2=>Q (x::xs) H2
section
variable{X:Cx}{e:XD}{es:List XD}{te:TE}{t:TA}
theorem ae:PA X [] gm:=λ_ _ _ _ H Q I h=>Y0 {[],H,I,.nil,h}
theorem aa(ha:PE X e te)(hr:PA X es t)(hs:Xw (e::es) X.env=(D?,YC e X.env)::Xw es X.env:=by rfl):PA X (e::es) (bZ te t):=by
 intro pos Y s σ H Q I h;rw[hs];show WZ _ _ (spliced ((D?,YC e X.env)::Zr pos (Xw es X.env))) _ _ s;refine YD (thn (ha Y s σ H _ I h) λu s1⟨x,H1,I1,r1,q1⟩=>?_);exact thn (hr pos Y s1 σ H1 _ I1 q1) λus s2⟨xs,H2,I2,r2,q2⟩=>{x::xs,H2,I2,.cons r1 r2,q2}
def xQ(t:TA):TE:=λσ H Q=>t σ H λxs H1=>xs.length<=W5/\∀p,H1 p=B?->Q (.ref p) (upd H1 p (.tup xs))
def sV(t:TA):TE:=λσ H Q=>t σ H λxs H1=>xs.length<=W5/\∀p,H1 p=B?->Q (.ref p) (upd H1 p (.lst xs))
theorem bg{x1}(h:PA X es t):PE X (.Tuple es x1 pos) (xQ t):=by
 intro Y s σ H Q I hq;refine wpAny_Tuple_spliced (thn (h pos Y s σ H _ I hq) λus s1⟨xs,H1,I1,r,z,q⟩=>{by rw[<-r.length];exact z,?_});have hf:H1 s1.1.1.size=none:=I1.hok.fresh (WD _);refine{.ref s1.1.1.size,upd H1 s1.1.1.size (.tup xs),I1.laid (t':=s1.toks) (λb u e=>WB _ e) (WD _) ?_,E?,q _ hf};exact{z,us,0,r,WO _ rfl}
theorem bE(h:PA X es t):PE X (.List es pos) (sV t):=by
 intro Y s σ H Q I hq;refine wpAny_List_spliced (thn (h pos Y s σ H _ I hq) λus s1⟨xs,H1,I1,r,z,q⟩=>{by rw[<-r.length];exact z,?_});have hf:H1 s1.1.1.size=none:=I1.hok.fresh (WD _);refine{.ref s1.1.1.size,upd H1 s1.1.1.size (.lst xs),I1.laid (t':=s1.toks) (λb u e=>WB _ e) (WD _) ?_,E?,q _ hf};exact{z,us,0,r,WO _ rfl}
end
abbrev Sp:=List V->Hp->VK->XK->Prop
abbrev CXT:=List Env->Hp->WH->XK->WA->WH->Prop
structure Env0(P:Xa)(w:Xq)(K:WJ)(mg:W8->Option WA)(base:XT)(A:Xv)(outer:List Env)(s:WH)(H:Hp):Prop where
 frames:A.frames=A? outer
 mod:Mod K mg base
 bs:∀b o,base.get? b=A? o->s.1.get? b=A? o/\H b=B?
 bsz:base.objs.size<=s.1.1.size
 funs:s.1.FunFrames base outer
 frf:∀b∈frs outer,H b=B?
 hok:HOk P w H s.1
 bare:AllBare s.gens
def CE(outer:List Env)(P:Xa)(w:Xq)(H:Hp)(s:WH)(Q:VK)(u:WA)(s':WH):Prop :=
 ∃v H',s'.os=s.os/\AllBare s'.gens/\Un (frs outer) [] H H' s.1 s'.1/\HOk P w H' s'.1/\RelV v u/\Q v H'
def CR(CX:CXT)(outer:List Env)(P:Xa)(w:Xq)(H:Hp)(s:WH)(Q:VK)(E:XK)(r:Result)(s':WH):Prop :=
 match r with
 |.ok (.ret u)=>CE outer P w H s Q u s'
 |.ok _=>False
 |.error e=>CX outer H s E e s'
structure bv(P:Xa)(w:Xq)(K:WJ)(mg:W8->Option WA)(base:XT)(CX:CXT)(k:Nat)(f:Wx)(fd:Zg)(ps:List W8)(sp:Sp):Prop where
 len:∀vs H Q E,sp vs H Q E->vs.length=ps.length
 run:∀(A:Xv)(outer:List Env)(s:WH)(H:Hp)(args:Args)(us:List WA)(vs:List V)(Q:VK)(E:XK),Room k A->Env0 P w K mg base A outer s H->BindsTo s fd args (ps.zip us)->Vals vs us->sp vs H Q E ->
  ZV (Xf P w) A (.call (.ref f) args) (CR CX outer P w H s Q E) s
theorem Env0.make(e:Env0 P w K mg base A outer s H)(C:Wx)(us:List WA)(kw:List (W8×WA)) :
 Env0 P w K mg base (A.under (.builtin "type.__call__" {.ref C::us,kw})) outer s H:={by first|exact e.frames|(simpa[Around.under,Code.envs,Code.isFrame,pushEnvs]using e.frames),e.mod,e.bs,e.bsz,e.funs,e.frf,e.hok,e.bare}
theorem Env0.in1(e:Env0 P w K mg base A outer s H) :
 Env0 P w K mg base A.in1 outer s H:=⟨e.frames,e.mod,e.bs,e.bsz,e.funs,e.frf,e.hok,e.bare⟩
section
variable{X:Cx}
theorem Inv.env0(I:Inv X Y σ H s):Env0 X.prog X.w X.K X.mg X.base X.A X.stack s H :=
 {I.ok.frames,I.ok.mod,I.bs,XB I.ok.bsz I.sz,I.stack,I.stkFree,I.hok,I.bare}
theorem Inv.after{Q:VK}(I:Inv X Y σ H s)(h:CE X.stack X.prog X.w H s Q u s'):EP X Y σ Q u s':=by
 obtain⟨v,H',os,bare,un,hok,r,q⟩:=h;obtain⟨hh,g,d,t,RA⟩:=s';obtain rfl:RA=s.os:=os;exact{v,H',I.call (h':=hh) (g':=g) (d':=d) (t':=t) (ch:=[]) un hok bare (λb z=>g! z (by simp)),r,q}
end
def gd(sp:Sp)(Ad:List V)(E:XK)(t:TA):TE:=λσ H Q=>t σ H λvs H1=>sp (vs++Ad) H1 Q E
def v9(C:Wx)(m:W8)(sp:Sp)(Ad:List V)(E:XK)(ta:TE)(t:TA):TE:=λσ H Q=>ta σ H λx H1=>∃a dx fs,x=.ref a/\H1 a=A? (.ins C dx fs)/\fs.lookup m=B? /\
 t σ H1 λvs H2=>sp (x::(vs++Ad)) H2 Q E
def xS(C:Wx)(sp:Sp)(Ad:List V)(E:XK)(t:TA):TE:=λσ H Q=>t σ H λvs H1=>∀x dx,H1 x=B?->H1 dx=B?->dx≠x ->
 sp (.ref x::(vs++Ad)) (upd (upd H1 dx (.own x)) x (.ins C dx [])) (λv H2=>v=.non/\Q (.ref x) H2) E
def Binds(K:WJ)(fd:Zg)(ps:List W8)(ds:List WA):Prop :=
 ∀(s:WH)(us:List WA),K.In s.1->(us++ds).length=ps.length->BindsTo s fd {us,[]} (ps.zip (us++ds))
theorem Binds.all(h:∀us:List WA,us.length=ps.length->bindArgs fd {us,[]}=pure (ps.zip us)):Binds K fd ps []:=λs us _ hl=>by
 rw[Z9]at hl |-;exact .of_eq (h us hl)
def Passes(CX:CXT)(X:Cx)(E:XK):Prop:=∀(Y:List (Wx×Yw))(σ:St)(H:Hp)(s:WH)(e:WA)(s':WH),Inv X Y σ H s->CX X.stack H s E e s'->X.xe e s'
section
variable{X:Cx}{CX:CXT}{k:Nat}{sp:Sp}{Ad:List V}{ds:List WA}{E:XK}{m:W8}{p apos:ZD}{e o:XD}{es:List XD}{ta:TE}{t:TA}
theorem pJ{Q:VK}{vs:List V}(F:bv X.prog X.w X.K X.mg X.base CX k f fd ps sp)(hr:Room k X.A)(hb:Binds X.K fd ps ds)(hd:Vals Ad ds)(hx:Passes CX X E)
 (I:Inv X Y σ H s) (r:Vals vs us) (h:sp (vs++Ad) H Q E):WZ (Xf X.prog X.w) X.A (call (.ref f) us) (EP X Y σ Q) X.xe s:=by
 have r2:Vals (vs++Ad) (us++ds):=r.append hd;have hl:(us++ds).length=ps.length:=by rw[<-r2.length];exact F.len _ _ _ _ h
 refine wpAny_call (codeAny_mono (F.run X.A X.stack s H {us,[]} (us++ds) (vs++Ad) Q E hr I.env0 (hb s us I.kIn hl) r2 h) λr s' hq=>?_);cases r with
 |error e=>exact hx Y σ H s e s' I hq
 | ok fl =>
   cases fl with
   |ret u=>exact I.after hq
   |next=>exact Yz hq
   |brk=>exact Yz hq
   |cont=>exact Yz hq
theorem da(F:bv X.prog X.w X.K X.mg X.base CX k f fd ps sp)(hr:Room k X.A)(hg:Gl X x)(hm:X.mg x=A? (.ref f))(hk:Zm X.K (.ref f)=C?)(hb:Binds X.K fd ps ds)(hd:Vals Ad ds)(hx:Passes CX X E)
 (ha:PA X (e::es) t) (Dr:(x == ("__debug__":W8))=false:=by decide) (he:Xw (e::es) X.env=(D?,YC e X.env)::Xw es X.env:=by rfl) (Aq:(Zr pos (Xw es X.env)).any (·.1)=false:=by rfl) :
 PE X (.Call (.Name x p) (e::es) [] pos) (gd sp Ad E t):=by
 intro Y s σ H Q I h;refine X2 (iZ I hg hm ?_ Dr);refine PySem.W.callWith_K (h₀:=X.base) I.ok.mod.kin hk (thn (ha pos Y s σ H _ I h) λus s1⟨vs,H1,I1,r,q⟩=>{I1.kIn,?_}) he Aq;exact pJ F hr hb hd hx I1 r q
theorem fK{pl:Sem Bool}(he:PE X o ta)(c:Cls X.K C)(hm:Meth X.K C m f)(F:bv X.prog X.w X.K X.mg X.base CX k f fd ps sp)(hr:Room k X.A)(hb:Binds X.K fd ps ds)(hd:Vals Ad ds)(hx:Passes CX X E)(ha:PA X (e::es) t)
 (zG:Xw (e::es) X.env=(D?,YC e X.env)::Xw es X.env:=by rfl) (Aq:(Zr pos (Xw es X.env)).any (·.1)=false:=by rfl)
 (ht:YC (.Call (.Attribute o m apos) (e::es) [] pos) X.env=(do
  let ov <-YC o X.env
  standAt apos.atName
  let(f,first) <-holding [ov] (getMethod ov m pl)
  callWith pos f first (Zr pos (Xw (e::es) X.env)) (backToKw pos (keywordEach [] X.env))):=by rfl) :
 PE X (.Call (.Attribute o m apos) (e::es) [] pos) (v9 C m sp Ad E ta t):=by
 intro Y s σ H Q I h;refine PySem.W.methodCall_KW (pl:=pl) (thn (he Y s σ H _ I h) λu s1⟨x,H1,I1,rx,a,dx,fs,ex,ea,l,q⟩=>?_) ht;subst ex;obtain rfl:u=Xs a:=rx;refine ki I1 ea c hm l ?_;refine PySem.W.callWith_K (first:=[.ref a]) (h₀:=X.base) I.ok.mod.kin hm.kp (thn (ha pos Y s1 σ H1 _ I1 q) λus s2⟨vs,H2,I2,r,q2⟩=>{I2.kIn,?_}) zG Aq;exact pJ (us:=.ref a::us) (vs:=.ref a::vs) F hr hb hd hx I2 (.cons rfl r) q2
theorem iP{pl:Sem Bool}(he:PE X o ta)(c:Cls X.K C)(hm:Meth X.K C m f)(F:bv X.prog X.w X.K X.mg X.base CX k f fd ps sp)(hr:Room k X.A)(hb:Binds X.K fd ps ds)(hd:Vals Ad ds)(hx:Passes CX X E)
 (ht:YC (.Call (.Attribute o m apos) [] [] pos) X.env=(do
  let ov <-YC o X.env
  standAt apos.atName
  let(f,first) <-holding [ov] (getMethod ov m pl)
  callWith pos f first (Zr pos (Xw [] X.env)) (backToKw pos (keywordEach [] X.env))):=by rfl) :
 PE X (.Call (.Attribute o m apos) [] [] pos) (v9 C m sp Ad E ta gm):=by
 intro Y s σ H Q I h;refine PySem.W.methodCall_KW (pl:=pl) (thn (he Y s σ H _ I h) λu s1⟨x,H1,I1,rx,a,dx,fs,ex,ea,l,q⟩=>?_) ht;subst ex;obtain rfl:u=Xs a:=rx;refine ki I1 ea c hm l ?_;exact PySem.W.callWith_K0 (first:=[.ref a]) I1.kIn hm.kp (pJ (us:=[.ref a]) (vs:=[.ref a]) F hr hb hd hx I1 (.cons rfl .nil) q)
structure Mk(K:WJ)(C f:Wx):Prop where
 makes:PySem.W.makesIn K C=C?
 init:Yv K (.ref C) "__init__"=A? (A? (.ref f))
 fn:PySem.W.isFn K (.ref f)=C?
 kp:Zm K (.ref C)=C?
theorem tU{Q:VK}{vs:List V}(M:Mk X.K C f)(F:bv X.prog X.w X.K X.mg X.base CX k f fd ps sp)(hr:Room (k+1) X.A)(hb:Binds X.K fd ps ds)(hd:Vals Ad ds)
 (hx:Passes CX X E) (I:Inv X Y σ H s) (r:Vals vs us)
 (h:∀x dx,H x=B?->H dx=B?->dx≠x->sp (.ref x::(vs++Ad)) (upd (upd H dx (.own x)) x (.ins C dx [])) (λv H2=>v=.non/\Q (.ref x) H2) E) :
 WZ (Xf X.prog X.w) X.A (call (.ref C) us) (EP X Y σ Q) X.xe s:=by
 have hq:=h (s.1.1.size+1) s.1.1.size (I.hok.fresh (Nat.le_succ _)) (I.hok.fresh (WD _)) (Xn (Nat.lt_succ_self _));have I2:=Inv.made (C:=C) I;have r2:Vals (j! (s.1.1.size+1)::(vs++Ad)) (Xs (s.1.1.size+1)::(us++ds)):=.cons rfl (r.append hd)
 have hl:(Xs (s.1.1.size+1)::us++ds).length=ps.length:=by
  have e:=r2.length;rw[F.len _ _ _ _ hq]at e;exact e.symm
 refine wpAny_call (sY (f:=f) I.kIn M.makes M.init (beq_iff_eq.mp M.fn) (codeAny_mono (F.run _ X.stack _ _ {Xs (s.1.1.size+1)::us,[]} (Xs (s.1.1.size+1)::(us++ds)) _ _ E (hr.make C us [])
  (I2.env0.make C us []) (hb _ (Xs (s.1.1.size+1)::us) I2.kIn hl) r2 hq) λr s' AE=>?_))
 cases r with
 |error e=>exact hx Y σ _ _ e s' I2 AE
 | ok fl =>
   cases fl with
   | ret u =>
     obtain⟨v,H',I3,rv,ev,q3⟩:=I2.after AE;subst ev;exact{rv,{j! (s.1.1.size+1),H',I3,E?,q3}}
   |next=>exact Yz AE
   |brk=>exact Yz AE
   |cont=>exact Yz AE
theorem qA(M:Mk X.K C f)(F:bv X.prog X.w X.K X.mg X.base CX k f fd ps sp)(hr:Room (k+1) X.A)(hg:Gl X x)(hm:X.mg x=A? (.ref C))(hb:Binds X.K fd ps ds)(hd:Vals Ad ds)(hx:Passes CX X E)
 (ha:PA X (e::es) t) (Dr:(x == ("__debug__":W8))=false:=by decide) (he:Xw (e::es) X.env=(D?,YC e X.env)::Xw es X.env:=by rfl) (Aq:(Zr pos (Xw es X.env)).any (·.1)=false:=by rfl) :
 PE X (.Call (.Name x p) (e::es) [] pos) (xS C sp Ad E t):=by
 intro Y s σ H Q I h;refine X2 (iZ I hg hm ?_ Dr);refine PySem.W.callWith_K (h₀:=X.base) I.ok.mod.kin M.kp (thn (ha pos Y s σ H _ I h) λus s1⟨vs,H1,I1,r,q⟩=>{I1.kIn,?_}) he Aq;exact tU M F hr hb hd hx I1 r q
end
section
variable{X:Cx}{CX:CXT}{k:Nat}{ks:List W8}{sp:Sp}{E:XK}{m:W8}{p apos RB:ZD}{e o:XD}{es:List XD}{VD:List Keyword}{te ta:TE}{t tk:TA}{nm:Option W8}
variable{g:List WA->List WA->List WA}{gV:List V->List V->List V}
end
structure b7(N P:List W8)(sc:Zs):Prop where
 kind:sc.kind=.function
 co:sc.isCoroutine=D?
 gen:sc.isGenerator=D?
 nd:N.Nodup
 pre:N.take P.length=P
 par:∀x∈P,sc.names.lookup x=A? .local\/sc.names.lookup x=A? .cell
 nofree:∀y∈sc.names,y.2≠.free
theorem mL:∀{binds:List (W8×WA)}{m:W8->Option WA},(∀v,(x,v)∉binds)->bindL kindOf binds m x=m x
 | [],_,_=>rfl
 | (n,v)::r,m,h=>by
   unfold bindL;rw[mL λw hw=>h w (WR _ hw)];split
   .have:x≠n:=by rintro rfl;exact h v WM
    simp[this]
   .rfl
theorem l7:∀{binds:List (W8×WA)}{m:W8->Option WA},(∀v,(x,v)∉binds)->bindC kindOf binds m x=m x
 | [],_,_=>rfl
 | (n,v)::r,m,h=>by
   unfold bindC;rw[l7 λw hw=>h w (WR _ hw)];split
   .rfl
   .have:x≠n:=by rintro rfl;exact h v WM
    simp[this]
theorem mF{v:WA}:∀{P:List W8}{vs:List WA}{i:Nat}{m:W8->Option WA},P.Nodup->P[i]?=A? x->vs[i]?=A? v->kindOf x=A? .local ->
 bindL kindOf (P.zip vs) m x=A? v
 | [],_,_,_,_,h,_,_=>by simp at h
 |_::_,[],_,_,_,_,h,_=>by simp at h
 | p::P,w::vs,0,m,nd,h1,h2,hk=>by
   simp at h1 h2;subst h1;subst h2;show bindL kindOf ((p,w)::P.zip vs) m p=_;unfold bindL;rw[mL λv hv=>(XH.mp nd).1 (Z5 hv).1,b! hk];simp
 | p::P,w::vs,i+1,m,nd,h1,h2,hk=>by
   show bindL kindOf ((p,w)::P.zip vs) m x=_;unfold bindL;exact mF (i:=i) (XH.mp nd).2 (by simpa using h1) (by simpa using h2) hk
theorem mJ{v:WA}:∀{P:List W8}{vs:List WA}{i:Nat}{m:W8->Option WA},P.Nodup->P[i]?=A? x->vs[i]?=A? v->kindOf x≠A? .local ->
 bindC kindOf (P.zip vs) m x=A? v
 | [],_,_,_,_,h,_,_=>by simp at h
 |_::_,[],_,_,_,_,h,_=>by simp at h
 | p::P,w::vs,0,m,nd,h1,h2,hk=>by
   simp at h1 h2;subst h1;subst h2;show bindC kindOf ((p,w)::P.zip vs) m p=_;unfold bindC;rw[l7 λv hv=>(XH.mp nd).1 (Z5 hv).1,a! hk];simp
 | p::P,w::vs,i+1,m,nd,h1,h2,hk=>by
   show bindC kindOf ((p,w)::P.zip vs) m x=_;unfold bindC;exact mJ (i:=i) (XH.mp nd).2 (by simpa using h1) (by simpa using h2) hk
def start(N:List W8)(vs:List V):St:=vs.map A?++Xx (N.length - vs.length) B?
def j2(CX:CXT)(P:Xa)(w:Xq)(K:WJ)(mg:W8->Option WA)(base:XT)(N:List W8)(qual:W8)(scope:Zs)(f:Wx)(cd:WA)(A:Xv)(outer:List Env)(s:WH)(H:Hp)(E:XK):Cx where
 prog:=P
 w:=w
 K:=K
 mg:=mg
 base:=base
 A:=A.deeper (Zp qual scope s.1.1.size f cd)
 N:=N
 s₀:=s
 H₀:=H
 env:=Zp qual scope s.1.1.size f cd
 outer:=outer
 stack:=Zp qual scope s.1.1.size f cd::outer
 ex:=[]
 calm:=C?
 fn:=λ_=>C?
 pn:=[]
 xe:=λe s'=>WZ (Xf P w) (A.deeper (Zp qual scope s.1.1.size f cd)) (leaving (Zp qual scope s.1.1.size f cd) e) (λ_ HY=>CX outer H s E e HY) (λe' HY=>CX outer H s E e' HY) s'
theorem oB(h:sc.names.lookup x=A? .cell):∃c,(cellsFrom n sc.names []).lookup x=A? c:=by
 have q:=PySem.W.cellsFrom_some sc.names n [] (.inl h);exact Option.isSome_iff_exists.mp q
theorem r9{CX:CXT}{cd:WA}{s1:WH}{E:XK}{vs:List V}
 (S:b7 N ps scope) (hd:A.handled=B?) (e0:Env0 P w K mg base A outer s H) (hl:vs.length=ps.length) (r:Vals vs us)
 (x:InCallC s s.1.1.size (bindL (Zp qual scope s.1.1.size f cd).kindOf (ps.zip us) λ_=>B?) (cellsFrom (s.1.1.size+1) scope.names []) (bindC (Zp qual scope s.1.1.size f cd).kindOf (ps.zip us) λ_=>B?) s1) :
 Inv (j2 CX P w K mg base N qual scope f cd A outer s H E) [] (start N vs) H s1:=by
 have Aq:ps.length<=N.length:=by have:=h! X9 S.pre;rw[Xy]at this;lia
 obtain⟨h1,tk,rfl,hk⟩:=x.done;have L5:∀b:Wx,b∉(j2 CX P w K mg base N qual scope f cd A outer s H E).ex:=λb z=>g! (show b∈([]:List Wx)from z) (by simp)
 refine{{e0.mod,S.kind,E?,E?,WD _,λy z c h1 h2=>?_,λy hy=>?_,λy c _ h=>?_,λ_=>hd,Around.frames_deeper e0.frames,.inr ⟨E?,E?⟩,λb z=>g! z (L5 b),e0.bs,e0.bsz,λb _ _=>L5 b,λb z=>g! z (L5 b),e0.funs,e0.frf},
  rfl,e0.bare,Un.kept hk,{_,x.toInCall.ns,λi y v h1 h2 h3=>?_},λy c h=>{_,x.cell y c h},e0.hok.fresh (WD _),λy c h=>?_,λp hp=>g! (show p∈([]:List (Wx×Yw))from hp) (by simp),e0.hok.kept hk,?_}
 .exact name_of_addr x.apart (Ys h1) (Ys h2)
 .have hy:scope.names.lookup y=A? .cell\/scope.names.lookup y=A? .free:=hy;rcases hy with hy|hy
  .exact oB hy
  .exact g! rfl (S.nofree _ (Ys hy))
 .exact Yj (x.above y c (Ys h))
 .have hi:i<vs.length:=by
   unfold start at h2;by_cases hi:i<vs.length
   .exact hi
   .rw[Xu (by simpa using hi)]at h2;rw[List.getElem?_replicate]at h2;split at h2 <;> cases h2
  have ha:vs[i]?=A? v:=by
   unfold start at h2;rw[Xk (by simpa using hi),Wz]at h2;cases e:vs[i]? with
   |none=>rw[e]at h2;cases h2
   |some a=>rw[e]at h2;cases h2;rfl
  obtain⟨u,hu,rv⟩:=r.get ha
  have hp:ps[i]?=A? y:=by
   rw[<-S.pre,List.getElem?_take_of_lt (by lia)];exact h1
  have KP:ps.Nodup:=by rw[<-S.pre];exact S.nd.sublist (List.take_sublist _ _)
  refine{u,rv,?_};rcases S.par y (Ww hp)with k|k
  .exact .inl {k,mF KP hp hu k}
  .obtain⟨c,e⟩:=oB (n:=s.1.1.size+1) k;refine .inr {.inl k,c,e,?_};have q:=x.cell y c e;rw[mJ KP hp hu (by show scope.names.lookup y≠_;rw[k];decide)]at q;exact q
 .exact e0.hok.fresh (Yj (x.above y c (Ys h)))
 .unfold start;show _=N.length;rw[WL,Wt,List.length_replicate];lia
theorem t7{CX:CXT}{k:Nat}{dV kV doc pm y9 ct oc:WA}{an od:Option Wx}
 {Ed:Array (Option WA)} {sp:Sp} (lk:K.lookup f=A? {oc,od,.func (PySem.W.fnOf name qual params body scope dV kV doc pm an y9 ct),Ed}) (AO:PySem.W.codeIn K y9 qual=C?) (S:b7 N ps scope)
 (len:∀vs H Q E,sp vs H Q E->vs.length=ps.length)
 (zH:∀(A:Xv)(outer:List Env)(s:WH)(H:Hp)(vs:List V)(Q:VK)(E:XK),Room k (A.deeper (Zp qual scope s.1.1.size f y9))->sp vs H Q E ->
  ∃t,PSs (j2 CX P w K mg base N qual scope f y9 A outer s H E) body t/\t {nx:=λ_ H'=>Q .non H',rt:=Q} (start N vs) H) :
 bv P w K mg base CX (k+1) f (PySem.W.fnOf name qual params body scope dV kV doc pm an y9 ct) ps sp:=by
 refine{len,λA outer s H args us vs Q E hr e0 hb r AQ=>?_};have hl:=len _ _ _ _ AQ;have KX:K.In s.1:=e0.mod.kin.keeps λb o e=>(e0.bs b o e).1;have lim:s.1.NoLimit:=e0.mod.nolimit.keeps λb o e=>(e0.bs b o e).1
 have HZ:∀y∈ps.zip us,scope.names.lookup y.1=A? .local\/(scope.names.lookup y.1=A? .cell/\((cellsFrom (s.1.1.size+1) scope.names []).lookup y.1).isSome=C?):=λ⟨n,v⟩hy=>by
  rcases S.par n (Z5 hy).1 with q|q
  .exact .inl q
  .exact .inr {q,PySem.W.cellsFrom_some _ _ _ (.inl q)}
 refine codeAny_call_function hr.depth (KX _ _ lk) rfl S.co S.gen rfl (PySem.W.codeRec_of KX AO) (hb _ _ _ _ ?_);refine wpAny_newFunctionEnv_cells S.kind HZ λenv he s1 x=>?_;subst he;refine{lim.keeps x.toInCall.keep,codeAny_func ?_};obtain⟨t,ht,hq⟩:=zH A outer s H vs Q E (hr.deeper _) AQ;have I:Inv (j2 CX P w K mg base N qual scope f y9 A outer s H E) [] (start N vs) H s1:=r9 S hr.hd e0 hl r x;refine Yn (ht [] s1 (start N vs) H _ I hq) (λfl s' hs=>?_) λe s' hs=>hs
 have fin:∀{i':St}{H':Hp}{v:V}{u:WA},Inv (j2 CX P w K mg base N qual scope f y9 A outer s H E) [] i' H' s'->RelV v u->Q v H'->CE outer P w H s Q u s' :=
  λ{i' H' v u}J rv q=>⟨v,H',J.os,J.bare,J.base,J.hok,rv,q⟩
 cases fl with
 | ret u =>
   obtain⟨v,i',H',J,rv,q⟩:=hs;exact fin J rv q
 | next =>
   obtain⟨i',H',J,q⟩:=hs;exact fin (v:=V.non) (u:=Yb) J rfl q
 | brk =>
   obtain⟨_,_,_,q⟩:=hs;exact Yz q
 | cont =>
   obtain⟨_,_,_,q⟩:=hs;exact Yz q
end L2
variable{CX:L2.CXT}{sp:L2.Sp}
namespace L2
open PySem PySem.Spec PyProof.Rows
section
variable{X:Cx}{p:ZD}{e:XD}{es:List XD}{t:TA}{id T:String}{r:List V->Hp->VK->Prop}
def tCB(r:List V->Hp->VK->Prop)(t:TA):TE:=λσ H Q=>t σ H λvs H1=>r vs H1 Q
theorem aB(hc:iR X (.builtin id) r)(hg:Gl X x)(hm:X.mg x=B?)(hv:bootBuiltins x=A? (.builtin id))(ha:PA X (e::es) t)(hn:x≠"__name__":=by decide)(Dr:(x == ("__debug__":W8))=false:=by decide)
 (he:Xw (e::es) X.env=(D?,YC e X.env)::Xw es X.env:=by rfl) (Aq:(Zr pos (Xw es X.env)).any (·.1)=false:=by rfl):PE X (.Call (.Name x p) (e::es) [] pos) (tCB r t):=by
 intro Y s σ H Q I h;refine X2 (ej I hg hm hv ?_ hn Dr);exact PyProof.Rows.callWith_builtin1 (thn (ha pos Y s σ H _ I h) λus s1⟨vs,H1,I1,r1,q1⟩=>hc Y s1 σ H1 vs us Q I1 r1 q1) he Aq
theorem bR(hc:iR X (.type T) r)(hg:Gl X x)(hm:X.mg x=B?)(hv:bootBuiltins x=A? (.type T))(ha:PA X (e::es) t)(hn:x≠"__name__":=by decide)(Dr:(x == ("__debug__":W8))=false:=by decide)
 (he:Xw (e::es) X.env=(D?,YC e X.env)::Xw es X.env:=by rfl) (Aq:(Zr pos (Xw es X.env)).any (·.1)=false:=by rfl):PE X (.Call (.Name x p) (e::es) [] pos) (tCB r t):=by
 intro Y s σ H Q I h;refine X2 (ej I hg hm hv ?_ hn Dr);exact XY (thn (ha pos Y s σ H _ I h) λus s1⟨vs,H1,I1,r1,q1⟩=>hc Y s1 σ H1 vs us Q I1 r1 q1) he Aq
end
end L2
namespace HT
open PySem PyProof.Rows
def lexLt:List Int->List Int->Bool
 | [],[]=>D?
 | [],_::_=>C?
 |_::_,[]=>D?
 |x::xs,y::ys=>if x=y then lexLt xs ys else decide (x<y)
theorem lexLt_cons(x y:Int)(xs ys:List Int):lexLt (x::xs) (y::ys)=if x=y then lexLt xs ys else decide (x<y):=rfl
theorem lexLt_nil_nil:lexLt [] []=false:=rfl
theorem lexLt_nil_cons(y:Int)(ys:List Int):lexLt [] (y::ys)=true:=rfl
theorem lexLt_cons_nil(x:Int)(xs:List Int):lexLt (x::xs) []=false:=rfl
theorem eqAt_int(A:Xv)(s:WH)(a:Int)(t:Tok)(c:Int)(u:Tok):∃e,SeqAt.EqAt A s (.int a t) (.int c u) e/\(e=C?↔a=c) :=
 {(a == c),SeqAt.EqAt.int_int a t c u,by simp}
theorem rcLt_int(A:Xv)(s:WH)(a:Int)(t:Tok)(c:Int)(u:Tok)(prog:Xa)(w:Xq)(E:WA->WH->Prop)(Q:WA->WH->Prop)(h:Q (.bool (decide (a<c))) s) :
 WZ (Xf prog w) A (richCompare .Lt (.int a t) (.int c u)) Q E s :=
 (PyProof.Rows.lt_int h:WZ (Xf prog w) A (YO .Lt (.int a t) (.int c u)) Q E s)
section
open PySem.SeqAt
open PySem.AutoSeq1 (wpAny_loadPart')
open PySem.MeetsSeq PySem.MeetsSeq2 PySem.MeetsSeq3
theorem tuple_lt_ints(l b:Wx)(items za:Array WA)(n n2:Nat)(dd Cu:Option Wx)(sl Cv:Array (Option WA))(ns ms:List Int)(hi:IntsAre items.toList ns)(hj:IntsAre za.toList ms) :
 Meets (Zx.«tuple.__lt__» {[.ref l,.ref b],[]})
  (λ_ R s=>s.1.get? l=A? {cls:=.type "tuple",dict:=dd,data:=.seq items n,slots:=sl}/\s.1.get? b=A? {cls:=.type "tuple",dict:=Cu,data:=.seq za n2,slots:=Cv} /\
   R (.ok (.ret (.bool (lexLt ns ms)))) s) :=
 .of_wp λprog w A R s h=>by
  obtain⟨hp,g,d,tk,os⟩:=s;obtain⟨hl,hb,h⟩:=h;have f2:=AutoSeq1.sub_tuple_tuple;have z1:items.size=ns.length:=by rw[<-hi.length];simp
  have z2:za.size=ms.length:=by rw[<-hj.length];simp
  wp_walk using wpAny_loadPart' hl,wpAny_loadPart' hb,wpAny_forIn_list _ (λrest b s'=>b.1=B?/\s'=⟨hp,g,d,tk,os⟩/\∃(vs ws:List WA)(GY GZ:List Int),rest=vs.zip ws /\
   IntsAre vs GY/\IntsAre ws GZ/\GY.length+za.size=GZ.length+items.size/\R (.ok (.ret (.bool (lexLt GY GZ)))) ⟨hp,g,d,tk,os⟩) _
  case turn =>
   rintro⟨y,x⟩ rest b s' ⟨zA,rfl,vs,ws,GY,GZ,hz,L6,KQ,hlen,hR⟩;cases L6 with
   |nil=>rw[List.zip_nil_left]at hz;cases hz
   | cons a t L7 =>
     cases KQ with
     |nil=>rw[List.zip_nil_right]at hz;cases hz
     | cons c u L8 =>
       rw[List.zip_cons_cons]at hz;injection hz with Ia BA;injection Ia with hy hx;subst hy hx;rw[lexLt_cons]at hR;simp only[WV]at hlen;obtain⟨e,he,Ib⟩:=eqAt_int A.in1 ⟨hp,g,d,tk,os⟩ a t c u;refine Wu (he prog w _ _ ?_);cases e with
       | true =>
         rw[b! (Ib.mp rfl)]at hR
         wp_walk
         exact{E?,E?,_,_,_,_,BA,L7,L8,by lia,hR}
       | false =>
         rw[a! (λq=>g! (Ib.mpr q) W2)]at hR;have Ic:=rcLt_int A.in1 ⟨hp,g,d,tk,os⟩ a t c u prog w
         wp_walk using Ic
         exact{_,E?,by simpa using hR}
  case fin =>
   rintro⟨b1,b2⟩ s' ⟨zA,rfl,vs,ws,GY,GZ,hz,L6,KQ,hlen,hR⟩;simp only at zA;subst zA
   have hv:lexLt GY GZ=decide (items.size<za.size):=by
    cases L6 with
    | nil =>
      cases KQ with
      | nil =>
        simp only[ZC]at hlen;rw[lexLt_nil_nil];exact(c! (by lia)).symm
      | cons c u hw =>
        simp only[ZC,WV]at hlen;rw[lexLt_nil_cons];exact(d! (by lia)).symm
    | cons a t hv =>
      cases KQ with
      | nil =>
        simp only[ZC,WV]at hlen;rw[lexLt_cons_nil];exact(c! (by lia)).symm
      | cons c u hw =>
        rw[List.zip_cons_cons]at hz;cases hz
   rw[hv]at hR
   wp_walk
   exact{_,E?,by simpa[Builtin.Tuple.tupleCompareSizes]using hR}
  case h =>
   exact{E?,E?,items.toList,za.toList,ns,ms,E?,hi,hj,by lia,h}
end
theorem lt_tupInts{za:Array WA}{ms:List Int}(hl:IsTup s.1 l items)(hb:IsTup s.1 b za)(hi:IntsAre items.toList ns)(hj:IntsAre za.toList ms)
 (hu:A.units<ZY) (h:Q (.bool (lexLt ns ms)) s):WZ (Xf prog w) A (YO .Lt (.ref l) (.ref b)) Q E s:=by
 obtain⟨⟨cls,dd,data,sl⟩,ho,hc,n,hd⟩:=id hl;obtain⟨⟨EC,Cu,data2,Cv⟩,CP,Be,n2,hd2⟩:=id hb;simp only at hc hd Be hd2;subst hc hd Be hd2
 exact richCompare_meets_room (op:=.Lt) {_,ho,rfl} {_,CP,rfl} PySem.F.slot_tuple_lt PySem.F.entry_tuple_lt (PySem.F.args_tuple_lt_2 _ _) (tuple_lt_ints l b items za n n2 dd Cu sl Cv ns ms hi hj)
  {ho,CP,show Value.bool (lexLt ns ms)≠Value.notImplemented/\Q (.bool (lexLt ns ms)) s from{(λx=>nomatch x),h}} hu
theorem cat_tup{t:Wx}{vs ws:List WA}(ht:IsTup s.1 t vs.toArray)(hb:IsTup s.1 b ws.toArray)(hv:vs≠[])
 (h1:ws=[]->Q (.ref t) s) (h2:ws≠[]->Q (.ref s.1.1.size) {s with heap:=s.1.push {cls:=.type "tuple",data:=.seq (vs++ws).toArray}})
 (hsz:vs.length+ws.length<=W5):WZ (Xf prog w) A (Zc .Add (.ref t) (.ref b)) Q E s:=by
 obtain⟨⟨cls,dd,data,sl⟩,ho,hc,n,hd⟩:=id ht;obtain⟨⟨EC,Cu,data2,Cv⟩,CP,Be,n2,hd2⟩:=id hb;simp only at hc hd Be hd2;subst hc hd Be hd2;have e:vs.toArray++ws.toArray=(vs++ws).toArray:=by simp
 by_cases hw:ws=[]
 .exact concat_meets {_,ho,rfl} {_,CP,rfl} noFill_tuple_add seq_tuple_add PySem.F.slot_tuple_add PySem.F.entry_tuple_add (PySem.F.args_tuple_add_2 _ _)
   (tuple_addW1 t b vs.toArray ws.toArray n n2 dd Cu sl Cv (by simpa using hv) (by simp[hw])) {ho,CP,h1 hw}
 .refine concat_meets {_,ho,rfl} {_,CP,rfl} noFill_tuple_add seq_tuple_add PySem.F.slot_tuple_add PySem.F.entry_tuple_add (PySem.F.args_tuple_add_2 _ _)
   (tuple_addW2 t b vs.toArray ws.toArray n n2 dd Cu sl Cv (by simpa using hv) (by simpa using hw) (by rw[WT,WT];exact hsz)) {ho,CP,?_}
  rw[e];exact h2 hw
def sIx(n d:Nat):Option Int->Nat
 |none=>d
 |some v=>if v<0 then(v+(n:Int)).toNat else min v.toNat n
theorem sIx_none(n d:Nat):sIx n d B?=d:=rfl
theorem sIx_nat(n d k:Nat):sIx n d (A? (k:Int))=min k n:=by
 show(if(k:Int)<0 then((k:Int)+(n:Int)).toNat else min (k:Int).toNat n)=min k n;rw[a! (by lia),WU]
theorem sIx_le(n d:Nat)(hd:d<=n)(o:Option Int):sIx n d o<=n:=by
 cases o with
 |none=>exact hd
 | some v =>
   show(if v<0 then(v+(n:Int)).toNat else min v.toNat n)<=n;by_cases hv:v<0
   .rw[b! hv];lia
   .rw[a! hv];exact Nat.min_le_right _ _
theorem clip_eq(v:Int)(n d:Nat):(if v<0 then max (v+(n:Int)) 0 else min v (n:Int))=((sIx n d (A? v):Nat):Int):=by
 show(if v<0 then max (v+(n:Int)) 0 else min v (n:Int))=(((if v<0 then(v+(n:Int)).toNat else min v.toNat n):Nat):Int);by_cases hv:v<0
 .simp only[b! hv];lia
 .simp only[a! hv];lia
theorem adjust_gen(lo hi:Option Int)(n:Nat):Zi lo hi 1 (n:Int)=(((sIx n 0 lo:Nat):Int),((sIx n n hi:Nat):Int)):=by
 have h1:¬((1:Int)<0):=by lia
 unfold Zi;simp only[h1,if_false];refine Prod.ext ?_ ?_
 .cases lo with
  |none=>rfl
  |some v=>exact clip_eq v n 0
 .cases hi with
  |none=>rfl
  |some v=>exact clip_eq v n n
theorem places_gen(i j:Nat):Yi (i:Int) (j:Int) 1=j - i:=by
 unfold Yi;have h1:(1:Int) > 0:=by lia
 simp only[h1,if_true,Int.ediv_one];split <;> lia
theorem slicePart_{v:WA}{o:Option Int}{Q:Option Int->WH->Prop}(p:IsPart v o)(h:Q o s):WZ (Xf prog w) A (Builtin.Slice.slicePartIndex v) Q E s:=by
 cases p with
 |none=>exact slicePart_none h
 |int i t=>exact slicePart_int h
theorem sliceApplied_gen{Q:Int×Int×Nat->WH->Prop}(hs:s.1.IsSliceOf sl vl vu .none)(pl:IsPart vl lo)(pu:IsPart vu hi)
 (h:Q (((sIx n 0 lo:Nat):Int),1,sIx n n hi - sIx n 0 lo) s):WZ (Xf prog w) A (Z3 (.ref sl) (pure (n:Int))) Q E s:=by
 obtain⟨os,BC,Fd,AF⟩:=id hs;unfold Z3 Builtin.Slice.sliceFields;refine Wu (Wu (XG BC AF (x:=vl) rfl (Wu (XG BC AF (x:=vu) rfl (Wu (XG BC AF (x:=.none) rfl (WC ?_)))))));refine Wu (slicePart_none ?_);show WZ _ _ (if((1:Int) == 0)=C? then _ else _) _ _ s;rw[a! (by decide)];refine Wu (slicePart_ pl (Wu (slicePart_ pu (Wu (WC ?_)))));show WZ _ _ (match Zi lo hi 1 (n:Int)with|(lo,hi)=>pure (lo,(1:Int),Yi lo hi 1)) _ _ s;rw[adjust_gen lo hi n];show WZ _ _ (pure (((sIx n 0 lo:Nat):Int),(1:Int),Yi ((sIx n 0 lo:Nat):Int) ((sIx n n hi:Nat):Int) 1)) _ _ s;rw[places_gen];exact WC h
theorem pick_gen(xs:Array WA)(i k:Nat):((Yu k).filterMap λ(m:Nat)=>xs[((i:Int)+(m:Int) * 1).toNat]?).toArray=((xs.toList.drop i).take k).toArray:=by
 have e:(λ(m:Nat)=>xs[((i:Int)+(m:Int) * 1).toNat]?)=λm=>xs[i+m]?:=by
  funext m;have:((i:Int)+(m:Int) * 1).toNat=i+m:=by lia
  rw[this]
 rw[e];have:=pick_run xs i k;rw[List.filterMap_map]at this;have e2:((λx=>xs[x]?) ∘ λx=>i+x)=λm=>xs[i+m]?:=rfl;rw[e2]at this;rw[this]
theorem getItem_tuple_cut{t:Wx}(ht:IsTup s.1 t items)(hs:s.1.IsSliceOf sl vl vu .none)(pl:IsPart vl lo)(pu:IsPart vu hi)
 (hw:¬(sIx items.size 0 lo=0/\sIx items.size items.size hi=items.size))
 (h:Q (.ref s.1.1.size) {s with heap:=s.1.push {cls:=.type "tuple",data:=.seq ((items.toList.drop (sIx items.size 0 lo)).take (sIx items.size items.size hi - sIx items.size 0 lo)).toArray}})
 (hsz:items.size<=W5):WZ (Xf prog w) A (getItem (.ref t) (.ref sl)) Q E s:=by
 have z9:sizeOk (.seq ((items.toList.drop (sIx items.size 0 lo)).take (sIx items.size items.size hi - sIx items.size 0 lo)).toArray):=by
  show((items.toList.drop (sIx items.size 0 lo)).take (sIx items.size items.size hi - sIx items.size 0 lo)).toArray.size<=W5;rw[WT,Xy,XR,Xi];lia
 have hj:sIx items.size items.size hi<=items.size:=sIx_le _ _ (WD _) hi;obtain⟨os,BC,Fd,AF⟩:=id hs;have Ie:s.TypeIs (.ref sl) "slice":=⟨os,BC,Fd⟩;unfold getItem
 try with_reducible refine XU ?_
 first|refine Wu (WC ?_)|skip
 refine Wu (wpAny_sequenceKey ht.typeIs (by decide) ?_)
 refine Wu (XM (name:=WE "__getitem__") ht.typeIs XI
  (XQ XI ht.typeIs entry_tuple_getitem ?_ (args_tuple_getitem _ _)))
 show WZ _ _ (Builtin.Tuple.tupleItemsOf (.ref t) >>= _) _ _ s;refine Wu (tupleItemsOf_ ht ?_);refine Wu (wpAny_typeOf Ie ?_);rw[b! (by decide)];refine Wu (sliceApplied_gen hs pl pu ?_)
 have zJ:¬((((sIx items.size 0 lo:Nat):Int) == 0 && (1:Int) == 1 && (sIx items.size items.size hi - sIx items.size 0 lo) == items.size)=C?):=by
  intro q;rw[YK,YK]at q;have q1:((sIx items.size 0 lo:Nat):Int)=0:=eq_of_beq q.1.1;have q2:sIx items.size items.size hi - sIx items.size 0 lo=items.size:=eq_of_beq q.2;exact hw {by lia,by lia}
 show WZ _ _ (if(((sIx items.size 0 lo:Nat):Int) == 0 && (1:Int) == 1 && (sIx items.size items.size hi - sIx items.size 0 lo) == items.size)=C? then _ else _) _ _ s;rw[a! zJ,pick_gen]
 first
  |exact Wu (m:=Yk _) (XC (WC {_,rfl,WC h}) z9)
  |exact Wu (m:=Yk _) (XC (Wu (WC (WC {_,rfl,WC h}))) z9)
  |exact Wu (Wu (m:=Yk _) (XC (WC (WC {_,rfl,WC h})) z9))
  |exact Wu (Wu (m:=Yk _) (XC (WC {_,rfl,WC h}) z9))
end HT
open HT renaming sIx->q!,sIx_nat->x!,lexLt->H!,lexLt_cons->P!
namespace L2
open PySem PySem.Spec PyProof.Rows
abbrev TO:=St->Hp->(Option Int->Hp->Prop)->Prop
def PO(X:Cx)(e:Option XD)(t:TO):Prop :=
 ∀(Y:List (Wx×Yw))(s:WH)(σ:St)(H:Hp)(Q:Option Int->Hp->Prop),Inv X Y σ H s->t σ H Q ->
   WZ (Xf X.prog X.w) X.A (evalPart e X.env) (λu s'=>∃o H',Inv X Y σ H' s'/\IsPart u o/\Q o H') X.xe s
def vz:TO:=λ_ H Q=>Q B? H
inductive vV(x:V)(Q:Option Int->Hp->Prop)(H1:Hp):Prop
 |mk (i:Int) (Bb:x=.int i) (Bc:Q (A? i) H1):vV x Q H1
def vF(t:TE):TO:=λσ H Q=>t σ H λx H1=>vV x Q H1
theorem intsAre_of:∀{us:List WA},Vals (ns.map o!) us->IntsAre us ns:=by
 induction ns with
 |nil=>intro us r;rw[YL]at r;cases r;exact .nil
 | cons n ns ih =>
   intro us r;rw[W9]at r;cases r with
   | cons r1 r2 =>
     obtain⟨t,e⟩:=r1;subst e;exact .cons n t (ih r2)
section
variable{X:Cx}{e:XD}{te:TE}{lo hi:Option XD}{tl th:TO}{p2:ZD}
theorem bi:PO X B? vz:=by
 intro Y s σ H Q I h;rw[evalPart_none];exact WC {B?,H,I,.none,h}
theorem aY(h:PE X e te):PO X (A? e) (vF te):=by
 intro Y s σ H Q I hw;rw[evalPart_some];refine thn (h Y s σ H _ I hw) λu s1⟨x,H1,I1,r1,q1⟩=>?_;obtain⟨i,rfl,q⟩:=q1;obtain⟨t,rfl⟩:=r1;exact{A? i,H1,I1,.int i t,q}
def SlR(X:Cx)(r:V->Option Int->Option Int->Hp->VK->Prop):Prop :=
 ∀(Y:List (Wx×Yw))(s:WH)(σ:St)(H:Hp)(x:V)(v vl vu:WA)(lo hi:Option Int)(sl:Wx)(Q:VK),Inv X Y σ H s->RelV x v->s.1.IsSliceOf sl vl vu .none->IsPart vl lo->IsPart vu hi->r x lo hi H Q ->
   ∃T id,typeLookup (.type T) "__getitem__"=pure (A? (.builtin id))/\s.TypeIs v T/\WZ (Xf X.prog X.w) X.A (getItem v (.ref sl)) (EP X Y σ Q) X.xe s
def tSl(r:V->Option Int->Option Int->Hp->VK->Prop)(te:TE)(tl th:TO):TE:=λσ H Q=>te σ H λx H1=>tl σ H1 λl H2=>th σ H2 λu H3=>r x l u H3 Q
theorem aN{r:V->Option Int->Option Int->Hp->VK->Prop}(hr:SlR X r)(he:PE X e te)(hl:PO X lo tl)(hu:PO X hi th):PE X (.Subscript e (.Slice lo hi B? p2) pos) (tSl r te tl th):=by
 intro Y s σ H Q I h;refine Subscript_ (thn (he Y s σ H _ I h) λv s1⟨x,H1,I1,r1,q1⟩=>?_);refine wpAny_Slice (thn (hl Y s1 σ H1 _ I1 q1) λvl s2⟨l,H2,I2,pl,q2⟩=>thn (hu Y s2 σ H2 _ I2 q2) λvu s3⟨u,H3,I3,pu,q3⟩=>?_);rw[evalPart_none];refine WC ?_;have I4:Inv X Y σ H3 {s3 with heap:=s3.1.push {cls:=.type "slice",data:=.fields #[vl,vu,.none]}}:=I3.kept (t':=s3.toks) λb ob q=>WB _ q;obtain⟨T,id,hT,ht,hg⟩:=hr Y {s3 with heap:=s3.1.push {cls:=.type "slice",data:=.fields #[vl,vu,.none]}} σ H3 x v vl vu l u s3.1.1.size Q I4 r1 (Heap.IsSliceOf.new ..) pl pu q3;show WZ (Xf X.prog X.w) X.A (subscriptTail e (.Slice lo hi B? p2) v (.ref s3.1.1.size)) (EP X Y σ Q) X.xe {s3 with heap:=s3.1.push {cls:=.type "slice",data:=.fields #[vl,vu,.none]}};exact tail_any (ops:=[.ref s3.1.1.size,v]) ht hT hg (by with_unfolding_all rfl)
def cW(xs:List V)(lo hi:Option Int):List V:=(xs.drop (q! xs.length 0 lo)).take (q! xs.length xs.length hi - q! xs.length 0 lo)
theorem eN(xs:List V)(lo hi:Option Int):(cW xs lo hi).length<=xs.length:=by
 unfold cW;rw[Xy,XR];lia
inductive vE(K:WJ)(x:V)(lo:Option Int)(hi:Option Int)(H:Hp)(Q:VK):Prop
 |mk (a:_) (xs:_) (Bb:x=.ref a) (Bc:SqT K H a xs) (Cs:¬(q! xs.length 0 lo=0/\q! xs.length xs.length hi=xs.length)) (EB:∀p,H p=B?->Q (.ref p) (upd H p (.tup (cW xs lo hi)))):vE K x lo hi H Q
def yG(K:WJ):V->Option Int->Option Int->Hp->VK->Prop:=vE K
theorem cL:SlR X (yG X.K):=by
 intro Y s σ H x v vl vu lo hi sl Q I rx hs pl pu h;obtain⟨a,xs,rfl,hx,hw,q⟩:=h;cases rx;obtain⟨its,r,ht,hz⟩:=I.tuple hx;have hlen:its.toArray.size=xs.length:=by rw[WT];exact r.length.symm
 refine{"tuple",_,XI.lookup,ht.typeIs,?_};refine HT.getItem_tuple_cut ht hs pl pu (by rw[hlen];exact hw) ?_ (by rw[hlen];exact hz);rw[hlen];refine{.ref s.1.1.size,_,I.laid (t':=s.toks) (o:=.tup (cW xs lo hi)) (λb ob q=>WB _ q) (WD _) ?_,E?,q _ (I.hok.fresh (WD _))};exact{XB (eN xs lo hi) hz,_,0,(r.drop (q! xs.length 0 lo)).take (q! xs.length xs.length hi - q! xs.length 0 lo),WO _ rfl}
def yu(K:WJ):R2:=λx y H Q=>∃a b xs ys,x=.ref a/\y=.ref b/\SqT K H a xs/\SqT K H b ys/\xs≠[]/\xs.length+ys.length<=W5 /\
 (ys=[]->Q (.ref a) H)/\(ys≠[]->∀p,H p=B?->Q (.ref p) (upd H p (.tup (xs++ys))))
theorem Vals.nil_iff(r:Vals xs us):us=[]↔xs=[]:=by
 cases r with
 |nil=>simp
 |cons _ _=>simp
theorem ny:OpR X (Zc .Add) (yu X.K):=by
 intro Y s σ H x y v u Q I rx ry h;obtain⟨a,b,xs,ys,rfl,rfl,ha,hb,hx,hz,q1,q2⟩:=h;cases rx;cases ry;obtain⟨its,r1,p1,_⟩:=I.tuple ha;obtain⟨zh,r2,p2,_⟩:=I.tuple hb;refine HT.cat_tup p1 p2 (λz=>hx (r1.nil_iff.mp z)) (λz=>{.ref a,H,I,rfl,q1 (r2.nil_iff.mp z)}) (λz=>?_) (by rw[<-r1.length,<-r2.length];exact hz);refine{.ref s.1.1.size,_,I.laid (t':=s.toks) (o:=.tup (xs++ys)) (λb ob q=>WB _ q) (WD _) ?_,E?,q2 (λw=>z (r2.nil_iff.mpr w)) _ (I.hok.fresh (WD _))};exact{by rw[WL];exact hz,_,0,r1.append r2,WO _ rfl}
end
def ixN(n:Nat)(i:Int):Option Nat:=if 0<=i then(if i<n then A? i.toNat else B?)else if -(n:Int)<=i then A? (i+n).toNat else B?
def atI{α:Type}(xs:List α)(i:Int):Option α:=(ixN xs.length i).bind λj=>xs[j]?
theorem qL{i:Int}(h:ixN n i=A? j):seqIndex? i n=A? j/\j<n/\-(n:Int)<=i/\i<n:=by
 unfold ixN at h;by_cases h0:0<=i
 .rw[b! h0]at h;by_cases h1:i<n
  .rw[b! h1]at h;have e:i.toNat=j:=WN h;exact{by rw[seqIndex_of h0 h1,e],by lia,by lia,h1}
  .rw[a! h1]at h;cases h
 .rw[a! h0]at h;by_cases h1:-(n:Int)<=i
  .rw[b! h1]at h;have e:(i+n).toNat=j:=WN h;exact{by rw[seqIndex_neg (by lia) h1,e],by lia,h1,by lia}
  .rw[a! h1]at h;cases h
theorem nE{xs:List α}{i:Int}{v:α}(h:atI xs i=A? v):∃j,seqIndex? i xs.length=A? j/\xs[j]?=A? v/\j<xs.length/\-(xs.length:Int)<=i/\i<xs.length:=by
 unfold atI at h;cases e:ixN xs.length i with
 |none=>rw[e]at h;cases h
 | some j =>
   rw[e]at h;obtain⟨h1,h2,h3,h4⟩:=qL e;exact⟨j,h1,h,h2,h3,h4⟩
theorem bp{xs:List α}{v:α}(h:xs[j]?=A? v):atI xs (j:Int)=A? v:=by
 have hj:j<xs.length:=(glE h)
 have e:ixN xs.length (j:Int)=A? j:=by
  unfold ixN;rw[b! (by lia),b! (by lia)];simp
 unfold atI;rw[e];exact h
theorem sS(xs:List α)(v:α):atI (xs++[v]) (-1)=A? v:=by
 have hl:(xs++[v]).length=xs.length+1:=by simp
 have e:ixN (xs++[v]).length (-1)=A? xs.length:=by
  unfold ixN;rw[hl,a! (by decide),b! (by lia)];congr 1;lia
 unfold atI;rw[e];show(xs++[v])[xs.length]?=A? v;simp
def uO(b:XD):Prop:=∀o i,subscripted b D? o i=operate [o,i] (getItem o i)
def IxR(X:Cx)(r:R2):Prop :=
 ∀(value slice:XD)(Y:List (Wx×Yw))(s:WH)(σ:St)(H:Hp)(x y:V)(v u:WA)(Q:VK),Inv X Y σ H s->RelV x v->RelV y u->r x y H Q ->
   subscripted slice D? v u=operate [v,u] (getItem v u)->WZ (Xf X.prog X.w) X.A (subscriptTail value slice v u) (EP X Y σ Q) X.xe s
def MtR(X:Cx)(id:String)(r:V->List V->Hp->VK->Prop):Prop :=
 ∀(Y:List (Wx×Yw))(s:WH)(σ:St)(H:Hp)(x:V)(xs:List V)(v:WA)(us:List WA)(Q:VK),Inv X Y σ H s->RelV x v->Vals xs us->r x xs H Q ->
   WZ (Xf X.prog X.w) X.A (call (.builtin id) (v::us)) (EP X Y σ Q) X.xe s
section
variable{X:Cx}{a b:XD}{ta tb:TE}
theorem aw(hr:IxR X r)(ha:PE X a ta)(hb:PE X b tb)(hs:uO b):PE X (.Subscript a b pos) (tOp r ta tb):=by
 intro Y s σ H Q I h;exact Subscript_ (xh ha hb I h λv u s2 x y H2 I2 rx ry q=>hr a b Y s2 σ H2 x y v u Q I2 rx ry q (hs _ _))
inductive vY(K:WJ)(x:V)(y:V)(H:Hp)(Q:VK):Prop
 |mk (p:_) (xs:_) (i:_) (v:_) (Bb:x=.ref p) (Bc:y=.int i) (Cs:SqL K H p xs) (EB:atI xs i=A? v) (FQ:Q v H):vY K x y H Q
def xH(K:WJ):R2:=vY K
inductive v7(K:WJ)(x:V)(y:V)(H:Hp)(Q:VK):Prop
 |mk (p:_) (xs:_) (i:_) (v:_) (Bb:x=.ref p) (Bc:y=.int i) (Cs:SqT K H p xs) (EB:atI xs i=A? v) (FQ:Q v H):v7 K x y H Q
def dL(K:WJ):R2:=v7 K
inductive v6(x:V)(y:V)(H:Hp)(Q:VK):Prop
 |mk (z:_) (i:_) (c:_) (Bb:x=.str z) (Bc:y=.int i) (Cs:z.length<=W5) (EB:atI z.cps.toList i=A? c) (FQ:Q (.str {#[c]}) H):v6  x y H Q
def yA:R2:=v6
theorem aS:IxR X (xH X.K):=by
 intro value slice Y s σ H x y v u Q I rx ry h hs;obtain⟨p,xs,i,z,rfl,rfl,hq,he,q⟩:=h;cases rx;obtain⟨t,rfl⟩:=ry;obtain⟨its,r,pl,hz⟩:=I.list hq;obtain⟨j,h1,h2,h3,h4,h5⟩:=nE he;obtain⟨w,ew,Ds⟩:=r.get h2;have hl:=r.length;have hn:=jD;have fin:EP X Y σ Q w s:=⟨z,H,I,Ds,q⟩;by_cases h0:0<=i
 .have hj:i.toNat=j:=by
   rw[seqIndex_of h0 h5]at h1;exact WN h1
  exact item_listR pl.isList h0 (by lia) (by rw[hj];simpa using ew) fin hs
 .have hj:(i+(its.toArray.size:Int)).toNat=j:=by
   rw[seqIndex_neg (by lia) h4]at h1;rw[WT,<-hl];exact WN h1
  exact subscriptTail_builtinR (x:=w) pl.isList.typeIs slot_list_getitem.lookup
   (wpAny_getItem_list_neg (Q:=λr s'=>r=w/\EP X Y σ Q r s') pl.isList (by lia) (by rw[WT] <;> lia) (by lia) (by rw[hj];simpa using ew) ⟨rfl,fin⟩) hs
theorem ax:IxR X (dL X.K):=by
 intro value slice Y s σ H x y v u Q I rx ry h hs;obtain⟨p,xs,i,z,rfl,rfl,hq,he,q⟩:=h;cases rx;obtain⟨t,rfl⟩:=ry;obtain⟨its,r,pl,hz⟩:=I.tuple hq;obtain⟨j,h1,h2,h3,h4,h5⟩:=nE he;obtain⟨w,ew,Ds⟩:=r.get h2;have hl:=r.length;have hn:=jD;have fin:EP X Y σ Q w s:=⟨z,H,I,Ds,q⟩
 exact subscriptTail_builtinR (x:=w) pl.typeIs slot_tuple_getitem.lookup
  (getItem_tuple (j:=j) (Q:=λr s'=>r=w/\EP X Y σ Q r s') pl (by lia) (by lia) (by rw[WT,<-hl];exact h1) (by simpa using ew) ⟨rfl,fin⟩) hs
theorem qk:IxR X yA:=by
 intro value slice Y s σ H x y v u Q I rx ry h hs;obtain⟨z,i,c,rfl,rfl,hz,he,q⟩:=h;obtain⟨t,rfl⟩:=rx;obtain⟨t',rfl⟩:=ry;obtain⟨j,h1,h2,h3,h4,h5⟩:=nE he;have hl:z.cps.toList.length=z.length:=by simp[Str.length]
 rw[hl]at h1 h4 h5;have hn:=jD
 exact tail_any (typeIs_str s z t) slot_str_getitem.lookup (getItem_str (c:=c) (by
  have e1:decide (i < -(2 ^ 63:Int))=false:=c! (by lia);have e2:decide (i >= 2 ^ 63)=false:=c! (by lia);rw[e1,e2,Bool.or_false]) (by rw[h1];simpa using h2) {.str {#[c]},H,I.tok _,{_,rfl},q}) hs
theorem pH(its:List WA)(n j:Nat)(u:WA):XX (·.setIfInBounds j u) {cls:=.type "list",data:=.seq its.toArray n}={cls:=.type "list",data:=.seq (its.set j u).toArray n}:=by
 simp[XX]
theorem Inv.lst{p:Wx}(I:Inv X Y σ H s)(h:H p=A? (.lst xs)) :
 ∃(its:List WA)(n:Nat),Vals xs its/\s.1.get? p=A? {cls:=.type "list",data:=.seq its.toArray n}/\xs.length<=W5:=by
 obtain⟨z,its,n,r,e⟩:=I.hok p _ h;exact⟨its,n,r,e,z⟩
theorem Inv.lstUpd{p:Wx}{ys:List V}{its':List WA}{n':Nat}{f:Yw->Yw}(I:Inv X Y σ H s)(h:H p=A? (.lst xs))
 (ho:s.1.get? p=A? {cls:=.type "list",data:=.seq its.toArray n}) (hf:f {cls:=.type "list",data:=.seq its.toArray n}={cls:=.type "list",data:=.seq its'.toArray n'}) (r:Vals ys its') (hz:ys.length<=W5) (t:Nat) :
 Inv X Y σ (upd H p (.lst ys)) {s with heap:=s.1.update p f,toks:=t}:=by
 have e:(s.1.update p f).get? p=A? {cls:=.type "list",data:=.seq its'.toArray n'}:=by
  rw[XW f ho (by rw[hf] <;> rfl),hf]
 refine I.write (x:=p) (e:=p) (by rw[h];trivial) (.inl rfl) (λb u hb q=>(X7 _ _ (YB hb)).trans q) {_,e} ?_;exact⟨hz,its',n',r,e⟩
def ya:V->V->V->Hp->(Hp->Prop)->Prop:=λo i v H Q=>∃p xs k j,o=.ref p/\i=.int k/\H p=A? (.lst xs)/\ixN xs.length k=A? j/\Q (upd H p (.lst (xs.set j v)))
theorem set_list:yk X ya:=by
 intro Y s σ H o i v ov iv u Q I ro ri rv h;obtain⟨p,xs,k,j,rfl,rfl,hp,hj,q⟩:=h;cases ro;obtain⟨t,rfl⟩:=ri;obtain⟨its,n,r,ho,hz⟩:=I.lst hp;obtain⟨h1,h2,h3,h4⟩:=qL hj;have hl:=r.length;have hn:=jD
 have I':Inv X Y σ (upd H p (.lst (xs.set j v))) {s with heap:=s.1.update p (XX (·.setIfInBounds j u))} :=
  I.lstUpd hp ho (pH its n j u) (r.set rv j) (by rw[YR];exact hz) s.toks
 by_cases h0:0<=k
 .have hk:k.toNat=j:=by
   rw[seqIndex_of h0 h4]at h1;exact WN h1
  exact PySem.W.ki_setAt ho h0 (by lia) (by rw[WT,<-hl];exact h4) (by rw[hk];exact{_,I',q})
 .have hk:(k+(its.toArray.size:Int)).toNat=j:=by
   rw[seqIndex_neg (by lia) h3]at h1;rw[WT,<-hl];exact WN h1
  exact PySem.W.ki_setBack ho (by lia) (by rw[WT,<-hl];exact h3) (by lia) (by rw[hk];exact{_,I',q})
theorem m9(lo hi:Option Int)(n:Nat):(sliceBounds lo hi B? n).1=((q! n 0 lo:Nat):Int)/\(sliceBounds lo hi B? n).2.1=((q! n n hi:Nat):Int)/\(sliceBounds lo hi B? n).2.2=1:=by
 refine{?_,?_,E?}
 .cases lo with
  |none=>simp[sliceBounds,q!]
  | some i =>
    simp only[sliceBounds,q!,Option.getD_none,show(1:Int) > 0 by decide,if_true];by_cases h:i<0
    .simp only[h,if_true] <;> lia
    .simp only[h,if_false] <;> lia
 .cases hi with
  |none=>simp[sliceBounds,q!]
  | some i =>
    simp only[sliceBounds,q!,Option.getD_none,show(1:Int) > 0 by decide,if_true];by_cases h:i<0
    .simp only[h,if_true] <;> lia
    .simp only[h,if_false] <;> lia
theorem lJ(its:List WA)(lo hi:Option Int):slicePick its.toArray lo hi B?=((its.drop (q! its.length 0 lo)).take (q! its.length its.length hi - q! its.length 0 lo)).toArray:=by
 obtain⟨h1,h2,h3⟩:=m9 lo hi its.toArray.size;unfold slicePick;rw[h1,h2,h3];simp only[sliceRange_one,pick_run,WT] <;> rfl
inductive vX(K:WJ)(x:V)(lo:Option Int)(hi:Option Int)(H:Hp)(Q:VK):Prop
 |mk (a:_) (xs:_) (Bb:x=.ref a) (Bc:SqL K H a xs) (Cs:∀p,H p=B?->Q (.ref p) (upd H p (.lst (cW xs lo hi)))):vX K x lo hi H Q
def yO(K:WJ):V->Option Int->Option Int->Hp->VK->Prop:=vX K
theorem eR:SlR X (yO X.K):=by
 intro Y s σ H x v vl vu lo hi sl Q I rx hs pl pu h;obtain⟨a,xs,rfl,hx,q⟩:=h;cases rx;obtain⟨its,r,ht,hz⟩:=I.list hx;have hlen:=r.length;refine{"list",_,slot_list_getitem.lookup,ht.isList.typeIs,?_};refine wpAny_getItem_list_slice ht.isList hs pl pu .none (by simp) ?_ (by rw[WT] <;> lia);rw[lJ,<-hlen];refine{.ref s.1.1.size,_,I.laid (t':=s.toks) (o:=.lst (cW xs lo hi)) (λb ob q=>WB _ q) (WD _) ?_,E?,q _ (I.hok.fresh (WD _))};exact{XB (eN xs lo hi) hz,_,0,(r.drop (q! xs.length 0 lo)).take (q! xs.length xs.length hi - q! xs.length 0 lo),WO _ rfl}
def jP:V->Bool
 |.non=>C?
 |.bl _=>C?
 |.int _=>C?
 |.str _=>C?
 |_=>D?
def eqV:V->V->Bool
 |.non,.non=>C?
 |.bl a,.bl b=>a == b
 |.bl a,.int b=>(if a then 1 else 0) == b
 |.int a,.bl b=>a == (if b then 1 else 0)
 |.int a,.int b=>a == b
 |.str a,.str b=>a == b
 |_,_=>D?
theorem wP{x:V}{v:WA}(ry:RelV y u)(rx:RelV x v)(fy:jP y=C?)(fx:jP x=C?):SeqAt.EqAt A s u v (eqV y x):=by
 cases y with
 | non =>
   cases ry;cases x with
   |non=>cases rx;exact SeqAt.EqAt.same _
   |bl b=>cases rx;exact SeqAt.EqAt.none_bool b
   |int b=>obtain⟨t,rfl⟩:=rx;exact SeqAt.EqAt.none_int b t
   |str b=>obtain⟨t,rfl⟩:=rx;exact SeqAt.EqAt.none_str b t
   |_=>exact g! (show D?=C? from fx) W2
 | bl a =>
   cases ry;cases x with
   |non=>cases rx;exact SeqAt.EqAt.bool_none a
   |bl b=>cases rx;exact SeqAt.EqAt.bool_bool a b
   |int b=>obtain⟨t,rfl⟩:=rx;exact SeqAt.EqAt.bool_int a b t
   |str b=>obtain⟨t,rfl⟩:=rx;exact SeqAt.EqAt.bool_str a b t
   |_=>exact g! (show D?=C? from fx) W2
 | int a =>
   obtain⟨t',rfl⟩:=ry;cases x with
   |non=>cases rx;exact SeqAt.EqAt.int_none a t'
   |bl b=>cases rx;exact SeqAt.EqAt.int_bool a t' b
   |int b=>obtain⟨t,rfl⟩:=rx;exact SeqAt.EqAt.int_int a t' b t
   |str b=>obtain⟨t,rfl⟩:=rx;exact SeqAt.EqAt.int_str a t' b t
   |_=>exact g! (show D?=C? from fx) W2
 | str a =>
   obtain⟨t',rfl⟩:=ry;cases x with
   |non=>cases rx;exact SeqAt.EqAt.str_none a t'
   |bl b=>cases rx;exact SeqAt.EqAt.str_bool a t' b
   |int b=>obtain⟨t,rfl⟩:=rx;exact SeqAt.EqAt.str_int a t' b t
   |str b=>obtain⟨t,rfl⟩:=rx;exact SeqAt.EqAt.str_str a t' b t
   |_=>exact g! (show D?=C? from fx) W2
 |_=>exact g! (show D?=C? from fy) W2
def eqU(x:V)(u:WA):Bool:=match u with
 |.none=>eqV .non x
 |.bool b=>eqV (.bl b) x
 |.int i _=>eqV (.int i) x
 |.str z _=>eqV (.str z) x
 |_=>D?
theorem t9{x:V}(r:RelV y u)(f:jP y=C?):eqU x u=eqV y x:=by
 cases y with
 |non=>cases r;rfl
 |bl b=>cases r;rfl
 |int i=>obtain⟨t,rfl⟩:=r;rfl
 |str z=>obtain⟨t,rfl⟩:=r;rfl
 |_=>exact g! (show D?=C? from f) W2
theorem ng{x:V}:∀{xs:List V}{us:List WA},Vals xs us->xs.all jP=C?->us.any (eqU x)=xs.any λy=>eqV y x
 |_,_,.nil,_=>rfl
 | y::xs,u::us,.cons r t,f=>by
   rw[List.all_cons,YK]at f;rw[List.any_cons,List.any_cons,t9 r f.1,ng t f.2]
theorem ku{x:V}{v:WA}(rx:RelV x v)(fx:jP x=C?):∀{xs:List V}{us:List WA},Vals xs us->xs.all jP=C?->∀u∈us,SeqAt.EqAt A s u v (eqU x u)
 |_,_,.nil,_=>λu hu=>by cases hu
 | y::xs,u::us,.cons r t,f=>λu' hu=>by
   rw[List.all_cons,YK]at f;rcases WW.mp hu with rfl|hu
   .rw[t9 r f.1];exact wP r rx f.1 fx
   .exact ku rx fx t f.2 u' hu
def inV(x:V)(xs:List V):Bool:=xs.any λy=>eqV y x
def rIn(K:WJ)(neg:Bool):R2:=λx y H Q=>∃p xs,y=.ref p/\(SqL K H p xs\/SqT K H p xs)/\jP x=C?/\xs.all jP=C?/\Q (.bl (if neg then !inV x xs else inV x xs)) H
theorem mM:OpR X (YO .In) (rIn X.K D?):=by
 intro Y s σ H x y v u Q I rx ry h;obtain⟨p,xs,rfl,hq,fx,fs,q⟩:=h;cases ry;rcases hq with hq|hq
 .obtain⟨its,r,pl,hz⟩:=I.list hq;refine SeqAt.in_listAt (eqU x) pl.isList (λw hw=>ku rx fx r fs w (by simpa using hw)) {.bl _,H,I,rfl,?_};rw[show its.toArray.any (eqU x)=its.any (eqU x)by simp,ng r fs];exact q
 .obtain⟨its,r,pl,hz⟩:=I.tuple hq;refine SeqAt.in_tupleAt (eqU x) pl (λw hw=>ku rx fx r fs w (by simpa using hw)) {.bl _,H,I,rfl,?_};rw[show its.toArray.any (eqU x)=its.any (eqU x)by simp,ng r fs];exact q
inductive vQ(K:WJ)(xs:List V)(H:Hp)(Q:VK):Prop
 |mk (p:Wx) (ys:List V) (Bb:xs=[.ref p]) (Bc:SqL K H p ys\/SqT K H p ys) (Cs:Q (.int ys.length) H):vQ K xs H Q
theorem az:iR X (.builtin "len") (vQ X.K):=by
 intro Y s σ H xs us Q I r h;obtain⟨p,ys,rfl,hq,q⟩:=h;obtain⟨u,rfl,rx⟩:=vals1 r;cases rx;have hn:=jD;rcases hq with hq|hq
 .obtain⟨its,r',pl,hz⟩:=I.list hq;have hlen:=r'.length;exact Calls.call_len_list pl.isList (by simp only[WT] <;> lia) {.int ys.length,H,I.tok _,{s.toks+1,by rw[WT,hlen]},q}
 .obtain⟨its,r',pl,hz⟩:=I.tuple hq;have hlen:=r'.length;exact len_tuple pl (by simp only[WT] <;> lia) {.int ys.length,H,I.tok _,{s.toks+1,by rw[WT,hlen]},q}
theorem aZ:iR X (.type "tuple") (λxs H Q=>∃p ys,xs=[.ref p]/\((SqL X.K H p ys/\∀l,H l=B?->Q (.ref l) (upd H l (.tup ys)))\/(SqT X.K H p ys/\Q (.ref p) H))):=by
 intro Y s σ H xs us Q I r h;obtain⟨p,ys,rfl,h⟩:=h;obtain⟨u,rfl,rx⟩:=vals1 r;cases rx;rcases h with⟨hq,q⟩|⟨hq,q⟩
 .obtain⟨its,r',pl,hz⟩:=I.list hq;have hlen:=r'.length;refine call_tuple_list pl.isList (λh' kp=>?_) (by simp only[WT] <;> lia);have I1:Inv X Y σ H {s with heap:=h'}:=I.kept (t':=s.toks) kp
  have I2:Inv X Y σ (upd H h'.objs.size (.tup ys)) {s with heap:=h'.push {cls:=.type "tuple",data:=.seq its.toArray}} :=
   I1.laid (t':=s.toks) (λb o e=>WB _ e) (WD _) (show ObjOk X.prog X.w _ _ _ (.tup ys)from{hz,its,0,r',WO _ rfl})
  exact{.ref h'.objs.size,_,I2,E?,q _ (I1.hok.fresh (WD _))}
 .obtain⟨its,r',pl,hz⟩:=I.tuple hq;exact call_tuple_same pl {.ref p,H,I,rfl,q}
def tyV(K:WJ)(T:String)(x:V)(H:Hp):Prop:=match x with
 |.str _=>T="str"
 |.int _=>T="int"
 |.ref p=>(T="list"/\∃xs,SqL K H p xs)\/(T="tuple"/\∃o,K.lookup p=A? o/\o.cls=.type "tuple"/\o.dict=B?) \/
  (T="dict"/\((∃kvs,H p=A? (.dK kvs))\/∃kvs,H p=A? (.dT kvs)))\/(T="set"/\∃S n,H p=A? (.set S n))
 |_=>False
theorem sX{T:String}{x:V}{v:WA}(I:Inv X Y σ H s)(r:RelV x v)(ty:tyV X.K T x H) :
 s.TypeIs v T/\∀a,v=.ref a->∃ob,s.1.get? a=A? ob/\ob.dict=none:=by
 cases x with
 | str z =>
   obtain⟨t,rfl⟩:=r;cases(show T="str" from ty);exact{typeIs_str s z t,λ_ e=>nomatch e}
 | int i =>
   obtain⟨t,rfl⟩:=r;cases(show T="int" from ty);exact{typeIs_int s i t,λ_ e=>nomatch e}
 | ref p =>
   cases r;rcases ty with⟨rfl,xs,hq⟩|⟨rfl,o,hk,hc,hd⟩|⟨rfl,hk⟩|⟨rfl,S,n,hk⟩
   .obtain⟨its,_,pl,_⟩:=I.list hq;refine{pl.isList.typeIs,λa e=>?_};cases e;obtain⟨o,n,e,c,hd,_⟩:=pl;exact⟨o,e,hd⟩
   .refine{{o,I.kIn p o hk,hc},λa e=>?_};cases e;exact{o,I.kIn _ o hk,hd}
   .have z:∃o,s.1.get? p=A? o/\o.ExactDict:=by
     rcases hk with⟨kvs,hk⟩|⟨kvs,hk⟩
     .obtain⟨_,_,_,_,o,_,_,e,ex,_⟩:=I.hok p _ hk;exact⟨o,e,ex⟩
     .obtain⟨_,_,_,_,o,_,_,e,ex,_⟩:=I.hok p _ hk;exact⟨o,e,ex⟩
    obtain⟨o,e,ex⟩:=z;refine{⟨o,e,ex.1⟩,λa e2=>?_};cases e2;exact⟨o,e,ex.2.1⟩
   .obtain⟨o,_,_,_,e,ex,_⟩:=I.hok p _ hk;refine{⟨o,e,ex.1⟩,λa e2=>?_};cases e2;exact⟨o,e,ex.2.1⟩
 |_=>exact Yz ty
def xB(K:WJ)(T:String)(r:V->List V->Hp->VK->Prop)(to:TE):TE:=λσ H Q=>to σ H λx H1=>tyV K T x H1/\r x [] H1 Q
def tBM(K:WJ)(T:String)(r:V->List V->Hp->VK->Prop)(to:TE)(t:TA):TE:=λσ H Q=>to σ H λx H1=>tyV K T x H1/\t σ H1 λxs H2=>r x xs H2 Q
variable{o e:XD}{es:List XD}{to:TE}{t:TA}{apos zf:ZD}{T id:String}{r:V->List V->Hp->VK->Prop}
theorem lb(pa:PlainAttrs T)(slot:Slot T name id)(L9:typeOf (.builtin id)=pure (.type "method_descriptor"))(hm:MtR X id r)(ho:PE X o to)
 (Ax:attributeBase o name X.env (YC o X.env)=YC o X.env:=by rfl) (Ay:(apos.endLine == zf.line)=true:=by rfl):PE X (.Call (.Attribute o name apos) [] [] zf) (xB X.K T r to):=by
 intro Y s σ H Q I h;refine wpAny_Call_method0_late Ax Ay (thn (ho Y s σ H _ I h) λv s1⟨x,H1,I1,r1,ty,q1⟩=>?_);obtain⟨h1,h2⟩:=sX I1 r1 ty;exact{T,id,pa,slot,L9,h1,h2,Calls.callWith_builtin rfl (PySem.evalArgs_none (hm Y s1 σ H1 x [] v [] Q I1 r1 .nil q1))}
theorem cn(pa:PlainAttrs T)(slot:Slot T name id)(L9:typeOf (.builtin id)=pure (.type "method_descriptor"))(hm:MtR X id r)(ho:PE X o to)(ha:PA X (e::es) t)
 (Ax:attributeBase o name X.env (YC o X.env)=YC o X.env:=by rfl)
 (Ma:((Zr zf (Xw (e::es) X.env)).all (λx=>!x.1) && (backToKw zf (keywordEach [] X.env)).all (λx=>x.1.isSome)
  && decide ((e::es).length+([]:List Keyword).length+(if([]:List Keyword).isEmpty then 0 else 1)<30))=true:=by rfl)
 (Ay:(apos.endLine == zf.line)=true:=by rfl) (hs:Xw (e::es) X.env=(D?,YC e X.env)::Xw es X.env:=by rfl) (FR:(Zr zf (Xw es X.env)).any (·.1)=false:=by rfl) :
 PE X (.Call (.Attribute o name apos) (e::es) [] zf) (tBM X.K T r to t):=by
 intro Y s σ H Q I h;refine wpAny_Call_method_late Ax Ma Ay rfl (thn (ho Y s σ H _ I h) λv s1⟨x,H1,I1,r1,ty,q1⟩=>?_);obtain⟨h1,h2⟩:=sX I1 r1 ty;refine{T,id,pa,slot,L9,h1,h2,?_};have hA:=ha zf Y s1 σ H1 _ I1 q1;rw[hs]at hA |-;refine Calls.callWith_builtin (by show(D? ||(Zr zf (Xw es X.env)).any (·.1))=D?;rw[FR] <;> rfl) (Calls.evalArgs_plain ?_);exact thn hA λus s2⟨vs,H2,I2,r2,q2⟩=>hm Y s2 σ H2 x vs v us Q I2 r1 r2 q2
end
def MtM(X:Cx)(id:String)(r:V->List V->Hp->VK->Prop):Prop :=
 ∀(Y:List (Wx×Yw))(s:WH)(σ:St)(H:Hp)(x:V)(xs:List V)(v:WA)(us:List WA)(Q:VK),Inv X Y σ H s->RelV x v->Vals xs us->r x xs H Q ->
   WZ (Xf X.prog X.w) X.A (call (.builtin id) (v::us)) (EP X Y σ Q) X.xe s
theorem Vals.one:∀{x:V}{us:List WA},Vals [x] us->∃u,us=[u]/\RelV x u
 |_,_,.cons r .nil=>{_,rfl,r}
theorem Vals.zero:∀{us:List WA},Vals [] us->us=[]
 |_,.nil=>rfl
theorem Vals.dropLast(h:Vals xs us):Vals xs.dropLast us.dropLast:=by
 induction h with
 |nil=>exact .nil
 | cons r t ih =>
   cases t with
   |nil=>exact .nil
   |cons q t'=>exact .cons r ih
theorem Vals.rep(h:Vals xs us):∀k:Nat,Vals (Xx k xs).flatten (Xx k us).flatten
 |0=>.nil
 | k+1=>by
   rw[Yt,Yt,ZJ,ZJ];exact Vals.append h (Vals.rep h k)
theorem px(l:List α):l.eraseIdx (l.length - 1)=l.dropLast:=by
 induction l with
 |nil=>rfl
 | cons a r ih =>
   cases r with
   |nil=>rfl
   | cons b r =>
     have e:(a::b::r).length - 1=((b::r).length - 1)+1:=by
      have h1:(a::b::r).length=r.length+2:=rfl;have h2:(b::r).length=r.length+1:=rfl;lia
     rw[e,List.eraseIdx_cons_succ,ih]
     all_goals rfl
theorem foldl_rep(its:List WA):∀(k:Nat)(acc:List WA),
 List.foldl (λx1 x2=>x1++x2) acc.toArray (Xx k its.toArray)=(acc++(Xx k its).flatten).toArray
 |0,acc=>by simp
 | k+1,acc=>by
   have e:acc.toArray++its.toArray=(acc++its).toArray:=by simp
   have e2:(acc++its)++(Xx k its).flatten=acc++(Xx (k+1) its).flatten:=by
    rw[Yt,ZJ,Zf]
   rw[<-e2,<-foldl_rep its k (acc++its),<-e,Yt,List.foldl_cons]
section
variable{X:Cx}{ys zs:List V}
theorem Inv.lset{its':List WA}{f:Array WA->Array WA}(I:Inv X Y σ H s)(hH:H l=A? (.lst xs))
 (e:s.1.get? l=A? {cls:=.type "list",data:=.seq its.toArray n}) (hf:f its.toArray=its'.toArray) (hv:Vals ys its') (hz:ys.length<=W5) :
 Inv X Y σ (upd H l (.lst ys)) {s with heap:=s.1.update l (XX f),toks:=t'}:=by
 have q:=PySem.IsL.update e f;rw[hf]at q;refine I.write (x:=l) (e:=l) (by rw[hH];exact trivial) (.inl rfl) (λb' u hb hu=>(X7 s.1 (XX f) (YB hb)).trans hu) {_,q} ?_;exact{hz,its',_,hv,q}
theorem Inv.lnew(I:Inv X Y σ H s)(hv:Vals ys its)(hz:ys.length<=W5) :
 Inv X Y σ (upd H s.1.1.size (.lst ys)) {s with heap:=s.1.push {cls:=.type "list",data:=.seq its.toArray},toks:=t'} :=
 I.laid (λ_ _ q=>WB _ q) (WD _) {hz,its,0,hv,WO _ rfl}
theorem Inv.fresh(I:Inv X Y σ H s):H s.1.1.size=none:=I.hok.fresh (WD _)
theorem Inv.lstM(I:Inv X Y σ H s)(hH:H l=A? (.lst xs)):xs.length<=W5/\∃(its:List WA)(n:Nat),Vals xs its/\xs.length=its.length/\s.1.get? l=A? {cls:=.type "list",data:=.seq its.toArray n}:=by
 obtain⟨z,its,n,r,e⟩:=I.hok l _ hH;exact⟨z,its,n,r,r.length,e⟩
theorem kH(h:n<=W5):YU n=false:=by
 unfold YU;exact c! (by lia)
end
section
variable{X:Cx}
inductive pc(x:V)(vs:List V)(H:Hp)(Q:VK):Prop
 |mk (l:_) (xs:_) (y:_) (Bb:x=.ref l) (Bc:vs=[y]) (Cs:H l=A? (.lst xs)) (EB:xs.length<W5) (FQ:Q .non (upd H l (.lst (xs++[y])))):pc  x vs H Q
def rf:V->List V->Hp->VK->Prop:=pc
theorem br:MtM X "list.append" rf:=by
 intro Y s σ H x vs v us Q I rx rv h;obtain⟨l,xs,y,rfl,rfl,hH,hz,q⟩:=h;cases rx;obtain⟨u,rfl,ru⟩:=rv.one;obtain⟨z,its,n,r,hl,e⟩:=I.lstM hH;refine call_meets F.slot_list_append {_,e,rfl} F.entry_list_append (F.args_list_append_2 _ _) (PySem.list_append l its.toArray n u (by rw[WT];lia)) {e,?_};refine{.non,_,I.lset (its':=its++[u]) hH e (by simp) (r.append (.cons ru .nil)) ?_,E?,q};rw[WL,Xe];lia
inductive ox(x:V)(vs:List V)(H:Hp)(Q:VK):Prop
 |mk (l:_) (b:_) (xs:_) (zs:_) (Bb:x=.ref l) (Bc:vs=[.ref b]) (Cs:H l=A? (.lst xs)) (EB:H b=A? (.lst zs)) (FQ:xs.length+zs.length<=W5) (Ph:Q .non (upd H l (.lst (xs++zs)))):ox  x vs H Q
def vA:V->List V->Hp->VK->Prop:=ox
theorem jo:MtM X "list.extend" vA:=by
 intro Y s σ H x vs v us Q I rx rv h;obtain⟨l,b,xs,zs,rfl,rfl,hH,hB,hz,q⟩:=h;cases rx;obtain⟨u,rfl,ru⟩:=rv.one;cases ru;obtain⟨z,its,n,r,hl,e⟩:=I.lstM hH;obtain⟨z2,zh,n2,r2,Aa,e2⟩:=I.lstM hB;have hsz:its.toArray.size+zh.toArray.size<=W5:=by rw[WT,WT];lia
 have BD:¬(!its.toArray.isEmpty && YU (its.toArray.size+zh.toArray.size))=true:=by
  rw[kH hsz,Bool.and_false];exact W2
 refine call_meets F.slot_list_extend {_,e,rfl} F.entry_list_extend (F.args_list_extend_2 _ _)
  (AutoSeq1.list_extend_list_list_0 l its.toArray n b zh.toArray n2 BD (by rw[WT];lia) (by lia)) {e,e2,?_}
 refine{.non,_,I.lset (its':=its++zh) hH e (by simp) (r.append r2) ?_,E?,q};rw[WL];lia
inductive vU(x:V)(vs:List V)(H:Hp)(Q:VK):Prop
 |mk (l:_) (xs:_) (y:_) (Bb:x=.ref l) (Bc:vs=[]) (Cs:H l=A? (.lst xs)) (EB:xs[xs.length - 1]?=A? y) (FQ:Q y (upd H l (.lst xs.dropLast))):vU  x vs H Q
def xE:V->List V->Hp->VK->Prop:=vU
theorem lm:MtM X "list.pop" xE:=by
 intro Y s σ H x vs v us Q I rx rv h;obtain⟨l,xs,y,rfl,rfl,hH,hy,q⟩:=h;cases rx;have FT:=rv.zero;subst FT;obtain⟨z,its,n,r,hl,e⟩:=I.lstM hH;obtain⟨u,hu,ru⟩:=r.get hy
 have ED:its.toArray[its.toArray.size - 1]?=A? u:=by
  show its.toArray[its.length - 1]?=A? u;rw[<-ZH,<-hl];exact hu
 refine call_meets F.slot_list_pop {_,e,rfl} F.entry_list_pop (F.args_list_pop_1 _) (MeetsSeq.list_pop_last l its.toArray n u ED (by rw[WT];lia)) {e,?_};refine{y,_,I.lset (its':=its.dropLast) hH e ?_ r.dropLast ?_,ru,q}
 .show its.toArray.eraseIdxIfInBounds (its.toArray.size - 1)=its.dropLast.toArray;rw[WT,List.eraseIdxIfInBounds_toArray,px]
 .rw[List.length_dropLast];lia
inductive vZ(x:V)(y:V)(H:Hp)(Q:VK):Prop
 |mk (l:_) (b:_) (xs:_) (zs:_) (Bb:x=.ref l) (Bc:y=.ref b) (Cs:H l=A? (.lst xs)) (EB:H b=A? (.lst zs)) (FQ:xs.length+zs.length<=W5) (Ph:∀p,H p=B?->Q (.ref p) (upd H p (.lst (xs++zs)))):vZ  x y H Q
def xN:R2:=vZ
theorem wz:OpR X (Zc .Add) xN:=by
 intro Y s σ H x y v u Q I rx ry h;obtain⟨l,b,xs,zs,rfl,rfl,hH,hB,hz,q⟩:=h;cases rx;cases ry;obtain⟨z,its,n,r,hl,e⟩:=I.lstM hH;obtain⟨z2,zh,n2,r2,Aa,e2⟩:=I.lstM hB;refine PySem.P.add_list e e2 ?_ (by rw[WT,WT];lia);have ea:its.toArray++zh.toArray=(its++zh).toArray:=by simp
 rw[ea];exact{.ref _,_,I.lnew (t':=s.toks) (r.append r2) (by rw[WL];lia),E?,q _ I.fresh}
def yS:R2:=λx y H Q=>∃l k xs,x=.ref l/\y=.int k/\H l=A? (.lst xs)/\-(2 ^ 63)<=k/\k<2 ^ 63/\xs.length * k.toNat<=W5 /\
 ∀p,H p=B?->Q (.ref p) (upd H p (.lst (Xx k.toNat xs).flatten))
theorem len_rep(xs:List α)(k:Nat):(Xx k xs).flatten.length=k * xs.length:=by
 induction k with
 |zero=>simp
 |succ k ih=>rw[Yt,ZJ,WL,ih,Zt,Nat.add_comm]
theorem sI:OpR X (Zc .Mult) yS:=by
 intro Y s σ H x y v u Q I rx ry h;obtain⟨l,k,xs,rfl,rfl,hH,h1,h2,hz,q⟩:=h;cases rx;obtain⟨t,rfl⟩:=ry;obtain⟨z,its,n,r,hl,e⟩:=I.lstM hH;have hlen:its.toArray.size * k.toNat<=W5:=by rw[WT,<-hl];exact hz
 have Mb:¬its.toArray.size * k.toNat > (2 ^ 63 - 1) / 8:=by
  have:(W5:Nat)<=(2 ^ 63 - 1) / 8:=by decide
  lia
 have zK:¬(!Builtin.List.listFitsIndex k)=true:=by
  rw[fitsIndex_both h1 h2];exact W2
 have BD:¬YU (its.toArray.size * k.toNat)=true:=by
  rw[kH hlen];exact W2
 have FU:List.foldl (λx1 x2=>x1++x2) #[] (Xx (if its.toArray.isEmpty=C? then 0 else k.toNat) its.toArray)=(Xx k.toNat its).flatten.toArray:=by
  have f0:∀m:Nat,List.foldl (λx1 x2=>x1++x2) #[] (Xx m its.toArray)=(Xx m its).flatten.toArray:=λm=>by
   have:=foldl_rep its m [];rw[List.nil_append]at this;exact this
  rw[f0];cases its with
  |nil=>simp
  |cons a r'=>rw[a! (by simp)]
 refine wpAny_binaryOp_repeat_ref (T:="list") (U:="int") (by decide) {_,e,rfl} (λs'=>typeIs_int s' k t) noFill_list_mul F.fills_int_mul F.slot_int_rmul repeat_list F.slot_int_index.lookup
  (call_meets F.slot_int_rmul (typeIs_int s k t) F.entry_int_rmul (F.args_int_rmul_2 _ _) (int___rmul___int_list k t l its.toArray n)
   {e,rfl,{_,e,rfl},call_meets F.slot_list_mul {_,e,rfl} F.entry_list_mul (F.args_list_mul_2 _ _) (AutoListH.list___mul___list_int_3 l its.toArray n k t zK Mb BD) {e,?_}})
 rw[FU];exact{.ref _,_,I.lnew (t':=s.toks) (r.rep k.toNat) (by rw[len_rep,Nat.mul_comm];exact hz),E?,q _ I.fresh}
end
section
variable{X:Cx}
end
end L2
namespace Att
open PySem PySem.W PySem.Calls PyProof.Rows
theorem ints_of_wellAll{P:Params}:∀(ns:List Int)(vs:List WA),WellAll P h vs (ns.map WData.int)->IntsAre vs ns:=by
 intro ns;induction ns with
 | nil =>
   intro vs w;rw[YL]at w;cases w;exact .nil
 | cons n ns ih =>
   intro vs w;rw[W9]at w;cases w with
   | cons a b =>
     cases a;exact .cons _ _ (ih _ b)
theorem script_of{l:OpenLaw}(hn:l.most=A? n){P:Params}{args:List WData}{vals:List WA}
 (Ag:l.row.toRowW.claim.pre args=C?) (B2:WellAll P h vals args) :
 ∃a vs ns,vals=[Xs a]/\args=[WData.list (ns.map WData.int)]/\h.get? a=A? {cls:=.type "list",data:=.seq vs.toArray}/\IntsAre vs ns/\ns.length<=n:=by
 have EE:WShape.hasAll [] args [.list .int]=true:=(pre_splitW Ag).1;have hc:l.pre.holds [] {args:=args}=true:=(pre_splitW Ag).2;obtain⟨d,r,rfl,h1,h2⟩:=hasAllW_cons EE;obtain rfl:=hasAllW_nil h2;obtain⟨xs,rfl,h3⟩:=hasW_list h1;obtain⟨ns,rfl⟩:=items_int h3
 have hlen:ns.length<=n:=by
  unfold OpenLaw.pre at hc
  have h4:(WTm.not (.lt (.lit (.int (n:Int))) (.len (.arg 0)))).holds [] {args:=[.list (ns.map .int)]}=true:=by
   have h4:=(holds_andW hc).1;rw[hn]at h4;exact h4
  have h5:=condW_of h4 (w_not (w_lt w_lit (w_len_list (w_arg rfl))));rw[Wt]at h5;refine Nat.le_of_not_lt λq=>?_;have q':(n:Int)<((ns.length:Nat):Int):=by lia
  first
   |(rw[d! q']at h5;exact g! h5 (by decide))
   |(simp at h5;lia)
 cases B2 with
 | cons w1 w2 =>
   cases w2;cases w1 with
   |list ho yW=>exact{_,_,ns,E?,E?,ho,ints_of_wellAll ns _ yW,hlen}
theorem post_true(l:OpenLaw)(args:List WData):l.row.toRowW.claim.post args (.bool C?) args=C? :=
 postW_of (r:=l.row.toRowW) (X:=(C? == C?))
  (show WShape.has [] (.bool C?) .bool=C? by first|rfl|decide|simp[WShape.has,WShape.arms,WShape.armsAll])
  (show(WTm.eq .res (.lit (.bool C?))).value [] {args:=args,res:=A? (.bool C?),after:=args}=A? (.bool (C? == C?))from w_eq_bool (w_res rfl) w_lit) rfl
theorem attach_call{l:OpenLaw}{q:Xa}{d:DefRec}
 (hn:l.most=A? n) (EF:d.params.defaults=[])
 (call:∀(w:Xq)(s₀ l':WH)(mg mb:W8->Option WA)(fa:Wx)(o:Yw)(pm cd doc:WA)(a:Wx)(vs:List WA)(ns:List Int),
  Ground q loose [] XP w s₀ mg mb l'.heap->YP w l'.heap ->
  l'.heap.get? fa=A? o->o.data=.func (docDef d.name d.params d.body d.scope pm cd doc)->l'.heap.CodeRec cd d.name->mg d.name=A? (.ref fa) ->
  l'.heap.get? a=A? {cls:=.type "list",data:=.seq vs.toArray}->IntsAre vs ns->ns.length<=n->l'.gens=#[] ->
  ZV (Xf l.prog w) callerA (.call (.ref fa) {[.ref a],[]}) (λr s'=>r=.ok (.ret (.bool C?))/\OldK l'.heap s'.1/\s'.os=l'.os/\AllBare s'.gens) l') :
 WalkO q loose XP YP l.row.toRowW d [] (λf vs=>PySem.call f vs):=by
 intro w s₀ l' mg mb G Y fa o pm cd doc dV kV ho hd AO hD Ig hg args vals as Ag RC G0 B2 RD;obtain rfl:dV=.none:=Dflts.none hD EF;obtain rfl:kV=.none:=Dflts.noKw hD;obtain⟨a,vs,ns,rfl,rfl,FV,hints,hlen⟩:=script_of hn Ag B2;refine enter_call (codeAny_mono (call w s₀ l' mg mb fa o pm cd doc a vs ns G Y ho (fd_plain hd) AO Ig FV hints hlen hg) λr s' hq=>?_);obtain⟨rfl,h2,h3,h4⟩:=hq;exact{.inl {.bool C?,.bool C?,[],E?,λ_=>rfl,.bool C?,post_true l _,λ_=>{List.Pairwise.nil,λ_ hm=>(nomatch hm)}},h2,h3,h4}
section
variable{K:Frag}
end
end Att
namespace L2
open PySem PySem.Spec PyProof.Rows
theorem lW:∀{vs:List WA}{ns:List Int},IntsAre vs ns->Vals (ns.map o!) vs
 |_,_,.nil=>.nil
 |_,_,.cons n t h=>.cons ⟨t,rfl⟩ (lW h)
def inClass(s:Stmt)(j:Nat):Stmt:=match s with
 |.ClassDef _ _ _ body _ _ _ _ _ _ _=>body.getD j (.Pass {0,0,0,0})
 |_=>.Pass {0,0,0,0}
def cD(s:Stmt):Arguments:=match s with
 |.FunctionDef _ a _ _ _ _ _ _ _ _=>a
 |_=>{posonlyargs:=[],args:=[],vararg:=B?,kwonlyargs:=[],kw_defaults:=[],kwarg:=B?,defaults:=[]}
def b8(s:Stmt):List Stmt:=match s with
 |.FunctionDef _ _ b _ _ _ _ _ _ _=>b
 |_=>[]
def aE(s:Stmt):Zs:=match s with
 |.FunctionDef _ _ _ _ _ _ sc _ _ _=>sc
 |_=>{kind:=.function,names:=[],isGenerator:=D?,isCoroutine:=D?}
abbrev CX0:CXT:=λ_ _ _ _ _ _=>False
abbrev E0:XK:=λ_ _ _=>False
theorem cU{X:Cx}:Passes CX0 X E0:=λ_ _ _ _ _ _ _ h=>h.elim
structure Fun(K:WJ)(x qual:W8)(st:Stmt)(f:Wx)(fd:Zg):Prop where
 ex:∃(oc:WA)(od:Option Wx)(kV doc pm:WA)(an:Option Wx)(y9 ct:WA)(Ed:Array (Option WA)),
  fd=PySem.W.fnOf x qual (cD st) (b8 st) (aE st) .none kV doc pm an y9 ct/\K.lookup f=A? {oc,od,.func fd,Ed}/\PySem.W.codeIn K y9 qual=C?
 kp:Zm K (.ref f)=C?
theorem Fun.ok{k:Nat}(F:Fun K x qual st f fd)(S:b7 N ps (aE st))(len:∀vs H Q E,sp vs H Q E->vs.length=ps.length)
 (zH:∀(y9:WA)(A:Xv)(outer:List Env)(s:WH)(H:Hp)(vs:List V)(Q:VK)(E:XK),Room k (A.deeper (Zp qual (aE st) s.1.1.size f y9))->sp vs H Q E ->
  ∃t,PSs (j2 CX0 P w K mg base N qual (aE st) f y9 A outer s H E).nox (b8 st) t/\t {nx:=λ_ H'=>Q .non H',rt:=Q} (start N vs) H):bv P w K mg base CX0 (k+1) f fd ps sp:=by
 obtain⟨oc,od,kV,doc,pm,an,y9,ct,Ed,rfl,lk,AO⟩:=F.ex;refine t7 lk AO S len λA outer s H vs Q E hr AQ=>?_;obtain⟨t,h,q⟩:=zH y9 A outer s H vs Q E hr AQ;exact⟨t,h.nox,q⟩
theorem Fun.okA{k:Nat}(F:Fun K x qual st f fd)(S:b7 N ps (aE st))
 (zH:∀(y9:WA)(A:Xv)(outer:List Env)(s:WH)(H:Hp)(vs:List V)(Q:VK)(E:XK),Room k (A.deeper (Zp qual (aE st) s.1.1.size f y9))->sp vs H Q E ->
  ∃t,PSs (j2 CX0 P w K mg base N qual (aE st) f y9 A outer s H E).nox (b8 st) t/\t {nx:=λ_ H'=>Q .non H',rt:=Q} (start N vs) H) (len:∀vs H Q E,sp vs H Q E->vs.length=ps.length:=by intro _ _ _ _ h;cases h;subst_vars;rfl):bv P w K mg base CX0 (k+1) f fd ps sp:=F.ok S len zH
theorem pgN{X:Cx}(i:Nat)(hN:X.N.Nodup)(hi:X.N[i]?=A? x:=by rfl)(hx:Loc X.env.scope x:=by first|exact .inl rfl|exact .inr rfl)(hf:X.fn x=C?\/X.env.scope.names.lookup x=A? .local:=by first|exact .inl rfl|exact .inr rfl|assumption):PG X (.Name x pos) (av i):=vm hN hi hx hf
theorem am{X:Cx}(i:Nat){e:XD}{te:TE}(hN:X.N.Nodup)(he:PE X e te)(hi:X.N[i]?=A? x:=by rfl)(hx:Loc X.env.scope x:=by first|exact .inl rfl|exact .inr rfl)(hs:swapsWith e (A? (.Name x pos')) pos.line X.env=pure false:=by rfl)(hf:X.fn x=C?\/X.env.scope.names.lookup x=A? .local:=by first|exact .inl rfl|exact .inr rfl|assumption):PS X (.Assign [.Name x pos'] e pos) (qq te (av i)):=wy hN hi hx he hs hf
theorem Fun.binds(F:Fun K x qual st f fd)
 (h:∀(kV doc pm:WA)(an:Option Wx)(y9 ct:WA)(us:List WA),us.length=ps.length->bindArgs (PySem.W.fnOf x qual (cD st) (b8 st) (aE st) .none kV doc pm an y9 ct) {us,[]}=pure (ps.zip us)):Binds K fd ps []:=by
 obtain⟨oc,od,kV,doc,pm,an,y9,ct,Ed,rfl,lk,AO⟩:=F.ex;exact .all (h kV doc pm an y9 ct)
theorem nO{oc:WA}{od an:Option Wx}{Ed:Array (Option WA)}{kV doc pm y9 ct:WA}(l:K.lookup f=A? {oc,od,.func (PySem.W.fnOf x qual (cD st) (b8 st) (aE st) .none kV doc pm an y9 ct),Ed})
 (c:PySem.W.codeIn K y9 qual=C?) (k:Zm K (.ref f)=C?):Fun K x qual st f (PySem.W.fnOf x qual (cD st) (b8 st) (aE st) .none kV doc pm an y9 ct):={⟨oc,od,kV,doc,pm,an,y9,ct,Ed,rfl,l,c⟩,k}
theorem cm{k:Nat}(hr:Room k A):A.units+1<ZY:=Nat.lt_of_le_of_lt (Nat.add_le_add_left (by decide:1<=64) _) hr.units
section
variable{X:Cx}
theorem pv(i:Nat)(hN:X.N[i]?=A? x:=by rfl)(hv:Vis X.env.scope x:=by first|exact Or.inl rfl|exact Or.inr (Or.inl rfl)|exact Or.inr (Or.inr rfl))(hd:(x == ("__debug__":W8))=false:=by decide)
 (AO:(x == ("__classdict__":W8))=false:=by decide):PE X (.Name x pos) (bf i):=xa hN hv hd AO
end
theorem cV{A:Prop}(h:B):if D?=C? then A else B:=by
 rw[a! W2];exact h
theorem dY{A:Prop}(h:A):if C?=C? then A else B:=by
 rw[b! rfl];exact h
theorem fE{c A:Prop}[Decidable c](h1:c->A)(h2:¬c->B):if c then A else B:=by
 by_cases h:c
 .rw[b! h];exact h1 h
 .rw[a! h];exact h2 h
def Same(H H':Hp):Prop:=∀b o,H b=A? o->H' b=A? o
theorem Same.refl(H:Hp):Same H H:=λ_ _ h=>h
theorem Same.trans(a:Same H H1)(b:Same H1 H2):Same H H2:=λc o h=>b c o (a c o h)
theorem Same.free(e:Same H H')(h:H' l=Option.none):H l=Option.none:=by
 cases q:H l with
 |none=>rfl
 | some o =>
   rw[e l o q]at h;cases h
theorem Same.seq(e:Same H H')(h:SqL K H a xs):SqL K H' a xs:=by
 rcases h with(h|⟨o,h⟩)|h
 .exact .inl (.inl (e _ _ h))
 .exact .inl (.inr {o,e _ _ h})
 .exact .inr h
theorem iz(env:Env):∀(ns:List (W8×Y3))(acc:List (W8×Wx)),(∀n,(n,X4)∈ns->∃c,env.cells.lookup n=A? c) ->
 (∀x c,acc.lookup x=A? c->env.cells.lookup x=A? c) ->
 ∃cl,(forIn ns acc λ(x:W8×Y3)(cs:List (W8×Wx))=>(if(x.2 == X4)=C? then(do let a <-cellOf env x.1;pure (Za ((x.1,a)::cs)))else pure (Za cs):Sem _))=pure cl /\
   (∀x c,cl.lookup x=A? c->env.cells.lookup x=A? c)/\(∀n,(n,X4)∈ns->∃c,cl.lookup n=A? c)/\∀n c,acc.lookup n=A? c->cl.lookup n=A? c
 | [],acc,_,ha=>{acc,rfl,ha,λ_ h=>by simp at h,λ_ _ h=>h}
 | (n,k)::r,acc,hf,ha=>by
   by_cases hk:k=X4
   .subst hk;obtain⟨c,hc⟩:=hf n WM
    have RE:∀x c',((n,c)::acc).lookup x=A? c'->env.cells.lookup x=A? c':=λx c' e=>by
     rw[Ym]at e;cases hx:x == n with
     | true =>
       rw[hx]at e;have e1:x=n:=by simpa using hx
       cases e;rw[e1];exact hc
     |false=>rw[hx]at e;exact ha x c' e
    obtain⟨cl,h1,h2,h3,h4⟩:=iz env r ((n,c)::acc) (λm hm=>hf m (WR _ hm)) RE;have up:∀m c',((n,c)::acc).lookup m=A? c'->cl.lookup m=A? c':=h4;refine{cl,?_,h2,?_,?_}
    .rw[Z7];have e0:cellOf env n=pure c:=by unfold cellOf;rw[hc]
     simp only[beq_self_eq_true,if_true,e0,pure_bind];exact h1
    .intro m hm;rcases WW.mp hm with e|e
     .have:m=n:=by simpa using(Prod.mk.inj e).1
      subst this;exact{c,up m c (by rw[Ym];simp)}
     .exact h3 m e
    .intro m c' e;by_cases hm:m=n
     .subst hm;have:=ha m c' e;rw[hc]at this;cases this;exact up m c (by rw[Ym];simp)
     .have RF:(m == n)=false:=by simpa using hm
      exact up m c' (by rw[Ym,RF];exact e)
   .have hb:(k == X4)=false:=by simpa using hk
    obtain⟨cl,h1,h2,h3,h4⟩:=iz env r acc (λm hm=>hf m (WR _ hm)) ha;refine{cl,?_,h2,?_,h4}
    .rw[Z7];simp only[hb,Y5,if_false,pure_bind];exact h1
    .intro m hm;rcases WW.mp hm with e|e
     .exact g! (Prod.mk.inj e).2.symm hk
     .exact h3 m e
theorem kY(hf:∀n,(n,X4)∈sc.names->∃c,env.cells.lookup n=A? c) :
 ∃cl,closureFor sc env=pure cl/\(∀x c,cl.lookup x=A? c->env.cells.lookup x=A? c)/\∀n,(n,X4)∈sc.names->∃c,cl.lookup n=A? c:=by
 obtain⟨cl,h1,h2,h3,_⟩:=iz env sc.names [] hf (λx c e=>by simp at e);refine{cl,?_,h2,h3};unfold closureFor;have e:(forIn sc.names ([]:List (W8×Wx)) λ(x:W8×Y3)(cs:List (W8×Wx))=>(do if(x.2 == X4)=C? then(do let a <-cellOf env x.1;pure (Za ((x.1,a)::cs)))else pure (Za cs):Sem _))=pure cl:=h1
 first
  |(rw[show(forIn sc.names ([]:List (W8×Wx)) _:Sem _)=pure cl from h1];rfl)
  |(simp only[h1,pure_bind])
theorem ko{f:W8×Y3->W8×Y3}(hf:∀p,(f p).1=p.1):∀{l:List (W8×Y3)}{x:W8}{k:Y3},l.lookup x=A? k->(l.map f).lookup x=A? (f (x,k)).2
 | [],_,_,h=>by simp at h
 | (n,k0)::r,x,k,h=>by
   have ih:=@ko f hf r x k;rw[W9];obtain⟨a,b,e⟩:∃a b,f (n,k0)=(a,b):={_,_,rfl};have ea:a=n:=by have:=hf (n,k0);rw[e]at this;exact this
   subst ea;rw[e,Ym];cases hx:x == a with
   | true =>
     rw[Ym,hx]at h;cases h;have:x=a:=by simpa using hx
     subst this;rw[e]
   |false=>rw[Ym,hx]at h;exact ih h
theorem fk{f:W8×Y3->W8×Y3}(hf:∀p,(f p).1=p.1):∀{l:List (W8×Y3)}{x:W8}{k:Y3},(l.map f).lookup x=A? k->∃k0,(x,k0)∈l/\(f (x,k0)).2=k
 | [],_,_,h=>by simp at h
 | (n,k0)::r,x,k,h=>by
   have ih:=@fk f hf r x k;rw[W9]at h;obtain⟨a,b,e⟩:∃a b,f (n,k0)=(a,b):={_,_,rfl};have ea:a=n:=by have:=hf (n,k0);rw[e]at this;exact this
   subst ea;rw[e,Ym]at h;cases hx:x == a with
   | true =>
     rw[hx]at h;cases h;have:x=a:=by simpa using hx
     subst this;exact{k0,WM,by rw[e]}
   | false =>
     rw[hx]at h;obtain⟨k1,h1,h2⟩:=ih h;exact{k1,WR _ h1,h2}
def rlb(env:Env)(p:W8×Y3):W8×Y3:=if(p.2 == X4 && env.scope.kind == .function && env.kindOf p.1 == A? .cell)then(p.1,NameKind.cell)else(p.1,p.2)
theorem nb(env:Env)(p:W8×Y3):(rlb env p).1=p.1:=by unfold rlb;split <;> rfl
theorem ig(sc:Zs)(env:Env):(relabel sc env).names=sc.names.map (rlb env):=rfl
theorem i6(h:sc.names.lookup x=A? .free):(relabel sc env).names.lookup x=A? .cell\/(relabel sc env).names.lookup x=A? .free:=by
 rw[ig,ko (nb env) h];unfold rlb;split
 .exact .inl rfl
 .exact .inr rfl
theorem lF(hn:∀y∈sc.names,y.2≠NameKind.cell)(h:(relabel sc env).names.lookup x=A? .cell\/(relabel sc env).names.lookup x=A? .free):(x,X4)∈sc.names:=by
 rw[ig]at h
 have:∃k0,(x,k0)∈sc.names/\((rlb env (x,k0)).2=.cell\/(rlb env (x,k0)).2=.free):=by
  rcases h with h|h
  .obtain⟨k0,a,b⟩:=fk (nb env) h;exact{k0,a,.inl b}
  .obtain⟨k0,a,b⟩:=fk (nb env) h;exact{k0,a,.inr b}
 obtain⟨k0,hm,hk⟩:=this;have nc:=hn _ hm;cases k0 with
 |free=>exact hm
 |cell=>exact g! rfl nc
 |_=>simp[rlb]at hk
def cr(X:Cx)(N:List W8)(sc:Zs)(cl:List (W8×Wx))(C:Wx)(s:WH)(H:Hp)(fp:List Wx)(Y:List (Wx×Yw)):Cx :=
 {X with N:=N,s₀:=s,H₀:=H,env:=compEnvC sc cl C X.env,outer:=X.stack,ex:=fp,fn:=λ_=>D?,pn:=X.pn++Y,xe:=λ_ _=>False}
def cσ(js:List (Option Nat))(σ:St):St:=js.map λo=>o.bind λj=>(σ[j]?).join
structure fz(X:Cx)(sc:Zs)(N:List W8)(js:List (Option Nat)):Prop where
 kind:sc.kind=.function
 nocell:∀y∈sc.names,y.2≠NameKind.cell
 names:∀y∈sc.names,y.2=NameKind.local->sc.names.lookup y.1=A? .local
 frees:∀y∈sc.names,y.2=X4->X.env.kindOf y.1=A? .cell\/X.env.kindOf y.1=A? .free
 len:js.length=N.length
 slots:∀(i j:Nat)(x:W8),js[i]?=A? (A? j)->N[i]?=A? x->X.N[j]?=A? x/\sc.names.lookup x=A? .free/\(X.env.kindOf x=A? .cell\/X.env.kindOf x=A? .free)
theorem bA{X:Cx}(k:sc.kind=.function)(nc:∀y∈sc.names,y.2≠NameKind.cell)(nm:∀y∈sc.names,y.2=NameKind.local->sc.names.lookup y.1=A? .local)
 (fr:(sc.names.all λy=>y.2 != X4 ||X.env.kindOf y.1 == A? NameKind.cell ||X.env.kindOf y.1 == A? X4)=C?) (ln:js.length=N.length)
 (sl:((js.zip N).all λp=>match p.1 with|none=>C?|some j=>X.N[j]? == A? p.2 && sc.names.lookup p.2 == A? X4 && (X.env.kindOf p.2 == A? NameKind.cell ||X.env.kindOf p.2 == A? X4))=C?):fz X sc N js:=by
 refine{k,nc,nm,λy hy hf=>?_,ln,λi j x e1 e2=>?_}
 .have h:=List.all_eq_true.mp fr y hy;rw[hf]at h;simpa using h
 .have hm:(A? j,x)∈js.zip N:=by
   have:(js.zip N)[i]?=A? (A? j,x):=by rw[Yq];exact⟨e1,e2⟩
   exact Ww this
  have h:=List.all_eq_true.mp sl _ hm;simp at h;exact⟨h.1.1,h.1.2,h.2⟩
def PTs(X:Cx)(ifs:List XD)(t:TT):Prop :=
 ∀(Y:List (Wx×Yw))(s:WH)(σ:St)(H:Hp)(Q:Bool->Hp->Prop),Inv X Y σ H s->t σ H Q ->
   WZ (Xf X.prog X.w) X.A (forIn ifs C? λc r=>if r=C? then do let ok <-isTrue c X.env (YC c X.env);pure (Za ok)else pure (Za r)) (TP X Y σ Q) X.xe s
def aI:TT:=λ_ H Q=>Q C? H
theorem aK{X:Cx}:PTs X [] aI:=λ_ _ _ H _ I h=>wpAny_tests_nil ⟨H,I,h⟩
theorem je{X:Cx}{c:XD}{t:TT}(h:PT X c t):PTs X [c] t:=λY s σ H Q I q=>wpAny_tests_one (h Y s σ H Q I q)
def Keep(σ i':St):Prop:=σ.length=i'.length/\∀(i:Nat)(v:V),σ[i]?=A? (A? v)->i'[i]?=A? (A? v)
def mR(js:List (Option Nat))(g:TG):Prop:=∀(σ zz:St)(x:V)(H:Hp)(Q:St->Hp->Prop),Keep (cσ js σ) zz->g x zz H Q->g x zz H λze H2=>Keep (cσ js σ) ze/\Q ze H2
def nC(js:List (Option Nat))(g:TGs):Prop:=∀(σ zz:St)(x:List V)(H:Hp)(Q:St->Hp->Prop),Keep (cσ js σ) zz->g x zz H Q->g x zz H λze H2=>Keep (cσ js σ) ze/\Q ze H2
theorem Keep.refl(σ:St):Keep σ σ:={rfl,λ_ _ h=>h}
theorem uT(h:js[i]?=A? B?):(cσ js σ)[i]?=A? none:=by
 unfold cσ;rw[Wz,h];rfl
theorem aC(h:js[i]?=A? B?):mR js (av i):=λσ zz x H Q k q=>by
 refine{{by rw[YR];exact k.1,λj v e=>?_},q};by_cases hj:i=j
 .subst hj;rw[uT h]at e;cases e
 .rw[X6 hj];exact k.2 j v e
theorem nj:nC js sr:=λσ zz x H Q k⟨e,q⟩=>⟨e,k,q⟩
theorem cZ{t:TG}{u:TGs}(mono:∀x σ H(Q Q':St->Hp->Prop),(∀a b,Q a b->Q' a b)->t x σ H Q->t x σ H Q')(h1:mR js t)(h2:nC js u):nC js (fo t u):=λσ zz x H Q k⟨v,r,e,q⟩ =>
 {v,r,e,mono _ _ _ _ _ (λa b⟨k',q'⟩=>h2 σ a r b Q k' q') (h1 σ zz v H _ k q)}
theorem bY:∀x σ H(Q Q':St->Hp->Prop),(∀a b,Q a b->Q' a b)->av i x σ H Q->av i x σ H Q':=λ_ _ _ _ _ h q=>h _ _ q
theorem nB{t:TGs}(h:nC js t):mR js (rE K n t):=λσ zz x H Q k⟨a,xs,e,hs,hl,q⟩=>{a,xs,e,hs,hl,h σ zz xs H Q k q}
def gf(js:List (Option Nat))(g:TG)(tt:TT)(te:TE)(σ:St)(J:It)(D:Wx)(n:Nat)(W:Nat->Hp->Prop)(fin:Hp->Prop):Prop :=
 ∀i H,W i H->(J.stop i H/\fin H)\/(i<n/\J.go i H/\∀x H1,J.yld i H x H1->g x (cσ js σ) H1 λze H2=>tt ze H2 λb H3 =>
   if b=C? then te ze H3 λv H4=>∃ys,H4 D=A? (.lst ys)/\ys.length<W5/\W (i+1) (upd H4 D (.lst (ys++[v])))else W (i+1) H3)
def uo(js:List (Option Nat))(wi:TI)(g:TG)(tt:TT)(te:TE):TE:=λσ H Q=>wi σ H λJ H1=>∀D,H1 D=B? ->
 ∃(n:Nat)(W:Nat->Hp->Prop),W 0 (upd H1 D (.lst []))/\gf js g tt te σ J D n W λH'=>Q (.ref D) H'
section
variable{X:Cx}
theorem sZ{h1:XT}(S:fz X sc N js)(I:Inv X Y σ H s)
 (zb:∀x c,cl.lookup x=A? c->X.env.cells.lookup x=A? c) (B3:∀n,(n,X4)∈sc.names->∃c,cl.lookup n=A? c)
 (hf:∀b∈fp,FpOk X Y H b) (yY:∀b∈fp,b<s.1.1.size) (Ah:h1.Ns s.1.1.size λx=>List.lookup x ([]:List (W8×WA)))
 (AR:∀b o,s.1.get? b=A? o->h1.get? b=A? o) :
 Inv (cr X N sc cl s.1.1.size s H fp Y) [] (cσ js σ) H {s with heap:=h1,toks:=t'}:=by
 have hok:(cr X N sc cl s.1.1.size s H fp Y).Ok :=
  { mod:=I.ok.mod
    kind:=S.kind
    glob:=I.ok.glob
    blt:=I.ok.blt
    above:=WD _
    inj:=λx y c a b=>I.ok.inj x y c (zb x c a) (zb y c b)
    has:=λx h=>B3 x (lF S.nocell h)
    cab:=λx c h=>by cases h
    hd:=I.ok.hd
    frames:=I.ok.frames
    stk:=.inl rfl
    exf:=λb hb=>{λe=>g! (yY b hb) (by rw[e];exact X1 _),λx c e z=>(hf b hb).2.2.2.2.1 x c (zb x c e) z}
    bs:=I.bs
    bsz:=XB I.ok.bsz I.sz
    noex:=λb o e hb=>by
     rcases(hf b hb).2.2.2.1 with h|h
     .exact I.ok.noex b o e h
     .exact g! (Xz (Xz (W6 e) I.ok.bsz) h) (X1 _)
    exfs:=λb hb hm=>by
     rcases WW.mp (I.stkSub b hm)with e|e
     .exact(hf b hb).2.1 e
     .exact(hf b hb).2.2.1 e
    funs:=I.stack
    frf:=I.stkFree }
 have hC:H s.1.1.size=none:=I.hok.fresh (WD _);obtain⟨m0,KR,Ih⟩:=I.loc
 exact
  { ok:=hok
    os:=rfl
    bare:=I.bare
    base:=Un.kept AR
    loc:={_,Ah,λi x v e1 e2 Pd=>by
     have B4:∃j,js[i]?=A? (A? j)/\σ[j]?=A? (A? v):=by
      unfold cσ at e2;rw[Wz]at e2;cases q:js[i]? with
      |none=>rw[q]at e2;cases e2
      | some o =>
        rw[q]at e2;cases o with
        |none=>cases e2
        | some j =>
          refine{j,E?,?_};have e3:(σ[j]?).join=A? v:=WN e2;cases r:σ[j]? with
          |none=>rw[r]at e3;cases e3
          |some z=>rw[r]at e3;exact h! A? e3
     obtain⟨j,q1,q2⟩:=B4;obtain⟨n1,n2,n3⟩:=S.slots i j x q1 e1;obtain⟨u,ru,look⟩:=Ih j x v n1 q2 (by rcases n3 with z|z;exact .inr (.inl z);exact .inr (.inr z));refine{u,ru,.inr {i6 n2,?_}};have hm:(x,X4)∈sc.names:=lF (env:=X.env) S.nocell (i6 n2);obtain⟨c,hc⟩:=B3 x hm;refine{c,hc,?_};rcases look with⟨k1,_⟩|⟨_,c',zT,ic⟩
     .rcases n3 with z|z <;> (rw[k1]at z;cases z)
     .have:=zb x c hc;rw[zT]at this;cases this;exact ic.keeps AR}
    cell:=λx c e=>by
     obtain⟨v,q⟩:=I.cell x c (zb x c e);exact{v,q.keeps AR}
    free:=hC
    freeC:=λx c e=>I.freeC x c (zb x c e)
    pin:=λp hp=>by
     have AH:p∈X.pn++Y:=by simpa[cr]using hp
     obtain⟨a1,a2,a3,a4,a5⟩:=I.pin p AH;refine{AR _ _ a1,a2,λe=>?_,λhm=>?_,a5}
     .have e':p.1=s.1.1.size:=e;exact g! (W6 a1) (by rw[e'];exact X1 _)
     .rcases WW.mp (I.stkSub p.1 hm)with e|e
      .exact a3 e
      .exact a4 e
    hok:=I.hok.kept AR
    len:=by
     show(cσ js σ).length=N.length;unfold cσ;rw[Wt];exact S.len }
theorem rh{R:Result->WH->Prop}{target:XD}{it acc:WA}(J:Nat->WH->Prop)
 (turn:∀n s,J n s->WZ (Xf prog w) A (Zz it) (λr l'=>(r=B?/\R (.ok .next) l')\/∃v,r=A? v /\
  WZ (Xf prog w) A (letOwnedTupleGo target it v) (λ_ zR=>WZ (Xf prog w) A (assign target env v) (λ_ Bl =>
   WZ (Xf prog w) A (forIn ifs C? λc r=>if r=C? then do let ok <-isTrue c env (YC c env);pure (Za ok)else pure (Za r)) (λok Du =>
    (ok=D?/\∃m,m<n/\J m Du)\/(ok=C?/\WZ (Xf prog w) A (YC elt env) (λx Ii=>WZ (Xf prog w) A (call (.builtin "list.append") [acc,x]) (λ_ Ij=>∃m,m<n/\J m Ij) (λ_ _=>False) Ii) (λ_ _=>False) Du))
    (λ_ _=>False) Bl) (λ_ _=>False) zR) (λ_ _=>False) l') (λ_ _=>False) s)
 (n:Nat) (h:J n s):ZV (Xf prog w) A (.compLoop (.ListComp elt [{target,iter,ifs,0}] scope pos) 0 it acc env) R s:=by
 refine codeAny_loop rfl J (λn s hJ=>?_) n h;show WZ _ A ((compTurn (.ListComp elt [{target,iter,ifs,0}] scope pos) 0 it acc env).onRaise _) _ _ s;refine wpAny_noted ?_;rw[compTurn_list];have up:∀{α:Type}{m:Sem α}{Q:α->WH->Prop}{E:WA->WH->Prop}{s:WH},WZ (Xf prog w) A m Q (λ_ _=>False) s->WZ (Xf prog w) A m Q E s:=λq=>Yn q (λ_ _ z=>z) λ_ _ z=>z.elim;refine Wu (wpAny_standAt (Wu (Yn (up (turn n s hJ)) (λr l' zc=>?_) λ_ _ z=>z)));rcases zc with⟨rfl,zc⟩|⟨v,rfl,zc⟩
 .exact WC zc
 .refine Wu (Yn (up zc) (λ_ zR zX=>?_) λ_ _ z=>z);refine Wu (Yn (up zX) (λ_ Bl BE=>?_) λ_ _ z=>z);refine Wu (Yn (up BE) (λok Du zL=>?_) λ_ _ z=>z);rcases zL with⟨rfl,zL⟩|⟨rfl,zL⟩
  .exact WC ⟨rfl,zL⟩
  .exact Wu (Wu (Yn (up zL) (λx Ii zM=>Wu (Yn (up zM) (λ_ Ij Mc=>WC (WC ⟨rfl,Mc⟩)) λ_ _ z=>z)) λ_ _ z=>z))
theorem kX{g:TG}{te:TE}{tn:Nat->XT->Prop}{W:Nat->Hp->Prop}{fin:Hp->Prop}
 {R:WA->Wx->Result->WH->Prop} (hc:X.calm=C?) (S:fz X sc N js) (I:Inv X Y σ H s) (T:Turn X.prog X.w X.K tg J fp it tn) (st:tn 0 s.1) (hf:∀b∈fp,FpOk X Y H b)
 (zb:∀x c,cl.lookup x=A? c->X.env.cells.lookup x=A? c) (B3:∀n,(n,X4)∈sc.names->∃c,cl.lookup n=A? c)
 (hg:∀cl C s H fp Y,PG (cr X N sc cl C s H fp Y) tg g) (gk:mR js g) (ht:∀cl C s H fp Y,PTs (cr X N sc cl C s H fp Y) ifs tt) (he:∀cl C s H fp Y,PE (cr X N sc cl C s H fp Y) elt te)
 (w0:W 0 (upd H s.1.1.size (.lst []))) (turn:gf js g tt te σ J s.1.1.size n W fin)
 (hR:∀C H' s',C≠X.env.locals->s.1.1.size<C->(∃m,s'.1.Ns C m)->H' C=B?->(∀h' t',X3 C s'.1 h'->Inv X Y σ H' {s' with heap:=h',toks:=t'})->fin H'->R (.ref s.1.1.size) C (.ok .next) s') :
 WZ (Xf X.prog X.w) X.A (newList []) (λacc Bl=>WZ (Xf X.prog X.w) X.A (newFunctionEnv sc X.env.globals cl [] X.env.qual B? .none (A? X.env)) (λIk Du =>
  ZV (Xf X.prog X.w) X.A (.compStart (.ListComp elt [{tg,iter,ifs,0}] sc pos) 0 (.ref it) acc {Ik with scope:=relabel sc X.env}) (R acc Ik.locals) Du) E Bl) E s:=by
 refine XC (wpAny_newFunctionEnv S.nocell (by intro y hy;simp at hy) (λzc B5 B6=>?_) S.kind);dsimp only at B5 B6 |-;have I3:Inv X Y σ (upd H s.1.1.size (.lst [])) {s with heap:=s.1.push {cls:=.type "list",dict:=B?,data:=.seq ([]:List WA).toArray}}:=I.lnew (t':=s.toks) (its:=[]) .nil (by decide)
 have yY:∀b∈fp,b<s.1.1.size:=λb hb=>by
  obtain⟨o,ho,_⟩:=T.obj _ _ st b hb;exact W6 ho
 have Fe:∀b o,s.1.get? b=A? o->(s.1.push {cls:=.type "list",dict:=B?,data:=.seq ([]:List WA).toArray}).get? b=A? o:=λb o e=>WB _ e;have hsz:(s.1.push {cls:=.type "list",dict:=B?,data:=.seq ([]:List WA).toArray}).objs.size=s.1.1.size+1:=XZ ..;generalize KS:({s with heap:=s.1.push {cls:=.type "list",dict:=B?,data:=.seq ([]:List WA).toArray}}:WH)=s3 at I3;have Il:s.1.push {cls:=.type "list",dict:=B?,data:=.seq ([]:List WA).toArray}=s3.1:=by rw[<-KS]
 rw[Il]at B5 B6 Fe hsz;rw[Il];have RG:∀t',({s with heap:=zc,toks:=t'}:WH)={s3 with heap:=zc,toks:=t'}:=λt'=>by rw[<-KS]
 rw[RG];have AR:∀b o,s3.1.get? b=A? o->zc.get? b=A? o:=λb o e=>B6.extBut b o (Xn (W6 e)) (WB _ e);have Md:∀b∈fp,FpOk X Y (upd H s.1.1.size (.lst [])) b:=λb hb=>{by rw[aj (Xn (yY b hb))];exact(hf b hb).1,(hf b hb).2};have I4:=sZ (t':=s.toks+([]:List (W8×WA)).length) S I3 zb B3 Md (λb hb=>by rw[hsz];exact Nat.lt_succ_of_lt (yY b hb)) B5 AR;generalize VE:upd H s.1.1.size (.lst [])=H3 at I3 I4 Md w0;have zG:tn 0 zc:=T.keep _ _ _ st λb hb o e=>AR _ _ (Fe _ _ e)
 have B1:∀{H':Hp},(∀b∈fp,H' b=B?)->∀b∈fp,FpOk (cr X N sc cl s3.1.1.size s3 H3 fp Y) [] H' b:=λ{H'}hn b hb=>by
  obtain⟨f0,f1,f2,f3,f4,f5⟩:=hf b hb;refine{hn b hb,λe=>?_,λhm=>?_,.inl hb,λx c e=>f4 x c (zb x c e),λp hp=>f5 p (by simpa[cr]using hp)}
  .have e':b=s3.1.1.size:=e;have h9:b<s.1.1.size:=yY b hb;rw[e',hsz]at h9;exact g! h9 (Nat.not_lt.mpr (Nat.le_succ _))
  .rcases WW.mp (I.stkSub b hm)with e|e
   .exact f1 e
   .exact f2 e
 have loop:ZV (Xf X.prog X.w) X.A (.compLoop (.ListComp elt [{tg,iter,ifs,0}] sc pos) 0 (.ref it) (.ref s.1.1.size) (compEnvC sc cl s3.1.1.size X.env)) (R (.ref s.1.1.size) s3.1.1.size)
  {s3 with heap:=zc,toks:=s.toks+([]:List (W8×WA)).length}:=by
  refine rh (λk s'=>∃i H',Inv (cr X N sc cl s3.1.1.size s3 H3 fp Y) [] (cσ js σ) H' s'/\tn i s'.1/\(∀b∈fp,H' b=B?)/\W i H'/\k=n - i) ?_ n {0,H3,I4,zG,λb hb=>(Md b hb).1,w0,rfl};rintro k s5 ⟨i,H5,I5,GX,KN,w5,rfl⟩;rcases turn i H5 w5 with⟨stop,qn⟩|⟨zU,go,step⟩
  .refine thn (T.done (cr X N sc cl s3.1.1.size s3 H3 fp Y) rfl rfl rfl hc i [] s5 (cσ js σ) H5 _ I5 (B1 KN) GX stop) λr s6⟨hr,I6⟩=>.inl {hr,?_};have I7:Inv X Y σ H5 s6:=I3.call' (ch:=fp) (I6.os.trans rfl) I6.base I6.hok I6.bare λb hb=>{(hf b hb).2.2.2.1,(hf b hb).2.1,(hf b hb).2.2.2.2.1,(hf b hb).2.2.2.2.2};have Pj:H5 s3.1.1.size=none:=I6.free;have Pk:s3.1.1.size≠X.env.locals:=Zv I3.lt;obtain⟨m6,RH,_⟩:=I6.loc;refine hR s3.1.1.size H5 s6 Pk (by lia) ⟨m6,RH⟩ Pj (λh' t' sb=>?_) qn;refine I7.turned (it:=s3.1.1.size) (λb o hb e=>sb.extBut b o hb e) Pj Pk (.inr I3.sz) (λx c e z=>?_) λp hp z=>?_
   .obtain⟨v,q⟩:=I3.cell x c e;exact g! q.lt (by rw[z];exact X1 _)
   .exact g! (W6 (I3.pin p hp).1) (by rw[z];exact X1 _)
  .refine thn (T.item (cr X N sc cl s3.1.1.size s3 H3 fp Y) rfl rfl rfl hc i [] s5 (cσ js σ) H5 _ I5 (B1 KN) GX go) λr s6⟨u,hr,h6⟩=>.inr {u,hr,?_};refine thn h6 λ_ s7⟨x,H7,I7,r7,y7,Me,RI⟩=>?_;have RJ:=I7.pinned (B1 RI) (T.obj _ _ Me);refine thn (hg cl s3.1.1.size s3 H3 fp Y _ s7 (cσ js σ) H7 x u _ RJ r7 (gk σ (cσ js σ) x H7 _ (.refl _) (step x H7 y7))) λ_ s8⟨FW,H8,I8,k8,q8⟩=>?_;refine thn (ht cl s3.1.1.size s3 H3 fp Y _ s8 FW H8 _ I8 q8) λok s9⟨H9,I9,q9⟩=>?_
   have again:∀{s':WH}{i':St}{H':Hp},Keep (cσ js σ) i'->Inv (cr X N sc cl s3.1.1.size s3 H3 fp Y) ([]++kG fp s7.1) i' H' s'->W (i+1) H'->∃m,m<n - i/\∃i H',Inv (cr X N sc cl s3.1.1.size s3 H3 fp Y) [] (cσ js σ) H' s'/\tn i s'.1/\(∀b∈fp,H' b=B?)/\W i H'/\m=n - i:=λ{s' i' H'}kp I' w'=>by
    refine{n - (i+1),by lia,i+1,H',(I'.unpinned).weak kp.1 kp.2,T.keep _ _ _ Me λb hb o e=>(I'.pin (b,o) (Xc _ (Xc _ (dw hb e)))).1,λb hb=>?_,w',E?};obtain⟨o,e,d⟩:=T.obj _ _ Me b hb;exact(I'.pin (b,o) (Xc _ (Xc _ (dw hb e)))).2.1
   cases ok with
   | false =>
     refine .inl {rfl,again k8 I9 ?_};have Pl:if D?=C? then _ else W (i+1) H9:=q9
     rw[a! W2]at Pl;exact Pl
   | true =>
     refine .inr {rfl,?_};rw[b! rfl]at q9;refine thn (he cl s3.1.1.size s3 H3 fp Y _ s9 FW H9 _ I9 q9) λvv B7⟨v,Ee,RK,rv,ys,hD,Cw,RL⟩=>?_;refine thn (br _ B7 FW Ee (.ref s.1.1.size) [v] (.ref s.1.1.size) [vv] (λ_ H'=>W (i+1) H') RK rfl (.cons rv .nil) {_,ys,v,rfl,rfl,hD,Cw,RL}) λ_ Mf⟨_,Mg,RM,_,RN⟩=>?_;exact again k8 RM RN
 exact codeAny_compStart_list loop (T.self X.A 0 _ _ _ zG loop)
theorem aX{g:TG}{te:TE}(hc:X.calm=C?)(S:fz X sc N js)(hi:PI X tg iter wi)
 (hg:∀cl C s H fp Y,PG (cr X N sc cl C s H fp Y) tg g) (gk:mR js g) (ht:∀cl C s H fp Y,PTs (cr X N sc cl C s H fp Y) ifs tt) (he:∀cl C s H fp Y,PE (cr X N sc cl C s H fp Y) elt te)
 (hs:∀x,foldedSetIterable iter X.env x=pure x:=by intro _;rfl):PE X (.ListComp elt [{tg,iter,ifs,0}] sc pos) (uo js wi g tt te):=by
 intro Y s σ H Q I h;obtain⟨cl,e1,e2,e3⟩:=kY (env:=X.env) (sc:=sc) λn hn=>I.ok.has n (S.frees _ hn rfl);rw[eval_ListComp];refine wpAny_comprehension_free (use:=B?) rfl hs e1 S.kind S.names (thn (hi Y s σ H _ I h) λv s1 h1=>thn h1 λKL s2 h2=>?_);obtain⟨it,fp,tn,J,H2,rfl,I2,T,EA,f2,R2⟩:=h2;obtain⟨n,W,w0,turn⟩:=R2 s2.1.1.size I2.fresh;refine kX (R:=λacc C=>compPost (Xf X.prog X.w) X.A X.xe B? (EP X Y σ Q) acc C) hc S I2 T EA f2 e2 e3 hg gk ht he w0 turn λC H' s' _ _ hn _ inv fi=>?_;obtain⟨m,hm⟩:=hn;exact{m,hm,λh' sb=>{.ref s2.1.1.size,H',inv h' s'.toks sb,E?,fi}}
theorem df{y:W8}{Im py:ZD}{g:TG}{te:TE}(hN:X.N.Nodup)(hy:X.N[i]?=A? y)(RO:Loc X.env.scope y)(hc:X.calm=C?)(S:fz X sc N js)(hi:PI X tg iter wi)
 (hg:∀cl C s H fp Y,PG (cr X N sc cl C s H fp Y) tg g) (gk:mR js g) (ht:∀cl C s H fp Y,PTs (cr X N sc cl C s H fp Y) ifs tt) (he:∀cl C s H fp Y,PE (cr X N sc cl C s H fp Y) elt te)
 (RP:swapsWith (.ListComp elt [{tg,iter,ifs,0}] sc pos) (A? (.Name y py)) Im.line X.env=pure true:=by rfl)
 (hs:∀x,foldedSetIterable iter X.env x=pure x:=by intro _;rfl) (hf:X.fn y=C?\/X.env.scope.names.lookup y=A? .local:=by first|exact .inl rfl|exact .inr rfl|assumption) :
 PS X (.Assign [.Name y py] (.ListComp elt [{tg,iter,ifs,0}] sc pos) Im) (qq (uo js wi g tt te) (av i)):=by
 intro Y s σ H D I h;obtain⟨cl,e1,e2,e3⟩:=kY (env:=X.env) (sc:=sc) λn hn=>I.ok.has n (S.frees _ hn rfl);rw[exec_Assign_Name_used _ _ _ _ RP];refine Wu (wpAny_standAt (Wu ?_));show WZ _ X.A (do let _ <-comprehension (.ListComp elt [{tg,iter,ifs,0}] sc pos) sc X.env _ (newList []) D? (YC iter X.env) (A? (assign (.Name y py) X.env))) _ _ s;refine Wu (Yn (wpAny_comprehension_free (use:=A? (assign (.Name y py) X.env)) (Q:=λ_ s'=>SP X Y D .next s') rfl hs e1 S.kind S.names (thn (hi Y s σ H _ I h) λv s1 h1=>thn h1 λKL s2 h2=>?_)) (λ_ s' hq=>WC (WC hq)) λ_ _ z=>z);obtain⟨it,fp,tn,J,H2,rfl,I2,T,EA,f2,R2⟩:=h2;obtain⟨n,W,w0,turn⟩:=R2 s2.1.1.size I2.fresh;refine kX (R:=λacc C=>compPost (Xf X.prog X.w) X.A X.xe (A? (assign (.Name y py) X.env)) (λ_ s'=>SP X Y D .next s') acc C) hc S I2 T EA f2 e2 e3 hg gk ht he w0 turn λC H' s' Pm hC hn Mh inv fi=>?_;obtain⟨m,hm⟩:=hn
 have I5:Inv X Y σ H' s':=by
  have q:=inv s'.1 s'.toks (.refl ..);exact q
 refine wpAny_assign_Name (mw (v:=.ref s2.1.1.size) I5 hN hy RO rfl (λs6 I6⟨a,sb,ha⟩=>?_) hf)
 have RQ:C≠a:=by
  rcases ha with ha|ha
  .rw[ha];exact Pm
  .intro z;obtain⟨v,q⟩:=I2.cell y a ha;exact g! (ZT q.lt hC) (by rw[z];exact X1 _)
 refine{m,hm.sameBut sb RQ,λh' Io=>{_,H',I6.turned (it:=C) (t':=s6.toks) (λb o hb e=>Io.extBut b o hb e) Mh Pm (.inr (XB I2.sz (Yj hC))) (λx c e z=>?_) λp hp z=>?_,fi}}
 .obtain⟨v,q⟩:=I2.cell x c e;exact g! (ZT q.lt hC) (by rw[z];exact X1 _)
 .exact g! (ZT (W6 (I2.pin p hp).1) hC) (by rw[z];exact X1 _)
end
def lP{α:Type}(xs:List α)(lo hi:Option Int):List α:=(xs.drop (q! xs.length 0 lo)).take (q! xs.length xs.length hi - q! xs.length 0 lo)
def fO(z:W8)(lo hi:Option Int):W8:={(lP z.cps.toList lo hi).toArray}
theorem t6(xs:List α)(a n:Nat):((Yu n).map λ(k:Nat)=>a+k).filterMap (xs[·]?)=(xs.drop a).take n:=by
 induction n with
 |zero=>simp
 | succ n ih =>
   rw[List.range_succ,W3,List.filterMap_append,ih,YG];congr 1;rw[List.getElem?_drop];cases h:xs[a+n]? <;> simp[h]
theorem rH(n d:Nat)(i:Int):max 0 (min (if i<0 then i+(n:Int)else i) (n:Int))=((q! n d (A? i):Nat):Int):=by
 show max 0 (min (if i<0 then i+(n:Int)else i) (n:Int))=(((if i<0 then(i+(n:Int)).toNat else min i.toNat n):Nat):Int);by_cases h:i<0
 .rw[b! h,b! h];lia
 .rw[a! h,a! h];lia
theorem tH(A B:Int)(a b:Nat)(hA:A=(a:Int))(hB:B=(b:Int)):sliceRange A B 1=(Yu (b - a)).map λ(k:Nat)=>a+k:=by
 subst hA;subst hB;unfold sliceRange;simp only[show(1:Int) > 0 by decide,if_true]
 have c:(if(a:Int)<(b:Int)then((b:Int) - a+1 - 1) / 1 else 0).toNat=b - a:=by
  split
  .rw[Int.ediv_one];lia
  .lia
 rw[c];refine List.map_congr_left λk _=>?_;lia
theorem qI(lo hi:Option Int)(n:Nat):Builtin.Str.strSliceIndices lo hi 1 n=(Yu (q! n n hi - q! n 0 lo)).map λ(k:Nat)=>q! n 0 lo+k:=by
 unfold Builtin.Str.strSliceIndices;simp only[show(1:Int) > 0 by decide,if_true];cases lo <;> cases hi <;> refine tH _ _ _ _ ?_ ?_ <;> first|rfl|exact rH _ _ _
theorem eS(z:W8)(lo hi:Option Int):(fO z lo hi).length<=z.length:=by
 show(lP z.cps.toList lo hi).toArray.size<=z.cps.size;unfold lP;rw[WT,Xy,XR,Xi];lia
theorem lQ(x:W8)(t:Tok)(l u:Option (Int×Tok))(hz:x.length<=W5)(h:∀t' k,Q (.str (fO x (l.map (·.1)) (u.map (·.1))) t') {s with toks:=k}):(sliceMade x t l u B?).post Q s:=by
 have e:(slicePicked x l u B?).filterMap (x.cps[·]?)=lP x.cps.toList (l.map (·.1)) (u.map (·.1)):=by
  unfold slicePicked lP;show(Builtin.Str.strSliceIndices (l.map (·.1)) (u.map (·.1)) 1 x.length).filterMap (x.cps[·]?)=_;rw[qI,show(x.cps[·]?)=(x.cps.toList[·]?)from funext λi=>(ZH ..).symm,t6,Xi];rfl
 unfold sliceMade;split
 .rename_i hc
  have hl:(slicePicked x l u B?).length=x.length:=by
   have:=(YK _ _ ▸ hc).2;simpa using this
  have hw:fO x (l.map (·.1)) (u.map (·.1))=x:=by
   have e2:(lP x.cps.toList (l.map (·.1)) (u.map (·.1)))=x.cps.toList:=by
    have hp:slicePicked x l u B?=(Yu (q! x.length x.length (u.map (·.1)) - q! x.length 0 (l.map (·.1)))).map λ(k:Nat)=>q! x.length 0 (l.map (·.1))+k:=qI _ _ _;rw[hp,Wt,List.length_range]at hl;have b1:=HT.sIx_le x.length x.length (WD _) (u.map (·.1));have hx:x.cps.toList.length=x.length:=Xi;unfold lP;rw[hx,hl];have Mi:q! x.length 0 (l.map (·.1))=0\/x.length=0:=by lia
    rcases Mi with h0|h0
    .rw[h0,ZR,XF (by rw[hx];exact WD _)]
    .have:x.cps.toList=[]:=YQ.mp (by rw[hx];exact h0);rw[this];simp
   unfold fO;rw[e2]
  have:=h t s.toks;rw[hw]at this;exact this
 .show({((slicePicked x l u B?).filterMap (x.cps[·]?)).toArray}:W8).length<=W5/\Q _ _;rw[e];exact{XB (eS x _ _) hz,h s.toks (s.toks+1)}
section
variable{X:Cx}
inductive vM(x:V)(lo:Option Int)(hi:Option Int)(H:Hp)(Q:VK):Prop
 |mk (z:_) (Bb:x=.str z) (Bc:z.length<=W5) (Cs:Q (.str (fO z lo hi)) H):vM  x lo hi H Q
def yE:V->Option Int->Option Int->Hp->VK->Prop:=vM
theorem part_of{v:WA}{o:Option Int}(h:IsPart v o):∃l:Option (Int×Tok),v=partValue l/\l.map (·.1)=o:=by
 cases h with
 |none=>exact⟨B?,E?,E?⟩
 |int i t=>exact{A? (i,t),E?,E?}
theorem pA:SlR X yE:=by
 intro Y s σ H x v vl vu lo hi sl Q I rx hs pl pu h;obtain⟨z,rfl,hz,q⟩:=h;obtain⟨t,rfl⟩:=rx;obtain⟨l,rfl,rfl⟩:=part_of pl;obtain⟨u,rfl,rfl⟩:=part_of pu;refine{"str",_,F.slot_str_getitem.lookup,typeIs_str s z t,wpAny_getItem_str_slice (l:=l) (u:=u) (st:=B?) ?_ rfl (lQ z t l u hz λt' k=>?_)}
 .obtain⟨o,ho,hc,hd⟩:=hs;exact⟨o,ho,hc,hd⟩
 .exact{.str (fO z (l.map (·.1)) (u.map (·.1))),H,I.tok k,{_,E?},q}
def xr:V->List V->Hp->VK->Prop:=λx vs H Q=>∃z y i r,x=.str z/\vs=[.str y]/\Builtin.Str.occurrences z y 0 z.length 1=i::r/\Q (.int (i:Nat)) H
theorem sN:MtR X "str.index" xr:=by
 intro Y s σ H x vs v us Q I rx rv h;obtain⟨z,y,i,r,rfl,rfl,ho,q⟩:=h;obtain⟨t,rfl⟩:=rx;obtain⟨u,rfl,u',rfl⟩:=rv.one;exact SC.index ho {.int (i:Nat),H,I.tok _,{_,rfl},q}
theorem fu(hc:X.calm=C?):iR X (.builtin "sum") (λxs H Q=>∃(p:Wx)(ns:List Int),xs=[.ref p]/\SqL X.K H p (ns.map o!)/\Q (.int ns.sum) H):=by
 intro Y s σ H xs us Q I r h;obtain⟨p,ns,rfl,hl,q⟩:=h;obtain⟨u,rfl,rx⟩:=vals1 r;cases rx;obtain⟨its,rv,pl,_⟩:=I.list hl;have hi:=intsAre_of rv;obtain⟨ys,e⟩:=(hi.allInts).items;have C8:s.1.IsList p (intItems ys):=by rw[<-e];exact pl.isList
 refine sum_intListG (I.ok.hd hc) C8 λh' tk t' hk=>?_
 have e3:preSum (numAt ys) ys.size=ns.sum:=by
  rw[preSum_eq,XF (by simp),<-nums_intItems,<-e];show(numsOf its).sum=_;rw[hi.numsOf]
 rw[e3];exact{.int ns.sum,H,I.kept hk,{_,E?},q}
theorem mI(hc:X.calm=C?):iR X (.builtin "max") (λxs H Q=>∃(p:Wx)(ns:List Int),xs=[.ref p]/\SqL X.K H p (ns.map o!)/\ns≠[]/\∀M,M∈ns->(∀a,a∈ns->a<=M)->Q (.int M) H):=by
 intro Y s σ H xs us Q I r h;obtain⟨p,ns,rfl,hl,zg,q⟩:=h;obtain⟨u,rfl,rx⟩:=vals1 r;cases rx;obtain⟨its,rv,pl,_⟩:=I.list hl;have hi:=intsAre_of rv;have hlen:=hi.length;obtain⟨ys,e⟩:=(hi.allInts).items;have C8:s.1.IsList p (intItems ys):=by rw[<-e];exact pl.isList
 have hn:ys.toList.map (·.1)=ns:=by rw[<-nums_intItems,<-e];exact hi.numsOf
 have hsz:0<ys.size:=by
  have:ns.length=ys.size:=by rw[<-hn];simp
  have:=List.length_pos_iff.mpr zg;lia
 refine max_intList (I.ok.hd hc) C8 hsz λv h' tk hv hk=>?_;obtain⟨t,rfl⟩:=intItems_at hv;obtain⟨h1,h2⟩:=argBest_gt (numAt ys) (ys.size - 1);refine{.int _,H,I.kept hk,{_,E?},q _ ?_ λa ha=>?_}
 .rw[numAt_eq,<-hn];exact getD_mem (by rw[Wt,Xi];lia)
 .rw[<-hn]at ha;obtain⟨j,hj,rfl⟩:=mem_getD ha;rw[Wt,Xi]at hj;rw[<-numAt_eq];exact h2 j (by lia)
end
end L2
open L2 renaming Same->k!
namespace PySem
namespace F
end F
open Sem (wp)
end PySem
namespace L2
open PySem PySem.Spec PyProof.Rows
section
variable{X:Cx}{e:XD}{te:TE}{p p2 zq:ZD}
def Itv(K:WJ)(a:Wx)(n:Nat):It:={λi H=>i<n/\∃xs,SqL K H a xs/\xs.length=n,λi H x H'=>H'=H/\∀xs,SqL K H a xs->xs[n - 1 - i]?=A? x,λi _=>i=n}
theorem tI(a it:Wx)(n:Nat):Turn P w K tg (Itv K a n) [it] it (λi h=>h.IsRevIter it a ((n:Int) - 1 - (i:Nat))) where
 mem:=by simp
 obj:=λi h st b hb=>by
  have e:b=it:=by simpa using hb
  subst e;obtain⟨o,e,c,d⟩:=st;exact{o,e,λv z=>by rw[d]at z;cases z}
 keep:=λi h h' st k=>st.at λo e=>k it (by simp) o e
 item:=by
  walk_at"aa";obtain⟨hi,xs,hq,hx⟩:=hg;obtain⟨its,rv,p,hz⟩:=I.list hq;have hl:=rv.length;obtain⟨x,BF⟩:∃x,xs[n - 1 - i]?=A? x:={_,Wv (by lia)};obtain⟨u,hu,ru⟩:=rv.get BF;obtain⟨f0,f1,f2,f3,f4,f5⟩:=hf it (by simp);have e1:(n:Int) - 1 - (i:Nat)=((n - 1 - i:Nat):Int):=by lia
  rw[e1]at st;refine wpAny_pyNext_rev_item st p.isList (x:=u) (by simpa using hu) λh' C9 sb=>?_;have I1:Inv X Y σ H {s with heap:=h'}:=I.turned (t':=s.toks) (λb o hb e=>(sb.2 b hb).trans e) f0 f1 f3 f4 f5;have e2:((n - 1 - i:Nat):Int) - 1=(n:Int) - 1 - ((i+1:Nat):Int):=by lia
  rw[e2]at C9;obtain⟨o,e,c,d⟩:=id C9;exact{u,E?,qy (s:={s with heap:=h'}) e c d (by decide) {x,H,I1,ru,{E?,λys hy=>by rw[I.list_inj hy hq];exact BF},C9,λb hb=>(hf b hb).1}}
 done:=by
  walk_at"aa";have RR:i=n:=hg;subst RR;obtain⟨f0,f1,f2,f3,f4,f5⟩:=hf it (by simp);rw[show(i:Int) - 1 - (i:Nat)=-1 by lia]at st;exact wpAny_pyNext_rev_end (I.ok.hd hc) st λh' eb=>{rfl,I.turned (t':=s.toks) (λb o hb e=>eb b o hb e) f0 f1 f3 f4 f5}
 self:=λ_ _ _ _ _ st h=>wpAny_pyIter_revIter st h
def yM(K:WJ)(tl:TE):TI:=λσ H R=>tl σ H λx H1=>∃a xs,x=.ref a/\SqL K H1 a xs/\R (Itv K a xs.length) H1
theorem xy(g2:Gl X "reversed")(m2:X.mg "reversed"=B?)(he:PE X e te)(h2:Xw [e] X.env=[(D?,YC e X.env)]:=by rfl):PI X tg (.Call (.Name "reversed" p2) [e] [] zq) (yM X.K te):=by
 intro Y s σ H R I h;refine X2 (ej I g2 m2 boot_reversed (XY ?_ h2 rfl));rw[h2];show WZ _ _ (spliced ((D?,YC e X.env)::[])) _ _ s;refine YD (thn (he Y s σ H _ I h) λu s1⟨x,H1,I1,r1,a,ys,ex,hq,q⟩=>Y0 ?_);subst ex;cases r1;obtain⟨its,rv,p,hz⟩:=I1.list hq;have hl:=rv.length;refine call_reversed_list p.isList ?_
 have hit:(s1.1.push (revObj a ((its.toArray.size:Int) - 1))).IsRevIter s1.1.1.size a ((ys.length:Int) - 1 - ((0:Nat):Int)):=by
  rw[hl,show(its.length:Int) - 1 - ((0:Nat):Int)=(its.toArray.size:Int) - 1 by rw[WT];lia];exact{_,WO _ rfl,E?,E?}
 refine wpAny_pyIter_revIter (s:={s1 with heap:=s1.1.push (revObj a ((its.toArray.size:Int) - 1))}) hit ?_;refine{s1.1.1.size,[s1.1.1.size],_,_,H1,E?,I1.kept (t':=s1.toks) λb o e=>WB _ e,tI a _ ys.length,hit,λb hb=>?_,q};have e:b=s1.1.1.size:=by simpa using hb
 subst e;exact I1.fpOk (WD _) (I1.hok.fresh (WD _))
theorem ve{g:TG}(Pv:Nat->St->Hp->Prop)(h0:Pv 0 σ H)(hl:∀i σ H,i<=xs.length->Pv i σ H->SqL K H a xs)
 (hs:∀i x σ H,i<xs.length->xs[xs.length - 1 - i]?=A? x->Pv i σ H->g x σ H λze H2=>tb {D with nx:=Pv (i+1),ct:=Pv (i+1),bk:=D.nx} ze H2) (hd:∀σ H,Pv xs.length σ H->D.nx σ H) :
 ∃W:Nat->Nat->St->Hp->Prop,(∃m,W 0 m σ H)/\∀i m σ H,W i m σ H ->
   ((Itv K a xs.length).stop i H/\D.nx σ H)\/((Itv K a xs.length).go i H/\∃N:St->Hp->Prop,(∀i' H',N i' H'->∃m',m'<m/\W (i+1) m' i' H')/\∀x H',(Itv K a xs.length).yld i H x H'->g x σ H' λze H2=>tb {D with nx:=N,ct:=N,bk:=D.nx} ze H2):=by
 refine{λi m σ H=>i<=xs.length/\m=xs.length - i/\Pv i σ H,{xs.length,Xo _,E?,h0},?_};rintro i m σ H ⟨hi,rfl,p⟩;by_cases h:i=xs.length
 .left;exact{h,hd σ H (by rw[<-h];exact p)}
 .right;have BG:i<xs.length:=by lia
  refine{{BG,xs,hl i σ H hi p,E?},Pv (i+1),λi' H' q=>{xs.length - (i+1),by lia,by lia,E?,q},?_};rintro x H' ⟨rfl,hx⟩;exact hs i x σ H' BG (hx xs (hl i σ H' hi p)) p
end
end L2
namespace BB
open PySem L2
set_option genInjectivity true in
inductive Th where
 |knot (n:W8) (ks:List Th)
 |call (s k:Int)
def q:W8:=WE "?"
def Th.kids:Th->List Th
 |.knot _ ks=>ks
 |.call _ _=>[]
mutual
def Th.size:Th->Nat
 |.knot _ ks=>au ks+1
 |.call _ _=>1
def au:List Th->Nat
 | []=>0
 |t::ts=>t.size+au ts
end
mutual
def Th.tall:Th->Nat
 |.knot _ ks=>bJ ks+1
 |.call _ _=>1
def bJ:List Th->Nat
 | []=>0
 |t::ts=>max t.tall (bJ ts)
end
mutual
def Th.walk:Th->List Th
 |.knot n ks=>.knot n ks::walks ks
 |.call s k=>[.call s k]
def walks:List Th->List Th
 | []=>[]
 |t::ts=>t.walk++walks ts
end
theorem Th.walk_eq(t:Th):t.walk=t::walks t.kids:=by
 cases t with
 |knot n ks=>rw[Th.walk];rfl
 |call s k=>rw[Th.walk];simp[Th.kids,walks]
theorem Th.size_eq(t:Th):t.size=au t.kids+1:=by
 cases t with
 |knot n ks=>rw[Th.size];rfl
 |call s k=>rw[Th.size];simp[Th.kids,au]
theorem Th.tall_eq(t:Th):t.tall=bJ t.kids+1:=by
 cases t with
 |knot n ks=>rw[Th.tall];rfl
 |call s k=>rw[Th.tall];simp[Th.kids,bJ]
theorem ji:∀a b:List Th,walks (a++b)=walks a++walks b
 | [],b=>by simp[walks]
 |t::a,b=>by rw[List.cons_append,walks,walks,ji a b,Zf]
theorem cq:∀a b:List Th,au (a++b)=au a+au b
 | [],b=>by simp[au]
 |t::a,b=>by rw[List.cons_append,au,au,cq a b,Nat.add_assoc]
mutual
theorem Th.walk_len:∀t:Th,t.walk.length=t.size
 |.knot n ks=>by rw[Th.walk,Th.size,WV,jn ks]
 |.call s k=>by rw[Th.walk,Th.size];rfl
theorem jn:∀ts:List Th,(walks ts).length=au ts
 | []=>rfl
 |t::ts=>by rw[walks,au,WL,t.walk_len,jn ts]
end
theorem Th.size_pos(t:Th):1<=t.size:=by rw[t.size_eq];lia
mutual
def At(H:Hp):Th->Wx->Prop
 |.knot n ks,a=>n≠q/\∃as:List Wx,H a=A? (.tup (.str n::as.map j!))/\Ats H ks as
 |.call s k,a=>H a=A? (.tup [.str q,.int s,.int k])
def Ats(H:Hp):List Th->List Wx->Prop
 | [],as=>as=[]
 |t::ts,as=>∃a r,as=a::r/\At H t a/\Ats H ts r
end
def KT(H H':Hp):Prop:=∀b xs,H b=A? (.tup xs)->H' b=A? (.tup xs)
theorem KT.trans(a:KT H H1)(b:KT H1 H2):KT H H2:=λc o h=>b c o (a c o h)
theorem Same.kt(h:k! H H'):KT H H':=λb xs e=>h b _ e
theorem iI(h:H l=B?):KT H (upd H l o):=λb xs e=>by rw[aj (aq e h)];exact e
theorem cK(h:H l=A? (.lst xs)):KT H (upd H l o):=λb ys e=>by rw[aj (aF e h (by intro z;cases z))];exact e
mutual
theorem At.mono(k:KT H H'):∀{t:Th}{a:Wx},At H t a->At H' t a
 | .knot n ks,a,h=>by
   rw[At]at h |-;obtain⟨h0,as,h1,h2⟩:=h;exact{h0,as,k _ _ h1,Ats.mono k h2}
 | .call s c,a,h=>by
   rw[At]at h |-;exact k _ _ h
theorem Ats.mono(k:KT H H'):∀{ts:List Th}{as:List Wx},Ats H ts as->Ats H' ts as
 | [],as,h=>by rw[Ats]at h |-;exact h
 | t::ts,as,h=>by
   rw[Ats]at h |-;obtain⟨a,r,e,h1,h2⟩:=h;exact{a,r,e,At.mono k h1,Ats.mono k h2}
end
theorem Ats.nil:Ats H [] []:=by rw[Ats]
theorem Ats.cons{t:Th}{ts:List Th}(h1:At H t a)(h2:Ats H ts as):Ats H (t::ts) (a::as):=by rw[Ats];exact⟨a,as,E?,h1,h2⟩
theorem Ats.append:∀{ts us:List Th}{as bs:List Wx},Ats H ts as->Ats H us bs->Ats H (ts++us) (as++bs)
 | [],us,as,bs,h,g=>by rw[Ats]at h;subst h;exact g
 | t::ts,us,as,bs,h,g=>by
   rw[Ats]at h;obtain⟨a,r,rfl,h1,h2⟩:=h;exact .cons h1 (h2.append g)
theorem Ats.length:∀{ts:List Th}{as:List Wx},Ats H ts as->as.length=ts.length
 | [],as,h=>by rw[Ats]at h;subst h;rfl
 | t::ts,as,h=>by
   rw[Ats]at h;obtain⟨a,r,rfl,h1,h2⟩:=h;rw[WV,WV,h2.length]
theorem Ats.reverse:∀{ts:List Th}{as:List Wx},Ats H ts as->Ats H ts.reverse as.reverse
 | [],as,h=>by rw[Ats]at h;subst h;exact .nil
 | t::ts,as,h=>by
   rw[Ats]at h;obtain⟨a,r,rfl,h1,h2⟩:=h;rw[X0,X0];exact h2.reverse.append (.cons h1 .nil)
theorem Ats.get:∀{ts:List Th}{as:List Wx}{i:Nat}{a:Wx},Ats H ts as->as[i]?=A? a->∃t,ts[i]?=A? t/\At H t a
 | [],as,i,a,h,e=>by rw[Ats]at h;subst h;simp at e
 | t::ts,as,i,a,h,e=>by
   rw[Ats]at h;obtain⟨b,r,rfl,h1,h2⟩:=h;cases i with
   |zero=>simp at e;subst e;exact⟨t,E?,h1⟩
   |succ i=>exact h2.get (i:=i) (by simpa using e)
theorem Ats.at:∀{ts:List Th}{as:List Wx}{i:Nat}{t:Th},Ats H ts as->ts[i]?=A? t->∃a,as[i]?=A? a/\At H t a
 | [],as,i,a,h,e=>by simp at e
 | t::ts,as,i,a,h,e=>by
   rw[Ats]at h;obtain⟨b,r,rfl,h1,h2⟩:=h;cases i with
   |zero=>simp at e;subst e;exact⟨b,E?,h1⟩
   |succ i=>exact h2.at (i:=i) (by simpa using e)
theorem Ats.snoc_inv{ts:List Th}(h:Ats H ts (as++[a])):∃us t,ts=us++[t]/\Ats H us as/\At H t a:=by
 have r:=h.reverse;rw[YX,Zw,ZG]at r;cases e:ts.reverse with
 |nil=>rw[e,Ats]at r;cases r
 | cons t us =>
   rw[e,Ats]at r;obtain⟨b,z,e1,h1,h2⟩:=r;cases e1;refine{us.reverse,t,?_,?_,h1}
   .rw[<-X0,<-e,Ze]
   .have:=h2.reverse;rw[Ze]at this;exact this
end BB
open BB.Same renaming kt->n!
open BB.Th renaming knot->p!,call->t!,tall->y!,walk->E!,size_pos->J!,size->L!
variable{p head:BB.Th}{ms L row Ts Ls pats:List BB.Th}{rows:List (List BB.Th)}{As:List (BB.Th×Nat)}
namespace BB
open PySem L2
mutual
def Th.Nm(L:Nat):Th->Prop
 |.knot n ks=>n.length<=L/\Nms L ks
 |.call _ _=>True
def Nms(L:Nat):List Th->Prop
 | []=>True
 |t::ts=>t.Nm L/\Nms L ts
end
def dU:W8:=WE "abcdefghijklmnopqrstuvwxyz"
theorem pT:dU.cps.toList=(Yu 26).map (97+·):=by decide +kernel
theorem jW:dU.length=26:=by decide +kernel
theorem at_nonneg{xs:List α}{i:Int}{v:α}(h0:0<=i)(h:xs[i.toNat]?=A? v):atI xs i=A? v:=by
 have e:i=((i.toNat:Nat):Int):=by lia
 rw[e];exact bp h
theorem mv{i:Int}(h0:0<=i)(h1:i<26):atI dU.cps.toList i=A? (97+i.toNat):=by
 refine at_nonneg h0 ?_;rw[pT,Wz,List.getElem?_range (by lia)];rfl
theorem rm:∀i<26,Builtin.Str.occurrences dU {#[97+i]} 0 dU.length 1=[i]:=by decide +kernel
def fY(r:Int)(k:Nat):List Nat:=(Yu k).map λj=>97+((r / 26 ^ j)%26).toNat
def cR(r:Int)(k:Nat):W8:={(fY r k).toArray}
theorem rG(r:Int)(k:Nat):(fY r k).length=k:=by unfold fY;rw[Wt,List.length_range]
theorem d7(r:Int)(k:Nat):(cR r k).length=k:=by show(fY r k).toArray.size=k;rw[WT,rG]
theorem pK(r:Int)(k:Nat):fY r (k+1)=fY r k++[97+((r / 26 ^ k)%26).toNat]:=by unfold fY;rw[List.range_succ,W3];rfl
theorem pN(r:Int)(k:Nat):cR r (k+1)=cR r k++{#[97+((r / 26 ^ k)%26).toNat]}:=by
 show({(fY r (k+1)).toArray}:W8)={(fY r k).toArray++#[97+((r / 26 ^ k)%26).toNat]};rw[pK];simp
def Low(x:W8):Prop:=∀c∈x.cps.toList,97<=c/\c<=122
theorem rL(r:Int)(k:Nat):∀c∈fY r k,97<=c/\c<=122:=by
 intro c hc;obtain⟨j,_,rfl⟩:=WY.mp hc;have:=Xr (r / 26 ^ j) (by decide:(26:Int)≠0);have:=Xp (r / 26 ^ j) (by decide:(0:Int)<26);lia
theorem nI(h:Low x)(lo hi:Option Int):Low (fO x lo hi):=by
 intro c hc;have zT:c∈lP x.cps.toList lo hi:=by simpa[fO]using hc
 exact h c (List.mem_of_mem_drop (Yl zT))
theorem qQ{y:W8}(hx:Low x)(hy:Low y):Low (x++y):=by
 intro c hc;have zT:c∈(x.cps++y.cps).toList:=hc;rw[Array.toList_append,WQ]at zT;rcases zT with h|h
 .exact hx c h
 .exact hy c h
theorem uF{c:Nat}(h1:97<=c)(h2:c<=122):Low {#[c]}:=by
 intro d hd;have:d=c:=by simpa using hd
 lia
theorem oO(h:Low x):x≠q:=by
 intro e;subst e;have:=h 63 (by decide +kernel);lia
def eJ(base:Int):Int:=1+base / 2%8
def nAt(base:Int):Int:=base / 16%7%eJ base
def kQ(base n:Int):Nat:=97+(((((base / 112) / 26 ^ (nAt base).toNat)%26).toNat+n)%26).toNat
def nameOf(base n:Int):W8 :=
 if base%2=1 then fO (cR (base / 112) 8) B? (A? (n+1))
 else fO (cR (base / 112) 8) B? (A? (nAt base))++{#[kQ base n]}++fO (cR (base / 112) 8) (A? (nAt base+1)) (A? (eJ base))
theorem ju(base:Int):1<=eJ base/\eJ base<=8:=by
 have:=Xr (base / 2) (by decide:(8:Int)≠0);have:=Xp (base / 2) (by decide:(0:Int)<8);unfold eJ;lia
theorem tX(base:Int):0<=nAt base/\nAt base<eJ base:=by
 have:=ju base;unfold nAt;exact{Xr _ (by lia),Xp _ (by lia)}
theorem mH(base n:Int):97<=kQ base n/\kQ base n<=122:=by
 unfold kQ;have h1:=Xr (((((base / 112) / 26 ^ (nAt base).toNat)%26).toNat:Int)+n) (by decide:(26:Int)≠0);have h2:=Xp (((((base / 112) / 26 ^ (nAt base).toNat)%26).toNat:Int)+n) (by decide:(0:Int)<26);lia
theorem kF(base:Int):Low (cR (base / 112) 8):=by
 intro c hc;exact rL _ _ c (by simpa[cR]using hc)
theorem pR(base n:Int):Low (nameOf base n):=by
 unfold nameOf;split
 .exact nI (kF base) _ _
 .exact qQ (qQ (nI (kF base) _ _) (uF (mH base n).1 (mH base n).2)) (nI (kF base) _ _)
theorem kI(z:W8)(lo hi:Option Int):(fO z lo hi).length=min (q! z.length z.length hi - q! z.length 0 lo) (z.length - q! z.length 0 lo):=by
 show(lP z.cps.toList lo hi).toArray.size=_;unfold lP;rw[WT,Xy,XR,Xi];rfl
theorem qe(base n:Int):(nameOf base n).length<=8:=by
 unfold nameOf;split
 .have:=eS (cR (base / 112) 8) B? (A? (n+1));rw[d7]at this;exact this
 .have h1:=ju base;have h2:=tX base;rw[strLen_append,strLen_append,kI,kI,d7]
  have e1:q! 8 8 (A? (nAt base))=(nAt base).toNat:=by
   show(if nAt base<0 then _ else min (nAt base).toNat 8)=_;rw[a! (by lia)];lia
  have e2:q! 8 0 (A? (nAt base+1))=(nAt base+1).toNat:=by
   show(if nAt base+1<0 then _ else min (nAt base+1).toNat 8)=_;rw[a! (by lia)];lia
  have e3:q! 8 8 (A? (eJ base))=(eJ base).toNat:=by
   show(if eJ base<0 then _ else min (eJ base).toNat 8)=_;rw[a! (by lia)];lia
  have e4:q! 8 0 B?=0:=rfl;have e5:({#[kQ base n]}:W8).length=1:=rfl;rw[e1,e2,e3,e4,e5];lia
end BB
namespace L2
open PySem PySem.Spec PyProof.Rows
theorem Same.seqT(e:Same H H')(h:SqT K H a xs):SqT K H' a xs:=by
 rcases h with(h|⟨o,h⟩)|h
 .exact .inl (.inl (e _ _ h))
 .exact .inl (.inr {o,e _ _ h})
 .exact .inr h
theorem ao{p:Wx}(h:H p=B?)(o:HO):Same H (upd H p o):=λb u q=>by rw[aj (aq q h)];exact q
@[elab_as_elim] theorem gU{G:Hp->Prop}(h:H a=B?)(k:∀H',k! H H'->H' a=A? o->G H'):G (upd H a o):=k _ (ao h _) af
theorem aM(h:Same H H1)(n:H l=B?):Same H (upd H1 l o):=λb u e=>by rw[aj (aq e n)];exact h b u e
theorem qM{te:TE}(zs:List α)(p:α->Bool)(f:α->V)(hz:zs.length=xs.length)(hn:xs.length<=1000000)
 (FY:∀i H2,Same H H2->i<xs.length->J.go i H2) (Az:∀H2,Same H H2->J.stop xs.length H2) (B8:∀(i:Nat)H2 x H3,Same H H2->i<xs.length->J.yld i H2 x H3->H3=H2/\xs[i]?=A? x)
 (CQ:∀(i:Nat)x z H2(R:Bool->Hp->Prop),xs[i]?=A? x->zs[i]?=A? z->Same H H2->R (p z) H2->tt ((cσ js σ).set 0 (A? x)) H2 R)
 (Cy:∀(i:Nat)x z H2(R:VK),xs[i]?=A? x->zs[i]?=A? z->p z=C?->Same H H2->R (f z) H2->te ((cσ js σ).set 0 (A? x)) H2 R)
 (q:∀D,H D=B?->fin D (upd H D (.lst ((zs.filter p).map f)))) :
 ∀D,H D=B?->∃(n:Nat)(W:Nat->Hp->Prop),W 0 (upd H D (.lst []))/\gf js (av 0) tt te σ J D n W λH'=>fin D H':=by
 intro D hD;refine{xs.length,λi H2=>i<=xs.length/\H2=upd H D (.lst (((zs.take i).filter p).map f)),{Xo _,by simp},?_};rintro i H2 ⟨hi,rfl⟩;have sm:∀o,Same H (upd H D o):=λo=>ao hD o;by_cases h:i=xs.length
 .left;subst h;refine{Az _ (sm _),?_};rw[<-hz,YJ];exact q D hD
 .right;have BG:i<xs.length:=by lia
  refine{BG,FY i _ (sm _) BG,λx H1 hy=>?_};obtain⟨rfl,hx⟩:=B8 i _ x H1 (sm _) BG hy;have RS:i<zs.length:=by lia
  have e1:zs[i]?=A? zs[i]:=Wv RS
  have e2:(zs.take (i+1)).filter p=(zs.take i).filter p++(if p zs[i]=C? then[zs[i]]else[]):=by
   rw[YG,e1,List.filter_append];show _++List.filter p [zs[i]]=_;rw[List.filter_cons,List.filter_nil]
  refine CQ i x zs[i] _ _ hx e1 (sm _) ?_
  have hlen:(((zs.take i).filter p).map f).length<=1000000:=by
   rw[Wt];have:=List.length_filter_le p (zs.take i);rw[Xy]at this;lia
  by_cases hp:p zs[i]=C?
  .rw[b! hp];refine Cy i x zs[i] _ _ hx e1 hp (sm _) {_,af,Nat.lt_of_le_of_lt hlen (by decide),BG,?_};rw[uD,e2,b! hp,W3];rfl
  .rw[a! hp];refine{BG,?_};rw[e2,a! hp,Z9]
theorem cG{te:TE}(zs:List α)(p:α->Bool)(f:α->V)(hS:SqL K H a xs)(hz:zs.length=xs.length)(hn:xs.length<=1000000)
 (CQ:∀(i:Nat)x z H2(R:Bool->Hp->Prop),xs[i]?=A? x->zs[i]?=A? z->Same H H2->R (p z) H2->tt ((cσ js σ).set 0 (A? x)) H2 R)
 (Cy:∀(i:Nat)x z H2(R:VK),xs[i]?=A? x->zs[i]?=A? z->p z=C?->Same H H2->R (f z) H2->te ((cσ js σ).set 0 (A? x)) H2 R)
 (q:∀D,H D=B?->fin D (upd H D (.lst ((zs.filter p).map f)))) :
 ∀D,H D=B?->∃(n:Nat)(W:Nat->Hp->Prop),W 0 (upd H D (.lst []))/\gf js (av 0) tt te σ (Itl K a) D n W λH'=>fin D H' :=
 qM zs p f hz hn (λi H2 s hi=>{xs,xs[i],s.seq hS,Wv hi}) (λH2 s=>{xs,s.seq hS,WD _}) (λi H2 x H3 s hi hy=>{hy.1,hy.2 xs (s.seq hS)}) CQ Cy q
theorem eL{te:TE}(zs:List α)(p:α->Bool)(f:α->V)(hS:SqT K H a xs)(hz:zs.length=xs.length)(hn:xs.length<=1000000)
 (CQ:∀(i:Nat)x z H2(R:Bool->Hp->Prop),xs[i]?=A? x->zs[i]?=A? z->Same H H2->R (p z) H2->tt ((cσ js σ).set 0 (A? x)) H2 R)
 (Cy:∀(i:Nat)x z H2(R:VK),xs[i]?=A? x->zs[i]?=A? z->p z=C?->Same H H2->R (f z) H2->te ((cσ js σ).set 0 (A? x)) H2 R)
 (q:∀D,H D=B?->fin D (upd H D (.lst ((zs.filter p).map f)))) :
 ∀D,H D=B?->∃(n:Nat)(W:Nat->Hp->Prop),W 0 (upd H D (.lst []))/\gf js (av 0) tt te σ (Itt K a) D n W λH'=>fin D H' :=
 qM zs p f hz hn (λi H2 s hi=>{xs,xs[i],s.seqT hS,Wv hi}) (λH2 s=>{xs,s.seqT hS,WD _}) (λi H2 x H3 s hi hy=>{hy.1,hy.2 xs (s.seqT hS)}) CQ Cy q
end L2
namespace BB
open PySem L2
theorem at0{x:α}{xs:List α}:atI (x::xs) 0=A? x:=bp (j:=0) rfl
theorem at1{x y:α}{xs:List α}:atI (x::y::xs) 1=A? y:=bp (j:=1) rfl
theorem at2{x y z:α}{xs:List α}:atI (x::y::z::xs) 2=A? z:=bp (j:=2) rfl
theorem at3{x y z u:α}{xs:List α}:atI (x::y::z::u::xs) 3=A? u:=bp (j:=3) rfl
theorem cg(x:V)(xs:List V):cW (x::xs) (A? 1) B?=xs:=by
 unfold cW;simp[q!]
theorem dj:∀ts:List Th,ts.length<=au ts
 | []=>Xo _
 | t::ts=>by
   have:=t.size_pos;have:=dj ts;rw[WV,au];lia
theorem l5(ts:List Th):au ts.reverse=au ts:=by
 induction ts with
 |nil=>rfl
 |cons x xs ih=>rw[X0,cq,ih,au,au,au];lia
theorem aT(h:n<=1000000):n<W5:=Nat.lt_of_le_of_lt h (by decide)
theorem cH(h:n<=1000000):n<=W5:=Yj (aT h)
theorem lnE(h:Nat.ble n 1000000=C?):n<=W5:=cH (Nat.le_of_ble_eq_true h)
theorem uAE:(upd H a (.lst (as.map j!++[.ref b]))) a=A? (.lst ((as++[b]).map j!)):=by rw[af,W3];rfl
theorem lbE{f:α->β}{l:List α}(h:l.length<=1000000):(l.map f).length<W5:=aT (by rw[Wt];exact h)
theorem int_at{k:Int}(h0:0<=k)(h:k<(ns.length:Int)):atI (ns.map o!) k=A? (.int (ns.getD k.toNat 0)):=by
 refine at_nonneg h0 ?_;have hk:k.toNat<ns.length:=by lia
 rw[Wz,Wv hk,W0,Wv hk];rfl
def cellAt(ns:List Int)(k:Int):Int:=if k<(ns.length:Int)then ns.getD k.toNat 0%10 ^ 60 else 0
theorem ml(ns:List Int)(k:Int):0<=cellAt ns k:=by
 unfold cellAt;split
 .exact Xr _ (by decide)
 .exact Int.le_refl _
section
variable{F G:α->β->Prop}
theorem P2.append:∀{a c:List α}{b d:List β},Xb F a b->Xb F c d->Xb F (a++c) (b++d)
 |_,_,_,_,.nil,h=>h
 |_,_,_,_,.cons r t,h=>.cons r (P2.append t h)
theorem P2.get:∀{a:List α}{b:List β}{i:Nat}{x:α},Xb F a b->a[i]?=A? x->∃y,b[i]?=A? y/\F x y
 |_,_,_,_,.nil,e=>by simp at e
 |_,_,0,_,.cons r _,e=>by simp at e;subst e;exact{_,E?,r}
 | _,_,i+1,x,.cons _ t,e=>by
   obtain⟨u,h1,h2⟩:=P2.get (i:=i) (x:=x) t (by simpa using e);exact{u,by simpa using h1,h2}
theorem P2.get':∀{a:List α}{b:List β}{i:Nat}{y:β},Xb F a b->b[i]?=A? y->∃x,a[i]?=A? x/\F x y
 |_,_,_,_,.nil,e=>by simp at e
 |_,_,0,_,.cons r _,e=>by simp at e;subst e;exact{_,E?,r}
 | _,_,i+1,y,.cons _ t,e=>by
   obtain⟨u,h1,h2⟩:=P2.get' (i:=i) (y:=y) t (by simpa using e);exact{u,by simpa using h1,h2}
theorem P2.set{x:α}{y:β}(r:F x y):∀{a:List α}{b:List β}(i:Nat),Xb F a b->Xb F (a.set i x) (b.set i y)
 |_,_,_,.nil=>.nil
 |_,_,0,.cons _ t=>.cons r t
 |_,_,i+1,.cons h t=>.cons h (P2.set r i t)
theorem P2.take:∀{a:List α}{b:List β}(n:Nat),Xb F a b->Xb F (a.take n) (b.take n)
 |_,_,0,_=>.nil
 |_,_,_+1,.nil=>.nil
 |_,_,n+1,.cons r t=>.cons r (P2.take n t)
theorem P2.drop:∀{a:List α}{b:List β}(n:Nat),Xb F a b->Xb F (a.drop n) (b.drop n)
 |_,_,0,r=>r
 |_,_,_+1,.nil=>.nil
 |_,_,n+1,.cons _ t=>P2.drop n t
theorem P2.mp(f:∀x y,F x y->G x y):∀{a:List α}{b:List β},Xb F a b->Xb G a b
 |_,_,.nil=>.nil
 |_,_,.cons r t=>.cons (f _ _ r) (P2.mp f t)
end
def KAt(H:Hp)(k:W8×Int)(a:Wx):Prop:=H a=A? (.tup [.str k.1,.int k.2])
def KsAt(H:Hp)(ks:List (W8×Int))(as:List Wx):Prop:=Xb (KAt H) ks as
theorem KsAt.mono(k:KT H H'){ks:List (W8×Int)}(h:KsAt H ks as):KsAt H' ks as:=P2.mp (λx y e=>k _ _ e) h
def fg(cell:Int):Int:=cell * 1000003+4421
structure g8(ks:List (W8×Int)):Prop where
 ne:1<=ks.length
 le:ks.length<=6
 low:∀k∈ks,Low k.1/\k.1.length<=8
 num:∀k∈ks,0<=k.2/\k.2<=3
 zero:∃k∈ks,k.2=0
theorem u6(h:0<=cell):0<=fg cell:=by unfold fg;lia
end BB
open BB.P2 renaming mp->r!,get->u!,append->v!,get'->w!
namespace L2
open PySem
theorem bc{t u:TS}(R:St->Hp->Prop)(h1:∀k:St->Hp->Prop,(∀i' H',R i' H'->k i' H')->t {D with nx:=k} σ H)(h2:∀i' H',R i' H'->u D i' H'):wY t u D σ H:=h1 _ h2
theorem cF{c:TT}{t u:TS}(R:Bool->Hp->Prop)(h1:∀k:Bool->Hp->Prop,(∀b H',R b H'->k b H')->c σ H k)(h2:∀H',R C? H'->t D σ H')(h3:∀H',R D? H'->u D σ H'):xJ c t u D σ H :=
 h1 _ λb H' r=>by
  cases b with
  |true=>rw[b! rfl];exact h2 H' r
  |false=>rw[a! W2];exact h3 H' r
end L2
namespace BB
open PySem L2
mutual
def Th.Fit(ks:List (W8×Int)):Th->Prop
 |.knot n ts=>(n,(ts.length:Int))∈ks/\Fits ks ts
 |.call _ _=>False
def Fits(ks:List (W8×Int)):List Th->Prop
 | []=>True
 |t::ts=>t.Fit ks/\Fits ks ts
end
mutual
theorem Th.Fit.nms{ks:List (W8×Int)}(g:g8 ks):∀{t:Th},t.Fit ks->t.Nm 8
 | .knot n ts,h=>by
   rw[Th.Fit]at h;rw[Th.Nm];exact{(g.low _ h.1).2,Fits.nms g h.2}
 |.call _ _,h=>by rw[Th.Fit]at h;exact h.elim
theorem Fits.nms{ks:List (W8×Int)}(g:g8 ks):∀{ts:List Th},Fits ks ts->Nms 8 ts
 | [],_=>by rw[Nms];trivial
 | t::ts,h=>by
   rw[Fits]at h;rw[Nms];exact{Th.Fit.nms g h.1,Fits.nms g h.2}
end
theorem Fits.of{ks:List (W8×Int)}:∀{ts:List Th},(∀t∈ts,t.Fit ks)->Fits ks ts
 | [],_=>by rw[Fits];trivial
 | t::ts,h=>by
   rw[Fits];exact{h t (WM ..),Fits.of λu hu=>h u (WR _ hu)}
def EAt(ext:Th->List V)(H:Hp)(t:Th)(a:Wx):Prop:=∃b,H a=A? (.tup (.ref b::.int (t.tall:Nat)::.int (t.size:Nat)::ext t))/\At H t b
def EsAt(ext:Th->List V)(H:Hp)(ts:List Th)(es:List Wx):Prop:=Xb (EAt ext H) ts es
section
variable{ext:Th->List V}{t:Th}{ts:List Th}{es:List Wx}
theorem EAt.mono(k:KT H H')(h:EAt ext H t a):EAt ext H' t a:=by
 obtain⟨b,h1,h2⟩:=h;exact{b,k _ _ h1,h2.mono k}
theorem EsAt.mono(k:KT H H')(h:EsAt ext H ts es):EsAt ext H' ts es:=r! (λ_ _ e=>EAt.mono k e) h
theorem EsAt.at{x:V}{z:Th}(h:EsAt ext H ts es)(hx:(es.map j!)[i]?=A? x)(hz:ts[i]?=A? z):∃a b,x=.ref a/\es[i]?=A? a/\H a=A? (.tup (.ref b::.int (z.tall:Nat)::.int (z.size:Nat)::ext z))/\At H z b:=by
 obtain⟨a,e,b,h1,h2⟩:=u! h hz;rw[Wz,e]at hx;exact{a,b,(WN hx).symm,e,h1,h2}
theorem oh:∀{ts:List Th}{es:List Wx},Xb (EAt ext H) ts es->∃bs,Ats H ts bs/\bs.length=es.length/\∀(i:Nat)x b,(es.map j!)[i]?=A? x->bs[i]?=A? b->∃a r,x=.ref a/\H a=A? (.tup (.ref b::r))
 |_,_,.nil=>{[],.nil,rfl,λi x b h=>by simp at h}
 | _,_,.cons (b:=e) (l₂:=es) r h=>by
   obtain⟨b,h1,h2⟩:=r;obtain⟨bs,g1,g2,g3⟩:=oh h;refine{b::bs,.cons h2 g1,by rw[WV,WV,g2],λi x c hx hc=>?_};cases i with
   | zero =>
     simp at hx hc;subst hc;exact{e,_,hx.symm,h1}
   |succ i=>exact g3 i x c (by simpa using hx) (by simpa using hc)
end
theorem filter_tt(xs:List α):xs.filter (λ_=>C?)=xs:=by
 induction xs with
 |nil=>rfl
 |cons x xs ih=>rw[List.filter_cons,b! rfl,ih]
theorem cN:∀{ts:List Th}{t:Th},t∈ts->t.tall<=bJ ts
 | u::ts,t,h=>by
   rw[bJ];rcases WW.mp h with rfl|h
   .lia
   .have:=cN h;lia
theorem mx:∀{ts:List Th},ts≠[]->∃t∈ts,t.tall=bJ ts
 | [],h=>g! rfl h
 | [u],_=>{u,WM ..,by rw[bJ,bJ];lia}
 | u::v::ts,_=>by
   obtain⟨t,h1,h2⟩:=mx (ts:=v::ts) (by simp);rw[bJ];by_cases c:bJ (v::ts)<=u.tall
   .exact{u,WM ..,by lia}
   .exact{t,WR _ h1,by lia}
theorem mS{ts:List Th}{M:Int}(h1:M∈ts.map λt=>((t.tall:Nat):Int))(h2:∀a∈ts.map (λt=>((t.tall:Nat):Int)),a<=M):M=((bJ ts:Nat):Int):=by
 obtain⟨t,ht,rfl⟩:=WY.mp h1;have zg:ts≠[]:=λz=>by rw[z]at ht;cases ht
 obtain⟨u,hu,e⟩:=mx zg;have a1:=h2 _ (WY.mpr ⟨u,hu,rfl⟩);have a2:=cN ht;show((t.tall:Nat):Int)=_;lia
theorem jl:∀ts:List Th,(ts.map λt=>((t.size:Nat):Int)).sum=((au ts:Nat):Int)
 | []=>rfl
 | t::ts=>by
   rw[W9,List.sum_cons,jl ts,au];lia
theorem ints_map(ts:List Th)(f:Th->Int):(ts.map λt=>o! (f t))=(ts.map f).map o!:=by rw[Xg];rfl
structure GT(ks:List (W8×Int))(top most:Int)(t:Th):Prop where
 fit:t.Fit ks
 tall:(t.tall:Int)<=top
 size:(t.size:Int)<=most
def cM(ks:List (W8×Int)):List (W8×Int):=ks.filter λk=>decide (o! k.2=o! 0)
theorem rS{ks:List (W8×Int)}(g:g8 ks):1<=(cM ks).length:=by
 obtain⟨k,hk,h0⟩:=g.zero;have:k∈cM ks:=Yx.mpr {hk,by rw[h0];rfl};exact List.length_pos_of_mem this
theorem qW{ks:List (W8×Int)}{top most:Int}(h1:1<=top)(h2:1<=most){k:W8×Int}(h:k∈cM ks):GT ks top most (.knot k.1 []):=by
 obtain⟨hk,h0⟩:=Yx.mp h;have e:k.2=0:=V.int.inj (e! h0);refine{?_,?_,?_}
 .rw[Th.Fit,Fits];refine{?_,trivial}
  have:k=(k.1,((([]:List Th).length:Nat):Int)):=by
   obtain⟨k1,k2⟩:=k;simp only at e;subst e;rfl
  rw[<-this];exact hk
 .rw[y!,bJ];exact h1
 .rw[L!,au];exact h2
theorem qX{ks:List (W8×Int)}(g:g8 ks){i:Int}(h0:0<=i)(h1:i<((cM ks).length:Int)):∃k∈cM ks,atI ((cM ks).map λk=>B! k.1) i=A? (.str k.1)/\k.1≠q/\k.1.length<=8:=by
 have hi:i.toNat<(cM ks).length:=by lia
 refine{(cM ks)[i.toNat],XS hi,at_nonneg h0 ?_,?_,?_}
 .rw[Wz,Wv hi];rfl
 .exact oO (g.low _ (Yx.mp (XS hi)).1).1
 .exact(g.low _ (Yx.mp (XS hi)).1).2
theorem rJ(h:n<=xs.length):cW xs (A? (n:Int)) B?=xs.drop n:=by
 unfold cW;rw[x!,HT.sIx_none,Nat.min_eq_left h];exact XF (by rw[XR];exact WD _)
theorem take_snoc{xs:List α}{x:α}(h:xs[n]?=A? x):xs.take (n+1)=xs.take n++[x]:=by rw[YG,h];rfl
theorem bw{xs:List Wx}{x:V}(h:(xs.map j!)[i]?=A? x):∃a,x=.ref a/\xs[i]?=A? a:=by
 rw[Wz]at h;obtain⟨a,h1,h2⟩:=W4.mp h;exact⟨a,h2.symm,h1⟩
end BB
open BB.Th renaming Fit->F!
namespace PySem
open Sem (wp)
theorem bb_tupNext{cur:Wx}{x:WA}(g:s.1.IsTupleIter cur tp i)(gt:s.1.IsTuple tp items)(hx:items[i]?=A? x)
 (fin:∀h',h'.IsTupleIter cur tp (i+1)->X3 cur s.1 h'->Q x {s with heap:=h'}):WZ (Xf prog w) A (XE (.ref cur)) Q E s:=by
 obtain⟨ob,e1,e2,e3⟩:=id g;obtain⟨ot,e4,_,nt,e5⟩:=gt;unfold XE;refine Wu (XM (name:=WE "__next__") g.typeIs Z2 (XQ Z2 g.typeIs F.entry_tuple_iterator_next ?_ (F.args_tuple_iterator_next_1 _)));show WZ _ _ (field (.ref cur) 0 >>= _) _ _ s;refine Wu (XG e1 e3 (x:=.ref tp) rfl ?_);show WZ _ _ (if(Xs tp == Yb)=C? then _ else _) _ _ s;rw[a! (show¬((Xs tp == Yb)=C?)from W2)];show WZ _ _ (field (.ref cur) 1 >>= _) _ _ s;refine Wu (XG e1 e3 (x:=.int i 0) rfl ?_);show WZ _ _ (seqItems? (.ref tp) >>= _) _ _ s;refine Wu (Ye e4 e5 ?_);simp only[WU,hx];refine Wu (wpAny_setField e1 e3 (by simp) (WC {x,rfl,WC (fin _ ?_ (Yd ..))}));exact{_,XW _ e1 (Obj.isFreed_of_fields (Obj.data_mapFields e3 _)),(Obj.cls_mapFields ..).trans e2,by rw[Obj.data_mapFields e3];simp[YW]}
theorem bb_tupEnd{cur:Wx}(calm:A.handled=B?)(g:s.1.IsTupleIter cur tp i)(gt:s.1.IsTuple tp items)(hx:items[i]?=B?)
 (fin:∀h' e,Heap.ExtBut cur s.1 h'->(∃o,h'.get? e=A? o/\o.cls=.type "StopIteration")->E (.ref e) {s with heap:=h'}):WZ (Xf prog w) A (XE (.ref cur)) Q E s:=by
 obtain⟨ob,e1,e2,e3⟩:=id g;obtain⟨ot,e4,_,nt,e5⟩:=gt;unfold XE;refine Wu (XM (name:=WE "__next__") g.typeIs Z2 (XQ Z2 g.typeIs F.entry_tuple_iterator_next ?_ (F.args_tuple_iterator_next_1 _)));show WZ _ _ (field (.ref cur) 0 >>= _) _ _ s;refine Wu (XG e1 e3 (x:=.ref tp) rfl ?_);show WZ _ _ (if(Xs tp == Yb)=C? then _ else _) _ _ s;rw[a! (show¬((Xs tp == Yb)=C?)from W2)];show WZ _ _ (field (.ref cur) 1 >>= _) _ _ s;refine Wu (XG e1 e3 (x:=.int i 0) rfl ?_);show WZ _ _ (seqItems? (.ref tp) >>= _) _ _ s;refine Wu (Ye e4 e5 ?_);simp only[WU,hx];refine Wu (wpAny_rule (Wu (wpAny_setField e1 e3 (by simp) ?_)));walk_at"ac"
 first|rw[show A.in1.handled=B? from calm]|rw[calm]
 refine Wu (WC (wpAny_throw ?_));exact fin _ _ (((Yd ..).extBut.push _).push _) {_,WO _ rfl,rfl}
theorem bb_drawsT(calm:A.handled=B?)(cur tp:Wx)(ne:tp≠cur)(items:Array WA) :
 Draws prog w A cur [cur,tp] items.size (λi v=>items[i]?=A? v) (λi h=>h.IsTupleIter cur tp i/\h.IsTuple tp items) where
 live:=λ_ _ st=>let⟨o,e,_⟩:=st.1;⟨o,e⟩
 frame:=λ_ _ _ st k=>{let⟨o,e,r⟩:=st.1;{o,k cur (by simp) o e,r},let⟨o,e,r⟩:=st.2;{o,k tp (by simp) o e,r}}
 item:=λi s Q E hi st q=>by
  refine bb_tupNext st.1 st.2 (x:=items[i]) (by simp[hi]) λh' g' sb=>?_;exact q _ h' s.toks (by simp[hi]) {g',st.2.extBut sb.extBut ne} sb
 done:=λs Q E st e=>bb_tupEnd calm st.1 st.2 (by simp) e
theorem bb_meetsEnumT(tp:Wx)(items:Array WA)(n:Nat)(Mj:Option Wx)(sl:Array (Option WA)) :
 Meets (Zx.«enumerate.__new__» {[.type "enumerate",.ref tp],[]}) (λ_ R s=>s.1.get? tp=A? {cls:=.type "tuple",dict:=Mj,data:=.seq items n,slots:=sl} /\
  R (.ok (.ret (.ref (s.1.push {cls:=.type "tuple_iterator",data:=.fields #[.ref tp,.int 0 0]}).objs.size)))
    {s with heap:=(s.1.push {cls:=.type "tuple_iterator",data:=.fields #[.ref tp,.int 0 0]}).push {cls:=.type "enumerate",data:=.fields #[.none,.bool D?,.ref s.1.1.size,YW 0,.none,.none]}}) :=
 .of_wp λprog w A R s h=>by
  obtain⟨hp,g,d,tk,os⟩:=s;obtain⟨gt,fin⟩:=h;have su:=sub_enumerate;have gT:Heap.IsTuple (Shared.heap ⟨hp,g,d,tk,os⟩) tp items:={_,gt,rfl,n,rfl}
  wp_walk using YV gt
  refine wpAny_stack_any λst=>WC ?_;split
  .rename_i c _ _ _ _ _
   cases(c == ZM "enumerate")
   .wp_walk using YV gt,ZL gT
    exact{_,E?,fin}
   .wp_walk using YV gt,ZL gT
    exact{_,E?,fin}
  .wp_walk using YV gt,ZL gT
   exact{_,E?,fin}
theorem bb_callEnumT(gT:s.1.IsTuple tp items)
 (fin:∀h',IsEnum h' (s.1.1.size+1) s.1.1.size 0 .none->h'.IsTupleIter s.1.1.size tp 0->h'.objs.size=s.1.1.size+2 ->
  (∀b o,s.1.get? b=A? o->h'.get? b=A? o)->Q (.ref (s.1.1.size+1)) {s with heap:=h'}):WZ (Xf prog w) A (call (.type "enumerate") [.ref tp]) Q E s:=by
 obtain⟨⟨c,Mj,dt,sl⟩,e1,e2,n,e3⟩:=gT;replace e2:c=.type "tuple":=e2;replace e3:dt=.seq items n:=e3;subst e2 e3;refine callType_new F.called_enumerate (by decide) (F.typeCall_enumerate_1 _) (F.newCall_enumerate_1 _) (λobj=>F.args_object_init_2 obj _) F.entry_enumerate_new (bb_meetsEnumT tp items n Mj sl) {e1,?_};have z:(s.1.push {cls:=.type "tuple_iterator",data:=.fields #[.ref tp,.int 0 0]}).objs.size=s.1.1.size+1:=XZ ..;show _/\_;rw[z]
 have ge:IsEnum ((s.1.push {cls:=.type "tuple_iterator",data:=.fields #[.ref tp,.int 0 0]}).push {cls:=.type "enumerate",data:=.fields #[.none,.bool D?,.ref s.1.1.size,YW 0,.none,.none]}) (s.1.1.size+1) s.1.1.size 0 .none:=by
  have t:=WO (s.1.push {cls:=.type "tuple_iterator",data:=.fields #[.ref tp,.int 0 0]}) (o:={cls:=.type "enumerate",data:=.fields #[.none,.bool D?,.ref s.1.1.size,YW 0,.none,.none]}) rfl;rw[z]at t;exact t
 exact{{_,ge,E?},fin _ ge {_,WB _ (WO _ rfl),E?,E?} (by rw[XZ,z]) λb o x=>WB _ (WB _ x)}
end PySem
namespace L2
open PySem PySem.Spec PyProof.Rows
theorem Inv.turnedL{X:Cx}(I:Inv X Y σ H s)(k:∀b o,b∉fp->s.1.get? b=A? o->h'.get? b=A? o)(hf:∀b∈fp,FpOk X Y H b) :
 Inv X Y σ H {s with heap:=h',toks:=t'}:=by
 have HU:∀b u,H b=A? u->b∉fp:=λb u e z=>by rw[(hf b z).1]at e;cases e
 refine I.step (g':=s.gens) (d':=s.drawn) (ch:=fp) (λb hb=>?_) (λb o _ _ hc e _=>k b o hc e) (λb o _ _ hc e _=>{o.slots,k b o hc e}) (λ_ _ _ _ n=>n)
  (λb o hc e=>{o,k b o hc e}) (λ_ _ e=>e) (λ_ _ _ e=>e) (λb ps e=>{#[],by rw[e];simp}) (λm hm=>?_) (λb u e=>?_) I.bare
 .obtain⟨f0,f1,f2,f3,f4,f5⟩:=hf b hb;exact⟨f3,f1,f4,f5⟩
 .obtain⟨o,es,ep,ho,r⟩:=hm;exact{o,es,ep,k _ o (λz=>(hf _ z).2.1 rfl) ho,r}
 .refine(I.hok b u e).stay (λc v hc q=>k c v ?_ q) (λ_ q=>q) λ_ _ q=>q;rcases hc with z|z
  .rw[z];exact HU b u e
  .exact HU c _ z
def Ite(K:WJ)(a:Wx):It:={λi H=>∃xs x,SqT K H a xs/\xs[i]?=A? x,λi H x H'=>∃p y,H p=B?/\x=.ref p/\H'=upd H p (.tup [.int (i:Nat),y])/\∀xs,SqT K H a xs->xs[i]?=A? y,λi H=>∃xs,SqT K H a xs/\xs.length=i}
theorem sj{k1}(a e it:Wx):Turn P w K (.Tuple elts k1 pos) (Ite K a) [e,it] e (λi h=>(∃old,IsEnum h e it ((i:Nat):Int) old)/\h.IsTupleIter it a i) where
 mem:=by simp
 obj:=λi h st b hb=>by
  obtain⟨⟨old,he⟩,o,e1,e2,e3⟩:=st;rcases WW.mp hb with rfl|hb
  .exact{_,he,λv z=>by cases z}
  .have:b=it:=by simpa using hb
   subst this;exact{o,e1,λv z=>by rw[e3]at z;cases z}
 keep:=λi h h' st k=>by
  obtain⟨⟨old,he⟩,o,e1,e2⟩:=st;exact{{old,k e (by simp) _ he},o,k it (by simp) _ e1,e2}
 item:=by
  walk_at"aa";obtain⟨xs,x,hq,hx⟩:=hg;obtain⟨its,rv,p,hz⟩:=I.tuple hq;obtain⟨u,hu,ru⟩:=rv.get hx;obtain⟨⟨old,he⟩,hi⟩:=st
  have FZ:e≠it:=by
   rintro rfl;obtain⟨o,e1,e2,_⟩:=hi;rw[he]at e1;cases e1;exact g! (Yp e2) (by decide)
  have EG:a≠it:=by
   rintro rfl;obtain⟨o,e1,e2,_⟩:=hi;obtain⟨o',CS,B4,_⟩:=p;rw[CS]at e1;cases e1;rw[B4]at e2;exact g! (Yp e2) (by decide)
  have Ml:a≠e:=by
   rintro rfl;obtain⟨o',CS,B4,_⟩:=p;rw[he]at CS;cases CS;exact g! (Yp B4) (by decide)
  have yY:i<its.toArray.size:=by
   have:=(glE hu);simpa using this
  have B9:e<s.1.1.size:=W6 he;have zV:it<s.1.1.size:=by obtain⟨o,e1,_⟩:=hi;exact W6 e1
  refine wpAny_pyNext_enum_itemD (bb_drawsT (A:=X.A.in1) (show X.A.in1.handled=B? from I.ok.hd hc) it a EG its.toArray) he ⟨hi,p⟩ yY FZ (by simp[FZ,Ml.symm]) λy h1 tk hy ho Mm hT hsz hk=>?_
  have Mn:y=u:=by
   have:its[i]?=A? y:=by simpa using hy
   rw[hu]at this;exact(WN this).symm
  subst Mn;refine{_,E?,wpAny_letOwnedTupleGo_enum ho λh2 Mo Dw=>?_};replace Dw:X3 e h1 h2:=Dw
  have zg:∀b∈[e,it],b<s.1.1.size:=λb hb=>by
   rcases WW.mp hb with rfl|hb
   .exact B9
   .have:b=it:=by simpa using hb
    subst this;exact zV
  have F0:H s.1.1.size=none:=I.hok.fresh (WD _)
  have IA:Inv X Y σ (upd H s.1.1.size (.tup [.int (i:Nat),x])) {s with heap:=s.1.push {cls:=.type "tuple",data:=.seq #[.int (i:Nat) tk,y]},toks:=tk} :=
   I.laid (o:=.tup [.int (i:Nat),x]) (λb ob q=>WB _ q) (WD _) {by show 2<=W5;decide,[.int (i:Nat) tk,y],0,.cons ⟨tk,rfl⟩ (.cons ru .nil),WO _ rfl}
  refine{.ref s.1.1.size,upd H s.1.1.size (.tup [.int (i:Nat),x]),?_,E?,{_,x,F0,E?,E?,λys Cw=>by rw[I.tuple_inj Cw hq];exact hx},{{y,by simpa using Mo},?_},λb hb=>?_}
  .have IB:Inv X Y σ (upd H s.1.1.size (.tup [.int (i:Nat),x])) {s with heap:=h2,toks:=tk+1}:=by
    refine Inv.turnedL (s:={s with heap:=s.1.push {cls:=.type "tuple",data:=.seq #[.int (i:Nat) tk,y]},toks:=tk}) (h':=h2) (fp:=[e,it]) (t':=tk+1) IA (λb o hb q=>?_) λb hb=>?_
    .have CO:b≠e:=λz=>hb (by simp[z]);have Ip:b≠it:=λz=>hb (by simp[z]);rw[Dw.2 b CO];by_cases hb2:b=s.1.1.size
     .subst hb2;rw[hT];have q':(s.1.push {cls:=.type "tuple",data:=.seq #[.int (i:Nat) tk,y]}).get? s.1.1.size=A? o:=q;rw[WO _ rfl]at q';exact q'
     .have AI:b<(s.1.push {cls:=.type "tuple",data:=.seq #[.int (i:Nat) tk,y]}).objs.size:=W6 q;rw[XZ]at AI;refine hk b o CO Ip ?_;have q':(s.1.push {cls:=.type "tuple",data:=.seq #[.int (i:Nat) tk,y]}).get? b=A? o:=q;rw[Heap.get?_push_ne _ _ _ hb2]at q';exact q'
    .obtain⟨f0,f1⟩:=hf b hb;exact{by rw[aj (Xn (zg b hb))];exact f0,f1}
   exact IB
  .obtain⟨o,e1,r⟩:=Mm.1;exact{o,(Dw.2 it (YB FZ)).trans e1,r}
  .rw[aj (Xn (zg b hb))];exact(hf b hb).1
 done:=by
  walk_at"aa";obtain⟨xs,hq,hx⟩:=hg;obtain⟨its,rv,p,hz⟩:=I.tuple hq;obtain⟨⟨old,he⟩,hi⟩:=st
  have EG:a≠it:=by
   rintro rfl;obtain⟨o,e1,e2,_⟩:=hi;obtain⟨o',CS,B4,_⟩:=p;rw[CS]at e1;cases e1;rw[B4]at e2;exact g! (Yp e2) (by decide)
  have hn:its.toArray.size=i:=by
   have:=rv.length;rw[WT];lia
  refine wpAny_pyNext_enum_endD (bb_drawsT (A:=X.A.in1) (show X.A.in1.handled=B? from I.ok.hd hc) it a EG its.toArray) he (by rw[hn];exact⟨hi,p⟩) λh' eb=>{rfl,?_};exact I.turnedL (fp:=[e,it]) (t':=s.toks) (λb o hb q=>eb b o (λz=>hb (by simp[z])) q) hf
 self:=λ_ _ _ _ _ st h=>by
  obtain⟨⟨old,he⟩,_⟩:=st;exact wpAny_pyIter_enum he h
section
variable{X:Cx}{e:XD}{te:TE}{p2 zq:ZD}
def xX(K:WJ)(tl:TE):TI:=λσ H R=>tl σ H λx H1=>∃a,x=.ref a/\(∃xs,SqT K H1 a xs)/\R (Ite K a) H1
theorem uS{k1}(g2:Gl X "enumerate")(m2:X.mg "enumerate"=B?)(he:PE X e te)(h2:Xw [e] X.env=[(D?,YC e X.env)]:=by rfl):PI X (.Tuple elts k1 pos) (.Call (.Name "enumerate" p2) [e] [] zq) (xX X.K te):=by
 intro Y s σ H R I h;refine X2 (ej I g2 m2 boot_enumerate (XY ?_ h2 rfl));rw[h2];show WZ _ _ (spliced ((D?,YC e X.env)::[])) _ _ s;refine YD (thn (he Y s σ H _ I h) λu s1⟨x,H1,I1,r1,a,ex,⟨xs,hq⟩,q⟩=>Y0 ?_);subst ex;cases r1;obtain⟨its,rv,p,hz⟩:=I1.tuple hq;refine bb_callEnumT (show s1.1.IsTuple a its.toArray from p) λh' g1 g2 g3 g4=>?_;refine wpAny_pyIter_enum (s:={s1 with heap:=h'}) g1 ?_;refine{s1.1.1.size+1,[s1.1.1.size+1,s1.1.1.size],_,_,H1,E?,I1.kept (t':=s1.toks) g4,sj a _ _,{{_,g1},g2},λb hb=>?_,q}
 have zA:s1.1.1.size<=b:=by
  rcases WW.mp hb with rfl|hb
  .lia
  .have:b=s1.1.1.size:=by simpa using hb
   exact Nat.le_of_eq this.symm
 exact I1.fpOk zA (I1.hok.fresh zA)
inductive t8(K:WJ)(x:V)(y:V)(H:Hp)(Q:VK):Prop
 |mk (a:_) (b:_) (xs:_) (ys:_) (Bb:x=.ref a) (Bc:y=.ref b) (Cs:SqT K H a xs) (EB:SqT K H b ys) (FQ:xs.length+ys.length<=W5) (Ph:(xs=[]->Q (.ref b) H)) (VF:(xs≠[]->ys=[]->Q (.ref a) H)) (VG:(xs≠[]->ys≠[]->∀p,H p=B?->Q (.ref p) (upd H p (.tup (xs++ys))))):t8 K x y H Q
def vN(K:WJ):R2:=t8 K
theorem dR:OpR X (Zc .Add) (vN X.K):=by
 intro Y s σ H x y v u Q I rx ry h;obtain⟨a,b,xs,ys,e1,e2,ha,hb,hz,q0,q1,q2⟩:=h;by_cases hx:xs=[]
 .subst e1 e2;cases rx;cases ry;obtain⟨its,r1,p1,_⟩:=I.tuple ha;obtain⟨zh,r2,p2,_⟩:=I.tuple hb;have hi:its=[]:=r1.nil_iff.mpr hx;obtain⟨⟨cls,dd,data,sl⟩,ho,hc,n,hd⟩:=p1;obtain⟨⟨EC,Cu,data2,Cv⟩,CP,Be,n2,hd2⟩:=p2;simp only at hc hd Be hd2;subst hc hd Be hd2;exact concat_meets {_,ho,rfl} {_,CP,rfl} noFill_tuple_add seq_tuple_add PySem.F.slot_tuple_add PySem.F.entry_tuple_add (PySem.F.args_tuple_add_2 _ _) (tuple_addW0 a b its.toArray zh.toArray n n2 dd Cu sl Cv (by simp[hi])) {ho,CP,{.ref b,H,I,rfl,q0 hx}}
 .exact ny Y s σ H x y v u Q I rx ry {a,b,xs,ys,e1,e2,ha,hb,hx,hz,q1 hx,q2 hx}
end
end L2
namespace PySem
open Sem (wp)
abbrev tzH1(h:XT)(l1:Wx):XT:=h.push {cls:=.type "tuple_iterator",data:=.fields #[.ref l1,.int 0 0]}
abbrev tzH2(h:XT)(l1 l2:Wx):XT:=(tzH1 h l1).push {cls:=.type "tuple_iterator",data:=.fields #[.ref l2,.int 0 0]}
abbrev tzH3(h:XT)(l1 l2:Wx):XT:=(tzH2 h l1 l2).push {cls:=.type "tuple",data:=.seq #[.ref h.objs.size,.ref (tzH1 h l1).objs.size]}
abbrev tzH4(h:XT)(l1 l2:Wx):XT:=(tzH3 h l1 l2).push {cls:=.type "tuple",data:=.seq #[.none,.none]}
abbrev tzH5(h:XT)(l1 l2:Wx):XT:=(tzH4 h l1 l2).push {cls:=.type "zip",data:=.fields #[.none,.bool D?,.bool D?,.ref (tzH2 h l1 l2).objs.size,.ref (tzH3 h l1 l2).objs.size]}
theorem IsTuple.push'{xs:Array WA}(x:h.IsTuple l xs)(o:Yw):(h.push o).IsTuple l xs:=let⟨ob,e,r⟩:=x;{ob,WB _ e,r}
theorem bb_meets_zip(l1 l2:Wx)(xs ys:Array WA) :
 Meets (Zx.«zip.__new__» {[.type "zip",.ref l1,.ref l2],[]}) (λ_ R s=>s.1.IsTuple l1 xs/\s.1.IsTuple l2 ys /\
  R (.ok (.ret (.ref (tzH4 s.1 l1 l2).objs.size))) {s with heap:=tzH5 s.1 l1 l2}) :=
 .of_wp λprog w A R s h=>by
  obtain⟨hp,g,d,tk,os⟩:=s;obtain⟨Bn,Aa,h⟩:=h;have AA:=sub_zip;have RT:Heap.IsTuple (Shared.heap ⟨hp,g,d,tk,os⟩) l1 xs:=Bn;have RU:Heap.IsTuple (Shared.heap {hp.push {cls:=.type "tuple_iterator",data:=.fields #[.ref l1,.int 0 0]},g,d,tk,os}) l2 ys:=IsTuple.push' Aa _
  wp_walk using ZL RT,ZL RU
  exact{_,E?,h}
theorem bb_call_zip{xs:Array WA}(Bn:s.1.IsTuple l1 xs)(Aa:s.1.IsTuple l2 ys)
 (h:∀h',IsZip h' (s.1.1.size+4) (s.1.1.size+2) (s.1.1.size+3) .none->Zh h' (s.1.1.size+2) (.ref s.1.1.size) (.ref (s.1.1.size+1)) ->
  Zh h' (s.1.1.size+3) .none .none->h'.IsTupleIter s.1.1.size l1 0->h'.IsTupleIter (s.1.1.size+1) l2 0->h'.objs.size=s.1.1.size+5 ->
  (∀c o,s.1.get? c=A? o->h'.get? c=A? o)->Q (.ref (s.1.1.size+4)) {s with heap:=h'}) :
 WZ (Xf prog w) A (call (.type "zip") [.ref l1,.ref l2]) Q E s:=by
 refine callType_new F.called_zip (by decide) (F.typeCall_zip_2 _ _) (F.newCall_zip_2 _ _) (λobj=>F.args_object_init_3 obj _ _) F.entry_zip_new
  (bb_meets_zip l1 l2 xs ys) {Bn,Aa,?_}
 have z1:(tzH1 s.1 l1).objs.size=s.1.1.size+1:=XZ ..;have z2:(tzH2 s.1 l1 l2).objs.size=s.1.1.size+2:=by rw[XZ,z1]
 have z3:(tzH3 s.1 l1 l2).objs.size=s.1.1.size+3:=by rw[XZ,z2]
 have z4:(tzH4 s.1 l1 l2).objs.size=s.1.1.size+4:=by rw[XZ,z3]
 have z5:(tzH5 s.1 l1 l2).objs.size=s.1.1.size+5:=by rw[XZ,z4]
 have g5:(tzH5 s.1 l1 l2).get? (tzH4 s.1 l1 l2).objs.size=A? _:=WO _ rfl;have g4:(tzH5 s.1 l1 l2).get? (tzH3 s.1 l1 l2).objs.size=A? _:=WB _ (WO _ rfl);have g3:(tzH5 s.1 l1 l2).get? (tzH2 s.1 l1 l2).objs.size=A? _:=WB _ (WB _ (WO _ rfl));have g2:(tzH5 s.1 l1 l2).get? (tzH1 s.1 l1).objs.size=A? _:=WB _ (WB _ (WB _ (WO _ rfl)));have g1:(tzH5 s.1 l1 l2).get? s.1.1.size=A? _:=WB _ (WB _ (WB _ (WB _ (WO _ rfl))));show _/\_;rw[z2,z3,z4]at g5;rw[z1,z2]at g3;rw[z3]at g4;rw[z1]at g2;rw[z4]
 exact{{_,g5,E?},h _ g5 g3 g4 {_,g1,E?,E?} {_,g2,E?,E?} z5 λc o x =>
  WB _ (WB _ (WB _ (WB _ (WB _ x))))}
structure ZSt(xs ys:Array WA)(z TI TO i1 i2 l1 l2:Wx)(k:Nat)(h:XT):Prop where
 ap:ZipApart z TI TO i1 i2 l1 l2
 zip:IsZip h z TI TO .none\/∃(T:Wx)(b:Bool)(x y:WA),h.get? z=A? {cls:=.type "zip",data:=.fields #[YW T,.bool b,.bool D?,.ref TI,.ref TO]}/\Zh h T x y/\T≠TO
 hTI:Zh h TI (.ref i1) (.ref i2)
 hTO:∃a b,Zh h TO a b
 h1:h.IsTupleIter i1 l1 k
 h2:h.IsTupleIter i2 l2 k
 t1:h.IsTuple l1 xs
 t2:h.IsTuple l2 ys
theorem ZSt.typeIs{xs:Array WA}{TI TO:Wx}{k:Nat}(x:ZSt xs ys z TI TO i1 i2 l1 l2 k s.1):s.TypeIs (.ref z) "zip":=by
 rcases x.zip with e|⟨T,b,u,v,e,_⟩
 .exact{_,e,E?}
 .exact{_,e,E?}
theorem IsTuple.but{xs:Array WA}(x:h.IsTuple l xs)(e:Heap.ExtBut c h h')(n:l≠c):h'.IsTuple l xs:=let⟨ob,q,r⟩:=x;{ob,e _ _ n q,r}
theorem IsTupleIter.but{i:Wx}{k:Nat}(x:h.IsTupleIter i l k)(e:Heap.ExtBut c h h')(n:i≠c):h'.IsTupleIter i l k:=let⟨ob,q,r⟩:=x;{ob,e _ _ n q,r}
theorem ZSt.frame{xs:Array WA}{TI TO:Wx}{k:Nat}(x:ZSt xs ys z TI TO i1 i2 l1 l2 k h)
 (e:∀b o,o.cls≠.type "list"->h.get? b=A? o->h'.get? b=A? o):ZSt xs ys z TI TO i1 i2 l1 l2 k h':=by
 obtain⟨D,hz,hTI,⟨a,b,hTO⟩,⟨o1,a1,a2,a3⟩,⟨o2,b1,b2,b3⟩,⟨o3,c1,c2,c3⟩,⟨o4,d1,d2,d3⟩⟩:=x;refine{D,?_,e _ _ (by simp) hTI,{a,b,e _ _ (by simp) hTO},{o1,e _ _ (by rw[a2];simp) a1,a2,a3},{o2,e _ _ (by rw[b2];simp) b1,b2,b3},{o3,e _ _ (by rw[c2];simp) c1,c2,c3},{o4,e _ _ (by rw[d2];simp) d1,d2,d3}};rcases hz with g|⟨T,b,u,v,g,g2,g3⟩
 .exact .inl (e _ _ (by simp) g)
 .exact .inr {T,b,u,v,e _ _ (by simp) g,e _ _ (by simp) g2,g3}
open Sem (wp)
theorem bb_zip_itemA{TI TO:Wx}{k:Nat}{xs:Array WA}{x y a b:WA}(D:ZipApart z TI TO i1 i2 l1 l2)
 (hz:IsZip s.1 z TI TO .none) (hTI:Zh s.1 TI (.ref i1) (.ref i2)) (hTO:Zh s.1 TO a b)
 (h1:s.1.IsTupleIter i1 l1 k) (h2:s.1.IsTupleIter i2 l2 k) (Bn:s.1.IsTuple l1 xs) (Aa:s.1.IsTuple l2 ys) (hx:xs[k]?=A? x) (hy:ys[k]?=A? y)
 (hQ:∀h',IsZip h' z TI TO (YW s.1.1.size)->Zh h' TO x y->h'.IsTupleIter i1 l1 (k+1)->h'.IsTupleIter i2 l2 (k+1)->Zh h' s.1.1.size x y->h'.objs.size=s.1.1.size+1 ->
  (∀c o,c≠z->c≠TO->c≠i1->c≠i2->s.1.get? c=A? o->h'.get? c=A? o)->Q (.ref s.1.1.size) {s with heap:=h'}) :
 WZ (Xf prog w) A (Zx.«zip.__next__» {[.ref z],[]}) (λfin s'=>∃v,fin=.done (.ret v)/\Q v s') E s:=by
 walk_at"ab";refine Wu ?_;unfold XN;refine Wu (XG hz rfl (x:=.none) rfl (WC ?_));simp only[if_true];refine Wu (wpAny_rule ?_);refine Wu (XG hz rfl (x:=.ref TO) rfl ?_);refine Wu (YN hz (by simp) λzc zI yV=>?_);replace zI:IsZip zc z TI TO .ellipsis:=zI;refine Wu ?_;simp only[List.zipIdx_cons,List.zipIdx_nil,Z7,List.forIn_nil];refine Wu (Wu (wpAny_onRaise ?_));show WZ _ _ (XE (.ref i1) >>= _) _ _ _;refine Wu (bb_tupNext (IsTupleIter.but h1 yV.extBut D.i1z) (IsTuple.but Bn yV.extBut D.l1z) hx λzX BH y8=>WC ?_);have AB:Zh zX TO a b:=y8.extBut _ _ D.TOi1 (yV.extBut _ _ D.TOz hTO);refine Wu (Ye AB rfl ?_);refine Wu (wpAny_updateSeq_pair AB λBE Bo zD=>?_);replace Bo:Zh BE TO x b:=Bo;refine Wu (Zl (WC ?_));refine Wu (Wu (wpAny_onRaise ?_));show WZ _ _ (XE (.ref i2) >>= _) _ _ _
 refine Wu (bb_tupNext (IsTupleIter.but (IsTupleIter.but (IsTupleIter.but h2 yV.extBut D.i2z) y8.extBut D.i12.symm) zD.extBut D.TOi2.symm)
  (IsTuple.but (IsTuple.but (IsTuple.but Aa yV.extBut D.l2z) y8.extBut D.l2i1) zD.extBut D.l2TO) hy λzL Dx zx=>WC ?_)
 have Dy:Zh zL TO x b:=zx.extBut _ _ D.TOi2 Bo;refine Wu (Ye Dy rfl ?_);refine Wu (wpAny_updateSeq_pair Dy λzM Bp Al=>?_);replace Bp:Zh zM TO x y:=Bp;refine Wu (Zl (WC (WC ?_)));refine Wu (Ye Bp rfl ?_);refine Wu (wpAny_newTuple ?_);have hsz:zM.objs.size=s.1.1.size:=by rw[Al.1,zx.1,zD.1,y8.1,yV.1]
 have Ff:IsZip zM z TI TO .ellipsis:=Al.extBut _ _ D.TOz.symm (zx.extBut _ _ D.i2z.symm (zD.extBut _ _ D.TOz.symm (y8.extBut _ _ D.i1z.symm zI)))
 have Iq:∀c o,c≠z->c≠TO->c≠i1->c≠i2->s.1.get? c=A? o->zM.get? c=A? o:=λc o c1 c2 c3 c4 e =>
  Al.extBut _ _ c2 (zx.extBut _ _ c4 (zD.extBut _ _ c2 (y8.extBut _ _ c3 (yV.extBut _ _ c1 e))))
 have Ir:zM.IsTupleIter i1 l1 (k+1):=IsTupleIter.but (IsTupleIter.but (IsTupleIter.but BH zD.extBut D.TOi1.symm) zx.extBut D.i12) Al.extBut D.TOi1.symm;have Iu:zM.IsTupleIter i2 l2 (k+1):=IsTupleIter.but Dx Al.extBut D.TOi2.symm;have Iv:z<zM.objs.size:=W6 Ff;show WZ _ _ (Builtin.SmallTypes.ownedTupleHandOut (.ref z) (.ref zM.objs.size) >>= _) _ _ _;refine Wu ?_;unfold Builtin.SmallTypes.ownedTupleHandOut;have Iw:IsZip (zM.push {cls:=.type "tuple",data:=.seq #[x,y]}) z TI TO .ellipsis:=WB _ Ff;refine Wu (YN Iw (by simp) λMp Dz DA=>?_);replace Dz:IsZip Mp z TI TO (YW zM.objs.size):=Dz;refine YN Dz (by simp) λDB Cz DC=>?_;replace Cz:IsZip DB z TI TO (YW zM.objs.size):=Cz;have up:∀c o,c≠z->zM.get? c=A? o->DB.get? c=A? o:=λc o c1 e=>DC.extBut _ _ c1 (DA.extBut _ _ c1 (WB _ e));have Fg:Zh DB zM.objs.size x y:=DC.extBut _ _ (Zv Iv) (DA.extBut _ _ (Zv Iv) (WO _ rfl));have Pn:DB.objs.size=zM.objs.size+1:=by rw[DC.1,DA.1,XZ]
 rw[hsz]at Cz Fg Pn;refine WC {_,rfl,?_};show Q (.ref zM.objs.size) _;rw[hsz];refine hQ DB Cz (up _ _ D.TOz Bp) ?_ ?_ Fg Pn λc o c1 c2 c3 c4 e=>up c o c1 (Iq c o c1 c2 c3 c4 e)
 .obtain⟨o,e,r⟩:=Ir;exact{o,up _ o D.i1z e,r}
 .obtain⟨o,e,r⟩:=Iu;exact{o,up _ o D.i2z e,r}
theorem bb_loadIfAlive{o:Yw}{Q:Option Yw->WH->Prop}(hQ:∀u,A? o=A? u->Q (A? u) s)(h:s.1.get? a=A? o):WZ (Xf prog w) A (loadIfAlive a) Q E s:=by
 intro Γ p VH;show Sem.wp _ _ (.loadIfAlive a .pure) _ _ _ _;rw[Sem.wp_loadIfAlive,h];exact hQ o rfl
theorem bb_notfree{T:Wx}{b:Bool}{f2 TI TO v:WA}(hz:s.1.get? z=A? {cls:=.type "zip",data:=.fields #[YW T,.bool b,f2,TI,TO]})(hT:Zh s.1 T u v) :
 WZ (Xf prog w) A (XN (.ref z)) (λa s1=>a=D?/\∃zc,s1={s with heap:=zc}/\zc.get? z=A? {cls:=.type "zip",data:=.fields #[YW T,.bool C?,f2,TI,TO]}/\X3 z s.1 zc) E s:=by
 unfold XN;refine Wu (XG hz rfl (x:=YW T) rfl ?_);show WZ _ _ (loadIfAlive (T:Int).toNat >>= _) _ _ _;rw[WU];refine Wu (bb_loadIfAlive (λo(e:A? _=A? o)=>?_) hT);cases e;show WZ _ _ (if(A? _:Option Yw).isNone=C? then _ else _) _ _ _;rw[a! (show¬((A? _:Option Yw).isNone=C?)from W2)];refine Wu (XG hz rfl (x:=.bool b) rfl ?_);cases b with
 |true=>exact WC {rfl,s.1,rfl,hz,rfl,λ_ _=>rfl}
 |false=>exact Wu (YN hz (by simp) λzc zI yV=>WC ⟨rfl,zc,rfl,zI,yV⟩)
theorem bb_zip_itemB{TI TO T:Wx}{k:Nat}{xs:Array WA}{x y v:WA}{b:Bool}(D:ZipApart z TI TO i1 i2 l1 l2)
 (hz:s.1.get? z=A? {cls:=.type "zip",data:=.fields #[YW T,.bool b,.bool D?,.ref TI,.ref TO]}) (hT:Zh s.1 T u v) (hTI:Zh s.1 TI (.ref i1) (.ref i2))
 (h1:s.1.IsTupleIter i1 l1 k) (h2:s.1.IsTupleIter i2 l2 k) (Bn:s.1.IsTuple l1 xs) (Aa:s.1.IsTuple l2 ys) (hx:xs[k]?=A? x) (hy:ys[k]?=A? y)
 (hQ:∀h',h'.get? z=A? {cls:=.type "zip",data:=.fields #[YW T,.bool C?,.bool D?,.ref TI,.ref TO]}->h'.IsTupleIter i1 l1 (k+1)->h'.IsTupleIter i2 l2 (k+1)->Zh h' s.1.1.size x y->h'.objs.size=s.1.1.size+1 ->
  (∀c o,c≠z->c≠i1->c≠i2->s.1.get? c=A? o->h'.get? c=A? o)->Q (.ref s.1.1.size) {s with heap:=h'}) :
 WZ (Xf prog w) A (Zx.«zip.__next__» {[.ref z],[]}) (λfin s'=>∃v,fin=.done (.ret v)/\Q v s') E s:=by
 walk_at"ab";refine Wu (Yn (bb_notfree hz hT) (λa s1⟨e1,zc,e2,zI,yV⟩=>?_) λ_ _ x=>x);subst e1 e2;simp only[Y5,if_false];rw[<-Array.forIn_toList];refine Wu ?_;simp only[Z7,List.forIn_nil];refine Wu (Wu (XU ?_));show WZ _ _ (XE (.ref i1) >>= _) _ _ _;refine Wu (bb_tupNext (IsTupleIter.but h1 yV.extBut D.i1z) (IsTuple.but Bn yV.extBut D.l1z) hx λzX BH y8=>WC (WC ?_));refine Wu (Wu (XU ?_));show WZ _ _ (XE (.ref i2) >>= _) _ _ _;refine Wu (bb_tupNext (IsTupleIter.but (IsTupleIter.but h2 yV.extBut D.i2z) y8.extBut D.i12.symm) (IsTuple.but (IsTuple.but Aa yV.extBut D.l2z) y8.extBut D.l2i1) hy λzL Dx zx=>WC (WC (WC ?_)));refine Wu (wpAny_newTuple (hsz:=by show 2<=W5;decide) (WC {_,rfl,?_}));have hsz:zL.objs.size=s.1.1.size:=by rw[zx.1,y8.1,yV.1]
 show Q (.ref zL.objs.size) {s with heap:=zL.push {cls:=.type "tuple",data:=.seq #[x,y]}};have Fh:Zh (zL.push {cls:=.type "tuple",data:=.seq #[x,y]}) zL.objs.size x y:=WO _ rfl;have Dc:(zL.push {cls:=.type "tuple",data:=.seq #[x,y]}).objs.size=zL.objs.size+1:=XZ ..;have Iy:=IsTupleIter.but BH zx.extBut D.i12;rw[hsz]at Fh Dc;rw[hsz];refine hQ _ (WB _ (zx.extBut _ _ D.i2z.symm (y8.extBut _ _ D.i1z.symm zI))) ?_ ?_ Fh Dc λc o c1 c3 c4 e=>WB _ (zx.extBut _ _ c4 (y8.extBut _ _ c3 (yV.extBut _ _ c1 e)))
 .obtain⟨o,e,r⟩:=Iy;exact{o,WB _ e,r}
 .obtain⟨o,e,r⟩:=Dx;exact{o,WB _ e,r}
theorem bb_zip_end{TI TO:Wx}{k:Nat}{xs:Array WA}{Q:Fin->WH->Prop}(hh:A.handled=B?)
 (S:ZSt xs ys z TI TO i1 i2 l1 l2 k s.1) (CU:xs[k]?=B?\/ys[k]?=B?)
 (hE:∀h' e,(∀c o,c≠z->c≠TO->c≠i1->c≠i2->s.1.get? c=A? o->h'.get? c=A? o)->(∃o,h'.get? e=A? o/\o.cls=.type "StopIteration")->E (.ref e) {s with heap:=h'}) :
 WZ (Xf prog w) A (Zx.«zip.__next__» {[.ref z],[]}) Q E s:=by
 obtain⟨D,hz,hTI,⟨a,b,hTO⟩,h1,h2,Bn,Aa⟩:=S;rcases hz with hz|⟨T,bb,u,v,hz,hT,Po⟩
 .walk_at"ab";refine Wu ?_;unfold XN;refine Wu (XG hz rfl (x:=.none) rfl (WC ?_));simp only[if_true];refine Wu (wpAny_rule ?_);refine Wu (XG hz rfl (x:=.ref TO) rfl ?_);refine Wu (YN hz (by simp) λzc zI yV=>?_);replace zI:IsZip zc z TI TO .ellipsis:=zI;refine Wu ?_;simp only[List.zipIdx_cons,List.zipIdx_nil,Z7,List.forIn_nil];refine Wu (Wu (wpAny_onRaise ?_));show WZ _ _ (XE (.ref i1) >>= _) _ _ _;cases hx:xs[k]? with
  | none =>
    refine Wu (bb_tupEnd hh (IsTupleIter.but h1 yV.extBut D.i1z) (IsTuple.but Bn yV.extBut D.l1z) hx λzX e y8 he=>?_);obtain⟨oe,Ef,F1⟩:=he;have Fi:IsZip zX z TI TO .ellipsis:=y8 _ _ D.i1z.symm zI;have Mq:e≠z:=λx=>by subst x;rw[Fi]at Ef;cases Ef;simp at F1
    refine YN Fi (by simp) λBE _ zD=>hE BE e (λc o c1 _ c3 _ x=>zD.extBut _ _ c1 (y8 _ _ c3 (yV.extBut _ _ c1 x))) {oe,zD.extBut _ _ Mq Ef,F1}
  | some x =>
    have hy:ys[k]?=none:=by rcases CU with h|h;rw[hx]at h;cases h;exact h
    refine Wu (bb_tupNext (IsTupleIter.but h1 yV.extBut D.i1z) (IsTuple.but Bn yV.extBut D.l1z) hx λzX BH y8=>WC ?_);have AB:Zh zX TO a b:=y8.extBut _ _ D.TOi1 (yV.extBut _ _ D.TOz hTO);refine Wu (Ye AB rfl ?_);refine Wu (wpAny_updateSeq_pair AB λBE Bo zD=>?_);refine Wu (Zl (WC ?_));refine Wu (Wu (wpAny_onRaise ?_));show WZ _ _ (XE (.ref i2) >>= _) _ _ _
    refine Wu (bb_tupEnd hh (IsTupleIter.but (IsTupleIter.but (IsTupleIter.but h2 yV.extBut D.i2z) y8.extBut D.i12.symm) zD.extBut D.TOi2.symm)
     (IsTuple.but (IsTuple.but (IsTuple.but Aa yV.extBut D.l2z) y8.extBut D.l2i1) zD.extBut D.l2TO) hy λzL e zx he=>?_)
    obtain⟨oe,Ef,F1⟩:=he;have Fj:IsZip zL z TI TO .ellipsis:=zx _ _ D.i2z.symm (zD.extBut _ _ D.TOz.symm (y8.extBut _ _ D.i1z.symm zI));have Mq:e≠z:=λx=>by subst x;rw[Fj]at Ef;cases Ef;simp at F1
    refine YN Fj (by simp) λzM _ Al=>hE zM e (λc o c1 c2 c3 c4 x=>Al.extBut _ _ c1 (zx _ _ c4 (zD.extBut _ _ c2 (y8.extBut _ _ c3 (yV.extBut _ _ c1 x))))) {oe,Al.extBut _ _ Mq Ef,F1}
 .walk_at"ab";refine Wu (Yn (bb_notfree hz hT) (λa s1⟨e1,zc,e2,zI,yV⟩=>?_) λ_ _ x=>x);subst e1 e2;simp only[Y5,if_false];rw[<-Array.forIn_toList];refine Wu ?_;simp only[Z7,List.forIn_nil];refine Wu (Wu (XU ?_));show WZ _ _ (XE (.ref i1) >>= _) _ _ _;cases hx:xs[k]? with
  | none =>
    refine Wu (bb_tupEnd hh (IsTupleIter.but h1 yV.extBut D.i1z) (IsTuple.but Bn yV.extBut D.l1z) hx λzX e y8 he=>?_);exact hE zX e (λc o c1 _ c3 _ x=>y8 _ _ c3 (yV.extBut _ _ c1 x)) he
  | some x =>
    have hy:ys[k]?=none:=by rcases CU with h|h;rw[hx]at h;cases h;exact h
    refine Wu (bb_tupNext (IsTupleIter.but h1 yV.extBut D.i1z) (IsTuple.but Bn yV.extBut D.l1z) hx λzX BH y8=>WC (WC ?_));refine Wu (Wu (XU ?_));show WZ _ _ (XE (.ref i2) >>= _) _ _ _;refine Wu (bb_tupEnd hh (IsTupleIter.but (IsTupleIter.but h2 yV.extBut D.i2z) y8.extBut D.i12.symm) (IsTuple.but (IsTuple.but Aa yV.extBut D.l2z) y8.extBut D.l2i1) hy λzL e zx he=>?_);exact hE zL e (λc o c1 _ c3 c4 x=>zx _ _ c4 (y8.extBut _ _ c3 (yV.extBut _ _ c1 x))) he
theorem bb_zip_next{TI TO:Wx}{k:Nat}{xs:Array WA}{x y:WA}{Q:Option WA->WH->Prop}(S:ZSt xs ys z TI TO i1 i2 l1 l2 k s.1)(hx:xs[k]?=A? x)(hy:ys[k]?=A? y)
 (hQ:∀h',ZSt xs ys z TI TO i1 i2 l1 l2 (k+1) h'->Zh h' s.1.1.size x y->h'.objs.size=s.1.1.size+1 ->
  (∀c o,c∉[z,TO,i1,i2]->s.1.get? c=A? o->h'.get? c=A? o)->Q (A? (.ref s.1.1.size)) {s with heap:=h'}) :
 WZ (Xf prog w) A (Zz (.ref z)) Q E s:=by
 have hT:=S.typeIs;obtain⟨D,hz,hTI,⟨a,b,hTO⟩,h1,h2,Bn,Aa⟩:=S;have n1:s.1.1.size≠TO:=Zv (W6 hTO);unfold Zz;refine Wu (wpAny_attempt (XM (name:=WE "__next__") hT F.slot_zip_next (XQ F.slot_zip_next hT F.entry_zip_next ?_ (F.args_zip_next_1 _))));rcases hz with hz|⟨T,bb,u,v,hz,Fh,Po⟩
 .refine bb_zip_itemA D hz hTI hTO h1 h2 Bn Aa hx hy λh' a1 a2 a3 a4 a5 a6 a7=>WC ?_;refine hQ h' {D,.inr {_,_,_,_,a1,a5,n1},a7 _ _ D.TIz D.TITO D.TIi1 D.TIi2 hTI,{_,_,a2},a3,a4,?_,?_} a5 a6 λc o hc e=>a7 c o (λq=>hc (by simp[q])) (λq=>hc (by simp[q])) (λq=>hc (by simp[q])) (λq=>hc (by simp[q])) e
  .obtain⟨o,e,r⟩:=Bn;exact{o,a7 _ _ D.l1z D.l1TO D.l1i1 D.l1i2 e,r}
  .obtain⟨o,e,r⟩:=Aa;exact{o,a7 _ _ D.l2z D.l2TO D.l2i1 D.l2i2 e,r}
 .refine bb_zip_itemB D hz Fh hTI h1 h2 Bn Aa hx hy λh' a1 a3 a4 a5 a6 a7=>WC ?_;have RV:T≠z:=by rintro rfl;exact g! (Yp (h! Obj.cls (WN (hz.symm.trans Fh)))) (by decide)
  have Mr:T≠i1:=by rintro rfl;obtain⟨o,e,c,_⟩:=h1;have e2:=WN (Fh.symm.trans e);rw[<-e2]at c;exact g! (Yp c) (by decide)
  have Mt:T≠i2:=by rintro rfl;obtain⟨o,e,c,_⟩:=h2;have e2:=WN (Fh.symm.trans e);rw[<-e2]at c;exact g! (Yp c) (by decide)
  refine hQ h' {D,.inr {T,C?,u,v,a1,a7 _ _ RV Mr Mt Fh,Po},a7 _ _ D.TIz D.TIi1 D.TIi2 hTI,{a,b,a7 _ _ D.TOz D.TOi1 D.TOi2 hTO},a3,a4,?_,?_} a5 a6 λc o hc e=>a7 c o (λq=>hc (by simp[q])) (λq=>hc (by simp[q])) (λq=>hc (by simp[q])) e
  .obtain⟨o,e,r⟩:=Bn;exact{o,a7 _ _ D.l1z D.l1i1 D.l1i2 e,r}
  .obtain⟨o,e,r⟩:=Aa;exact{o,a7 _ _ D.l2z D.l2i1 D.l2i2 e,r}
theorem bb_zip_done{TI TO:Wx}{k:Nat}{xs:Array WA}{Q:Option WA->WH->Prop}(hh:A.handled=B?)(S:ZSt xs ys z TI TO i1 i2 l1 l2 k s.1)(CU:xs[k]?=B?\/ys[k]?=B?)
 (hQ:∀h',(∀c o,c∉[z,TO,i1,i2]->s.1.get? c=A? o->h'.get? c=A? o)->Q B? {s with heap:=h'}):WZ (Xf prog w) A (Zz (.ref z)) Q E s:=by
 have hT:=S.typeIs;unfold Zz
 refine Wu (wpAny_attempt (XM (name:=WE "__next__") hT F.slot_zip_next
  (XQ F.slot_zip_next hT F.entry_zip_next (bb_zip_end hh S CU λh' e hk he=>?_) (F.args_zip_next_1 _))))
 obtain⟨o,ho,hc⟩:=he;refine Wu (wpAny_isInstance (T:="StopIteration") (b:=C?) ⟨o,ho,hc⟩ isSubtype_stop ?_);exact WC (hQ _ λc o hc=>hk c o (λq=>hc (by simp[q])) (λq=>hc (by simp[q])) (λq=>hc (by simp[q])) (λq=>hc (by simp[q])))
theorem bb_zip_iter{TI TO:Wx}{k:Nat}{xs:Array WA}(S:ZSt xs ys z TI TO i1 i2 l1 l2 k s.1)(h:Q (.ref z) s):WZ (Xf prog w) A (pyIter (.ref z)) Q E s:=by
 have hT:=S.typeIs;refine wpAny_pyIter_slot hT F.slot_zip_iter (XQ F.slot_zip_iter hT F.entry_zip_iter ?_ (F.args_zip_iter_1 _));show WZ _ _ (ret (.ref z)) _ _ s;exact WC {_,rfl,"zip",_,hT,F.slot_zip_next.lookup,h}
open Sem (wp)
namespace F
theorem bb_nolen_zip:typeLookup (.type "zip") "__len__"=pure none:=by rw[typeLookup_type,builtinLookup_eq_fast];kernel_rfl
theorem bb_nohint_zip:typeLookup (.type "zip") "__length_hint__"=pure none:=by rw[typeLookup_type,builtinLookup_eq_fast];kernel_rfl
end F
def ZIt(xs ys:Array WA)(n0:Nat)(h:XT)(acc:Array WA)(k:Nat):Prop:=acc.size=k/\∀(j:Nat)(v:WA),acc[j]?=A? v->∃(T:Wx)(x y:WA),v=Xs T/\n0<=T/\Zh h T x y/\xs[j]?=A? x/\ys[j]?=A? y
section
variable{R:Result->WH->Prop}
theorem bb_zip_loop{TI TO S:Wx}{xs:Array WA}{n0:Nat}(hh:A.in1.handled=B?)(hn:n=min xs.size ys.size)(hz:n<=W5)(Pp:S∉[z,TO,i1,i2])(hf:∀c∈[z,TO,i1,i2],c<n0)(res:WA) :
 ∀(k i:Nat)(s:WH)(acc:Array WA)(c:Nat),n - i=k->i<=n->ZSt xs ys z TI TO i1 i2 l1 l2 i s.1->n0<=s.1.1.size->s.1.get? S=A? {cls:=.type "list",dict:=B?,data:=.seq acc c,slots:=#[]}->ZIt xs ys n0 s.1 acc i ->
 (∀h' Ai c',(∀b o,b≠S->b∉[z,TO,i1,i2]->s.1.get? b=A? o->h'.get? b=A? o)->h'.get? S=A? {cls:=.type "list",dict:=B?,data:=.seq Ai c',slots:=#[]}->ZIt xs ys n0 h' Ai n->R (.ok (.ret res)) {s with heap:=h'}) ->
 ZV (Xf prog w) A (.builtin "list.extend.loop" {[.ref S,.ref z,res],[]}) R s:=by
 intro k;have Fl:∀{T:Wx},n0<=T->T∉[z,TO,i1,i2]:=λh m=>g! (hf _ m) (Nat.not_lt.mpr h);induction k with
 | zero =>
   intro i s acc c hk hi zG h0 hS zr hR;have zU:i=n:=by lia
   subst zU;refine ZO F.entry_extend_loop ?_;rw[YY Yy _];show WZ _ A.in1 (Zz (.ref z) >>= _) _ _ s
   have CU:xs[i]?=B?\/ys[i]?=none:=by
    rcases Nat.le_total xs.size ys.size with h|h
    .exact .inl (Array.getElem?_eq_none (by lia))
    .exact .inr (Array.getElem?_eq_none (by lia))
   refine Wu (bb_zip_done hh zG CU λh' zm=>WC ?_);refine hR h' acc c (λb o _ hb e=>zm b o hb e) (zm _ _ Pp hS) {zr.1,λj v hv=>?_};obtain⟨T,x,y,e1,e2,e3,e4⟩:=zr.2 j v hv;exact{T,x,y,e1,e2,zm _ _ (Fl e2) e3,e4}
 | succ k ih =>
   intro i s acc c hk hi zG h0 hS zr hR;have yY:i<n:=by lia
   refine ZO F.entry_extend_loop ?_;rw[YY Yy _];show WZ _ A.in1 (Zz (.ref z) >>= _) _ _ s;have hx:xs[i]?=A? xs[i]:=Y7 (by lia);have hy:ys[i]?=A? ys[i]:=Y7 (by lia);refine Wu (bb_zip_next zG hx hy λh' DD hT hsz zm=>?_);have Eg:=zm S _ Pp hS;have Mu:S<s.1.1.size:=W6 hS;show WZ _ A.in1 (updateSeq S (·.push (.ref s.1.1.size)) >>= _) _ _ _;refine Wu ?_;have CA:∀b o,b≠S->h'.get? b=A? o->(h'.update S (XX (·.push (Xs s.1.1.size)))).get? b=A? o:=λb o hb e=>(X7 _ _ (YB hb)).trans e
   refine Yr Eg rfl (WC {Zq Yy _,ih (i+1) _ (acc.push (.ref s.1.1.size)) _ (by lia) yY (DD.frame λb o ho e=>CA b o (λz=>?_) e) ?_ (XW _ Eg rfl) ?_ λG2 Ai c' F2 F3 DE=>?_})
    (by rw[zr.1];lia) (by show(acc.push _).size<=W5+1;rw[Array.size_push,zr.1];lia)
   .rw[z,Eg]at e;cases e;exact ho rfl
   .show n0<=(h'.update S _).objs.size;rw[Heap.size_update];lia
   .refine{by rw[Array.size_push,zr.1],λj v hv=>?_};rw[Array.getElem?_push]at hv;split at hv
    .rename_i e
     rw[zr.1]at e;cases hv;subst e;exact{_,_,_,E?,h0,CA _ _ (Zv Mu) hT,hx,hy}
    .obtain⟨T,x,y,e1,e2,e3,e4⟩:=zr.2 j v hv
     have RW:T≠S:=by
      rintro rfl;exact g! (Yp (h! Obj.cls (WN (e3.symm.trans hS)))) (by decide)
     exact{T,x,y,e1,e2,CA _ _ RW (zm _ _ (Fl e2) e3),e4}
   .exact hR G2 Ai c' (λb o hb hb2 e=>F2 b o hb hb2 (CA b o hb (zm b o hb2 e))) F3 DE
end
theorem bb_list_zip{TI TO:Wx}{xs:Array WA}{n0:Nat}(hh:A.in1.in1.handled=B?)(zG:ZSt xs ys z TI TO i1 i2 l1 l2 0 s.1)(hn:n=min xs.size ys.size)(hz:n<=W5)(h0:n0<=s.1.1.size)(hf:∀c∈[z,TO,i1,i2],c<n0)
 (hQ:∀h' acc c,(∀b o,b∉[z,TO,i1,i2]->s.1.get? b=A? o->h'.get? b=A? o)->h'.get? s.1.1.size=A? {cls:=.type "list",dict:=B?,data:=.seq acc c,slots:=#[]}->ZIt xs ys n0 h' acc n->Q (.ref s.1.1.size) {s with heap:=h'}) :
 WZ (Xf prog w) A (call (.type "list") [.ref z]) Q E s:=by
 have Pq:s.1.1.size∉[z,TO,i1,i2]:=λhm=>g! (hf _ hm) (Nat.not_lt.mpr h0);have Iz:s.1.1.size≠z:=λe=>Pq (by simp[e])
 refine callType_codes (Q₁:=λobj l'=>obj=.ref s.1.1.size/\l'={s with heap:=s.1.push {cls:=.type "list",data:=.seq #[]}}) F.called_list (F.typeCall_list_1 _) F.entry_list_init
  (code_list_new _ ⟨rfl,rfl⟩) λobj l' zc=>?_
 obtain⟨rfl,rfl⟩:=zc;have hS:(s.1.push {cls:=.type "list",data:=.seq #[]}).get? s.1.1.size=A? {cls:=.type "list",data:=.seq #[]}:=WO _ rfl;refine{{_,hS,E?},F.args_list_init_2 _ _,?_};show WZ _ A.in1.in1 (do let old <-Builtin.List.listItems (.ref s.1.1.size);Builtin.List.listUpdate (.ref s.1.1.size) (λ_=>#[]);letGo old.toList.reverse;ZW (.ref s.1.1.size) (.ref z) .none) _ _ _;refine Wu ?_;unfold Builtin.List.listItems;refine Wu (Ye hS rfl (WC ?_));refine Wu (Yr hS rfl ?_);have BI:=XW (XX (λ_=>(#[]:Array WA))) hS rfl;refine Wu (Zl ?_);have CV:((s.1.push {cls:=.type "list",data:=.seq #[]}).update s.1.1.size (XX (λ_=>(#[]:Array WA)))).objs.size=s.1.1.size+1:=by rw[Heap.size_update,XZ]
 generalize hH:(s.1.push {cls:=.type "list",data:=.seq #[]}).update s.1.1.size (XX (λ_=>(#[]:Array WA)))=H2 at BI CV |-
 have old:∀b o,s.1.get? b=A? o->H2.get? b=A? o:=λb o e=>by
  rw[<-hH,X7 _ _ (YB (Xn (W6 e)))];exact WB _ e
 obtain⟨c2,Fm⟩:∃c,H2.get? s.1.1.size=A? {cls:=.type "list",data:=.seq #[] c}:={_,BI};have EA:ZSt xs ys z TI TO i1 i2 l1 l2 0 H2:=zG.frame λb o _ e=>old b o e;have IC:({s with heap:=H2}:WH).TypeIs (.ref z) "zip":=EA.typeIs;unfold ZW;refine Wu (wpAny_typeOf IC ?_);have h1:Builtin.List.listSameRef (.ref s.1.1.size) (.ref z)=false:=by simp[Builtin.List.listSameRef,Iz]
 have h2:(ZM "zip" == ZM "list")=false:=by decide
 have h3:(ZM "zip" == ZM "tuple")=false:=by decide
 simp only[h1,h2,h3,Bool.or_false,Y5,if_false];refine Wu (bb_zip_iter EA ?_);refine Wu (XU ?_);unfold Builtin.List.listLengthHint;refine Wu (wpAny_specialOf IC F.bb_nolen_zip ?_);show WZ _ _ (specialOf (Xs z) (WE "__length_hint__") >>= _) _ _ _;refine Wu (wpAny_specialOf IC F.bb_nohint_zip ?_);refine WC ?_
 have key:∀(h:XT)(c₁:Nat),ZSt xs ys z TI TO i1 i2 l1 l2 0 h->n0<=h.objs.size->(∀b o,b≠s.1.1.size->H2.get? b=A? o->h.get? b=A? o)->h.get? s.1.1.size=A? {cls:=.type "list",data:=.seq #[] c₁} ->
  ZV (Xf prog w) A.in1 (.builtin "list.extend.loop" {[.ref s.1.1.size,.ref z,.none],[]}) (wants (λr zR=>r=.none/\Q (.ref s.1.1.size) zR) E) {s with heap:=h}:=by
  intro h c₁ hs Mi hk DF;refine bb_zip_loop hh hn hz Pq hf .none n 0 _ #[] c₁ rfl (Xo _) hs Mi DF {rfl,λj v e=>by simp at e} λh' Ai c' hm Eg zr=>?_;exact{E?,hQ h' Ai c' (λb o hb e=>hm b o (Xn (W6 e)) hb (hk b o (Xn (W6 e)) (old b o e))) Eg zr}
 show WZ _ _ (rule "list.extend.makes-room" >>= λ_=>Builtin.List.listTouch (.ref s.1.1.size) >>= λ_=>again (.builtin "list.extend.loop" {[.ref s.1.1.size,.ref z,.none],[]})) _ _ _;refine Wu (wpAny_rule ?_);refine Wu ?_;show WZ _ _ (updateSeq s.1.1.size (·.push .none) >>= λ_=>updateSeq s.1.1.size (·.pop)) _ _ _;refine Wu (Yr Fm rfl ?_);have BJ:=XW (XX (·.push Yb)) Fm rfl;refine Yr (hz:=by seq_fits) BJ rfl ?_;have DG:=XW (XX (·.pop)) BJ rfl
 have CA:∀b o,b≠s.1.1.size->H2.get? b=A? o->((H2.update s.1.1.size (XX (·.push Yb))).update s.1.1.size (XX (·.pop))).get? b=A? o :=
  λb o hb e=>(X7 _ _ (YB hb)).trans ((X7 _ _ (YB hb)).trans e)
 refine WC {Zq Yy _,key _ _ (EA.frame λb o ho e=>CA b o (λq=>?_) e) ?_ CA DG}
 .rw[q,Fm]at e;cases e;exact ho rfl
 .rw[Heap.size_update,Heap.size_update];show n0<=H2.objs.size;lia
end PySem
namespace L2
open PySem PySem.Spec PyProof.Rows
theorem Inv.laidAll{X:Cx}(I:Inv X Y σ H s)(k:∀b u,s.1.get? b=A? u->h'.get? b=A? u)
 (old:∀b,b<s.1.1.size->H' b=H b) (new:∀b u,s.1.1.size<=b->H' b=A? u->ObjOk X.prog X.w H' h' b u):Inv X Y σ H' {s with heap:=h',toks:=t'}:=by
 have sm:∀b u,H b=A? u->H' b=A? u:=λb u e=>by rw[old b (I.hok.lt e)];exact e
 refine I.un {λb u q _ _ _=>k b u q,λb u q _ _ _=>{u.slots,k b u q},λb u q n _=>by rw[old b (W6 q)];exact n,λb u q _=>{u,k b u q},λb xs q=>sm _ _ q,λb u xs q=>sm _ _ q,λb ps q=>{#[],by rw[sm _ _ q];simp}} λb u q=>?_;by_cases hb:b<s.1.1.size
 .rw[old b hb]at q;exact(I.hok b u q).stay (λc v _ e=>k c v e) (λc e=>sm _ _ e) λc xs e=>sm _ _ e
 .exact new b u (Nat.not_lt.mp hb) q
def lI(H:Hp):List Wx->List (V×V)->Hp
 |t::ts,p::ps=>upd (lI H ts ps) t (.tup [p.1,p.2])
 |_,_=>H
theorem kA:∀{ts:List Wx}{ps:List (V×V)},b∉ts->lI H ts ps b=H b
 | [],_,_=>rfl
 |_::_,[],_=>rfl
 | t::ts,p::ps,h=>by
   rw[lI,aj (λe=>h (by simp[e]))];exact kA λm=>h (WR _ m)
theorem n6:∀{ts:List Wx}{ps:List (V×V)}{b:Wx}{u:HO},lI H ts ps b=A? u->H b=A? u\/∃(j:Nat)(p:V×V),ts[j]?=A? b/\ps[j]?=A? p/\u=.tup [p.1,p.2]
 | [],_,_,_,h=>.inl h
 |_::_,[],_,_,h=>.inl h
 | t::ts,p::ps,b,u,h=>by
   rw[lI]at h;by_cases e:b=t
   .subst e;rw[af]at h;exact .inr {0,p,rfl,rfl,(WN h).symm}
   .rw[aj e]at h;rcases n6 h with q|⟨j,p',q1,q2,q3⟩
    .exact .inl q
    .exact .inr {j+1,p',by simpa using q1,by simpa using q2,q3}
theorem o7{H:Hp}:∀{ts:List Wx}{ps:List (V×V)}{t:Wx},ts.length=ps.length->t∈ts->∃(i:Nat)(p:V×V),ts[i]?=A? t/\ps[i]?=A? p/\lI H ts ps t=A? (.tup [p.1,p.2])
 | [],_,_,_,h=>nomatch h
 |_::_,[],_,hl,_=>by simp at hl
 | u::ts,p::ps,t,hl,h=>by
   by_cases e:t=u
   .subst e;exact{0,p,E?,E?,by rw[lI,af]}
   .obtain⟨i,p',q1,q2,q3⟩:=o7 (H:=H) (ts:=ts) (ps:=ps) (t:=t) (by simpa using hl) (by
     rcases WW.mp h with h|h
     .exact g! h e
     .exact h)
    exact{i+1,p',by simpa using q1,by simpa using q2,by rw[lI,aj e];exact q3}
theorem dz{F:α->β->Prop}:∀{ps:List α}{ts:List β},ps.length=ts.length->(∀(j:Nat)p t,ps[j]?=A? p->ts[j]?=A? t->F p t)->Xb F ps ts
 | [],[],_,_=>.nil
 | [],_::_,h,_=>by simp at h
 |_::_,[],h,_=>by simp at h
 |p::ps,t::ts,h,f=>.cons (f 0 p t rfl rfl) (dz (by simpa using h) λj p' t' e1 e2=>f (j+1) p' t' (by simpa using e1) (by simpa using e2))
theorem qU{P:Nat->Wx->Prop}:∀{vs:List WA}(n:Nat),(∀(j:Nat)v,vs[j]?=A? v->∃T,v=Xs T/\P (n+j) T)->∃ts:List Wx,vs=ts.map Xs/\∀(j:Nat)T,ts[j]?=A? T->P (n+j) T
 | [],n,_=>{[],rfl,λj T h=>by simp at h}
 | v::vs,n,h=>by
   obtain⟨T,e1,e2⟩:=h 0 v rfl
   obtain⟨ts,q1,q2⟩:=qU (P:=P) (vs:=vs) (n+1) λj v' hv=>by
    have:=h (j+1) v' (by simpa using hv);rw[show n+1+j=n+(j+1)by lia];exact this
   refine{T::ts,by rw[e1,q1];rfl,λj T' hT=>?_};cases j with
   |zero=>simp at hT;subst hT;exact e2
   | succ j =>
     have:=q2 j T' (by simpa using hT);rw[show n+1+j=n+(j+1)by lia]at this;exact this
theorem we{xs:List α}{ys:List β}{p:α×β}(h:(xs.zip ys)[j]?=A? p):xs[j]?=A? p.1/\ys[j]?=A? p.2:=by
 rw[Yq]at h;exact h
def sQ(K:WJ)(t:TA):TE:=λσ H Q=>t σ H λvs H2=>∃a b xs ys,vs=[.ref a,.ref b]/\SqT K H2 a xs/\SqT K H2 b ys /\
 ∀(l:Wx)(ts:List Wx)(H':Hp),Same H2 H'->H2 l=B?->H' l=A? (.lst (ts.map j!))->Xb (λ(p:V×V)t=>H' t=A? (.tup [p.1,p.2])) (xs.zip ys) ts->Q (.ref l) H'
section
variable{X:Cx}{e1 e2:XD}{t:TA}{p p2 zq:ZD}
theorem pX(hc:X.calm=C?)(g1:Gl X "list")(m1:X.mg "list"=B?)(g2:Gl X "zip")(m2:X.mg "zip"=B?)(ha:PA X [e1,e2] t)
 (h1:Xw [.Call (.Name "zip" p2) [e1,e2] [] zq] X.env=[(D?,YC (.Call (.Name "zip" p2) [e1,e2] [] zq) X.env)]:=by rfl) (h2:Xw [e1,e2] X.env=(D?,YC e1 X.env)::Xw [e2] X.env:=by rfl) (h3:(Zr zq (Xw [e2] X.env)).any (·.1)=false:=by rfl) :
 PE X (.Call (.Name "list" p) [.Call (.Name "zip" p2) [e1,e2] [] zq] [] pos) (sQ X.K t):=by
 intro Y s σ H Q I h;refine X2 (ej I g1 m1 boot_list (XY ?_ h1 rfl));rw[h1];show WZ _ _ (spliced ((D?,YC (.Call (.Name "zip" p2) [e1,e2] [] zq) X.env)::[])) _ _ s;refine YD ?_;refine X2 (ej I g2 m2 boot_zip ?_);refine XY (thn (ha zq Y s σ H _ I h) λus s2⟨vs,H2,I2,r,a,b,xs,ys,ev,KU,RX,q⟩=>?_) h2 h3;subst ev;obtain⟨u1,u2,rfl,r1,r2⟩:=vals2 r;cases r1;cases r2;obtain⟨ia,Pr,pa,Mv⟩:=I2.tuple KU;obtain⟨ib,Pt,pb,VI⟩:=I2.tuple RX;have EH:=Pr.length;have VJ:=Pt.length;have Aj:a<s2.1.1.size:=by obtain⟨o,e,_⟩:=pa;exact W6 e
 have AI:b<s2.1.1.size:=by obtain⟨o,e,_⟩:=pb;exact W6 e
 have hh:X.A.in1.in1.handled=none:=I2.ok.hd hc;refine bb_call_zip (show s2.1.IsTuple a ia.toArray from pa) (show s2.1.IsTuple b ib.toArray from pb) λh' z1 z2 z3 z4 z5 z6 z7=>Y0 ?_;have D:ZipApart (s2.1.1.size+4) (s2.1.1.size+2) (s2.1.1.size+3) s2.1.1.size (s2.1.1.size+1) a b:=zipApart_new Aj AI
 have st:ZSt ia.toArray ib.toArray (s2.1.1.size+4) (s2.1.1.size+2) (s2.1.1.size+3) s2.1.1.size (s2.1.1.size+1) a b 0 h':=by
  refine{D,.inl z1,z2,{_,_,z3},z4,z5,?_,?_}
  .obtain⟨o,e,r⟩:=pa;exact{o,z7 _ _ e,r}
  .obtain⟨o,e,r⟩:=pb;exact{o,z7 _ _ e,r}
 have hf:∀c∈[s2.1.1.size+4,s2.1.1.size+3,s2.1.1.size,s2.1.1.size+1],s2.1.1.size<=c/\c<h'.objs.size:=λc hc=>by
  simp at hc;rw[z6];have zT:(c:Nat)=s2.1.1.size+4\/(c:Nat)=s2.1.1.size+3\/(c:Nat)=s2.1.1.size\/(c:Nat)=s2.1.1.size+1:=hc;constructor
  .show(s2.1.1.size:Nat)<=(c:Nat);lia
  .show(c:Nat)<s2.1.1.size+5;lia
 refine bb_list_zip (s:={s2 with heap:=h'}) hh st rfl (by rw[WT,WT];lia) (WD _) (λc hc=>(hf c hc).2) λh2 acc c kp hS zr=>?_;replace hS:h2.get? h'.objs.size=A? {cls:=.type "list",dict:=B?,data:=.seq acc c,slots:=#[]}:=hS;have RY:∀b o,s2.1.get? b=A? o->h2.get? b=A? o:=λb o e=>kp b o (λm=>g! (W6 e) (Nat.not_lt.mpr (hf b m).1)) (z7 b o e);obtain⟨hsz,hit⟩:=zr
 obtain⟨ts,et,ht⟩:=qU (P:=λj T=>h'.objs.size<=T/\∃x y,Zh h2 T x y/\ia.toArray[j]?=A? x/\ib.toArray[j]?=A? y) (vs:=acc.toList) 0 (λj v hv=>by
  obtain⟨T,x,y,g1,g2,g3,g4,g5⟩:=hit j v (by simpa using hv);rw[Nat.zero_add];exact⟨T,g1,g2,x,y,g3,g4,g5⟩)
 simp only[Nat.zero_add]at ht
 have zl:ts.length=(xs.zip ys).length:=by
  have e:=h! X9 et;rw[Wt,Xi,hsz,WT,WT]at e;rw[Z6];lia
 have rel:∀(j:Nat)(p:V×V)(T:Wx),(xs.zip ys)[j]?=A? p->ts[j]?=A? T->∃x y,Zh h2 T x y/\RelV p.1 x/\RelV p.2 y:=λj p T hp hT=>by
  obtain⟨_,x,y,g3,g4,g5⟩:=ht j T hT;obtain⟨Am,zt⟩:=we hp;obtain⟨x',k1,k2⟩:=Pr.get Am;obtain⟨y',k3,k4⟩:=Pt.get zt
  have e1:x'=x:=by
   have:ia[j]?=A? x:=by simpa using g4
   rw[k1]at this;exact WN this
  have e2:y'=y:=by
   have:ib[j]?=A? y:=by simpa using g5
   rw[k3]at this;exact WN this
  subst e1 e2;exact{_,_,g3,k2,k4}
 have same:∀(i j:Nat)(p p':V×V)(T:Wx),(xs.zip ys)[i]?=A? p->(xs.zip ys)[j]?=A? p'->ts[i]?=A? T->ts[j]?=A? T->p=p':=λi j p p' T h1 h2 h3 h4=>by
  obtain⟨x,y,g1,g2,g3⟩:=rel i p T h1 h3;obtain⟨x',y',k1,k2,k3⟩:=rel j p' T h2 h4;have e:=WN (g1.symm.trans k1);have ed:=h! Obj.data e;injection ed with RZ _;have el:=h! Array.toList RZ;have ex:x=x':=(List.cons.inj el).1;have ey:y=y':=(List.cons.inj (List.cons.inj el).2).1;subst ex ey;obtain⟨p1,p2⟩:=p;obtain⟨q1,q2⟩:=p';have f1:p1=q1:=g2.inj k2;have f2:p2=q2:=g3.inj k3;rw[f1,f2]
 have ID:h'.objs.size∉ts:=λm=>by
  obtain⟨j,hj⟩:=List.getElem?_of_mem m;obtain⟨_,x,y,g3,_⟩:=ht j _ hj;exact g! (Yp (h! Obj.cls (WN (g3.symm.trans hS)))) (by decide)
 have IE:s2.1.1.size<h'.objs.size:=by rw[z6];lia
 have IF:∀T∈ts,h'.objs.size<=T:=λT m=>by
  obtain⟨j,hj⟩:=List.getElem?_of_mem m;exact(ht j _ hj).1
 have Bf:∀b,s2.1.1.size<=b->H2 b=none:=λb hb=>I2.hok.fresh hb;have Aa:H2 h'.objs.size=none:=Bf _ (Yj IE)
 have R0:∀(j:Nat)(p:V×V)(T:Wx),(xs.zip ys)[j]?=A? p->ts[j]?=A? T->lI H2 ts (xs.zip ys) T=A? (.tup [p.1,p.2]):=λj p T hp hT=>by
  obtain⟨i,p',k1,k2,k3⟩:=o7 (H:=H2) zl (Ww hT);rw[k3,same i j p' p T k2 hp k1 hT]
 have I3:Inv X Y σ (upd (lI H2 ts (xs.zip ys)) h'.objs.size (.lst (ts.map j!))) {s2 with heap:=h2,toks:=s2.toks}:=by
  refine I2.laidAll RY (λb hb=>?_) λb u hb hu=>?_
  .rw[aj (Xn (ZT hb IE)),kA];exactλm=>g! (ZT hb IE) (Nat.not_lt.mpr (IF b m))
  .by_cases e:b=h'.objs.size
   .subst e;rw[af]at hu;cases hu;refine{by rw[Wt,zl,Z6];lia,ts.map Xs,c,?_,by rw[<-et];exact hS}
    exact dz (by simp) λj p t e1 e2=>by
     rw[Wz]at e1 e2;cases q:ts[j]? with
     |none=>rw[q]at e1;cases e1
     |some T=>rw[q]at e1 e2;cases e1;cases e2;rfl
   .rw[aj e]at hu;rcases n6 hu with q|⟨j,p,q1,q2,q3⟩
    .rw[Bf b hb]at q;cases q
    .subst q3;obtain⟨x,y,g1,g2,g3⟩:=rel j p b q2 q1;exact{by show 2<=W5;decide,[x,y],0,.cons g2 (.cons g3 .nil),g1}
 refine{.ref h'.objs.size,_,I3,E?,q h'.objs.size ts _ (λb o e=>?_) Aa af ?_}
 .have hb:=I2.hok.lt e;rw[aj (Xn (ZT hb IE)),kA]
  .exact e
  .exactλm=>g! (ZT hb IE) (Nat.not_lt.mpr (IF b m))
 .refine dz zl.symm λj p T hp hT=>?_;rw[aj (show T≠h'.objs.size fromλe=>ID (by rw[<-e];exact Ww hT))];exact R0 j p T hp hT
end
section
variable[DecidableEq κ]
def bC(kvs:List (κ×V))(k:κ):Option V:=(kvs.find? λkv=>decide (kv.1=k)).map (·.2)
def putK(kvs:List (κ×V))(k:κ)(v:V):List (κ×V) :=
 if(kvs.any λkv=>decide (kv.1=k))=C? then kvs.map (λkv=>if kv.1=k then(kv.1,v)else kv)else kvs++[(k,v)]
theorem ck{p:κ×V}{r:List (κ×V)}{k:κ}(e:p.1=k):bC (p::r) k=A? p.2:=by simp[bC,Z8,e]
theorem cj{p:κ×V}{r:List (κ×V)}{k:κ}(e:¬p.1=k):bC (p::r) k=bC r k:=by simp[bC,Z8,e]
theorem iT(k:κ):∀kvs:List (κ×V),(kvs.any λkv=>decide (kv.1=k))=(bC kvs k).isSome
 | []=>rfl
 | p::r=>by
   rw[List.any_cons];by_cases e:p.1=k
   .simp only[ck e,d! e,Bool.true_or,Option.isSome_some]
   .rw[cj e,c! e,Bool.false_or];exact iT k r
theorem o6(k j:κ)(y:V):∀kvs:List (κ×V),bC (kvs.map λkv=>if kv.1=k then(kv.1,y)else kv) j=(bC kvs j).map λx=>if j=k then y else x
 | []=>rfl
 | p::r=>by
   have ih:=o6 k j y r;rw[W9];by_cases h:p.1=k
   .rw[b! h];by_cases e:p.1=j
    .rw[ck (p:=(p.1,y)) e,ck e,Option.map_some,b! (e.symm.trans h)]
    .rw[cj (p:=(p.1,y)) e,cj e,ih]
   .rw[a! h];by_cases e:p.1=j
    .rw[ck (p:=p) e,ck e,Option.map_some,a! (λz=>h (e.trans z))]
    .rw[cj (p:=p) e,cj e,ih]
theorem mQ(k j:κ)(y:V):∀kvs:List (κ×V),bC kvs k=B?->bC (kvs++[(k,y)]) j=if j=k then A? y else bC kvs j
 | [],_=>by
   by_cases e:k=j
   .rw[b! e.symm];exact ck (p:=(k,y)) e
   .rw[a! (λz=>e z.symm)];exact cj (p:=(k,y)) e
 | p::r,hn=>by
   rw[List.cons_append];have hk:¬p.1=k:=λz=>by rw[ck z]at hn;cases hn
   rw[cj hk]at hn;have ih:=mQ k j y r hn;by_cases e:p.1=j
   .rw[ck e,ck e,a! (λz=>hk (e.trans z))]
   .rw[cj e,cj e,ih]
theorem kT(kvs:List (κ×V))(k j:κ)(y:V):bC (putK kvs k y) j=if j=k then A? y else bC kvs j:=by
 unfold putK;by_cases a:(kvs.any λkv=>decide (kv.1=k))=C?
 .rw[b! a,o6];rw[iT]at a;by_cases e:j=k
  .obtain⟨x,hx⟩:=Option.isSome_iff_exists.mp a;rw[b! e,e,hx,Option.map_some,b! rfl]
  .rw[a! e];cases bC kvs j with
   |none=>rfl
   |some x=>rw[Option.map_some,a! e]
 .rw[a! a];refine mQ k j y kvs ?_;rw[iT]at a;cases q:bC kvs k with
  |none=>rfl
  |some x=>rw[q]at a;exact(a rfl).elim
theorem eQ(kvs:List (κ×V))(k:κ)(v:V):(putK kvs k v).length<=kvs.length+1:=by
 unfold putK;split
 .rw[Wt];lia
 .rw[WL,WV,ZC];lia
theorem RelO.isSome_eq{o:Option V}{u:Option WA}(r:RelO o u):o.isSome=u.isSome:=by
 cases o with
 | none=>cases u with
   |none=>rfl
   |some _=>exact(show False from r).elim
 | some _=>cases u with
   |none=>exact(show False from r).elim
   |some _=>rfl
theorem RelO.getD{o:Option V}{u:Option WA}{d:V}{d':WA}(r:RelO o u)(rd:RelV d d'):RelV (o.getD d) (u.getD d'):=by
 cases o with
 | none=>cases u with
   |none=>exact rd
   |some _=>exact(show False from r).elim
 | some _=>cases u with
   |none=>exact(show False from r).elim
   |some _=>exact r
theorem KV.val{kvs:List (κ×V)}(r:KV kvs vs)(k:κ):RelO (bC kvs k) (valueAt vs k):=by
 unfold KV at r;induction r with
 |nil=>exact True.intro
 | @cons p q ps qs h t ih =>
   obtain⟨h1,h2⟩:=h;by_cases e:p.1=k
   .have e':q.1=k:=h1.symm.trans e;have b:valueAt (q::qs) k=A? q.2:=by simp[valueAt,Z8,e']
    rw[ck e,b];exact h2
   .have e':¬q.1=k:=λz=>e (h1.trans z);have b:valueAt (q::qs) k=valueAt qs k:=by simp[valueAt,Z8,e']
    rw[cj e,b];exact ih
theorem KV.any{kvs:List (κ×V)}(r:KV kvs vs)(k:κ):(kvs.any λkv=>decide (kv.1=k))=vs.any λkv=>decide (kv.1=k):=by
 unfold KV at r;induction r with
 |nil=>rfl
 |cons h t ih=>rw[List.any_cons,List.any_cons,ih,h.1]
theorem KV.repl{kvs:List (κ×V)}(r:KV kvs vs)(k:κ)(ry:RelV y u) :
 KV (kvs.map λkv=>if kv.1=k then(kv.1,y)else kv) (vs.map λkv=>if kv.1=k then(kv.1,u)else kv):=by
 unfold KV at r |-;induction r with
 |nil=>exact .nil
 | @cons p q ps qs h t ih =>
   rw[W9,W9];refine .cons ?_ ih;obtain⟨h1,h2⟩:=h;by_cases e:p.1=k
   .rw[b! e,b! (h1.symm.trans e)];exact⟨h1,ry⟩
   .rw[a! e,a! (λz=>e (h1.trans z))];exact⟨h1,h2⟩
theorem KV.put{kvs:List (κ×V)}(r:KV kvs vs)(k:κ)(ry:RelV y u):KV (putK kvs k y) (stored vs k u):=by
 unfold putK stored;rw[r.any k];by_cases e:(vs.any λkv=>decide (kv.1=k))=C?
 .rw[b! e,b! e];exact r.repl k ry
 .rw[a! e,a! e];exact Paired.snoc r ⟨rfl,ry⟩
theorem KV.length{kvs:List (κ×V)}(r:KV kvs vs):kvs.length=vs.length:=WS r
end
theorem mi{k:Key}(r:RelV (kV k) u):(bD P w).is k u=true:=by
 cases k with
 |inl i=>obtain⟨t,e⟩:=(show∃t,u=Value.int i t from r);subst e;exact o9 P w i t
 |inr x=>obtain⟨t,e⟩:=(show∃t,u=Value.str x t from r);subst e;exact oE P w x t
theorem mG:∀{ks:List Key}{us:List WA},Vals (ks.map kV) us->ItemsAre (bD P w) ks us
 | [],_,r=>by rw[YL]at r;cases r;exact .nil
 | k::ks,_,r=>by
   rw[W9]at r;cases r with
   |cons h t=>exact .cons (mi h) (mG t)
abbrev KTd(H:Hp):List (List Key×V)->List (List Key×Wx×WA)->Prop:=Xb λp q=>p.1=q.1/\H q.2.1=A? (.tup (p.1.map kV))/\RelV p.2 q.2.2
theorem KTd.val{xs:List (List Key×Wx×WA)}(r:KTd H kvs xs)(k:List Key):RelO (bC kvs k) ((atKey xs k).map (·.2)):=by
 induction r with
 |nil=>exact True.intro
 | @cons p q ps qs h t ih =>
   obtain⟨h1,_,h2⟩:=h;by_cases e:p.1=k
   .have e':q.1=k:=h1.symm.trans e;have b:atKey (q::qs) k=A? q.2:=by simp[atKey,Z8,e']
    rw[ck e,b];exact h2
   .have e':¬q.1=k:=λz=>e (h1.trans z);have b:atKey (q::qs) k=atKey qs k:=by simp[atKey,Z8,e']
    rw[cj e,b];exact ih
theorem KTd.repl{xs:List (List Key×Wx×WA)}(r:KTd H kvs xs)(k:List Key)(ry:RelV y u) :
 KTd H (kvs.map λkv=>if kv.1=k then(kv.1,y)else kv) (xs.map (putAt k u)):=by
 induction r with
 |nil=>exact .nil
 | @cons p q ps qs h t ih =>
   rw[W9,W9];refine .cons ?_ ih;obtain⟨h1,h2,h3⟩:=h;unfold putAt;by_cases e:p.1=k
   .rw[b! e,b! (h1.symm.trans e)];exact⟨h1,h2,ry⟩
   .rw[a! e,a! (λz=>e (h1.trans z))];exact⟨h1,h2,h3⟩
theorem KTd.put{xs:List (List Key×Wx×WA)}(r:KTd H kvs xs)(k:List Key)(hb:H b=A? (.tup (k.map kV)))(ry:RelV y u) :
 KTd H (putK kvs k y) (storedH xs k b u):=by
 have e:(kvs.any λkv=>decide (kv.1=k))=(atKey xs k).isSome:=by
  rw[iT,(r.val k).isSome_eq,Option.isSome_map]
 unfold putK storedH;rw[e];by_cases q:(atKey xs k).isSome=C?
 .rw[b! q,b! q];exact r.repl k ry
 .rw[a! q,a! q];exact Paired.snoc r ⟨rfl,hb,ry⟩
theorem KTd.keeps{xs:List (List Key×Wx×WA)}(r:KTd H kvs xs)(ht:∀b ys,H b=A? (.tup ys)->H' b=A? (.tup ys)):KTd H' kvs xs :=
 Xb.mapP r λ_ _ z=>{z.1,ht _ _ z.2.1,z.2.2}
theorem v0{u:HO}(ok:HOk P w H h)(e:Rd H a u):ObjOk P w H h a u:=e.ok ok
theorem mq{kvs:List (Key×V)}(ok:HOk P w H h)(e:Rd H a (.dK kvs)):kvs.length<=W5/\(a == Yo)=D?/\∃vs,KV kvs vs/\h.DictOf (bD P w) a vs :=
 show ObjOk P w H h a (.dK kvs)from v0 ok e
theorem vP{kvs:List (Key×V)}(ok:HOk P w H h)(e:H a=A? (.dK kvs)):kvs.length<=W5/\(a == Yo)=D?/\∃vs,KV kvs vs/\h.DictOf (bD P w) a vs:=mq ok (.inl e)
theorem jp{ks:List Key}(ok:HOk P w H h)(e:H a=A? (.tup (ks.map kV))):(tupleKind (bD P w)).is h ks a:=by
 obtain⟨_,its,n,r,h1⟩:=(show ObjOk P w H h a (.tup (ks.map kV))from ok a _ e);exact{_,its.toArray,n,h1,E?,E?,by simpa using mG r}
theorem l4(ok:HOk P w H h)(e:Rd H a (.dT kvs)):kvs.length<=W5/\(a == Yo)=D? /\
 ∃xs,KTd H kvs xs/\h.DictOfH (tupleKind (bD P w)) a xs:=by
 obtain⟨z,y,xs,r,o,es,ep,h1,h2,h3,h4,h5⟩:=(show ObjOk P w H h a (.dT kvs)from v0 ok e);refine{z,y,xs,r,o,es,ep,h1,h2,h3,h4,λx hx=>?_,h5}
 have all:∀{l:List (List Key×V)}{m:List (List Key×Wx×WA)},KTd H l m->∀x∈m,(tupleKind (bD P w)).is h x.1 x.2.1:=by
  intro l m q;induction q with
  |nil=>intro x hx;exact nomatch hx
  | @cons p q ps qs hq t ih =>
    intro x hx;rcases WW.mp hx with e|hx
    .subst e;exact jp ok (by rw[<-hq.1];exact hq.2.1)
    .exact ih x hx
 exact all r x hx
theorem qC(ok:HOk P w H h)(e:H a=A? (.dT kvs)):kvs.length<=W5/\(a == Yo)=D? /\
 ∃xs,KTd H kvs xs/\h.DictOfH (tupleKind (bD P w)) a xs:=l4 ok (.inl e)
def DGet(H:Hp)(a:Wx)(y:V)(r:Option V):Prop :=
 (∃kvs k,Rd H a (.dK kvs)/\y=kV k/\r=bC kvs k)\/∃kvs k b,Rd H a (.dT kvs)/\y=.ref b/\H b=A? (.tup (k.map kV))/\r=bC kvs k
def DPut(H:Hp)(a:Wx)(y v:V)(H':Hp):Prop :=
 (∃kvs k,H a=A? (.dK kvs)/\y=kV k/\kvs.length<W5/\H'=upd H a (.dK (putK kvs k v))) \/
 ∃kvs k b,H a=A? (.dT kvs)/\y=.ref b/\H b=A? (.tup (k.map kV))/\kvs.length<W5/\H'=upd H a (.dT (putK kvs k v))
theorem DGet.k{kvs:List (Key×V)}{k:Key}(e:H a=A? (.dK kvs)):DGet H a (kV k) (bC kvs k):=.inl {kvs,k,.inl e,rfl,rfl}
theorem DGet.t{k:List Key}(e:H a=A? (.dT kvs))(eb:H b=A? (.tup (k.map kV))):DGet H a (.ref b) (bC kvs k):=.inr {kvs,k,b,.inl e,rfl,eb,rfl}
theorem DPut.k{kvs:List (Key×V)}{k:Key}(e:H a=A? (.dK kvs))(hl:kvs.length<W5):DPut H a (kV k) v (upd H a (.dK (putK kvs k v))):=.inl ⟨kvs,k,e,rfl,hl,rfl⟩
theorem DPut.t{k:List Key}(e:H a=A? (.dT kvs))(eb:H b=A? (.tup (k.map kV)))(hl:kvs.length<W5) :
 DPut H a (.ref b) v (upd H a (.dT (putK kvs k v))):=.inr ⟨kvs,k,b,e,rfl,eb,hl,rfl⟩
section
variable{X:Cx}{r:WA}{o:Option V}
theorem Inv.big(I:Inv X Y σ H s):Yo<s.1.1.size:=by
 have h:Yg<s.1.1.size:=(I.mod.glob.keeps I.bk).lt;exact ZT (by decide) h
theorem sg(hu:A.units+1<ZY)(I:Inv X Y σ H s)(g:DGet H a y (A? v))(ry:RelV y u)(h:∀w' s',Inv X Y σ H s'->RelV v w'->Q w' s') :
 WZ (Xf X.prog X.w) A (getItem (.ref a) u) Q E s:=by
 rcases g with⟨kvs,k,e,ey,l⟩|⟨kvs,k,b,e,ey,eb,l⟩
 .subst ey;obtain⟨z,hd,vs,rel,dd⟩:=mq I.hok e;obtain⟨w',hw,Ds⟩:=RelO.some_of (v:=v) (o:=valueAt vs k) (by rw[l];exact rel.val k);exact wpAny_getItem_of (mi ry) dd.mapOf hw (h w' _ (I.tok _) Ds)
 .subst ey;cases(show u=Xs b from ry);obtain⟨z,hd,xs,rel,dd⟩:=l4 I.hok e;obtain⟨w',hw,Ds⟩:=RelO.some_of (v:=v) (o:=(atKey xs k).map (·.2)) (by rw[l];exact rel.val k);obtain⟨p,hp,zt⟩:=W4.mp hw;refine wpAny_getItem_heap (tupleKind_room_in1 hu) (jp I.hok eb) dd hp ?_;rw[zt];exact h w' _ (I.tok _) Ds
theorem uJ(hu:A.units+1<ZY)(I:Inv X Y σ H s)(g:DGet H a y o)(ry:RelV y u)(h:∀s',Inv X Y σ H s'->Q (.bool (!o.isSome)) s') :
 WZ (Xf X.prog X.w) A (YO .NotIn u (.ref a)) Q E s:=by
 rcases g with⟨kvs,k,e,ey,l⟩|⟨kvs,k,b,e,ey,eb,l⟩
 .subst ey;obtain⟨z,hd,vs,rel,dd⟩:=mq I.hok e;refine wpAny_notIn_of (mi ry) hd dd.mapOf ?_;rw[<-(rel.val k).isSome_eq,<-l];exact h _ (I.tok _)
 .subst ey;cases(show u=Xs b from ry);obtain⟨z,hd,xs,rel,dd⟩:=l4 I.hok e;refine wpAny_notIn_heap (tupleKind_room_in1 hu) (jp I.hok eb) hd dd ?_;have q:=(rel.val k).isSome_eq;rw[Option.isSome_map]at q;rw[<-q,<-l];exact h _ (I.tok _)
theorem kb{ob:HO}(I:Inv X Y σ H s)(mu:Mut (H a))(hs:X3 a s.1 h')(he:∃q,h'.get? a=A? q)(new:ObjOk X.prog X.w (upd H a ob) h' a ob) :
 Inv X Y σ (upd H a ob) {s with heap:=h',toks:=t'} :=
 I.write (x:=a) (e:=a) mu (.inl rfl) (λb q hb z=>(hs.2 b hb).trans z) he new
theorem tN{kvs:List (Key×V)}{vs:List (Key×WA)}(z:kvs.length<=W5)(hd:(a == Yo)=D?)(rel:KV kvs vs)(dd:h'.DictOf (bD P w) a vs) :
 ObjOk P w H' h' a (.dK kvs):=⟨z,hd,vs,rel,dd⟩
theorem rC{Q:Unit->WH->Prop}(hu:A.units+1<ZY)(I:Inv X Y σ H s)(g:DPut H a y v H')(ry:RelV y u)(rv:RelV v r)(h:∀s',Inv X Y σ H' s'->Q () s') :
 WZ (Xf X.prog X.w) A (setItem (.ref a) u r) Q E s:=by
 rcases g with⟨kvs,k,e,ey,l,eH⟩|⟨kvs,k,b,e,ey,eb,l,eH⟩
 .subst ey eH;obtain⟨z,hd,vs,rel,dd⟩:=vP I.hok e;have hz:vs.length<=W5:=by rw[<-rel.length];exact z
  have hl:(putK kvs k v).length<=W5:=by have:=eQ kvs k v;lia
  refine wpAny_setItem_pairs (hsz:=hz) (mi ry) dd λh' EI hs=>h _ ?_;have he:∃q,h'.get? a=A? q:=let⟨q,_,_,hq,_⟩:=EI;⟨q,hq⟩
  exact kb I (by rw[e];exact True.intro) hs he (tN hl hd (rel.put k rv) EI)
 .subst ey eH;cases(show u=Xs b from ry);obtain⟨z,hd,xs,rel,dd⟩:=qC I.hok e;have hz:xs.length<=W5:=by rw[<-WS rel];exact z
  have hl:(putK kvs k v).length<=W5:=by have:=eQ kvs k v;lia
  refine wpAny_setItem_heap (hsz:=hz) (tupleKind_room_in1 hu) (jp I.hok eb) dd λh' EI hs=>h _ ?_;obtain⟨q,es,ep,hq,h2,h3,h4,_,h5⟩:=EI;refine kb I (by rw[e];exact True.intro) hs ⟨q,hq⟩ {hl,hd,_,(rel.put k eb rv).keeps λc ys ec=>?_,q,es,ep,hq,h2,h3,h4,h5};rw[aj (aF ec e (λz=>nomatch z))];exact ec
end
section
variable{X:Cx}{kvs:List (Key×V)}{k:Key}
end
def xD(i:XD):Prop:=∀ov iv,subscripted i D? ov iv=operate [ov,iv] (getItem ov iv)
theorem vB{value slice:XD}{T id:String}
 (hl:typeLookup (.type T) "__getitem__"=pure (A? (.builtin id))) (hs:xD slice)
 (h:WZ (Xf prog w) A (YC value env) (λo l'=>WZ (Xf prog w) A (YC slice env) (λi zR=>zR.TypeIs o T/\WZ (Xf prog w) A (getItem o i) Q E zR) E l') E s) :
 WZ (Xf prog w) A (YC (.Subscript value slice pos) env) Q E s:=by
 refine Subscript_ (Yn h (λo l' zc=>Yn zc (λi zR zX=>?_) λ_ _ x=>x) λ_ _ x=>x);obtain⟨hT,zX⟩:=zX;unfold subscriptTail;refine Wu ?_;rw[getitemInPython_of_ne hT.not_modules];refine Wu (wpAny_specialOf hT hl ?_)
 have fin:WZ (Xf prog w) A (subscripted slice D? o i) (λr Bl=>WZ (Xf prog w) A (letTemporaryGo value o r >>= λ_=>pure r) Q E Bl) E zR:=by
  rw[hs o i];exact wpAny_operating (Yn zX (λr Bl BE=>Wu (wpAny_letTemporaryGo (WC BE))) λ_ _ x=>x)
 first
  |exact WC (Wu fin)
  |exact Wu (WC (Wu fin))
  |exact Wu fin
theorem oU{X:Cx}{o:Option V}(I:Inv X Y σ H s)(g:DGet H a y o):s.TypeIs (.ref a) "dict":=by
 rcases g with⟨kvs,k,e,_,_⟩|⟨kvs,k,b,e,_,_,_⟩
 .obtain⟨_,_,vs,_,dd⟩:=mq I.hok e;exact dd.typeIs
 .obtain⟨_,_,xs,_,dd⟩:=l4 I.hok e;exact dd.typeIs
def sF(td ty:TE):TE:=λσ H Q=>td σ H λx H1=>ty σ H1 λy H2=>∃a v,x=.ref a/\DGet H2 a y (A? v)/\Q v H2
def qF(ty td:TE):TE:=λσ H Q=>ty σ H λy H1=>td σ H1 λx H2=>∃a o,x=.ref a/\DGet H2 a y o/\Q (.bl (!o.isSome)) H2
def xR(td ty tv:TE):TS:=λD σ H=>tv σ H λv H1=>td σ H1 λx H2=>ty σ H2 λy H3=>∃a H4,x=.ref a/\DPut H3 a y v H4/\D.nx σ H4
section
variable{X:Cx}{o i e value:XD}{L4:ZD}{td ty tv:TE}
theorem dF(hu:X.A.units+1<ZY)(ho:PE X o td)(hi:PE X i ty)(hs:xD i):PE X (.Subscript o i pos) (sF td ty):=by
 intro Y s σ H Q I h;refine vB PySem.F.slot_dict_getitem.lookup hs (thn (ho Y s σ H _ I h) λu s1⟨x,H1,I1,rx,q1⟩=>thn (hi Y s1 σ H1 _ I1 q1) λiv s2⟨y,H2,I2,ry,a,v,ex,g,q2⟩=>?_);subst ex;obtain rfl:u=Xs a:=rx;exact{oU I2 g,sg hu I2 g ry λw' s3 I3 Ds=>⟨v,H2,I3,Ds,q2⟩}
theorem dv(hu:X.A.units+1<ZY)(hi:PE X i ty)(ho:PE X o td):PC X .NotIn i o (qF ty td):=by
 intro Y s σ H Q I h;refine thn (hi Y s σ H _ I h) λiv s1⟨y,H1,I1,ry,q1⟩=>thn (ho Y s1 σ H1 _ I1 q1) λu s2⟨x,H2,I2,rx,a,ov,ex,g,q2⟩=>?_;subst ex;obtain rfl:u=Xs a:=rx;exact uJ hu I2 g ry λs3 I3=>{.bl (!ov.isSome),H2,I3,rfl,q2}
theorem fV(hu:X.A.units+1<ZY)(ho:PE X o td)(hi:PE X i ty)(hv:PE X value tv)(hs:swapsWith value (A? (.Subscript o i pos')) pos.line X.env=pure D?) :
 PS X (.Assign [.Subscript o i pos'] value pos) (xR td ty tv):=by
 intro Y s σ H D I h;refine wpAny_Assign_Subscript (thn (hv Y s σ H _ I h) λr s1⟨v,H1,I1,rv,q1⟩=>thn (ho Y s1 σ H1 _ I1 q1) λu s2⟨x,H2,I2,rx,q2⟩=>thn (hi Y s2 σ H2 _ I2 q2) λiv s3⟨y,H3,I3,ry,a,H4,ex,g,q3⟩=>?_) hs;subst ex;obtain rfl:u=Xs a:=rx;exact rC hu I3 g ry rv λs4 I4=>⟨σ,H4,I4,q3⟩
end
theorem oX(h:XT)(hb:Yo<h.objs.size):ObjOk P w H (h.push {cls:=.type "dict",data:=.dict #[]}) h.objs.size (.dK []) :=
 {Xo _,beq_eq_false_iff_ne.mpr (YB (Xn hb)),[],.nil,Heap.DictOf.new h}
theorem sM(h:XT)(hb:Yo<h.objs.size):ObjOk P w H (h.push {cls:=.type "dict",data:=.dict #[]}) h.objs.size (.dT []) :=
 {Xo _,beq_eq_false_iff_ne.mpr (YB (Xn hb)),[],.nil,_,#[],0,WO _ rfl,⟨rfl,rfl,rfl⟩,rfl,rfl,Y4}
def w6:TE:=λ_ H Q=>∀p,H p=B?->Q (.ref p) (upd H p (.dK []))
def tM:TE:=λ_ H Q=>∀p,H p=B?->Q (.ref p) (upd H p (.dT []))
section
variable{X:Cx}
theorem kO:PE X (.Dict [] [] pos) w6:=λY s σ H Q I h =>
 wpAny_Dict_empty {.ref s.1.1.size,_,I.laid (a:=s.1.1.size) (o:=.dK []) (t':=s.toks) (λ_ _ q=>WB _ q) (WD _) (oX s.1 I.big),rfl,h _ (I.hok.fresh (WD _))}
theorem dI:PE X (.Dict [] [] pos) tM:=λY s σ H Q I h =>
 wpAny_Dict_empty {.ref s.1.1.size,_,I.laid (a:=s.1.1.size) (o:=.dT []) (t':=s.toks) (λ_ _ q=>WB _ q) (WD _) (sM s.1 I.big),rfl,h _ (I.hok.fresh (WD _))}
end
def qh:List (TE×TE)->St->Hp->(List (V×V)->Hp->Prop)->Prop
 | [],_,H,Q=>Q [] H
 |(tk,tv)::r,σ,H,Q=>tk σ H λx H1=>tv σ H1 λy H2=>qh r σ H2 λps H3=>Q ((x,y)::ps) H3
abbrev VV:List (V×V)->List (WA×WA)->Prop:=Xb λp q=>RelV p.1 q.1/\RelV p.2 q.2
def PPs(X:Cx)(pos:ZD)(keys:List (Option XD))(values:List XD)(EJ:List (TE×TE)):Prop :=
 ∀(Y:List (Wx×Yw))(s:WH)(σ:St)(H:Hp)(Q:List (V×V)->Hp->Prop),Inv X Y σ H s->qh EJ σ H Q ->
   WZ (Xf X.prog X.w) X.A (evalPairs (pairTrees keys values X.env pos)) (λvs s'=>∃ps H',Inv X Y σ H' s'/\VV ps vs/\Q ps H') X.xe s
theorem uv{X:Cx}:PPs X pos [] [] []:=λY s σ H Q I h=>pairTrees_nil_walk {[],H,I,.nil,h}
theorem tz{X:Cx}{k v:XD}{ks:List (Option XD)}{vs:List XD}{tk tv:TE}{EJ:List (TE×TE)}(hk:PE X k tk)(hv:PE X v tv)(hr:PPs X pos ks vs EJ) :
 PPs X pos (A? k::ks) (v::vs) ((tk,tv)::EJ):=λY s σ H Q I h =>
 pairTrees_cons_walk (thn (hk Y s σ H _ I h) λu s1⟨x,H1,I1,rx,q1⟩=>thn (hv Y s1 σ H1 _ I1 q1) λw2 s2⟨y,H2,I2,ry,q2⟩ =>
  thn (hr Y s2 σ H2 _ I2 q2) λws s3⟨ps,H3,I3,rel,q3⟩=>{(x,y)::ps,H3,I3,.cons ⟨rx,ry⟩ rel,q3})
def jK(kvs more:List (Key×V)):List (Key×V):=more.foldl (λacc kv=>putK acc kv.1 kv.2) kvs
theorem KV.merge:∀{more:List (Key×V)}{rs:List (Key×WA)}{kvs:List (Key×V)}{vs:List (Key×WA)},KV more rs->KV kvs vs->KV (jK kvs more) (merged vs rs):=by
 intro more rs kvs vs r;unfold KV at r;induction r generalizing kvs vs with
 |nil=>intro q;exact q
 | @cons p q ps qs h t ih =>
   intro r0
   have e:KV (putK kvs p.1 p.2) (stored vs q.1 q.2):=by
    have:=r0.put p.1 h.2;rw[<-h.1];exact this
   exact ih e
theorem g9:∀(more kvs:List (Key×V)),(jK kvs more).length<=kvs.length+more.length
 | [],kvs=>by show kvs.length<=kvs.length+0;lia
 | p::r,kvs=>by
   have h1:=g9 r (putK kvs p.1 p.2);have h2:=eQ kvs p.1 p.2;show(jK (putK kvs p.1 p.2) r).length<=_;rw[WV];lia
theorem kP{P:Xa}{w:Xq}:∀{kvs:List (Key×V)}{ws:List (WA×WA)},VV (kvs.map λkv=>(kV kv.1,kv.2)) ws->∃rs,Carries (bD P w) ws rs/\KV kvs rs
 | [],_,r=>by rw[YL]at r;cases r;exact{[],True.intro,.nil}
 | p::kvs,_,r=>by
   rw[W9]at r;cases r with
   | @cons a b as bs h t =>
     obtain⟨rs,c,q⟩:=kP (P:=P) (w:=w) t;obtain⟨b1,b2⟩:=b;exact{(p.1,b2)::rs,{mi h.1,E?,c},.cons ⟨E?,h.2⟩ q}
def yo(EJ:List (TE×TE)):TE:=λσ H Q=>∀p,H p=B?->qh EJ σ (upd H p (.dK [])) λps H2=>H2 p=A? (.dK [])/\∃kvs:List (Key×V),ps=kvs.map (λkv=>(kV kv.1,kv.2))/\kvs.length<=15/\Q (.ref p) (upd H2 p (.dK (jK [] kvs)))
theorem uH{X:Cx}{keys:List (Option XD)}{values:List XD}{EJ:List (TE×TE)}(h:PPs X pos keys values EJ)(yW:keys.all (·.isSome)=C?)(hl:keys.length=values.length)(h0:keys≠[])
 (R1:keys.length<=15):PE X (.Dict keys values pos) (yo EJ):=by
 intro Y s σ H Q I q;have hn:=I.hok.fresh (WD s.1.1.size);have I1:=I.laid (a:=s.1.1.size) (o:=.dK []) (h':=s.1.push {cls:=.type "dict",data:=.dict #[]}) (t':=s.toks) (λ_ _ q=>WB _ q) (WD _) (oX s.1 I.big);refine wpAny_Dict_walk (knd:=bD X.prog X.w) yW hl h0 R1 (thn (h Y _ σ _ _ I1 (q _ hn)) λws s2⟨ps,H2,I2,rel,e,kvs,ep,lk,q2⟩=>?_);subst ep;obtain⟨rs,c,rk⟩:=kP (P:=X.prog) (w:=X.w) rel;obtain⟨z,hd,VL,r0,dd⟩:=vP I2.hok e;cases r0;refine{rs,c,dd,λh' EI hs=>{.ref s.1.1.size,_,?_,E?,q2}}
 have hz:(jK [] kvs).length<=W5:=by
  have h1:=g9 kvs [];rw[ZC]at h1;rw[ZX];lia
 have he:∃q,h'.get? s.1.1.size=A? q:=let⟨q,_,_,hq,_⟩:=EI;⟨q,hq⟩
 exact kb I2 (by rw[e];exact True.intro) hs he (tN hz hd (rk.merge .nil) EI)
structure M2(X:Cx)(o:XD)(m:W8)(apos:ZD)(e f:XD)(zf:ZD):Prop where
 base:attributeBase o m X.env (YC o X.env)=YC o X.env
 few:((Zr zf (Xw [e,f] X.env)).all (λx=>!x.1) && (backToKw zf (keywordEach [] X.env)).all (λx=>x.1.isSome)
  && decide (([e,f]:List XD).length+([]:List Keyword).length+(if([]:List Keyword).isEmpty then 0 else 1)<30))=C?
 line:(apos.endLine == zf.line)=C?
 trees:Zr zf (Xw [e,f] X.env)=[(D?,YC e X.env),(D?,YC f X.env)]
def IsD(H:Hp)(a:Wx):Prop:=(∃kvs,Rd H a (.dK kvs))\/∃kvs,Rd H a (.dT kvs)
theorem wS{X:Cx}(I:Inv X Y σ H s)(d:IsD H a) :
 s.TypeIs (.ref a) "dict"/\(∀b,Xs a=.ref b->∃ob,s.1.get? b=A? ob/\ob.dict=B?)/\(a == Yo)=false:=by
 rcases d with⟨kvs,e⟩|⟨kvs,e⟩
 .obtain⟨_,hd,vs,_,dd⟩:=mq I.hok e;refine{dd.typeIs,λb q=>?_,hd};cases q;obtain⟨ob,_,_,h1,h2,_⟩:=dd;exact⟨ob,h1,h2.2.1⟩
 .obtain⟨_,hd,xs,_,dd⟩:=l4 I.hok e;refine{dd.typeIs,λb q=>?_,hd};cases q;obtain⟨ob,_,_,h1,h2,_⟩:=dd;exact⟨ob,h1,h2.2.1⟩
section
variable{X:Cx}{d:V}{r:WA}{o:Option V}
theorem xk(hu:A.units+1<ZY)(I:Inv X Y σ H s)(g:DGet H a y o)(ry:RelV y u)(rd:RelV d r)(h:∀w' s',Inv X Y σ H s'->RelV (o.getD d) w'->Q w' s') :
 WZ (Xf X.prog X.w) A (call (.builtin "dict.get") [.ref a,u,r]) Q E s:=by
 rcases g with⟨kvs,k,e,ey,l⟩|⟨kvs,k,b,e,ey,eb,l⟩
 .subst ey;obtain⟨z,hd,vs,rel,dd⟩:=mq I.hok e;refine call_meetsIn PySem.F.slot_dict_get dd.typeIs PySem.F.entry_dict_get (PySem.F.args_dict_get_3 _ _ _) (meets_dict_get_default (bD X.prog X.w) a (mi ry) hd r) {_,dd.mapOf,h _ _ (I.tok _) ?_};rw[l];exact(rel.val k).getD rd
 .subst ey;cases(show u=Xs b from ry);obtain⟨z,hd,xs,rel,dd⟩:=l4 I.hok e;refine call_meetsIn PySem.F.slot_dict_get dd.typeIs PySem.F.entry_dict_get (PySem.F.args_dict_get_3 _ _ _) (meetsH_dict_get_default (tupleKind (bD X.prog X.w)) a b hd r) {tupleKind_room_in1 hu,k,xs,jp I.hok eb,dd,h _ _ (I.tok _) ?_};rw[l];exact(rel.val k).getD rd
end
def xo(td ty tx:TE):TE:=λσ H Q=>td σ H λx H1=>∃a,x=.ref a/\IsD H1 a/\ty σ H1 λy H2=>tx σ H2 λz H3=>∃o,DGet H3 a y o/\Q (o.getD z) H3
section
variable{X:Cx}{o e f:XD}{apos zf:ZD}{td ty tx:TE}
theorem oR(hu:X.A.units+1<ZY)(ho:PE X o td)(he:PE X e ty)(hf:PE X f tx)(m:M2 X o "get" apos e f zf):PE X (.Call (.Attribute o "get" apos) [e,f] [] zf) (xo td ty tx):=by
 intro Y s σ H Q I h;refine wpAny_Call_method m.base m.few m.line PySem.F.plainAttrs_dict PySem.F.slot_dict_get PySem.F.type_dict_get (thn (ho Y s σ H _ I h) λu s1⟨x,H1,I1,rx,a,ex,d,q1⟩=>?_);subst ex;obtain rfl:u=Xs a:=rx;obtain⟨t1,t2,_⟩:=wS I1 d;refine{t1,t2,?_};rw[m.trees]
 refine Calls.callWith_builtin rfl (Calls.evalArgs_plain (YD (thn (he Y s1 σ H1 _ I1 q1) λiv s2⟨y,H2,I2,ry,q2⟩ =>
  YD (thn (hf Y s2 σ H2 _ I2 q2) λfv s3⟨z,H3,I3,rz,ov,g,q3⟩=>Y0 ?_))))
 exact xk hu I3 g ry rz λw' s4 I4 Ds=>{_,H3,I4,Ds,q3}
end
section
variable{X:Cx}{kvs:List (Key×V)}
end
section
variable{X:Cx}
end
end L2
open L2.DGet renaming t->G!
namespace BB
open PySem L2
set_option genInjectivity true in
inductive Dv where
 |int (i:Int)
 |str (x:W8)
 |tup (ds:List Dv)
mutual
def Dv.deep:Dv->Nat
 |.int _=>0
 |.str _=>0
 |.tup ds=>gx ds+1
def gx:List Dv->Nat
 | []=>0
 |d::ds=>max d.deep (gx ds)
end
mutual
def Dv.tot:Dv->Nat
 |.int _=>1
 |.str _=>1
 |.tup ds=>vg ds+1
def vg:List Dv->Nat
 | []=>0
 |d::ds=>d.tot+vg ds
end
mutual
def DAt(H:Hp):Dv->V->Prop
 |.int i,v=>v=.int i
 |.str x,v=>v=.str x
 |.tup ds,v=>∃a vs,v=.ref a/\H a=A? (.tup vs)/\DAts H ds vs
def DAts(H:Hp):List Dv->List V->Prop
 | [],vs=>vs=[]
 |d::ds,vs=>∃v r,vs=v::r/\DAt H d v/\DAts H ds r
end
theorem DAts.length:∀{ds:List Dv}{vs:List V},DAts H ds vs->vs.length=ds.length
 | [],vs,h=>by rw[DAts]at h;subst h;rfl
 | d::ds,vs,h=>by
   rw[DAts]at h;obtain⟨v,r,rfl,h1,h2⟩:=h;rw[WV,WV,h2.length]
theorem DAts.at:∀{ds:List Dv}{vs:List V}{i:Nat}{d:Dv},DAts H ds vs->ds[i]?=A? d->∃v,vs[i]?=A? v/\DAt H d v
 | [],vs,i,d,h,e=>by simp at e
 | d0::ds,vs,i,d,h,e=>by
   rw[DAts]at h;obtain⟨v,r,rfl,h1,h2⟩:=h;cases i with
   |zero=>simp at e;subst e;exact⟨v,E?,h1⟩
   | succ i =>
     obtain⟨u,g1,g2⟩:=h2.at (i:=i) (by simpa using e);exact{u,by simpa using g1,g2}
theorem kW:∀{ds:List Dv}{i:Nat}{d:Dv},ds[i]?=A? d->d.deep<=gx ds
 | [],i,d,e=>by simp at e
 | d0::ds,i,d,e=>by
   rw[gx];cases i with
   |zero=>simp at e;subst e;lia
   | succ i =>
     have:=kW (ds:=ds) (i:=i) (by simpa using e);lia
theorem qt:∀{ds:List Dv}{i:Nat}{d:Dv},ds[i]?=A? d->d.tot<=vg ds
 | [],i,d,e=>by simp at e
 | d0::ds,i,d,e=>by
   rw[vg];cases i with
   |zero=>simp at e;subst e;lia
   | succ i =>
     have:=qt (ds:=ds) (i:=i) (by simpa using e);lia
theorem Dv.tot_pos(d:Dv):1<=d.tot:=by
 cases d with
 |int i=>rw[Dv.tot];lia
 |str x=>rw[Dv.tot];lia
 |tup ds=>rw[Dv.tot];lia
theorem oq{ys:List V}{Q:VK}(ha:H a=A? (.tup xs))(hb:H b=A? (.tup ys))(hz:xs.length+ys.length<=1000000)(q:∀p H',k! H H'->H' p=A? (.tup (xs++ys))->Q (.ref p) H'):vN K (.ref a) (.ref b) H Q:=by
 refine{a,b,xs,ys,E?,E?,i! ha,i! hb,cH hz,λe=>?_,λ_ e=>?_,λ_ _ p hp=>?_}
 .exact q b H (.refl _) (by rw[e];exact hb)
 .exact q a H (.refl _) (by rw[e,Z9];exact ha)
 .exact q p _ (ao hp _) af
theorem P2.reverse{F:α->β->Prop}:∀{a:List α}{b:List β},Xb F a b->Xb F a.reverse b.reverse
 |_,_,.nil=>.nil
 | _,_,.cons r t=>by
   rw[X0,X0];exact v! (P2.reverse t) (.cons r .nil)
theorem P2.snoc_inv{F:α->β->Prop}{a:List α}{b:List β}{y:β}(h:Xb F a (b++[y])):∃us x,a=us++[x]/\Xb F us b/\F x y:=by
 have r:=P2.reverse h;rw[YX,Zw,ZG]at r;cases e:a.reverse with
 |nil=>rw[e]at r;cases r
 | cons x us =>
   rw[e]at r;cases r with
   | cons h1 h2 =>
     refine{us.reverse,x,?_,?_,h1}
     .rw[<-X0,<-e,Ze]
     .have:=P2.reverse h2;rw[Ze]at this;exact this
theorem dm:∀{ts:List Th}{t:Th},t∈ts->t.size<=au ts
 | u::ts,t,h=>by
   rw[au];rcases WW.mp h with rfl|h
   .lia
   .have:=dm h;lia
section
variable{ext:Th->List V}{t:Th}{ts:List Th}{es:List Wx}
end
def Th.isCall:Th->Bool
 |.knot _ _=>D?
 |.call _ _=>C?
def TK(K:WJ)(H:Hp)(a:Wx)(xs:List V):Prop:=H a=A? (.tup xs)\/(xs=[.str (WE "*")]/\∃(o:Yw)(its:Array WA)(n:Nat),K.lookup a=A? o/\o.cls=.type "tuple"/\o.data=.seq its n/\its.size<=W5/\Vals xs its.toList)
theorem TK.of(h:H a=A? (.tup xs)):TK K H a xs:=.inl h
theorem TK.sq(h:TK K H a xs):SqT K H a xs:=by
 rcases h with h|h
 .exact i! h
 .exact .inr h.2
mutual
def DAtK(K:WJ)(H:Hp):Dv->V->Prop
 |.int i,v=>v=.int i
 |.str x,v=>v=.str x
 |.tup ds,v=>∃a vs,v=.ref a/\TK K H a vs/\DAtsK K H ds vs
def DAtsK(K:WJ)(H:Hp):List Dv->List V->Prop
 | [],vs=>vs=[]
 |d::ds,vs=>∃v r,vs=v::r/\DAtK K H d v/\DAtsK K H ds r
end
theorem DAtsK.length:∀{ds:List Dv}{vs:List V},DAtsK K H ds vs->vs.length=ds.length
 | [],vs,h=>by rw[DAtsK]at h;subst h;rfl
 | d::ds,vs,h=>by
   rw[DAtsK]at h;obtain⟨v,r,rfl,h1,h2⟩:=h;rw[WV,WV,h2.length]
theorem DAtsK.at:∀{ds:List Dv}{vs:List V}{i:Nat}{d:Dv},DAtsK K H ds vs->ds[i]?=A? d->∃v,vs[i]?=A? v/\DAtK K H d v
 | [],vs,i,d,h,e=>by simp at e
 | d0::ds,vs,i,d,h,e=>by
   rw[DAtsK]at h;obtain⟨v,r,rfl,h1,h2⟩:=h;cases i with
   |zero=>simp at e;subst e;exact⟨v,E?,h1⟩
   | succ i =>
     obtain⟨u,g1,g2⟩:=h2.at (i:=i) (by simpa using e);exact{u,by simpa using g1,g2}
mutual
theorem DAt.k:∀{d:Dv}{v:V},DAt H d v->DAtK K H d v
 |.int i,v,h=>by rw[DAt]at h;rw[DAtK];exact h
 |.str x,v,h=>by rw[DAt]at h;rw[DAtK];exact h
 | .tup ds,v,h=>by
   rw[DAt]at h;rw[DAtK];obtain⟨a,vs,e,h1,h2⟩:=h;exact{a,vs,e,.of h1,DAts.k h2}
theorem DAts.k:∀{ds:List Dv}{vs:List V},DAts H ds vs->DAtsK K H ds vs
 | [],vs,h=>by rw[DAts]at h;rw[DAtsK];exact h
 | d::ds,vs,h=>by
   rw[DAts]at h;rw[DAtsK];obtain⟨v,r,e,h1,h2⟩:=h;exact{v,r,e,DAt.k h1,DAts.k h2}
end
mutual
theorem DAtK.inj{X:Cx}(I:Inv X Y σ H s):∀{d e:Dv}{v:V},DAtK X.K H d v->DAtK X.K H e v->d=e
 |.int i,.int j,v,h,g=>by rw[DAtK]at h;rw[DAtK]at g;rw[h]at g;cases g;rfl
 |.int i,.str y,v,h,g=>by rw[DAtK]at h;rw[DAtK]at g;rw[h]at g;cases g
 |.int i,.tup es,v,h,g=>by rw[DAtK]at h;rw[DAtK]at g;obtain⟨a,vs,e,_⟩:=g;rw[h]at e;cases e
 |.str x,.int j,v,h,g=>by rw[DAtK]at h;rw[DAtK]at g;rw[h]at g;cases g
 |.str x,.str y,v,h,g=>by rw[DAtK]at h;rw[DAtK]at g;rw[h]at g;cases g;rfl
 |.str x,.tup es,v,h,g=>by rw[DAtK]at h;rw[DAtK]at g;obtain⟨a,vs,e,_⟩:=g;rw[h]at e;cases e
 |.tup ds,.int j,v,h,g=>by rw[DAtK]at h;rw[DAtK]at g;obtain⟨a,vs,e,_⟩:=h;rw[e]at g;cases g
 |.tup ds,.str y,v,h,g=>by rw[DAtK]at h;rw[DAtK]at g;obtain⟨a,vs,e,_⟩:=h;rw[e]at g;cases g
 | .tup ds,.tup es,v,h,g=>by
   rw[DAtK]at h;rw[DAtK]at g;obtain⟨a,vs,e1,h1,h2⟩:=h;obtain⟨b,ws,e2,g1,g2⟩:=g;rw[e1]at e2;cases e2;have e3:=I.tuple_inj h1.sq g1.sq;subst e3;rw[DAtsK.inj I h2 g2]
theorem DAtsK.inj{X:Cx}(I:Inv X Y σ H s):∀{ds es:List Dv}{vs:List V},DAtsK X.K H ds vs->DAtsK X.K H es vs->ds=es
 | [],[],vs,h,g=>rfl
 | [],e::es,vs,h,g=>by rw[DAtsK]at h;rw[DAtsK]at g;obtain⟨v,r,z,_⟩:=g;rw[h]at z;cases z
 |d::ds,[],vs,h,g=>by rw[DAtsK]at h;rw[DAtsK]at g;obtain⟨v,r,z,_⟩:=h;rw[g]at z;cases z
 | d::ds,e::es,vs,h,g=>by
   rw[DAtsK]at h;rw[DAtsK]at g;obtain⟨v,r,z,h1,h2⟩:=h;obtain⟨v',r',z',g1,g2⟩:=g;rw[z]at z';cases z';rw[DAtK.inj I h1 g1,DAtsK.inj I h2 g2]
end
end BB
open BB.Dv renaming int->C!,tup->O!
namespace L2
open PySem PySem.Spec PySem.SeqAt PyProof.Rows BB
open Classical in
theorem qp[DecidableEq α]{zh:List WA}{ds es:List α}(p1:s.1.IsTuple a its.toArray)(p2:s.1.IsTuple b zh.toArray)(l1:its.length=ds.length)(l2:zh.length=es.length)(hu:A.units<ZY)
 (ih:∀(j:Nat)(d e:α)(u v:WA),ds[j]?=A? d->es[j]?=A? e->its[j]?=A? u->zh[j]?=A? v->EqAt A.in1 s u v (decide (d=e))):RcAt A s (.ref a) (.ref b) (decide (ds=es)):=by
 have Mw:RcAt A s (.ref a) (.ref b) ((Yu (min its.toArray.size zh.toArray.size)).all (λj=>decide (ds[j]?=es[j]?)) && its.toArray.size == zh.toArray.size):=by
  refine RcAt.tuples p1 p2 hu λj h1 h2=>?_;have Pu:j<ds.length:=by rw[<-l1];simpa using h1
  have Pw:j<es.length:=by rw[<-l2];simpa using h2
  have e1:ds[j]?=A? ds[j]:=Wv Pu;have e2:es[j]?=A? es[j]:=Wv Pw;have e3:decide (ds[j]?=es[j]?)=decide (ds[j]=es[j]):=by rw[e1,e2];simp
  have g1:its[j]?=A? its[j]:=Wv (by rw[l1];exact Pu);have g2:zh[j]?=A? zh[j]:=Wv (by rw[l2];exact Pw);rw[e3];exact ih j ds[j] es[j] its[j] zh[j] e1 e2 g1 g2
 have e:decide (ds=es)=((Yu (min its.toArray.size zh.toArray.size)).all (λj=>decide (ds[j]?=es[j]?)) && its.toArray.size == zh.toArray.size):=by
  rw[WT,WT,l1,l2];by_cases h:ds=es
  .subst h;rw[d! rfl];symm;simp
  .rw[c! h];symm;by_cases hl:ds.length=es.length
   .rw[hl,Nat.min_self]
    have:¬((Yu es.length).all (λj=>decide (ds[j]?=es[j]?)))=true:=by
     intro z;apply h;apply YH;intro j;by_cases hj:j<es.length
     .exact e! (List.all_eq_true.mp z j (List.mem_range.mpr hj))
     .rw[XJ (by lia),XJ (by lia)]
    rw[Bool.eq_false_iff.mpr this];rfl
   .have:(ds.length == es.length)=false:=by simpa using hl
    rw[this,Bool.and_false]
 rw[e];exact Mw
open Classical in
theorem rO{X:Cx}(I:Inv X Y σ H s){ds es:List Dv}{vs ws:List V}(ha:SqT X.K H a vs)(hb:SqT X.K H b ws)(KW:DAtsK X.K H ds vs)(Ca:DAtsK X.K H es ws)(hu:A.units<ZY)
 (ih:∀(j:Nat)(d e:Dv)(x y:V)(u v:WA),ds[j]?=A? d->DAtK X.K H d x->DAtK X.K H e y->RelV x u->RelV y v->EqAt A.in1 s u v (decide (d=e))):RcAt A s (.ref a) (.ref b) (decide (O! ds=O! es)):=by
 obtain⟨its,r1,p1,_⟩:=I.tuple ha;obtain⟨zh,r2,p2,_⟩:=I.tuple hb;rw[show decide (O! ds=O! es)=decide (ds=es)from decide_eq_decide.mpr {λz=>Dv.tup.inj z,λz=>h! _ z}];refine qp (show s.1.IsTuple a its.toArray from p1) (show s.1.IsTuple b zh.toArray from p2) (by rw[<-r1.length,KW.length]) (by rw[<-r2.length,Ca.length]) hu λj d e u v e1 e2 e3 e4=>?_;obtain⟨x',BF,dx⟩:=KW.at e1;obtain⟨y',ED,dy⟩:=Ca.at e2;obtain⟨u',DH,Mx⟩:=r1.get BF;obtain⟨v',Ct,F4⟩:=r2.get ED;rw[DH]at e3;rw[Ct]at e4;cases e3;cases e4;exact ih j d e x' y' _ _ e1 dx dy Mx F4
open Classical in
theorem oP{X:Cx}(I:Inv X Y σ H s):∀(n:Nat)(d e:Dv),d.tot<=n->∀(x y:V)(u v:WA)(A:Xv),DAtK X.K H d x->DAtK X.K H e y->RelV x u->RelV y v->A.units+d.deep<ZY->EqAt A s u v (decide (d=e))
 |0,d,e,hn,x,y,u,v,A,hd,he,ru,rv,hu=>by have:=d.tot_pos;lia
 | n+1,.int i,.int j,hn,x,y,u,v,A,hd,he,ru,rv,hu=>by
   rw[DAtK]at hd;rw[DAtK]at he;subst hd he;obtain⟨t,rfl⟩:=ru;obtain⟨t',rfl⟩:=rv
   have e:decide (C! i=C! j)=(i == j):=by
    by_cases h:i=j
    .subst h;simp
    .rw[c! (λz=>h (Dv.int.inj z))];simp[h]
   rw[e];exact EqAt.int_int i t j t'
 | n+1,.int i,.str b,hn,x,y,u,v,A,hd,he,ru,rv,hu=>by
   rw[DAtK]at hd;rw[DAtK]at he;subst hd he;obtain⟨t,rfl⟩:=ru;obtain⟨t',rfl⟩:=rv;rw[c! (λz=>by cases z)];exact EqAt.int_str i t b t'
 | n+1,.int i,.tup es,hn,x,y,u,v,A,hd,he,ru,rv,hu=>by
   rw[DAtK]at hd;rw[DAtK]at he;obtain⟨a,vs,rfl,ha,_⟩:=he;subst hd;obtain⟨t,rfl⟩:=ru;cases rv;obtain⟨its,_,p,_⟩:=I.tuple (ha.sq);rw[c! (λz=>by cases z)];exact EqAt.int_tuple i t (show s.1.IsTuple a its.toArray from p) (by lia)
 | n+1,.str b,.int j,hn,x,y,u,v,A,hd,he,ru,rv,hu=>by
   rw[DAtK]at hd;rw[DAtK]at he;subst hd he;obtain⟨t,rfl⟩:=ru;obtain⟨t',rfl⟩:=rv;rw[c! (λz=>by cases z)];exact EqAt.str_int b t j t'
 | n+1,.str b,.str c,hn,x,y,u,v,A,hd,he,ru,rv,hu=>by
   rw[DAtK]at hd;rw[DAtK]at he;subst hd he;obtain⟨t,rfl⟩:=ru;obtain⟨t',rfl⟩:=rv
   have e:decide (Dv.str b=Dv.str c)=(b == c):=by
    by_cases h:b=c
    .subst h;simp
    .rw[c! (λz=>h (Dv.str.inj z))];simp[h]
   rw[e];exact EqAt.str_str b t c t'
 | n+1,.str b,.tup es,hn,x,y,u,v,A,hd,he,ru,rv,hu=>by
   rw[DAtK]at hd;rw[DAtK]at he;obtain⟨a,vs,rfl,ha,_⟩:=he;subst hd;obtain⟨t,rfl⟩:=ru;cases rv;obtain⟨its,_,p,_⟩:=I.tuple (ha.sq);rw[c! (λz=>by cases z)];exact EqAt.str_tuple b t (show s.1.IsTuple a its.toArray from p) (by lia)
 | n+1,.tup ds,.int j,hn,x,y,u,v,A,hd,he,ru,rv,hu=>by
   rw[DAtK]at hd;rw[DAtK]at he;obtain⟨a,vs,rfl,ha,_⟩:=hd;subst he;cases ru;obtain⟨t,rfl⟩:=rv;obtain⟨its,_,p,_⟩:=I.tuple (ha.sq);rw[c! (λz=>by cases z)];exact EqAt.tuple_int j t (show s.1.IsTuple a its.toArray from p) (by lia)
 | n+1,.tup ds,.str b,hn,x,y,u,v,A,hd,he,ru,rv,hu=>by
   rw[DAtK]at hd;rw[DAtK]at he;obtain⟨a,vs,rfl,ha,_⟩:=hd;subst he;cases ru;obtain⟨t,rfl⟩:=rv;obtain⟨its,_,p,_⟩:=I.tuple (ha.sq);rw[c! (λz=>by cases z)];exact EqAt.tuple_str b t (show s.1.IsTuple a its.toArray from p) (by lia)
 | n+1,.tup ds,.tup es,hn,x,y,u,v,A,hd,he,ru,rv,hu=>by
   have R3:=hd;have G3:=he;rw[DAtK]at hd;rw[DAtK]at he;obtain⟨a,vs,rfl,ha,KW⟩:=hd;obtain⟨b,ws,rfl,hb,Ca⟩:=he;cases ru;cases rv;by_cases G5:a=b
   .subst G5;rw[d! (DAtK.inj I R3 G3)];exact EqAt.same _
   rw[Dv.tot]at hn;rw[Dv.deep]at hu;refine EqAt.of_refs G5 (rO I ha.sq hb.sq KW Ca (by lia) λj d e x' y' u' v' e1 dx dy Mx F4=>?_);have q1:=qt e1;have q2:=kW e1;refine oP I n d e (by lia) x' y' u' v' A.in1 dx dy Mx F4 ?_;show A.units+1+_<ZY;lia
end L2
namespace BB
open PySem PySem.Spec PyProof.Rows L2
mutual
theorem DAt.inj:∀{d e:Dv}{v:V},DAt H d v->DAt H e v->d=e
 |.int i,.int j,v,h,g=>by rw[DAt]at h;rw[DAt]at g;rw[h]at g;cases g;rfl
 |.int i,.str y,v,h,g=>by rw[DAt]at h;rw[DAt]at g;rw[h]at g;cases g
 |.int i,.tup es,v,h,g=>by rw[DAt]at h;rw[DAt]at g;obtain⟨a,vs,e,_⟩:=g;rw[h]at e;cases e
 |.str x,.int j,v,h,g=>by rw[DAt]at h;rw[DAt]at g;rw[h]at g;cases g
 |.str x,.str y,v,h,g=>by rw[DAt]at h;rw[DAt]at g;rw[h]at g;cases g;rfl
 |.str x,.tup es,v,h,g=>by rw[DAt]at h;rw[DAt]at g;obtain⟨a,vs,e,_⟩:=g;rw[h]at e;cases e
 |.tup ds,.int j,v,h,g=>by rw[DAt]at h;rw[DAt]at g;obtain⟨a,vs,e,_⟩:=h;rw[e]at g;cases g
 |.tup ds,.str y,v,h,g=>by rw[DAt]at h;rw[DAt]at g;obtain⟨a,vs,e,_⟩:=h;rw[e]at g;cases g
 | .tup ds,.tup es,v,h,g=>by
   rw[DAt]at h;rw[DAt]at g;obtain⟨a,vs,e1,h1,h2⟩:=h;obtain⟨b,ws,e2,g1,g2⟩:=g;rw[e1]at e2;cases e2;rw[h1]at g1;cases g1;rw[DAts.inj h2 g2]
theorem DAts.inj:∀{ds es:List Dv}{vs:List V},DAts H ds vs->DAts H es vs->ds=es
 | [],[],vs,h,g=>rfl
 | [],e::es,vs,h,g=>by rw[DAts]at h;rw[DAts]at g;obtain⟨v,r,z,_⟩:=g;rw[h]at z;cases z
 |d::ds,[],vs,h,g=>by rw[DAts]at h;rw[DAts]at g;obtain⟨v,r,z,_⟩:=h;rw[g]at z;cases z
 | d::ds,e::es,vs,h,g=>by
   rw[DAts]at h;rw[DAts]at g;obtain⟨v,r,z,h1,h2⟩:=h;obtain⟨v',r',z',g1,g2⟩:=g;rw[z]at z';cases z';rw[DAt.inj h1 g1,DAts.inj h2 g2]
end
end BB
namespace L2
open PySem PySem.Spec PySem.SeqAt PyProof.Rows BB
open Classical in
theorem qG{X:Cx}(I:Inv X Y σ H s):∀(n:Nat)(d e:Dv),d.tot<=n->∀(x y:V)(u v:WA)(A:Xv),DAt H d x->DAt H e y->RelV x u->RelV y v->A.units+d.deep<ZY->EqAt A s u v (decide (d=e)):=λn d e hn x y u v A hd he=>oP I n d e hn x y u v A hd.k he.k
end L2
namespace BB
open PySem L2
end BB
namespace PySem
theorem bb_extendT(l:Wx)(items:Array WA)(n:Nat)(b:Wx)(za:Array WA)(n2:Nat)(dd:Option Wx)(sl:Array (Option WA))(g0:¬(!items.isEmpty && YU (items.size+za.size))=C?)(g1:items.size<=W5)(g2:items.size+za.size<=W5+1) :
 Meets (Zx.«list.extend» {[.ref l,.ref b],[]}) (λ_ R s=>s.1.get? l=A? {cls:=.type "list",dict:=B?,data:=.seq items n,slots:=#[]}/\s.1.get? b=A? {cls:=.type "tuple",dict:=dd,data:=.seq za n2,slots:=sl}/\R (.ok (.ret Yb)) {s with heap:=s.1.update l (XX λx=>x++za),toks:=s.toks}) :=
 .of_wp λprog w A R s h=>by
  obtain⟨hp,g,d,tk,os⟩:=s;obtain⟨hl,hb,h⟩:=h;have f1:=AutoSeq1.idx_int;have f2:=AutoSeq1.sub_tuple_tuple;have f3:=AutoSeq1.sub_list_list;have f4:=AutoSeq1.sub_tuple_list;have f5:=AutoSeq1.sub_list_tuple;have z2:(items++za).size<=W5+1:=by rw[Array.size_append];exact g2
  wp_walk using(Yr hl rfl (hz:=g1) (_hz':=z2)),YV hl,YV hb
  exact{_,E?,h}
end PySem
namespace L2
open PySem PySem.Spec PyProof.Rows
section
variable{X:Cx}
def uf(K:WJ):V->List V->Hp->VK->Prop:=λx vs H Q=>∃l b xs zs,x=.ref l/\vs=[.ref b]/\H l=A? (.lst xs)/\SqT K H b zs/\xs.length+zs.length<=W5/\Q .non (upd H l (.lst (xs++zs)))
theorem qd:MtM X "list.extend" (uf X.K):=by
 intro Y s σ H x vs v us Q I rx rv h;obtain⟨l,b,xs,zs,rfl,rfl,hH,hB,hz,q⟩:=h;cases rx;obtain⟨u,rfl,ru⟩:=rv.one;cases ru;obtain⟨z,its,n,r,hl,e⟩:=I.lstM hH;obtain⟨zh,r2,p2,_⟩:=I.tuple hB;have Aa:=r2.length;obtain⟨⟨EC,Cu,data2,Cv⟩,e2,Be,n2,hd2⟩:=p2;simp only at Be hd2;subst Be hd2;have hsz:its.toArray.size+zh.toArray.size<=W5:=by rw[WT,WT];lia
 have BD:¬(!its.toArray.isEmpty && YU (its.toArray.size+zh.toArray.size))=true:=by
  rw[kH hsz,Bool.and_false];exact W2
 refine call_meets F.slot_list_extend {_,e,rfl} F.entry_list_extend (F.args_list_extend_2 _ _)
  (bb_extendT l its.toArray n b zh.toArray n2 Cu Cv BD (by rw[WT];lia) (by lia)) {e,e2,?_}
 refine{.non,_,I.lset (its':=its++zh) hH e (by simp) (r.append r2) ?_,E?,q};rw[WL];lia
end
end L2
namespace BB
open PySem L2
theorem mU{w:W8}{n:Int}(h0:0<=n)(h:n+1<=(w.length:Int)):(fO w B? (A? (n+1))).length=n.toNat+1:=by
 rw[kI]
 have e1:q! w.length w.length (A? (n+1))=n.toNat+1:=by
  show(if n+1<0 then _ else min (n+1).toNat w.length)=_;rw[a! (by lia)];lia
 have e2:q! w.length 0 B?=0:=rfl;rw[e1,e2];lia
theorem uM{A B:W8}{c d:Nat}(h:A++{#[c]}++B=A++{#[d]}++B):c=d:=by
 have h1:(A.cps++#[c]++B.cps)=(A.cps++#[d]++B.cps):=h! Str.cps h;have h2:=h! Array.toList h1;simp at h2;exact h2
theorem qr{base i j:Int}(hi:0<=i)(R4:i<8)(hj:0<=j)(VM:j<8)(h:nameOf base i=nameOf base j):i=j:=by
 unfold nameOf at h;split at h
 .have h1:=h! Str.length h;rw[mU hi (by rw[d7];lia),mU hj (by rw[d7];lia)]at h1;lia
 .have h1:=uM h;unfold kQ at h1;have a1:=Xr (((((base / 112) / 26 ^ (nAt base).toNat)%26).toNat:Int)+i) (by decide:(26:Int)≠0);have a2:=Xr (((((base / 112) / 26 ^ (nAt base).toNat)%26).toNat:Int)+j) (by decide:(26:Int)≠0);generalize((((base / 112) / 26 ^ (nAt base).toNat)%26).toNat:Int)=l at h1 a1 a2;lia
end BB
namespace PySem
open Sem (wp)
namespace F
end F
section
variable{xs:Array WA}{k:Nat}
end
end PySem
namespace L2
open PySem PySem.Spec PyProof.Rows BB
section
variable{X:Cx}
end
end L2
namespace BB
open PySem L2
end BB
namespace HT
open PySem PySem.Spec PyProof.Rows
theorem getItem_tuple_whole{t:Wx}(ht:IsTup s.1 t items)(hs:s.1.IsSliceOf sl vl vu .none)(pl:IsPart vl lo)(pu:IsPart vu hi)
 (hw:sIx items.size 0 lo=0/\sIx items.size items.size hi=items.size) (h:Q (.ref t) s):WZ (Xf prog w) A (getItem (.ref t) (.ref sl)) Q E s:=by
 obtain⟨os,BC,Fd,AF⟩:=id hs;have Ie:s.TypeIs (.ref sl) "slice":=⟨os,BC,Fd⟩;have hT:s.TypeIs (.ref t) "tuple":=ht.typeIs;unfold getItem
 try with_reducible refine XU ?_
 first|refine Wu (WC ?_)|skip
 refine Wu (wpAny_sequenceKey ht.typeIs (by decide) ?_)
 refine Wu (XM (name:=WE "__getitem__") ht.typeIs XI
  (XQ XI ht.typeIs entry_tuple_getitem ?_ (args_tuple_getitem _ _)))
 show WZ _ _ (Builtin.Tuple.tupleItemsOf (.ref t) >>= _) _ _ s;refine Wu (tupleItemsOf_ ht ?_);refine Wu (wpAny_typeOf Ie ?_);rw[b! (by decide)];refine Wu (sliceApplied_gen hs pl pu ?_)
 have My:(((sIx items.size 0 lo:Nat):Int) == 0 && (1:Int) == 1 && (sIx items.size items.size hi - sIx items.size 0 lo) == items.size)=true:=by
  rw[hw.1,hw.2];simp
 show WZ _ _ (if(((sIx items.size 0 lo:Nat):Int) == 0 && (1:Int) == 1 && (sIx items.size items.size hi - sIx items.size 0 lo) == items.size)=C? then _ else _) _ _ s;rw[b! My];refine Wu (m:=Builtin.Tuple.tupleIsExact _) ?_;unfold Builtin.Tuple.tupleIsExact;refine Wu (wpAny_typeOf hT (WC ?_));rw[b! (by decide)];exact Wu (wpAny_rule (WC {_,rfl,WC h}))
end HT
namespace L2
open PySem PySem.Spec PyProof.Rows
inductive vJ(x:V)(lo:Option Int)(hi:Option Int)(H:Hp)(Q:VK):Prop
 |mk (a:_) (xs:_) (Bb:x=.ref a) (Bc:H a=A? (.tup xs)) (Cs:∀p H',Same H H'->H' p=A? (.tup (cW xs lo hi))->Q (.ref p) H'):vJ  x lo hi H Q
def yz:V->Option Int->Option Int->Hp->VK->Prop:=vJ
theorem qv{X:Cx}:SlR X yz:=by
 intro Y s σ H x v vl vu lo hi sl Q I rx hs pl pu h;obtain⟨a,xs,rfl,ha,q⟩:=h;by_cases hw:q! xs.length 0 lo=0/\q! xs.length xs.length hi=xs.length
 .obtain⟨its,r,p1,hz⟩:=I.tuple (i! (K:=X.K) ha);have hl:=r.length;cases rx
  have e:cW xs lo hi=xs:=by
   unfold cW;rw[hw.1,hw.2,ZR,Nat.sub_zero,YJ]
  refine{"tuple",_,XI.lookup,p1.typeIs,HT.getItem_tuple_whole p1 hs pl pu (by rw[WT,<-hl];exact hw) {.ref a,H,I,E?,q a H (.refl _) (by rw[e];exact ha)}}
 .exact cL Y s σ H _ v vl vu lo hi sl Q I rx hs pl pu {a,xs,rfl,i! ha,hw,λp hp=>q p _ (ao hp _) af}
end L2
namespace PySem
open Sem (wp)
section
variable{od:Yw}{es:Array DictEntry}
theorem bb_keyNext{en:DictEntry}{Q:Option WA->WH->Prop}(g:s.1.IsKeyIter it d i es.size ep)(g1:s.1.get? d=A? od)(g2:od.data=.dict es ep)(hx:es[i]?=A? en)
 (fin:∀h',h'.IsKeyIter it d (i+1) es.size ep->X3 it s.1 h'->Q (A? en.key) {s with heap:=h'}):WZ (Xf prog w) A (Zz (.ref it)) Q E s:=by
 obtain⟨o,q1,q2,q3⟩:=id g;unfold Zz;refine Wu (wpAny_attempt (XM (name:=WE "__next__") g.typeIs Y1 (XQ Y1 g.typeIs F.entry_dict_keyiterator_next ?_ (F.args_dict_keyiterator_next_1 _))));refine Wu (WC ?_);refine Wu ?_;refine Wu ?_
 first|refine Wu (ZI g.typeIs (WC ?_))|refine Wu (wpAny_typeNameOf_keyiter g.typeIs (WC ?_))
 refine Wu (wpAny_fieldsOf q1 q3 ?_);have own:Y2 "dict_keyiterator"=false:=by decide
 simp only[own,Y5,if_false];show WZ _ _ (if(Xs d == Yb)=C? then _ else _) _ _ s;rw[a! (show¬((Xs d == Yb)=C?)from W2)];refine Wu (WC ?_);refine Wu (YZ g1 g2 ?_);rw[a! (by simp)];refine Wu (WC ?_);refine Wu (wpAny_dictEpoch g1 g2 ?_);rw[a! (by simp)];refine WC ?_;have lt:i<es.size:=(ZS.mp hx).1;have ee:es[i]=en:=(ZS.mp hx).2;simp only[show¬((i:Int)<0)from by lia,if_false,WU,Y7 lt];refine Wu ?_
 first|refine Wu (ZI g.typeIs (WC ?_))|refine Wu (wpAny_typeNameOf_keyiter g.typeIs (WC ?_))
 refine Wu (wpAny_isOneOf_keyiter g.typeIs ?_);show WZ _ _ (setField (.ref it) 1 (YW ((i:Int)+1)) >>= _) _ _ s;refine Wu (wpAny_setField q1 q3 (by simp) ?_);have g':(s.1.update it (Obj.mapFields (·.setIfInBounds 1 (YW ((i:Int)+1))))).IsKeyIter it d (i+1) es.size ep:={_,XW _ q1 (Obj.isFreed_of_fields (Obj.data_mapFields q3 _)),(Obj.cls_mapFields ..).trans q2,by rw[Obj.data_mapFields q3];simp[YW]};refine Wu (XU ?_);refine Wu (wpAny_isOneOf_keyiter (s:={s with heap:=s.1.update it (Obj.mapFields (·.setIfInBounds 1 (YW ((i:Int)+1))))}) g'.typeIs ?_);show WZ _ _ (pure es[i].key) _ _ _;rw[ee];exact WC (WC {_,rfl,WC (fin _ g' (Yd ..))})
theorem bb_keyEnd{Q:Option WA->WH->Prop}(calm:A.handled=B?)(g:s.1.IsKeyIter it d i es.size ep)(g1:s.1.get? d=A? od)(g2:od.data=.dict es ep)(hx:es.size<=i)
 (fin:∀h',Heap.ExtBut it s.1 h'->Q B? {s with heap:=h'}):WZ (Xf prog w) A (Zz (.ref it)) Q E s:=by
 obtain⟨o,q1,q2,q3⟩:=id g;unfold Zz;refine Wu (wpAny_attempt (XM (name:=WE "__next__") g.typeIs Y1 (XQ Y1 g.typeIs F.entry_dict_keyiterator_next ?_ (F.args_dict_keyiterator_next_1 _))));refine Wu (WC ?_);refine Wu ?_;refine Wu ?_
 first|refine Wu (ZI g.typeIs (WC ?_))|refine Wu (wpAny_typeNameOf_keyiter g.typeIs (WC ?_))
 refine Wu (wpAny_fieldsOf q1 q3 ?_);have own:Y2 "dict_keyiterator"=false:=by decide
 simp only[own,Y5,if_false];show WZ _ _ (if(Xs d == Yb)=C? then _ else _) _ _ s;rw[a! (show¬((Xs d == Yb)=C?)from W2)];refine Wu (WC ?_);refine Wu (YZ g1 g2 ?_);rw[a! (by simp)];refine Wu (WC ?_);refine Wu (wpAny_dictEpoch g1 g2 ?_);rw[a! (by simp)];refine WC ?_;simp only[show¬((i:Int)<0)from by lia,if_false,WU,Array.getElem?_eq_none hx];refine Wu ?_
 first|refine Wu (ZI g.typeIs (WC ?_))|refine Wu (wpAny_typeNameOf_keyiter g.typeIs (WC ?_))
 show WZ _ _ (setField (.ref it) 0 .none >>= _) _ _ s;refine Wu (wpAny_setField q1 q3 (by simp) ?_);walk_at"ac"
 first|rw[show A.in1.handled=B? from calm]|rw[calm]
 refine Wu (WC (wpAny_throw ?_));refine Wu (wpAny_isInstance (T:="StopIteration") (b:=C?) {_,WO _ rfl,rfl} isSubtype_stop ?_);exact WC (fin _ (((Yd ..).extBut.push _).push _))
theorem bb_keyIter(ns:(d == Yo)=D?)(g1:s.1.get? d=A? od)(gc:od.cls=.type "dict")(g2:od.data=.dict es ep)
 (fin:Q (.ref s.1.1.size) {s with heap:=s.1.push {cls:=.type "dict_keyiterator",data:=.fields #[.ref d,.int 0 0,.int es.size 0,.int ep 0]}}):WZ (Xf prog w) A (pyIter (.ref d)) Q E s:=by
 have gT:s.TypeIs (.ref d) "dict":={_,g1,gc};refine wpAny_pyIter_slot gT F.slot_dict_iter (XQ F.slot_dict_iter gT F.entry_dict_iter ?_ (F.args_dict_iter_1 _));unfold Zx.«dict.__iter__»;refine Wu ?_;unfold Builtin.Dict.dictSlotNone;refine Wu (wpAny_notOrdered_dict gT ?_);show WZ _ _ (pure (Xs d)) _ _ s;refine WC ?_;show WZ _ _ (Builtin.Dict.showsAll d >>= _) _ _ s;unfold Builtin.Dict.showsAll;rw[a! (by rw[ns];exact W2)];refine Wu (WC ?_);refine Wu (YZ g1 g2 ?_);refine Wu (wpAny_dictEpoch g1 g2 ?_);refine Wu (XC (WC {_,rfl,"dict_keyiterator",_,{_,WO _ rfl,rfl},Y1.lookup,?_}));simpa[YW]using fin
end
end PySem
namespace L2
open PySem PySem.Spec PyProof.Rows
theorem Inv.freeze{X:Cx}{o:Yw}(I:Inv X Y σ H s)(ha:H a=A? (.dT kvs))(ho:s.1.get? a=A? o):Inv X Y σ (upd H a (.frz o (.dT kvs))) s:=by
 have ne:∀b u,H b=A? u->u≠.dT kvs->b≠a:=λb u e d z=>by rw[z,ha]at e;exact d (WN e).symm
 have ht:∀b xs,H b=A? (.tup xs)->upd H a (.frz o (.dT kvs)) b=A? (.tup xs):=λb xs e=>by rw[aj (ne b _ e (by intro z;cases z))];exact e
 have hw:∀c b,H b=A? (.own c)->upd H a (.frz o (.dT kvs)) b=A? (.own c):=λc b e=>by rw[aj (ne b _ e (by intro z;cases z))];exact e
 have st:∀b u,H b=A? u->ObjOk X.prog X.w (upd H a (.frz o (.dT kvs))) s.1 b u:=λb u e=>(I.hok b u e).stay (λ_ _ _ q=>q) (hw b) ht;refine I.step (g':=s.gens) (d':=s.drawn) (t':=s.toks) (ch:=[]) (λ_ z=>nomatch z) (λb ob _ _ _ e _=>e) (λb ob _ _ _ e _=>⟨ob.slots,e⟩) (λb ob _ e n=>?_) (λb ob _ e=>⟨ob,e⟩) ht (λb ob u e=>?_) (λb ps e=>{#[],?_}) (λm hm=>hm) (λb u e=>?_) I.bare
 .rw[aj (λz=>by rw[z,ha]at n;cases n)];exact n
 .rw[aj (ne b _ e (by intro z;cases z))];exact e
 .rw[aj (ne b _ e (by intro z;cases z)),e];simp
 .by_cases hb:b=a
  .subst hb;rw[af]at e;cases e;exact{ho,st _ _ ha}
  .rw[aj hb]at e;exact st b u e
section
variable{X:Cx}{e:XD}{te:TE}
end
end L2
namespace BB
open PySem L2
inductive Top where
 |nm (n:W8) (m:Nat)
 |th (t:Th)
def bl:List Top->List Th
 | []=>[]
 |.nm n m::S=>.knot n ((bl S).take m)::(bl S).drop m
 |.th t::S=>t::bl S
def TopsOk:List Top->Prop
 | []=>True
 |.nm _ m::S=>m<=(bl S).length/\TopsOk S
 |.th _::S=>TopsOk S
theorem TopsOk.drop:∀{l:List Top}(i:Nat),TopsOk l->TopsOk (l.drop i)
 |l,0,h=>by rw[ZR];exact h
 | [],i+1,h=>by rw[List.drop_nil];exact h
 | .nm n m::S,i+1,h=>by
   rw[TopsOk]at h;rw[List.drop_succ_cons];exact TopsOk.drop i h.2
 | .th t::S,i+1,h=>by
   rw[TopsOk]at h;rw[List.drop_succ_cons];exact TopsOk.drop i h
theorem pM:∀l:List Top,(bl l).length<=l.length
 | []=>WD _
 | .nm n m::S=>by
   have:=pM S;rw[bl,WV,WV,XR];lia
 | .th t::S=>by
   have:=pM S;rw[bl,WV,WV];lia
mutual
def Th.fill(f:Int->Int->Th):Th->Th
 |.knot n ks=>.knot n (fills f ks)
 |.call s k=>f s k
def fills(f:Int->Int->Th):List Th->List Th
 | []=>[]
 |t::ts=>t.fill f::fills f ts
end
theorem jE(f:Int->Int->Th):∀ts:List Th,(fills f ts).length=ts.length
 | []=>by rw[fills]
 |t::ts=>by rw[fills,WV,WV,jE f ts]
mutual
theorem qO:∀t:Th,t.fill t!=t
 |.knot n ks=>by rw[Th.fill,om ks]
 |.call s k=>by rw[Th.fill]
theorem om:∀ts:List Th,fills t! ts=ts
 | []=>by rw[fills]
 |t::ts=>by rw[fills,qO t,om ts]
end
def di(f:Int->Int->Th):Th->Top
 |.knot n ks=>.nm n ks.length
 |.call s k=>.th (f s k)
theorem i5(f:Int->Int->Th):∀(n:Nat)(ts:List Th),au ts<=n->∀S,bl ((walks ts).map (di f)++S)=fills f ts++bl S/\(TopsOk S->TopsOk ((walks ts).map (di f)++S))
 |_,[],_,S=>by rw[walks,fills];exact{E?,λh=>h}
 | 0,t::ts,hn,S=>by
   have:=t.size_pos;rw[au]at hn;lia
 | n+1,t::ts,hn,S=>by
   have hs:=t.size_eq;rw[au]at hn;have h2:=i5 f n ts (by lia) S;have e:(walks (t::ts)).map (di f)++S=di f t::((walks t.kids).map (di f)++((walks ts).map (di f)++S)):=by rw[walks,t.walk_eq];simp
   have h1:=i5 f n t.kids (by lia) ((walks ts).map (di f)++S);rw[e];cases t with
   | knot nm ks =>
     simp only[Th.kids]at h1 |-;refine{?_,λhS=>?_}
     .show bl (.nm nm ks.length::_)=_;rw[bl,h1.1,h2.1,<-jE f ks,List.take_left,List.drop_left,fills,Th.fill];rfl
     .show TopsOk (.nm nm ks.length::_);rw[TopsOk];refine{?_,h1.2 (h2.2 hS)};rw[h1.1,WL,jE];exact Nat.le_add_right _ _
   | call s k =>
     simp only[Th.kids,walks,YL,List.nil_append]at h1 |-;refine{?_,λhS=>?_}
     .show bl (.th (f s k)::_)=_;rw[bl,h2.1,fills,Th.fill];rfl
     .show TopsOk (.th (f s k)::_);rw[TopsOk];exact h2.2 hS
theorem ux(f:Int->Int->Th)(t:Th):bl (t.walk.map (di f))=[t.fill f]/\TopsOk (t.walk.map (di f)):=by
 have h:=i5 f _ [t] (WD _) [];have e:walks [t]=t.walk:=by simp[walks]
 rw[e,Z9]at h;refine{?_,h.2 (by rw[TopsOk];trivial)};rw[h.1,fills,fills,bl];rfl
theorem qB(x:V)(xs:List V):cW (x::xs) B? (A? 1)=[x]:=by
 unfold cW;rw[show(A? (1:Int))=A? ((1:Nat):Int)from rfl,x!,HT.sIx_none,WV,Nat.min_eq_left (by lia)];rfl
theorem tV(kvs:List (List Key×V))(k:List Key)(v:V):(putK kvs k v).length<=kvs.length+1:=by
 unfold putK;split
 .rw[Wt];lia
 .rw[WL];exact WD _
end BB
open BB.Th renaming fill->D!
namespace PySem
open Sem (wp)
end PySem
namespace L2
open PySem PySem.Spec PyProof.Rows BB
end L2
namespace BB
open PySem L2
theorem sW{k:Nat}(hr:L2.Room k A):A.units+150+2<ZY:=by
 have:=hr.un;lia
end BB
namespace L2
open PySem PySem.Spec PySem.SeqAt PyProof.Rows BB
end L2
namespace BB
open PySem L2
theorem P2.mapl{γ:Type}{R:β->γ->Prop}(f:α->β):∀{xs:List α}{cs:List γ},Xb (λx c=>R (f x) c) xs cs->Xb R (xs.map f) cs
 |_,_,.nil=>.nil
 |_,_,.cons r h=>.cons r (P2.mapl f h)
end BB
namespace L2
open PySem PySem.Spec PySem.SeqAt PyProof.Rows BB
end L2
namespace BB
open PySem L2
end BB
namespace L2
open PySem PySem.Spec PyProof.Rows BB
end L2
namespace BB
open PySem L2
end BB
namespace L2
open PySem PySem.Spec PySem.Calls PyProof.Rows PySem.W
structure va(K:Frag)(C:Wx):Prop where
 exc:excIn K C [.type "ValueError",.type "Exception",.type "BaseException",.type "object"] "ValueError.__new__"=C?
 ga:findIn K (.ref C) "__getattribute__"=A? (A? (.builtin "BaseException.__getattribute__"))
 gt:findIn K (.ref C) "__getattr__"=A? B?
 cl:findIn K (.ref C) "__class__"=A? (A? (.builtin "object.__class__"))
 mo:mroIn K C (.type "object")=A? C?
 mb:mroIn K C (.type "BaseException")=A? C?
section
variable{g:Array GenState}{d:Drawn}{t:Nat}{os:OsState}{o:Yw}{K:Frag}
end
theorem ObjOk.there(x:ObjOk P w H h a o):∃ob,h.get? a=A? ob:=by
 cases o with
 |lst xs=>obtain⟨_,_,_,_,e⟩:=x;exact{_,e}
 |tup xs=>obtain⟨_,_,_,_,e⟩:=x;exact{_,e}
 |dK kvs=>obtain⟨_,_,_,_,o,_,_,e,_⟩:=x;exact{_,e}
 |dT kvs=>obtain⟨_,_,_,_,o,_,_,e,_⟩:=x;exact{_,e}
 |set S n=>obtain⟨o,_,_,_,e,_⟩:=x;exact{_,e}
 |ins C dx fs=>obtain⟨_,_,_,e,_⟩:=x;exact{_,e}
 |own y=>obtain⟨_,e⟩:=x;exact{_,e}
 |xd fs=>obtain⟨_,⟨_,_,_,e,_⟩,_⟩:=x;exact{_,e}
 |rng lo hi=>obtain⟨_,_,_,e⟩:=x;exact{_,e}
 |frz ob u=>obtain⟨e,_⟩:=x;exact{_,e}
 |tbl ps=>exact{_,(show h.get? a=A? _ from x)}
 |met f y=>exact{_,(show h.get? a=A? _ from x)}
 |ext φ=>obtain⟨_,⟨_,e⟩,_⟩:=x;exact{_,e}
def CX1(P:Xa)(w:Xq):CXT:=λouter H s E e s'=>∃(ea C:Wx)(a0:WA)(B:XT)(H':Hp),
 e=.ref ea/\s'.os=s.os/\AllBare s'.gens/\Un (frs outer) [] H H' s.1 s'.1/\HOk P w H' s'.1/\Heap.FlyingW B outer ea (.ref C) a0 s'.1 /\
 (∀b o,s.1.get? b=A? o->b∉frs outer->∃o',B.get? b=A? o'/\(H b=B?->o'=o))/\(∀b u,H' b=A? u->∃o',B.get? b=A? o')/\E (.ref C) B? H'
theorem nR{B:XT}(hok:HOk P w H' h)(k1:B.StaysIn h)(k2:B.StaysIn h')(b2:∀b u,H' b=A? u->∃o',B.get? b=A? o'):HOk P w H' h':=λa o e =>
 (hok a o e).stay (λb u hb q=>by
  have ht:∃v,H' b=A? v:=by
   rcases hb with rfl|hb
   .exact{_,e}
   .exact{_,hb}
  obtain⟨v,hv⟩:=ht;obtain⟨o',Bt⟩:=b2 b v hv;have:=k1 b o' Bt;rw[q]at this;cases this;exact k2 b _ Bt) (λ_ q=>q) λ_ _ q=>q
theorem ph{fs:List Wx}{h1 h2:XT}{l:List Wx}{B:XT}(u1:Un fs [] H H1 h h1)(u2:Un l [] H1 H' h1 h2)(hl:∀b o,h.get? b=A? o->b∈l->b∈fs)
 (b1:∀b o,h1.get? b=A? o->b∉l->∃o',B.get? b=A? o'/\(H1 b=B?->o'=o)) (st:B.StaysIn h') (up:h2.UpToSlots h')
 (hf:∀b∈fs,H b=B?/\∃o,h.get? b=A? o/\∀vs,o.data≠.fields vs) :
 Un fs [] H H' h h'/\∀b o,h.get? b=A? o->b∉fs->∃o',B.get? b=A? o'/\(H b=B?->o'=o):=by
 have nx:∀b:Wx,b∉([]:List Wx):=λb=>by simp
 have bb:∀b o,h.get? b=A? o->b∉fs->∃o',B.get? b=A? o'/\(H b=B?->o'=o):=λb o q nf=>by
  obtain⟨o1,e1⟩:=u1.there b o q (nx b);obtain⟨o',e',g⟩:=b1 b o1 e1 λz=>nf (hl b o q z);refine{o',e',λn=>?_};have:=u1.keep b o q n nf (nx b);rw[e1]at this;cases this;exact g (u1.free b _ q n (nx b))
 have sl:∀b o,h.get? b=A? o->H b=B?->b∈fs->∃sl,h'.get? b=A? {o with slots:=sl}:=λb o q n m=>by
  obtain⟨s1,e1⟩:=u1.slot b o q n m (nx b);obtain⟨s2,e2⟩:=u2.any e1 (u1.free b o q n (nx b)) (nx b);obtain⟨_,o0,q0,nf⟩:=hf b m;rw[q]at q0;cases q0;obtain⟨s3,e3⟩:=up b _ e2 nf;exact⟨s3,e3⟩
 refine{{λb o q n nf _=>?_,λb o q n m _=>sl b o q n m,λb o q n _=>?_,λb o q _=>?_,λb xs q=>u2.tups b xs (u1.tups b xs q),λb o u q=>u2.frzs b o u (u1.frzs b o u q),λb ps q=>?_},bb}
 .obtain⟨o',e',g⟩:=bb b o q nf;rw[<-g n];exact st b o' e'
 .obtain⟨o1,e1⟩:=u1.there b o q (nx b);exact u2.free b o1 e1 (u1.free b o q n (nx b)) (nx b)
 .by_cases m:b∈fs
  .obtain⟨n,_⟩:=hf b m;obtain⟨s3,e3⟩:=sl b o q n m;exact{_,e3}
  .obtain⟨o',e',_⟩:=bb b o q m;exact{o',st b o' e'}
 .obtain⟨m1,e1⟩:=u1.tbls b ps q;obtain⟨m2,e2⟩:=u2.tbls b _ e1;exact{m1++m2,by rw[e2,Array.append_assoc]}
section
variable{cd:WA}{E:XK}
theorem pW{l:List Env}{L:Wx}(hf:env.frame=A? L):frs (env::l)=L::frs l:=by unfold frs;rw[Zk,hf]
theorem qP:Passes (CX1 P w) (j2 (CX1 P w) P w K mg base N qual scope f cd A outer s H E) E:=by
 intro Y σ H1 s1 e s2 I h;obtain⟨ea,C,a0,B,H',rfl,BC,DI,un,hok,Eh,b1,b2,q⟩:=h;show WZ _ _ (leaving _ _) _ _ s2;refine wpAny_leaves_onW (E:=λe' HY=>CX1 P w outer H s E e' HY) I.ok.frames rfl Eh λh' F5 up=>?_
 obtain⟨U,Mz⟩:=ph (fs:=frs outer) (H:=H) (h:=s.1) (l:=frs (Zp qual scope s.1.1.size f cd::outer)) (B:=B) (h':=h') I.base un (λb o hb z=>by
  rw[pW (L:=s.1.1.size) rfl]at z;rcases WW.mp z with rfl|z
  .exact g! (W6 hb) (X1 _)
  .exact z) b1 F5.1 up (λb hb=>{I.ok.frf b hb,(I.ok.funs.mem hb).2})
 exact{ea,C,a0,B,H',E?,BC.trans I.os,DI,U,nR hok Eh.1 F5.1 b2,F5,Mz,b2,q}
def wK(te:TE)(C:Wx)(E:XK):TS:=λ_ σ H=>te σ H λ_ H1=>E (.ref C) B? H1
theorem u9(X:K.In h)(F:va K C)(hm:mg x=A? (.ref C)):OwnCls x C [.type "ValueError",.type "Exception",.type "BaseException",.type "object"] "ValueError.__new__" mg h:=by
 have q:=F.exc;refine{hm,?_};unfold excIn at q;split at q
 .rename_i dd cd sl ho
  split at q
  .rename_i C' bm k0 k1 k2 k3 n k5 hm hs
   simp only[YK,beq_iff_eq,Bool.not_eq_true']at q;obtain⟨⟨⟨⟨⟨rfl,rfl⟩,IG⟩,ht⟩,hok⟩,KY⟩:=q;obtain⟨nm,bs,mro,ns,qn,hd,sn,sub,ab,col,del⟩:=cd;dsimp only at hm IG hok KY;subst hm IG
   have F6:sl=#[k0,k1,k2,k3,A? (.builtin "ValueError.__new__"),k5]:=by
    obtain⟨l⟩:=sl;simp only at hs;rw[hs]
   subst F6;exact{bm,ns,nm,qn,bs,hd,sn,sub,ab,col,dd,k0,k1,k2,k3,k5,_,X _ _ ho,.of_isNs (isNs_of_in X hok),nsMap_none_of_in X hok KY,tail_of_in X ht}
  .cases q
 .cases q
theorem uq{e0:XD}{te:TE}{np zf:ZD}(F:va K C)(hm:mg x=A? (.ref C))(he:PE (j2 (CX1 P w) P w K mg base N qual scope f cd A outer s H E) e0 te)
 (hx:(Zp qual scope s.1.1.size f cd).kindOf x=A? .globalImplicit:=by rfl)
 (zG:Xw [e0] (Zp qual scope s.1.1.size f cd)=[(D?,YC e0 (Zp qual scope s.1.1.size f cd))]:=by rfl) (hd:(x == ("__debug__":W8))=false:=by decide) :
 PS (j2 (CX1 P w) P w K mg base N qual scope f cd A outer s H E) (.Raise (A? (.Call (.Name x np) [e0] [] zf)) B? pos) (wK te C E):=by
 intro Y s1 σ H1 D I h;obtain⟨tl,N',nm,q,bs,hdct,sn,sub,ab,col,dd,k0,k1,k2,k3,k5,mN,hC,hN,KY,T⟩:=(u9 I.mod.kin F hm).obj
 refine wpAny_Raise_call_subT (C:=C) (nm:=nm) (q:=q) (N:=N') (bs:=bs) (bm:=tl) (hdct:=hdct) (sn:=sn) (sub:=sub) (ab:=ab) (col:=col) (dd:=dd) (k0:=k0) (k1:=k1) (k2:=k2) (k3:=k3) (k5:=k5)
  PySem.F.excBase_ValueError (mN:=mN) (T.hasType PySem.F.excBase_ValueError.hasBase) (I.ok.hd rfl) (by show(Zr zf (Xw [e0] (Zp qual scope s.1.1.size f cd))).any (·.1)=D?;rw[zG];rfl) KY (iZ I hx hm {rfl,?_} hd)
 show WZ _ _ (evalArgs _ C? (Zr zf (Xw [e0] (Zp qual scope s.1.1.size f cd))) []) _ _ _;rw[zG];refine Calls.evalArgs_plain (YD (thn (he Y s1 σ H1 _ I h) λv s2⟨y,H2,I2,r2,q2⟩=>Y0 {rfl,by show 1<=W5;decide,I2.bk _ _ hC,hN.keeps I2.bk,T.keeps I2.bk,λh' e hx=>?_}));show WZ _ _ (leaving _ _) _ _ _;have FF:=I2.stack;have hl:∀env∈Zp qual scope s.1.1.size f cd::outer,∀a,env.frame=A? a->a∈frs (Zp qual scope s.1.1.size f cd::outer):=λenv he a ha=>List.mem_filterMap.mpr ⟨env,he,ha⟩;refine wpAny_leaves_madeW (base:=hideAll s2.1 (frs (Zp qual scope s.1.1.size f cd::outer))) (h:=s2.1) I.ok.frames rfl (λb o z=>of_hideAll _ z) (funFrames_hide FF hl) hx λh2 t Eh tup tn up=>?_;have nf:∀b u,H2 b=A? u->b∉frs (Zp qual scope s.1.1.size f cd::outer):=λb u e z=>by rw[I2.stkFree b z]at e;cases e
 obtain⟨U,Mz⟩:=ph (fs:=frs outer) (H:=H) (H1:=H2) (H':=H2) (h:=s.1) (h1:=s2.1) (h2:=h') (l:=frs (Zp qual scope s.1.1.size f cd::outer)) (B:=hideAll s2.1 (frs (Zp qual scope s.1.1.size f cd::outer))) (h':=h2) I2.base (Un.kept hx.keeps) (λb o hb z=>by
  rw[pW (L:=s.1.1.size) rfl]at z;rcases WW.mp z with rfl|z
  .exact g! (W6 hb) (X1 _)
  .exact z) (λb o hb z=>{o,hideAll_get _ hb z,λ_=>rfl}) Eh.1 up (λb hb=>{I.ok.frf b hb,(I.ok.funs.mem hb).2})
 have b2:∀b u,H2 b=A? u->∃o',(hideAll s2.1 (frs (Zp qual scope s.1.1.size f cd::outer))).get? b=A? o':=λb u e=>by
  obtain⟨o,ho⟩:=(I2.hok b u e).there;exact{o,hideAll_get _ ho (nf b u e)}
 exact{e,C,.ref t,_,H2,E?,I2.os,I2.bare,U,nR I2.hok (λb o z=>of_hideAll _ z) Eh.1 b2,Eh,Mz,b2,q2}
end
section
variable{X:Cx}
def Cx.tryB(X:Cx)(Y:List (Wx×Yw))(R:St->WA->Hp->Prop):Cx:={ X with
 pn:=X.pn++Y
 xe:=λe s'=>∃zz H1 s1,Inv X Y zz H1 s1/\CX1 X.prog X.w X.stack H1 s1 (λc _ H'=>R zz c H') e s' }
def Cx.suite(X:Cx)(ea:Wx)(oe:Yw):Cx:={ X with
 A:=X.A.mark (A? (.ref ea))
 calm:=D?
 pn:=X.pn++[(ea,oe)]
 xe:=λ_ _=>False }
theorem Inv.tryB(I:Inv X Y σ H s)(R:St->WA->Hp->Prop):Inv (X.tryB Y R) [] σ H s :=
 {⟨I.ok.mod,I.ok.kind,I.ok.glob,I.ok.blt,I.ok.above,I.ok.inj,I.ok.has,I.ok.cab,I.ok.hd,I.ok.frames,I.ok.stk,I.ok.exf,I.ok.bs,I.ok.bsz,I.ok.noex,I.ok.exfs,I.ok.funs,I.ok.frf⟩,
   I.os,I.bare,I.base,I.loc,I.cell,I.free,I.freeC,λp hp=>I.pin p (by simpa[Cx.tryB]using hp),I.hok,I.len}
theorem Inv.untryB{Ba:List (Wx×Yw)}(I:Inv (X.tryB Y R) Ba σ H s):Inv X Y σ H s :=
 {⟨I.ok.mod,I.ok.kind,I.ok.glob,I.ok.blt,I.ok.above,I.ok.inj,I.ok.has,I.ok.cab,I.ok.hd,I.ok.frames,I.ok.stk,I.ok.exf,I.ok.bs,I.ok.bsz,I.ok.noex,I.ok.exfs,I.ok.funs,I.ok.frf⟩,
   I.os,I.bare,I.base,I.loc,I.cell,I.free,I.freeC,λp hp=>I.pin p (WX _ hp),I.hok,I.len}
theorem Inv.suite{ea:Wx}{oe:Yw}(I:Inv X Y σ H s)(h:s.1.get? ea=A? oe/\H ea=B?/\ea≠X.env.locals/\ea∉X.fs/\∀v,oe.data≠.cell v):Inv (X.suite ea oe) Y σ H s :=
 {{I.ok.mod,I.ok.kind,I.ok.glob,I.ok.blt,I.ok.above,I.ok.inj,I.ok.has,I.ok.cab,(λz=>nomatch z),I.ok.frames,I.ok.stk,I.ok.exf,I.ok.bs,I.ok.bsz,I.ok.noex,I.ok.exfs,I.ok.funs,I.ok.frf},
   I.os,I.bare,I.base,I.loc,I.cell,I.free,I.freeC,λp hp=>by
    have hp:p∈(X.pn++[(ea,oe)])++Y:=hp;rcases WQ.mp hp with hp|hp
    .rcases WQ.mp hp with hp|hp
     .exact I.pin p (WX _ hp)
     .obtain rfl:=WG.mp hp;exact h
    .exact I.pin p (Xc _ hp),I.hok,I.len}
theorem Inv.unsuite{ea:Wx}{oe:Yw}(I:Inv (X.suite ea oe) Y σ H s)(hd:X.calm=C?->X.A.handled=B?):Inv X Y σ H s :=
 {⟨I.ok.mod,I.ok.kind,I.ok.glob,I.ok.blt,I.ok.above,I.ok.inj,I.ok.has,I.ok.cab,hd,I.ok.frames,I.ok.stk,I.ok.exf,I.ok.bs,I.ok.bsz,I.ok.noex,I.ok.exfs,I.ok.funs,I.ok.frf⟩,
   I.os,I.bare,I.base,I.loc,I.cell,I.free,I.freeC,λp hp=>I.pin p (by
    show p∈(X.pn++[(ea,oe)])++Y;rcases WQ.mp hp with hp|hp
    .exact WX _ (WX _ hp)
    .exact Xc _ hp),I.hok,I.len}
end
structure Hit(K:Frag)(C Ch:Wx):Prop where
 exc:va K C
 hit:exmOne K (.ref C) (.ref Ch)=A? C?
theorem SP.untryB{X:Cx}{f:Flow}(h:SP (X.tryB Y R) [] D f s'):SP X Y D f s':=by
 cases f with
 |next=>obtain⟨i',H',I,q⟩:=h;exact⟨i',H',I.untryB,q⟩
 |brk=>obtain⟨i',H',I,q⟩:=h;exact⟨i',H',I.untryB,q⟩
 |cont=>obtain⟨i',H',I,q⟩:=h;exact⟨i',H',I.untryB,q⟩
 |ret u=>obtain⟨v,i',H',I,r,q⟩:=h;exact⟨v,i',H',I.untryB,r,q⟩
theorem Fun.ok1{k:Nat}(F:Fun K x qual st f fd)(S:b7 N ps (aE st))(len:∀vs H Q E,sp vs H Q E->vs.length=ps.length)
 (zH:∀(y9:WA)(A:Xv)(outer:List Env)(s:WH)(H:Hp)(vs:List V)(Q:VK)(E:XK),Room k (A.deeper (Zp qual (aE st) s.1.1.size f y9))->sp vs H Q E ->
  ∃t,PSs (j2 (CX1 P w) P w K mg base N qual (aE st) f y9 A outer s H E) (b8 st) t/\t {nx:=λ_ H'=>Q .non H',rt:=Q} (start N vs) H):bv P w K mg base (CX1 P w) (k+1) f fd ps sp:=by
 obtain⟨oc,od,kV,doc,pm,an,y9,ct,Ed,rfl,lk,AO⟩:=F.ex;exact t7 lk AO S len λA outer s H vs Q E hr AQ=>zH y9 A outer s H vs Q E hr AQ
def um(sp:Sp)(Ad:List V)(R:St->WA->Hp->Prop)(t:TA):TE:=λσ H Q=>t σ H λvs H1=>sp (vs++Ad) H1 Q λc _ H'=>R σ c H'
theorem tR{X:Cx}{k:Nat}{Ad:List V}{ds:List WA}{p:ZD}{e:XD}{es:List XD}{t:TA}
 (F:bv X.prog X.w X.K X.mg X.base (CX1 X.prog X.w) k f fd ps sp) (hr:Room k X.A) (hg:Gl X x) (hm:X.mg x=A? (.ref f)) (hk:Zm X.K (.ref f)=C?) (hb:Binds X.K fd ps ds) (hd:Vals Ad ds)
 (ha:PA (X.tryB Y R) (e::es) t) (Dr:(x == ("__debug__":W8))=false:=by decide) (he:Xw (e::es) X.env=(D?,YC e X.env)::Xw es X.env:=by rfl) (Aq:(Zr pos (Xw es X.env)).any (·.1)=false:=by rfl) :
 PE (X.tryB Y R) (.Call (.Name x p) (e::es) [] pos) (um sp Ad R t):=by
 intro Ba s σ H Q I h;refine X2 (iZ I hg hm ?_ Dr);refine PySem.W.callWith_K (h₀:=X.base) I.ok.mod.kin hk (thn (ha pos Ba s σ H _ I h) λus s1⟨vs,H1,I1,r,q⟩=>{I1.kIn,?_}) he Aq;have r2:Vals (vs++Ad) (us++ds):=r.append hd;have hl:(us++ds).length=ps.length:=by rw[<-r2.length];exact F.len _ _ _ _ q
 refine wpAny_call (codeAny_mono (F.run X.A X.stack s1 H1 {us,[]} (us++ds) (vs++Ad) Q _ hr I1.env0 (hb s1 us I1.kIn hl) r2 q) λr s' hq=>?_);cases r with
 |error e=>exact⟨σ,H1,s1,I1.untryB,hq⟩
 | ok fl =>
   cases fl with
   |ret u=>exact I1.after hq
   |next=>exact Yz hq
   |brk=>exact Yz hq
   |cont=>exact Yz hq
open PySem.SeqAt
end L2
namespace BB
open PySem
end BB
namespace L2
open PySem PySem.Spec PySem.Calls PyProof.Rows BB
section
variable{R:Result->WH->Prop}
end
end L2
namespace PySem
end PySem
namespace L2
open PySem PySem.Spec PySem.Calls PyProof.Rows BB
section
variable{X:Cx}
end
end L2
namespace BB
open PySem L2
theorem qu{g:TG}{te:TE}(zs:List α)(f:α->V)(hz:zs.length=xs.length)(hn:xs.length<=1000000)
 (FY:∀i H2,k! H H2->i<xs.length->J.go i H2) (Az:∀H2,k! H H2->J.stop xs.length H2) (B8:∀(i:Nat)H2 x H3,k! H H2->i<xs.length->J.yld i H2 x H3->H3=H2/\xs[i]?=A? x)
 (hb:∀(i:Nat)x z H2(R:VK)(W':Hp->Prop),xs[i]?=A? x->zs[i]?=A? z->k! H H2->(∀H3,k! H2 H3->R (f z) H3)->g x (cσ js σ) H2 λze H3=>tt ze H3 λb H4=>if b=C? then te ze H4 R else W' H4)
 (zS:∀D H',H D=B?->k! H H'->H' D=A? (.lst (zs.map f))->fin D H') :
 ∀D,H D=B?->∃(n:Nat)(W:Nat->Hp->Prop),W 0 (upd H D (.lst []))/\gf js g tt te σ J D n W λH'=>fin D H':=by
 intro D hD;refine{xs.length,λi H'=>i<=xs.length/\k! H H'/\H' D=A? (.lst ((zs.take i).map f)),{Xo _,ao hD _,by rw[af];rfl},?_};rintro i H' ⟨hi,s1,e1⟩;by_cases yY:i<xs.length
 .refine .inr {yY,FY i H' s1 yY,λv H1 hy=>?_};obtain⟨e,hx⟩:=B8 i H' v H1 s1 yY hy;subst e;obtain⟨z,Dc⟩:∃z,zs[i]?=A? z:={_,Wv (by lia)};refine hb i v z _ _ _ hx Dc s1 λH3 s3=>{_,s3 _ _ e1,?_,yY,aM (s1.trans s3) hD,?_}
  .rw[Wt,Xy];have:W5=16777216:=ZX;lia
  .rw[af,take_snoc Dc,W3];rfl
 .have BG:i=xs.length:=by lia
  subst BG;refine .inl {Az _ s1,zS D H' hD s1 ?_};rw[e1,XF (by lia)]
theorem bP{g:TG}{te:TE}(zs:List α)(f:α->V)(hS:SqT K H a xs)(hz:zs.length=xs.length)(hn:xs.length<=1000000)
 (hb:∀(i:Nat)x z H2(R:VK)(W':Hp->Prop),xs[i]?=A? x->zs[i]?=A? z->k! H H2->(∀H3,k! H2 H3->R (f z) H3)->g x (cσ js σ) H2 λze H3=>tt ze H3 λb H4=>if b=C? then te ze H4 R else W' H4)
 (zS:∀D H',H D=B?->k! H H'->H' D=A? (.lst (zs.map f))->fin D H') :
 ∀D,H D=B?->∃(n:Nat)(W:Nat->Hp->Prop),W 0 (upd H D (.lst []))/\gf js g tt te σ (Itt K a) D n W λH'=>fin D H' :=
 qu zs f hz hn (λi H2 s hi=>{xs,xs[i],s.seqT hS,Wv hi}) (λH2 s=>{xs,s.seqT hS,WD _}) (λi H2 x H3 s hi hy=>{hy.1,hy.2 xs (s.seqT hS)}) hb zS
theorem fW{g:TG}{te:TE}(zs:List α)(f:α->V)(hS:SqL K H a xs)(hz:zs.length=xs.length)(hn:xs.length<=1000000)
 (hb:∀(i:Nat)x z H2(R:VK)(W':Hp->Prop),xs[i]?=A? x->zs[i]?=A? z->k! H H2->(∀H3,k! H2 H3->R (f z) H3)->g x (cσ js σ) H2 λze H3=>tt ze H3 λb H4=>if b=C? then te ze H4 R else W' H4)
 (zS:∀D H',H D=B?->k! H H'->H' D=A? (.lst (zs.map f))->fin D H') :
 ∀D,H D=B?->∃(n:Nat)(W:Nat->Hp->Prop),W 0 (upd H D (.lst []))/\gf js g tt te σ (Itl K a) D n W λH'=>fin D H' :=
 qu zs f hz hn (λi H2 s hi=>{xs,xs[i],s.seq hS,Wv hi}) (λH2 s=>{xs,s.seq hS,WD _}) (λi H2 x H3 s hi hy=>{hy.1,hy.2 xs (s.seq hS)}) hb zS
end BB
namespace HT
open PySem PySem.Spec PyProof.Rows
theorem adjust_back(n:Nat):Zi B? B? (-1) (n:Int)=((n:Int) - 1,-1):=rfl
theorem places_back(n:Nat):Yi ((n:Int) - 1) (-1) (-1)=n:=by
 unfold Yi;have h1:¬((-1:Int) > 0):=by lia
 simp only[h1,if_false];by_cases h:n=0
 .subst h;decide
 .have h2:((n:Int) - 1) > -1:=by lia
  simp only[h2,if_true];rw[show(- -1:Int)=1 by decide,Int.ediv_one];lia
theorem pick_back(xs:Array WA):((Yu xs.size).filterMap λ(m:Nat)=>xs[(((xs.size:Nat):Int) - 1+(m:Int) * (-1)).toNat]?).toArray=xs.toList.reverse.toArray:=by
 congr 1
 have e:∀m∈Yu xs.size,xs[(((xs.size:Nat):Int) - 1+(m:Int) * (-1)).toNat]?=xs.toList.reverse[m]?:=by
  intro m hm;have MA:=List.mem_range.mp hm;rw[List.getElem?_reverse (by rw[Xi];exact MA),ZH,Xi];congr 1;lia
 have f:∀(l:List Nat)(f g:Nat->Option WA),(∀m∈l,f m=g m)->l.filterMap f=l.filterMap g:=by
  intro l f g;induction l with
  |nil=>intro _;rfl
  | cons y ys ih =>
    intro h;rw[Zk,Zk,h y (by simp),ih (λm hm=>h m (by simp[hm]))]
 rw[f _ _ _ e]
 have gl:∀(ys:List WA),(Yu ys.length).filterMap (λm=>ys[m]?)=ys:=by
  intro ys;have:=pick_run ys.toArray 0 ys.length;simp only[List.filterMap_map]at this
  have e3:((λx=>ys.toArray[x]?) ∘ λx=>0+x)=λm=>ys[m]?:=by
   funext m;simp
  rw[e3]at this;rw[this];simp
 have:=gl xs.toList.reverse;rw[Zj,Xi]at this;exact this
theorem sliceApplied_back{t:Tok}{Q:Int×Int×Nat->WH->Prop}(hs:s.1.IsSliceOf sl .none .none (.int (-1) t))
 (h:Q ((n:Int) - 1,-1,n) s):WZ (Xf prog w) A (Z3 (.ref sl) (pure (n:Int))) Q E s:=by
 obtain⟨os,BC,Fd,AF⟩:=id hs;unfold Z3 Builtin.Slice.sliceFields;refine Wu (Wu (XG BC AF (x:=.none) rfl (Wu (XG BC AF (x:=.none) rfl (Wu (XG BC AF (x:=.int (-1) t) rfl (WC ?_)))))));refine Wu (slicePart_int ?_);show WZ _ _ (if((-1:Int) == 0)=C? then _ else _) _ _ s;rw[a! (by decide)];refine Wu (slicePart_none (Wu (slicePart_none (Wu (WC ?_)))));show WZ _ _ (match Zi B? B? (-1) (n:Int)with|(lo,hi)=>pure (lo,(-1:Int),Yi lo hi (-1))) _ _ s;rw[adjust_back n];show WZ _ _ (pure ((n:Int) - 1,(-1:Int),Yi ((n:Int) - 1) (-1) (-1))) _ _ s;rw[places_back];exact WC h
theorem getItem_tuple_back{t:Wx}{tk:Tok}(ht:IsTup s.1 t items)(hs:s.1.IsSliceOf sl .none .none (.int (-1) tk))
 (h:Q (.ref s.1.1.size) {s with heap:=s.1.push {cls:=.type "tuple",data:=.seq items.toList.reverse.toArray}})
 (hsz:items.size<=W5):WZ (Xf prog w) A (getItem (.ref t) (.ref sl)) Q E s:=by
 have z9:sizeOk (.seq items.toList.reverse.toArray):=by
  show items.toList.reverse.toArray.size<=W5;rw[WT,Zj,Xi];exact hsz
 obtain⟨os,BC,Fd,AF⟩:=id hs;have Ie:s.TypeIs (.ref sl) "slice":=⟨os,BC,Fd⟩;unfold getItem
 try with_reducible refine XU ?_
 first|refine Wu (WC ?_)|skip
 refine Wu (wpAny_sequenceKey ht.typeIs (by decide) ?_)
 refine Wu (XM (name:=WE "__getitem__") ht.typeIs XI
  (XQ XI ht.typeIs entry_tuple_getitem ?_ (args_tuple_getitem _ _)))
 show WZ _ _ (Builtin.Tuple.tupleItemsOf (.ref t) >>= _) _ _ s;refine Wu (tupleItemsOf_ ht ?_);refine Wu (wpAny_typeOf Ie ?_);rw[b! (by decide)];refine Wu (sliceApplied_back hs ?_)
 have zJ:¬((((items.size:Nat):Int) - 1 == 0 && (-1:Int) == 1 && items.size == items.size)=C?):=by
  simp
 show WZ _ _ (if(((items.size:Nat):Int) - 1 == 0 && (-1:Int) == 1 && items.size == items.size)=C? then _ else _) _ _ s;rw[a! zJ,pick_back]
 first
  |exact Wu (m:=Yk _) (XC (WC {_,rfl,WC h}) z9)
  |exact Wu (m:=Yk _) (XC (Wu (WC (WC {_,rfl,WC h}))) z9)
  |exact Wu (Wu (m:=Yk _) (XC (WC (WC {_,rfl,WC h})) z9))
  |exact Wu (Wu (m:=Yk _) (XC (WC {_,rfl,WC h}) z9))
end HT
namespace L2
open PySem PySem.Spec PyProof.Rows
section
variable{X:Cx}{e:XD}{te:TE}{p2 p3 p4:ZD}
def BkR(X:Cx)(r:V->Hp->VK->Prop):Prop :=
 ∀(Y:List (Wx×Yw))(s:WH)(σ:St)(H:Hp)(x:V)(v:WA)(t:Tok)(sl:Wx)(Q:VK),Inv X Y σ H s->RelV x v->s.1.IsSliceOf sl .none .none (.int (-1) t)->r x H Q ->
   ∃T id,typeLookup (.type T) "__getitem__"=pure (A? (.builtin id))/\s.TypeIs v T/\WZ (Xf X.prog X.w) X.A (getItem v (.ref sl)) (EP X Y σ Q) X.xe s
def tBk(r:V->Hp->VK->Prop)(te:TE):TE:=λσ H Q=>te σ H λx H1=>r x H1 Q
theorem uV{r:V->Hp->VK->Prop}(hr:BkR X r)(he:PE X e te):PE X (.Subscript e (.Slice B? B? (A? (.UnaryOp .USub (.Constant (.int 1) 0 p3) p4)) p2) pos) (tBk r te):=by
 intro Y s σ H Q I h;refine Subscript_ (thn (he Y s σ H _ I h) λv s1⟨x,H1,I1,r1,q1⟩=>?_);refine wpAny_Slice ?_;rw[evalPart_none];refine WC ?_;refine WC ?_;have KZ:PO X (A? (.UnaryOp .USub (.Constant (.int 1) 0 p3) p4)) (vF (tUn (rU λi=>.int (-i)) (tC (.int 1)))):=aY (oN nk ac);refine thn (KZ Y s1 σ H1 (λo H'=>o=A? (-1)/\r x H' Q) I1 {1,rfl,_,rfl,rfl,q1}) λvs s2⟨o,H2,I2,ps,ho,q2⟩=>?_;subst ho;cases ps with
 | int i t =>
   have I4:Inv X Y σ H2 {s2 with heap:=s2.1.push {cls:=.type "slice",data:=.fields #[.none,.none,.int (-1) t]}}:=I2.kept (t':=s2.toks) λb ob q=>WB _ q;obtain⟨T,id,hT,ht,hg⟩:=hr Y {s2 with heap:=s2.1.push {cls:=.type "slice",data:=.fields #[.none,.none,.int (-1) t]}} σ H2 x v t s2.1.1.size Q I4 r1 (Heap.IsSliceOf.new ..) q2;show WZ (Xf X.prog X.w) X.A (subscriptTail e (.Slice B? B? (A? (.UnaryOp .USub (.Constant (.int 1) 0 p3) p4)) p2) v (.ref s2.1.1.size)) (EP X Y σ Q) X.xe {s2 with heap:=s2.1.push {cls:=.type "slice",data:=.fields #[.none,.none,.int (-1) t]}};exact tail_any (ops:=[v,.ref s2.1.1.size]) ht hT hg (by with_unfolding_all rfl)
def yC(K:WJ):V->Hp->VK->Prop:=λx H Q=>∃a xs,x=.ref a/\SqT K H a xs/\∀p,H p=B?->Q (.ref p) (upd H p (.tup xs.reverse))
theorem Vals.rev(r:Vals xs us):Vals xs.reverse us.reverse:=by
 induction r with
 |nil=>exact .nil
 |cons r1 r2 ih=>rw[X0,X0];exact ih.append (.cons r1 .nil)
theorem xp:BkR X (yC X.K):=by
 intro Y s σ H x v t sl Q I rx hs h;obtain⟨a,xs,rfl,hx,q⟩:=h;cases rx;obtain⟨its,r,ht,hz⟩:=I.tuple hx;have hlen:its.toArray.size=xs.length:=by rw[WT];exact r.length.symm
 refine{"tuple",_,XI.lookup,ht.typeIs,?_};refine HT.getItem_tuple_back ht hs ?_ (by rw[hlen];exact hz);refine{.ref s.1.1.size,_,I.laid (t':=s.toks) (o:=.tup xs.reverse) (λb ob q=>WB _ q) (WD _) ?_,E?,q _ (I.hok.fresh (WD _))};exact{by rw[Zj];exact hz,_,0,r.rev,WO _ rfl}
end
open PySem.Calls
section
variable{X:Cx}
end
section
variable{X:Cx}
def isStr(z:W8):WA->Bool
 |.str y _=>y == z
 |_=>D?
def vc(K:WJ):V->List V->Hp->VK->Prop:=λx vs H Q=>∃(l:Wx)(zs:List W8)(z:W8)(j:Nat),x=.ref l/\vs=[.str z]/\SqL K H l (zs.map B!)/\zs[j]?=A? z/\(∀i,i<j->zs[i]?≠A? z)/\zs.length<=100000/\Q (.int (j:Nat)) H
theorem jC:MtM X "list.index" (vc X.K):=by
 intro Y s σ H x vs v us Q I rx rv h;obtain⟨l,zs,z,j,rfl,rfl,hS,hj,zJ,hz,q⟩:=h;cases rx;obtain⟨u,rfl,t,rfl⟩:=rv.one;obtain⟨its,r,pl,_⟩:=I.list hS;have hlen:=r.length;rw[Wt]at hlen;obtain⟨⟨cls,dd,data,sl⟩,ho,hc,n,hd⟩:=pl.isList;simp only at hc hd;subst hc hd;have Dd:j<zs.length:=(glE hj)
 have get:∀m,m<zs.length->∃y t',its[m]?=A? (.str y t')/\zs[m]?=A? y:=λm hm=>by
  obtain⟨v,hv,rv⟩:=r.get (i:=m) (x:=.str zs[m]) (by rw[Wz,Wv hm];rfl);obtain⟨t',rfl⟩:=rv;exact{_,t',hv,Wv hm}
 refine call_meets PySem.F.slot_list_index {_,ho,rfl} PySem.F.entry_list_index (PySem.F.args_list_index_2 _ _)
  (SeqAt.list_indexAt l its.toArray n dd sl (.str z t) (isStr z) j (by rw[WT];lia) (by lia) ?_ ?_) {ho,λy hy=>?_,{.int (j:Nat),H,I.tok _,{_,rfl},q}}
 .obtain⟨y,t',h1,h2⟩:=get j Dd;rw[hj]at h2;cases h2
  have h3:its.toArray[j]'(by rw[WT];lia)=.str z t':=by
   rw[Wv (by lia)]at h1;simpa using h1
  rw[h3];show(z == z)=C?;simp
 .intro m hm yY;obtain⟨y,t',h1,h2⟩:=get m (by lia)
  have h3:its.toArray[m]'hm=.str y t':=by
   rw[Wv (by lia)]at h1;simpa using h1
  rw[h3];show(y == z)=D?;refine Bool.eq_false_iff.mpr λe=>zJ m yY ?_;rw[h2,beq_iff_eq.mp e]
 .have ED:y∈its:=by simpa using hy
  obtain⟨m,hm,rfl⟩:=List.getElem_of_mem ED;obtain⟨y,t',h1,h2⟩:=get m (by lia);rw[Wv hm]at h1;have h3:=WN h1;rw[h3];exact SeqAt.EqAt.str_str _ _ _ _
end
end L2
namespace BB
open PySem L2
structure GoodN(ks:List (W8×Int)):Prop where
 ne:1<=ks.length
 le:ks.length<=8
 low:∀k∈ks,Low k.1/\k.1.length<=8
 num:∀k∈ks,0<=k.2/\k.2<=3
 zero:∃k∈ks,k.2=0
 nd:∀(i j:Nat)(k l:W8×Int),ks[i]?=A? k->ks[j]?=A? l->k.1=l.1->i=j
mutual
def Th.FitS(ks:List (W8×Int))(S C:Int):Th->Prop
 |.knot n ts=>(n,(ts.length:Int))∈ks/\FitSs ks S C ts
 |.call s k=>0<=s/\s<S/\0<=k/\k<C
def FitSs(ks:List (W8×Int))(S C:Int):List Th->Prop
 | []=>True
 |t::ts=>t.FitS ks S C/\FitSs ks S C ts
end
theorem FitSs.of{ks:List (W8×Int)}{S C:Int}:∀{ts:List Th},(∀t∈ts,t.FitS ks S C)->FitSs ks S C ts
 | [],_=>by rw[FitSs];trivial
 | t::ts,h=>by
   rw[FitSs];exact{h t (WM ..),FitSs.of λu hu=>h u (WR _ hu)}
theorem lV{ts:List Th}(h:∀t∈ts,t.tall<=n):bJ ts<=n:=by
 induction ts with
 |nil=>rw[bJ];exact Xo _
 | cons t ts ih =>
   rw[bJ];have h1:=h t (WM ..);have h2:=ih λu hu=>h u (WR _ hu);lia
def SameB(l:Wx)(H H':Hp):Prop:=∀b o,b≠l->H b=A? o->H' b=A? o
theorem SameB.refl:SameB l H H:=λ_ _ _ e=>e
theorem SameB.trans{A B C:Hp}(h:SameB l A B)(k:SameB l B C):SameB l A C:=λb o hb e=>k b o hb (h b o hb e)
theorem SameB.of(h:k! H H'):SameB l H H':=λb o _ e=>h b o e
theorem SameB.set:SameB l H (upd H l o):=λb o hb e=>by rw[aj hb];exact e
theorem SameB.kt(h:SameB l H H')(e:H l=A? (.lst xs)):KT H H':=λb ys eb=>h b _ (aF eb e (by intro z;cases z)) eb
def RowAt(H:Hp)(row:List Th)(a:Wx):Prop:=∃as:List Wx,H a=A? (.tup (as.map j!))/\Ats H row as
theorem RowAt.mono(k:KT H H')(h:RowAt H row a):RowAt H' row a:=by
 obtain⟨as,h1,h2⟩:=h;exact{as,k _ _ h1,h2.mono k}
structure BookAt(H:Hp)(ins outs:List (W8×Int))(head:Th)(rows:List (List Th))(r ia oa ha ra:Wx)(zi zB zd:List Wx):Prop where
 bk:H r=A? (.tup [.ref ia,.ref oa,.ref ha,.ref ra])
 inE:H ia=A? (.tup (zi.map j!))
 inK:KsAt H ins zi
 outE:H oa=A? (.tup (zB.map j!))
 outK:KsAt H outs zB
 hd:At H head ha
 rl:H ra=A? (.tup (zd.map j!))
 rw:Xb (RowAt H) rows zd
theorem BookAt.mono(k:KT H H'){r ia oa ha ra:Wx}{zi zB zd:List Wx}(b:BookAt H ins outs head rows r ia oa ha ra zi zB zd):BookAt H' ins outs head rows r ia oa ha ra zi zB zd :=
 {k _ _ b.bk,k _ _ b.inE,b.inK.mono k,k _ _ b.outE,b.outK.mono k,b.hd.mono k,k _ _ b.rl,r! (λ_ _ e=>e.mono k) b.rw}
theorem dH{ks:List (W8×Int)}:∀{ts:List Th},Fits ks ts->∀t∈ts,t.Fit ks
 | [],_,t,ht=>by cases ht
 | a::ts,h,t,ht=>by
   rw[Fits]at h;rcases WW.mp ht with rfl|ht
   .exact h.1
   .exact dH h.2 t ht
def Bk(H:Hp)(ins outs:List (W8×Int))(head:Th)(rows:List (List Th))(r:Wx):Prop:=∃ia oa ha ra zi zB zd,BookAt H ins outs head rows r ia oa ha ra zi zB zd
theorem Bk.mono(k:KT H H'){r:Wx}(b:Bk H ins outs head rows r):Bk H' ins outs head rows r:=by
 obtain⟨ia,oa,ha,ra,zi,zB,zd,b⟩:=b;exact{ia,oa,ha,ra,zi,zB,zd,b.mono k}
end BB
open BB.SameB renaming set->z!,of->A!,refl->M!
open BB.Th renaming FitS->I!
namespace L2
open PySem PySem.Spec PySem.Calls PyProof.Rows PySem.SeqAt
end L2
namespace BB
open PySem L2
end BB
namespace L2
open PySem PySem.Spec PyProof.Rows
section
variable{X:Cx}{e:XD}{te:TE}{p p2 zq:ZD}
end
end L2
namespace BB
open PySem L2
theorem eK{F:Hp->α->Wx->Prop}{g:TG}{te:TE}(zs:List α)(hF:∀H1 H2 z p,KT H1 H2->F H1 z p->F H2 z p)(hz:zs.length=xs.length)(hn:xs.length<=1000000)
 (FY:∀i H2,k! H H2->i<xs.length->J.go i H2) (Az:∀H2,k! H H2->J.stop xs.length H2) (B8:∀(i:Nat)H2 x H3,k! H H2->i<xs.length->J.yld i H2 x H3->H3=H2/\xs[i]?=A? x)
 (hb:∀(i:Nat)x z H2(R:VK)(W':Hp->Prop),xs[i]?=A? x->zs[i]?=A? z->k! H H2->(∀H3 p,k! H2 H3->F H3 z p->R (.ref p) H3)->g x (cσ js σ) H2 λze H3=>tt ze H3 λb H4=>if b=C? then te ze H4 R else W' H4)
 (zS:∀D H' as,H D=B?->k! H H'->H' D=A? (.lst (as.map j!))->Xb (F H') zs as->fin D H') :
 ∀D,H D=B?->∃(n:Nat)(W:Nat->Hp->Prop),W 0 (upd H D (.lst []))/\gf js g tt te σ J D n W λH'=>fin D H':=by
 intro D hD;refine{xs.length,λi H'=>i<=xs.length/\k! H H'/\∃as:List Wx,H' D=A? (.lst (as.map j!))/\Xb (F H') (zs.take i) as,{Xo _,ao hD _,[],by rw[af];rfl,.nil},?_};rintro i H' ⟨hi,s1,as,e1,hp⟩;by_cases yY:i<xs.length
 .refine .inr {yY,FY i H' s1 yY,λv H1 hy=>?_};obtain⟨e,hx⟩:=B8 i H' v H1 s1 yY hy;subst e;obtain⟨z,Dc⟩:∃z,zs[i]?=A? z:={_,Wv (by lia)};have hl:(zs.take i).length=as.length:=WS hp;rw[Xy]at hl;refine hb i v z _ _ _ hx Dc s1 λH3 p s3 MB=>{_,s3 _ _ e1,?_,yY,aM (s1.trans s3) hD,as++[p],?_,?_}
  .rw[Wt];have:W5=16777216:=ZX;lia
  .rw[af,W3];rfl
  .have kt:KT H3 (upd H3 D (.lst (as.map j!++[.ref p]))):=cK (s3 _ _ e1);rw[take_snoc Dc];exact v! (r! (λx y e=>hF _ _ _ _ ((n! s3).trans kt) e) hp) (.cons (hF _ _ _ _ kt MB) .nil)
 .have BG:i=xs.length:=by lia
  subst BG;refine .inl {Az _ s1,zS D H' as hD s1 e1 ?_};rw[XF (by lia)]at hp;exact hp
theorem iV{F:Hp->α->Wx->Prop}{g:TG}{te:TE}(zs:List α)(hF:∀H1 H2 z p,KT H1 H2->(∀o,H1 p=A? o->H2 p=A? o)->F H1 z p->F H2 z p)(hz:zs.length=xs.length)(hn:xs.length<=1000000)
 (FY:∀i H2,k! H H2->i<xs.length->J.go i H2) (Az:∀H2,k! H H2->J.stop xs.length H2) (B8:∀(i:Nat)H2 x H3,k! H H2->i<xs.length->J.yld i H2 x H3->H3=H2/\xs[i]?=A? x)
 (hb:∀(i:Nat)x z H2(R:VK)(W':Hp->Prop),xs[i]?=A? x->zs[i]?=A? z->k! H H2->(∀H3 p,k! H2 H3->H2 p=B?->F H3 z p->R (.ref p) H3)->g x (cσ js σ) H2 λze H3=>tt ze H3 λb H4=>if b=C? then te ze H4 R else W' H4)
 (zS:∀D H' as,H D=B?->k! H H'->H' D=A? (.lst (as.map j!))->Xb (F H') zs as->fin D H') :
 ∀D,H D=B?->∃(n:Nat)(W:Nat->Hp->Prop),W 0 (upd H D (.lst []))/\gf js g tt te σ J D n W λH'=>fin D H':=by
 intro D hD;refine{xs.length,λi H'=>i<=xs.length/\k! H H'/\∃as:List Wx,H' D=A? (.lst (as.map j!))/\Xb (λz a=>F H' z a/\a≠D) (zs.take i) as,{Xo _,ao hD _,[],by rw[af];rfl,.nil},?_};rintro i H' ⟨hi,s1,as,e1,hp⟩;by_cases yY:i<xs.length
 .refine .inr {yY,FY i H' s1 yY,λv H1 hy=>?_};obtain⟨e,hx⟩:=B8 i H' v H1 s1 yY hy;subst e;obtain⟨z,Dc⟩:∃z,zs[i]?=A? z:={_,Wv (by lia)};have hl:(zs.take i).length=as.length:=WS hp;rw[Xy]at hl;refine hb i v z _ _ _ hx Dc s1 λH3 p s3 np MB=>{_,s3 _ _ e1,?_,yY,aM (s1.trans s3) hD,as++[p],?_,?_}
  .rw[Wt];have:W5=16777216:=ZX;lia
  .rw[af,W3];rfl
  .have kt:KT H3 (upd H3 D (.lst (as.map j!++[.ref p]))):=cK (s3 _ _ e1);have CB:p≠D:=λz=>by rw[z,e1]at np;cases np
   rw[take_snoc Dc];exact v! (r! (λx y e=>{hF _ _ _ _ ((n! s3).trans kt) (λo ho=>by rw[aj e.2];exact s3 _ _ ho) e.1,e.2}) hp) (.cons {hF _ _ _ _ kt (λo ho=>by rw[aj CB];exact ho) MB,CB} .nil)
 .have BG:i=xs.length:=by lia
  subst BG;refine .inl {Az _ s1,zS D H' as hD s1 e1 ?_};rw[XF (by lia)]at hp;exact r! (λ_ _ e=>e.1) hp
end BB
namespace L2
open PySem PySem.Spec PyProof.Rows
theorem us1:∀{us:List α},us.length=1->∃a,us=[a]
 | [a],_=>⟨a,rfl⟩
theorem us2:∀{us:List α},us.length=2->∃a b,us=[a,b]
 | [a,b],_=>⟨a,b,rfl⟩
theorem us3:∀{us:List α},us.length=3->∃a b c,us=[a,b,c]
 | [a,b,c],_=>⟨a,b,c,rfl⟩
theorem us4:∀{us:List α},us.length=4->∃a b c d,us=[a,b,c,d]
 | [a,b,c,d],_=>⟨a,b,c,d,rfl⟩
theorem us5:∀{us:List α},us.length=5->∃a b c d e,us=[a,b,c,d,e]
 | [a,b,c,d,e],_=>⟨a,b,c,d,e,rfl⟩
end L2
namespace PySem
open Sem (wp)
section
variable{K:Type}[DecidableEq K]{knd:HeapKind prog w K}
end
end PySem
namespace L2
open PySem PySem.Spec PyProof.Rows BB
end L2
namespace BB
open PySem L2
end BB
namespace PySem
open Sem (wp)
section
variable{I:Wx}{wr:List Wx}{G:Array GenState->Array GenState->Prop}{P:Nat->WA->Prop}{St:Nat->WH->Prop}
end
end PySem
namespace L2
open PySem PySem.Spec PyProof.Rows
section
variable{X:Cx}{o e:XD}{to te:TE}{p2 zq apos zf:ZD}
end
end L2
namespace PySem
open Sem (wp)
namespace F
end F
section
variable{xs:Array WA}{k:Nat}
end
end PySem
namespace L2
open PySem PySem.Spec PyProof.Rows
section
variable{X:Cx}
end
end L2
namespace BB
open PySem L2
end BB
namespace PySem
end PySem
namespace L2
open PySem PySem.Spec PyProof.Rows
section
variable{X:Cx}{e1 e2:XD}{t:TA}{p2 zq:ZD}
end
end L2
namespace BB
open PySem L2
noncomputable section
local instance:DecidableEq Th:=λ_ _=>Classical.propDecidable _
mutual
def post:Th->List Th->List Th
 |.knot n ks,L=>if p! n ks∈aQ ks L then aQ ks L else aQ ks L++[.knot n ks]
 |.call s k,L=>if t! s k∈L then L else L++[.call s k]
def aQ:List Th->List Th->List Th
 | [],L=>L
 |t::ts,L=>aQ ts (post t L)
end
theorem post_eq(t:Th)(L:List Th):post t L=if t∈aQ t.kids L then aQ t.kids L else aQ t.kids L++[t]:=by
 cases t with
 |knot n ks=>rw[post];rfl
 |call s k=>rw[post,Th.kids,aQ]
theorem dX:∀(a b:List Th)(L:List Th),aQ (a++b) L=aQ b (aQ a L)
 | [],b,L=>by rw[List.nil_append,aQ]
 |t::a,b,L=>by rw[List.cons_append,aQ,aQ,dX a b]
def b9(L:List Th):Prop:=∀t∈L,∀u∈t.kids,u∈L
theorem tG{t u:Th}(h:u∈t.kids):u.size<t.size:=by
 rw[t.size_eq]
 have:∀ts:List Th,u∈ts->u.size<=au ts:=by
  intro ts;induction ts with
  |nil=>intro h;cases h
  | cons x ts ih =>
    intro h;rw[au];rcases WW.mp h with rfl|h
    .lia
    .have:=ih h;lia
 have:=this _ h;lia
theorem tS:∀(n:Nat),(∀(t:Th)(L:List Th),t.size<=n->b9 L->L.Nodup->(∃M,post t L=L++M/\∀u∈M,u.size<=t.size)/\b9 (post t L)/\(post t L).Nodup/\t∈post t L) /\
 (∀(ts:List Th)(L:List Th),au ts<=n->b9 L->L.Nodup->(∃M,aQ ts L=L++M/\∀u∈M,u.size<=au ts)/\b9 (aQ ts L)/\(aQ ts L).Nodup/\∀t∈ts,t∈aQ ts L):=by
 intro n;induction n with
 | zero =>
   refine{λt L h=>?_,λts L h hc hn=>?_}
   .have:=t.size_eq;lia
   .cases ts with
    |nil=>rw[aQ];exact{{[],by simp,λu hu=>by cases hu},hc,hn,λt ht=>by cases ht}
    | cons t ts =>
      rw[au]at h;have:=t.size_eq;lia
 | succ n ih =>
   have hT:∀(t:Th)(L:List Th),t.size<=n+1->b9 L->L.Nodup->(∃M,post t L=L++M/\∀u∈M,u.size<=t.size)/\b9 (post t L)/\(post t L).Nodup/\t∈post t L:=by
    intro t L h hc hn;have hs:=t.size_eq;obtain⟨⟨M,hM,K0⟩,h2,h3,h4⟩:=ih.2 t.kids L (by lia) hc hn;rw[post_eq];by_cases hm:t∈aQ t.kids L
    .rw[b! hm];exact{{M,hM,λu hu=>by have:=K0 u hu;lia},h2,h3,hm}
    .rw[a! hm];refine{{M++[t],by rw[hM,Zf],λu hu=>?_},λx hx u hu=>?_,?_,Xc _ (WM ..)}
     .rcases WQ.mp hu with hu|hu
      .have:=K0 u hu;lia
      .rw[WG.mp hu];exact WD _
     .rcases WQ.mp hx with hx|hx
      .exact WX _ (h2 x hx u hu)
      .rw[WG.mp hx]at hu;exact WX _ (h4 u hu)
     .rw[Yc];refine{h3,by simp,λa ha b hb=>?_};rw[WG.mp hb];exactλz=>hm (z ▸ ha)
   refine{hT,λts=>?_};induction ts with
   |nil=>intro L _ hc hn;rw[aQ];exact{{[],by simp,λu hu=>by cases hu},hc,hn,λt ht=>by cases ht}
   | cons t ts IH =>
     intro L h hc hn;rw[au]at h;obtain⟨⟨M,hM,K0⟩,h2,h3,h4⟩:=hT t L (by lia) hc hn;obtain⟨⟨N,hN,R5⟩,g2,g3,g4⟩:=IH (post t L) (by lia) h2 h3;rw[aQ];refine{{M++N,by rw[hN,hM,Zf],λu hu=>?_},g2,g3,λx hx=>?_}
     .rw[au];rcases WQ.mp hu with hu|hu
      .have:=K0 u hu;lia
      .have:=R5 u hu;lia
     .rcases WW.mp hx with rfl|hx
      .rw[hN];exact WX _ h4
      .exact g4 x hx
theorem gX(t:Th)(hc:b9 L)(hn:L.Nodup):(∃M,post t L=L++M/\∀u∈M,u.size<=t.size)/\b9 (post t L)/\(post t L).Nodup/\t∈post t L:=(tS t.size).1 t L (WD _) hc hn
theorem jM:∀(n:Nat),(∀(t:Th)(L:List Th),t.size<=n->b9 L->t∈L->post t L=L)/\(∀(ts:List Th)(L:List Th),au ts<=n->b9 L->(∀t∈ts,t∈L)->aQ ts L=L):=by
 intro n;induction n with
 | zero =>
   refine{λt L h=>?_,λts L h hc hm=>?_}
   .have:=t.size_eq;lia
   .cases ts with
    |nil=>rw[aQ]
    | cons t ts =>
      rw[au]at h;have:=t.size_eq;lia
 | succ n ih =>
   have hT:∀(t:Th)(L:List Th),t.size<=n+1->b9 L->t∈L->post t L=L:=by
    intro t L h hc hm;have hs:=t.size_eq;rw[post_eq,ih.2 t.kids L (by lia) hc (hc t hm),b! hm]
   refine{hT,λts=>?_};induction ts with
   |nil=>intro L _ _ _;rw[aQ]
   | cons t ts IH =>
     intro L h hc hm;rw[au]at h;rw[aQ,hT t L (by lia) hc (hm t (WM ..))];exact IH L (by lia) hc λx hx=>hm x (WR _ hx)
theorem uL{t:Th}(hc:b9 L)(h:t∈L):post t L=L:=(jM t.size).1 t L (WD _) hc h
theorem kq{ts:List Th}(hc:b9 L)(h:∀t∈ts,t∈L):aQ ts L=L:=(jM (au ts)).2 ts L (WD _) hc h
theorem uh{t c:Th}{pre rest:List Th}(hc:b9 L)(hn:L.Nodup)(hk:t.kids=pre++c::rest)(hp:∀u∈pre,u∈L):post t L=post t (post c L):=by
 obtain⟨⟨M,hM,_⟩,h2,h3,h4⟩:=gX c hc hn;have e1:aQ t.kids L=aQ rest (post c L):=by rw[hk,dX,kq hc hp,aQ]
 have e2:aQ t.kids (post c L)=aQ rest (post c L):=by
  rw[hk,dX,kq h2 (λu hu=>by rw[hM];exact WX _ (hp u hu)),aQ,uL h2 h4]
 rw[post_eq,post_eq t (post c L),e1,e2]
theorem rD{t:Th}(hc:b9 L)(hk:∀u∈t.kids,u∈L)(h:t∉L):post t L=L++[t]:=by
 rw[post_eq,kq hc hk,a! h]
def finish:List Th->List Th->List Th
 | [],L=>L
 |t::ts,L=>finish ts (post t L)
end
end BB
namespace PySem
open Sem (wp)
section
variable{K:Type}[DecidableEq K]{knd:HeapKind prog w K}
theorem bb_setDefault_heap{xs:List (K×Wx×WA)}{k:K}{v:WA}(hu:knd.room A)(Bm:knd.is s.1 k a)(hm:s.1.DictOfH knd d xs)
 (F7:∀p,atKey xs k=A? p->Q p.2 {s with toks:=s.toks+knd.draws k})
 (FU:atKey xs k=B?->∀h',h'.DictOfH knd d (storedH xs k a v)->X3 d s.1 h'->Q v {s with heap:=h',toks:=s.toks+knd.draws k})
 (hsz:xs.length<=W5):WZ (Xf prog w) A (dictSetDefault d (.ref a) v) Q E s:=by
 obtain⟨o,es,ep,ho,hc,hd,he,K1,hn⟩:=hm;unfold dictSetDefault
 try with_reducible refine XU ?_
 refine Wu (knd.pyHash hu Bm ?_);refine Wu (wpAny_dictFind_heap (s:={s with toks:=s.toks+knd.draws k}) hu Bm ho hd he K1 hn ?_ ?_)
 .intro zJ;have MC:k∉xs.map (·.1):=not_mem_keys_of_get zJ
  refine Wu (wpAny_rule (Wu (wpAny_updateDictKeys (hz:=by have e:=size_of_entries he;lia) (s:={s with toks:=s.toks+knd.draws k}) ho hd (WC (FU (atKey_none_of_get zJ) _ {_,_,ep+1,XW _ ho (Obj.isFreed_of_dict (Obj.data_mapDictKeys hd _)),
   hc.mapDictKeys _,Obj.data_mapDictKeys hd _,?_,?_,?_} (Yd ..))))))
  .rw[storedH_new (atKey_none_of_get zJ)];simp[he,entryOfKey]
  .rw[storedH_new (atKey_none_of_get zJ)];intro x hx;rcases WQ.mp hx with hx|hx
   .exact knd.keeps (K1 x hx) ho hd (Yd ..)
   .simp only[WG]at hx;subst hx;exact knd.keeps Bm ho hd (Yd ..)
  .rw[storedH_new (atKey_none_of_get zJ)];rw[W3,Yc];refine{hn,by simp,?_};intro x hx y hy;simp only[W9,YL,WG]at hy;subst hy;exactλe=>MC (e ▸ hx)
 .intro j p hj;have h1:=F7 _ (atKey_of_get hn hj);refine Wu (YZ (s:={s with toks:=s.toks+knd.draws k}) ho hd ?_);rw[entry_at he j,hj];exact Wu (wpAny_rule (WC h1))
theorem bb_meets_setdefault(knd:HeapKind prog w K)(d a:Wx)(dflt:WA)(hd:(d == Yo)=D?) :
 MeetsIn prog w (Zx.«dict.setdefault» {[.ref d,.ref a,dflt],[]}) (λA R s=>knd.room A.in1/\∃k xs,knd.is s.1 k a/\s.1.DictOfH knd d xs/\xs.length<=W5 /\
  (∀p,atKey xs k=A? p->R (.ok (.ret p.2)) {s with toks:=s.toks+knd.draws k}) /\
  (atKey xs k=B?->∀h',h'.DictOfH knd d (storedH xs k a dflt)->X3 d s.1 h'->R (.ok (.ret dflt)) {s with heap:=h',toks:=s.toks+knd.draws k})) :=
 .of_wp λA R s⟨hu,k,xs,Bm,hm,hz,h1,h2⟩=>by
  unfold Zx.«dict.setdefault»;refine Wu ?_;unfold Builtin.Dict.keyAndDefault;have hT:s.TypeIs (.ref d) "dict":=hm.typeIs;refine Wu (wpAny_notOrdered_dict hT ?_);show WZ _ _ (pure (d,Xs a,A? dflt)) _ _ s;refine WC ?_;show WZ _ _ (if(d == Yo)=C? then _ else(dictSetDefault d (.ref a) dflt >>= _)) _ _ s;rw[a! (by rw[hd];exact W2)];exact Wu (bb_setDefault_heap hu Bm hm (λp hp=>WC {_,rfl,h1 p hp}) (λhn h' MA Bg=>WC {_,rfl,h2 hn h' MA Bg}) hz)
end
end PySem
namespace L2
open PySem PySem.Spec PyProof.Rows
def vk:V->List V->Hp->VK->Prop:=λx vs H Q=>∃(a b:Wx)(v:V)(k:List Key)(kvs:List (List Key×V)),x=.ref a/\vs=[.ref b,v]/\H a=A? (.dT kvs)/\H b=A? (.tup (k.map kV))/\kvs.length<W5 /\
 (∀u,bC kvs k=A? u->Q u H)/\(bC kvs k=B?->Q v (upd H a (.dT (putK kvs k v))))
theorem io{X:Cx}(hu:X.A.units+1<ZY):MtM X "dict.setdefault" vk:=by
 intro Y s σ H x vs v us Q I rx rv h;obtain⟨a,b,y,k,kvs,rfl,rfl,e,eb,l,q1,q2⟩:=h;cases rx;cases rv with
 |cons r1 rv =>
 cases rv with
 |cons r2 rv =>
 cases rv;cases r1;obtain⟨z,hd,xs,rel,dd⟩:=qC I.hok e;have hz:xs.length<=W5:=by rw[<-WS rel];exact z
 have hl:(putK kvs k y).length<=W5:=by have:=eQ kvs k y;lia
 have hT:s.TypeIs (.ref a) "dict":=dd.typeIs;refine call_meetsIn PySem.F.slot_dict_setdefault hT PySem.F.entry_dict_setdefault (PySem.F.args_dict_setdefault_3 _ _ _) (bb_meets_setdefault (tupleKind (bD X.prog X.w)) a b _ hd) {tupleKind_room_in1 hu,k,xs,jp I.hok eb,dd,hz,λp hp=>?_,λhn h' EI hs=>?_}
 .have hr:=rel.val k;rw[hp]at hr;cases hv:bC kvs k with
  |none=>rw[hv]at hr;exact hr.elim
  | some u =>
    rw[hv]at hr;exact{u,H,I.tok _,hr,q1 u hv}
 .have hr:=rel.val k;rw[hn]at hr;cases hv:bC kvs k with
  |some u=>rw[hv]at hr;exact hr.elim
  | none =>
    refine{y,_,?_,r2,q2 hv};obtain⟨q,es,ep,hq,h2,h3,h4,_,h5⟩:=EI;refine kb I (by rw[e];exact True.intro) hs ⟨q,hq⟩ {hl,hd,_,(rel.put k eb r2).keeps λc ys ec=>?_,q,es,ep,hq,h2,h3,h4,h5};rw[aj (aF ec e (λz=>nomatch z))];exact ec
end L2
namespace PySem
open Sem (wp)
section
variable{R:Result->WH->Prop}
theorem bb_key_loop{S:Wx}{es:Array DictEntry}{od:Yw}(hh:A.in1.handled=B?)(hz:es.size<=W5)(F8:S≠it)(II:S≠d)(R6:d≠it)(g2:od.data=.dict es ep)(res:WA) :
 ∀(k i:Nat)(s:WH)(acc:Array WA)(c:Nat),es.size - i=k->i<=es.size->s.1.IsKeyIter it d i es.size ep->s.1.get? d=A? od->s.1.get? S=A? {cls:=.type "list",dict:=B?,data:=.seq acc c,slots:=#[]}->acc.toList=(es.toList.take i).map (·.key) ->
 (∀h' Ai c',(∀b o,b≠S->b≠it->s.1.get? b=A? o->h'.get? b=A? o)->h'.get? S=A? {cls:=.type "list",dict:=B?,data:=.seq Ai c',slots:=#[]}->Ai.toList=es.toList.map (·.key)->R (.ok (.ret res)) {s with heap:=h'}) ->
 ZV (Xf prog w) A (.builtin "list.extend.loop" {[.ref S,.ref it,res],[]}) R s:=by
 intro k;induction k with
 | zero =>
   intro i s acc c hk hi hit hd hS zr hR;have zU:i=es.size:=by lia
   subst zU;refine ZO F.entry_extend_loop ?_;rw[YY Yy _];show WZ _ A.in1 (Zz (.ref it) >>= _) _ _ s;refine Wu (bb_keyEnd hh hit hd g2 (WD _) λh' zm=>WC ?_);refine hR h' acc c (λb o _ hb e=>zm b o hb e) (zm _ _ F8 hS) ?_;rw[zr,XF (by rw[Xi];lia)]
 | succ k ih =>
   intro i s acc c hk hi hit hd hS zr hR;have yY:i<es.size:=by lia
   refine ZO F.entry_extend_loop ?_;rw[YY Yy _];show WZ _ A.in1 (Zz (.ref it) >>= _) _ _ s;have hx:es[i]?=A? es[i]:=Y7 yY
   have Aj:acc.size=i:=by
    have:=h! X9 zr;rw[Xi,Wt,Xy,Xi]at this;lia
   refine Wu (bb_keyNext hit hd g2 hx λh' MD zm=>?_);have Eg:=(zm.2 S F8).trans hS;have HR:=(zm.2 d R6).trans hd;show WZ _ A.in1 (updateSeq S (·.push es[i].key) >>= _) _ _ _;refine Wu ?_;have CA:∀b o,b≠S->h'.get? b=A? o->(h'.update S (XX (·.push es[i].key))).get? b=A? o:=λb o hb e=>(X7 _ _ (YB hb)).trans e
   refine Yr Eg rfl (WC {Zq Yy _,ih (i+1) _ (acc.push es[i].key) _ (by lia) yY (MD.at λo e=>CA _ _ (YB F8) e) (CA _ _ (YB II) HR) (XW _ Eg rfl) ?_ λG2 Ai c' F2 F3 DE=>?_})
    (by rw[Aj];lia) (by show(acc.push _).size<=W5+1;rw[Array.size_push,Aj];lia)
   .rw[Array.toList_push,zr,YG,Wv (by rw[Xi];exact yY),W3];simp
   .exact hR G2 Ai c' (λb o hb hb2 e=>F2 b o hb hb2 (CA b o hb ((zm.2 b hb2).trans e))) F3 DE
end
theorem bb_list_keys{es:Array DictEntry}{od:Yw}(hh:A.in1.in1.handled=B?)(ns:(d == Yo)=D?)(hd:s.1.get? d=A? od)(gc:od.cls=.type "dict")(g2:od.data=.dict es ep)(hz:es.size<=W5)
 (hQ:∀h' acc c,(∀b o,s.1.get? b=A? o->h'.get? b=A? o)->h'.get? s.1.1.size=A? {cls:=.type "list",dict:=B?,data:=.seq acc c,slots:=#[]}->acc.toList=es.toList.map (·.key)->Q (.ref s.1.1.size) {s with heap:=h'}) :
 WZ (Xf prog w) A (call (.type "list") [.ref d]) Q E s:=by
 have De:=W6 hd;have II:s.1.1.size≠d:=Zv De
 refine callType_codes (Q₁:=λobj l'=>obj=.ref s.1.1.size/\l'={s with heap:=s.1.push {cls:=.type "list",data:=.seq #[]}}) F.called_list (F.typeCall_list_1 _) F.entry_list_init
  (code_list_new _ ⟨rfl,rfl⟩) λobj l' zc=>?_
 obtain⟨rfl,rfl⟩:=zc;have hS:(s.1.push {cls:=.type "list",data:=.seq #[]}).get? s.1.1.size=A? {cls:=.type "list",data:=.seq #[]}:=WO _ rfl;refine{{_,hS,E?},F.args_list_init_2 _ _,?_};show WZ _ A.in1.in1 (do let old <-Builtin.List.listItems (.ref s.1.1.size);Builtin.List.listUpdate (.ref s.1.1.size) (λ_=>#[]);letGo old.toList.reverse;ZW (.ref s.1.1.size) (.ref d) .none) _ _ _;refine Wu ?_;unfold Builtin.List.listItems;refine Wu (Ye hS rfl (WC ?_));refine Wu (Yr hS rfl ?_);have BI:=XW (XX (λ_=>(#[]:Array WA))) hS rfl;refine Wu (Zl ?_);have CV:((s.1.push {cls:=.type "list",data:=.seq #[]}).update s.1.1.size (XX (λ_=>(#[]:Array WA)))).objs.size=s.1.1.size+1:=by rw[Heap.size_update,XZ]
 generalize hH:(s.1.push {cls:=.type "list",data:=.seq #[]}).update s.1.1.size (XX (λ_=>(#[]:Array WA)))=H2 at BI CV |-
 have old:∀b o,s.1.get? b=A? o->H2.get? b=A? o:=λb o e=>by
  rw[<-hH,X7 _ _ (YB (Xn (W6 e)))];exact WB _ e
 obtain⟨c2,Fm⟩:∃c,H2.get? s.1.1.size=A? {cls:=.type "list",data:=.seq #[] c}:={_,BI};have hd2:=old _ _ hd;have IC:({s with heap:=H2}:WH).TypeIs (.ref d) "dict":={_,hd2,gc};unfold ZW;refine Wu (wpAny_typeOf IC ?_);have h1:Builtin.List.listSameRef (.ref s.1.1.size) (.ref d)=false:=by simp[Builtin.List.listSameRef,II]
 have h2:(ZM "dict" == ZM "list")=false:=by decide
 have h3:(ZM "dict" == ZM "tuple")=false:=by decide
 simp only[h1,h2,h3,Bool.or_false,Y5,if_false];refine Wu (bb_keyIter (s:={s with heap:=H2}) ns hd2 gc g2 ?_);refine Wu (XU ?_);have F9:(H2.push {cls:=.type "dict_keyiterator",data:=.fields #[.ref d,.int 0 0,.int es.size 0,.int ep 0]}).IsKeyIter H2.objs.size d 0 es.size ep:={_,WO _ rfl,rfl,rfl};have K2:∀b o,H2.get? b=A? o->(H2.push {cls:=.type "dict_keyiterator",data:=.fields #[.ref d,.int 0 0,.int es.size 0,.int ep 0]}).get? b=A? o:=λb o e=>WB _ e;have IJ:s.1.1.size≠H2.objs.size:=by rw[CV];lia
 have ME:d≠H2.objs.size:=by rw[CV];exact Xn (Nat.lt_succ_of_lt De)
 show WZ _ _ _ _ _ ({s with heap:=H2.push {cls:=.type "dict_keyiterator",data:=.fields #[.ref d,.int 0 0,.int es.size 0,.int ep 0]}}:WH);generalize H2.push {cls:=.type "dict_keyiterator",data:=.fields #[.ref d,.int 0 0,.int es.size 0,.int ep 0]}=H3 at F9 K2 |-;have Py:=K2 _ _ hd2;have IK:=K2 _ _ Fm;have MF:({s with heap:=H3}:WH).TypeIs (.ref d) "dict":={_,Py,gc}
 have key:∀(h:XT)(c₁:Nat),h.IsKeyIter H2.objs.size d 0 es.size ep->(∀b o,b≠s.1.1.size->H3.get? b=A? o->h.get? b=A? o)->h.get? s.1.1.size=A? {cls:=.type "list",data:=.seq #[] c₁} ->
  ZV (Xf prog w) A.in1 (.builtin "list.extend.loop" {[.ref s.1.1.size,.ref H2.objs.size,.none],[]}) (wants (λr zR=>r=.none/\Q (.ref s.1.1.size) zR) E) {s with heap:=h}:=by
  intro h c₁ hit hk DF;refine bb_key_loop hh hz IJ II ME g2 .none es.size 0 _ #[] c₁ rfl (Xo _) hit (hk _ _ (YB II) Py) DF rfl λh' Ai c' hm Eg zr=>?_;refine{E?,hQ h' Ai c' (λb o e=>?_) Eg zr};have hb:=Xn (W6 e);exact hm b o hb (by rw[CV];exact Xn (Nat.lt_succ_of_lt (W6 e))) (hk b o hb (K2 b o (old b o e)))
 unfold Builtin.List.listLengthHint;refine Wu (wpAny_specialOf MF F.slot_dict_len.lookup ?_);generalize hid:("dict.__len__":String)=R7
 wp_delta
 rw[show splitId R7=A? ("dict","__len__")from by subst hid;decide +kernel];subst hid;refine Wu (wpAny_isInstance (T:="dict") (b:=C?) MF (by rw[isSubtype_type];kernel_rfl) ?_);refine wpAny_ite_split (λG5=>g! G5 (by decide)) (λ_=>?_);refine wpAny_ite_split (λ_=>?_) (λG5=>g! (by decide +kernel) G5);refine Wu (wpAny_typeOf MF ?_);refine WC ?_;refine wpAny_ite_split (λ_=>?_) (λ_=>WC {Zq Yy _,key _ c2 F9 (λb o _ e=>e) IK});refine Wu (wpAny_rule ?_);refine Wu ?_;show WZ _ _ (updateSeq s.1.1.size (·.push .none) >>= λ_=>updateSeq s.1.1.size (·.pop)) _ _ _;refine Wu (Yr IK rfl ?_);have BJ:=XW (XX (·.push Yb)) IK rfl;refine Yr (hz:=by seq_fits) BJ rfl ?_;have DG:=XW (XX (·.pop)) BJ rfl
 have CA:∀b o,b≠s.1.1.size->H3.get? b=A? o->((H3.update s.1.1.size (XX (·.push Yb))).update s.1.1.size (XX (·.pop))).get? b=A? o :=
  λb o hb e=>(X7 _ _ (YB hb)).trans ((X7 _ _ (YB hb)).trans e)
 exact WC {Zq Yy _,key _ _ (F9.at λo e=>CA _ _ (YB IJ) e) CA DG}
end PySem
namespace L2
open PySem PySem.Spec PyProof.Rows
def xw:List V->Hp->VK->Prop:=λxs H Q=>∃(a:Wx)(kvs:List (List Key×V)),xs=[.ref a]/\H a=A? (.dT kvs)/\∀(l:Wx)(bs:List Wx),H l=B?->Xb (λkv b=>H b=A? (.tup (kv.1.map kV))) kvs bs->Q (.ref l) (upd H l (.lst (bs.map j!)))
theorem tY{ys:List (List Key×Wx×WA)}(rel:KTd H kvs ys):Xb (λkv b=>H b=A? (.tup (kv.1.map kV))) kvs (ys.map λy=>y.2.1):=by
 induction rel with
 |nil=>exact .nil
 |cons h t ih=>exact .cons h.2.1 ih
theorem lD{X:Cx}(hc:X.calm=C?):iR X (.type "list") xw:=by
 intro Y s σ H xs us Q I r h;obtain⟨a,kvs,rfl,e,q⟩:=h;obtain⟨u,rfl,rx⟩:=vals1 r;cases rx;obtain⟨z,hd,ys,rel,dd⟩:=qC I.hok e;have hT:=dd.typeIs;obtain⟨o,es,ep,ho,VO,Fn,he,K1,hn⟩:=dd;obtain⟨o',Bt,zb⟩:=hT;have eo:o'=o:=WN (Bt.symm.trans ho);subst eo;have hl:kvs.length=ys.length:=WS rel
 have BX:es.toList.map (·.key)=ys.map λy=>Xs y.2.1:=by
  rw[he,Xg];rfl
 have hsz:es.size<=W5:=by
  have:=h! X9 BX;rw[Wt,Wt,Xi]at this;lia
 have hh:X.A.in1.in1.handled=none:=I.ok.hd hc;refine bb_list_keys hh hd Bt zb Fn hsz λh' acc c hk hS zr=>?_;have hp:Xb (λkv b=>H b=A? (.tup (kv.1.map kV))) kvs (ys.map λy=>y.2.1):=tY rel;refine{.ref s.1.1.size,upd H s.1.1.size (.lst ((ys.map λy=>y.2.1).map j!)),?_,E?,q _ _ I.fresh hp};refine I.laid (t':=s.toks) hk (WD _) {by rw[Wt,Wt];lia,acc.toList,c,?_,hS};rw[zr,BX];clear hn K1 he BX zr hS hl z rel hp q;induction ys with
 |nil=>exact .nil
 |cons y ys ih=>exact .cons rfl ih
open BB
theorem yl{es:List Dv}{ws:List V}(r1:Vals ws its)(Ca:DAts H es ws)(j:Nat)(z:WA)(hz:its[j]?=A? z):∃e y',es[j]?=A? e/\DAt H e y'/\RelV y' z:=by
 have hj:j<its.length:=(glE hz);have l1:=r1.length;have l2:=Ca.length;have Ei:j<es.length:=by lia
 obtain⟨y',ED,dy⟩:=Ca.at (Wv Ei);obtain⟨v',Ct,F4⟩:=r1.get ED;rw[hz]at Ct;cases Ct;exact{_,y',Wv Ei,dy,F4}
theorem vO{z:WA}{e e':Dv}{y' K3:V}(h1:DAt H e y')(h2:RelV y' z)(h3:DAt H e' K3)(h4:RelV K3 z):e=e':=by
 have:=h2.inj h4;subst this;exact h1.inj h3
def qT(K:WJ)(B:Nat):R2:=λx y H Q=>∃b ws d es,y=.ref b/\SqL K H b ws/\DAt H d x/\DAts H es ws/\gx es<=B/\∀r:Bool,(r=C?↔d∉es)->Q (.bl r) H
open Classical in
theorem rV{X:Cx}{B:Nat}(hu:X.A.units+B+2<ZY):OpR X (YO .NotIn) (qT X.K B):=by
 intro Y s σ H x y v u Q I rx ry h;obtain⟨b,ws,d,es,rfl,hb,hd,Ca,hB,q⟩:=h;cases ry;obtain⟨its,r1,p1,_⟩:=I.list hb;have l1:=r1.length;have l2:=Ca.length;refine SeqAt.notIn_listAt (λz=>decide (∃y',DAt H d y'/\RelV y' z)) p1.isList (λz hz=>?_) {.bl _,H,I,rfl,q _ ?_}
 .obtain⟨j,hj⟩:=WK.mp (show z∈its by simpa using hz);obtain⟨e,y',he,dy,ry⟩:=yl r1 Ca j z hj;have hq:=kW he
  have e3:decide (∃y',DAt H d y'/\RelV y' z)=decide (e=d):=by
   by_cases h:e=d
   .rw[d! h,d! {y',h ▸ dy,ry}]
   .rw[c! h,c!];rintro⟨K3,h1,h2⟩;exact h (vO dy ry h1 h2)
  rw[e3];refine qG I _ e d (WD _) y' x z v X.A.in1 dy hd ry rx ?_;show X.A.units+1+_<ZY;lia
 .rw[Bool.not_eq_true',<-Bool.not_eq_true];refine not_congr ?_;constructor
  .intro z;obtain⟨v',h1,h2⟩:=Array.any_eq_true'.mp z;obtain⟨j,hj⟩:=WK.mp (show v'∈its by simpa using h1);obtain⟨e,y',he,dy,ry⟩:=yl r1 Ca j v' hj;obtain⟨K3,h3,h4⟩:=e! h2;rw[<-vO dy ry h3 h4];exact Ww he
  .intro z;obtain⟨j,hj⟩:=WK.mp z;obtain⟨y',ED,dy⟩:=Ca.at hj;obtain⟨v',Ct,F4⟩:=r1.get ED;refine Array.any_eq_true'.mpr {v',?_,d! ⟨y',dy,F4⟩};have:=Ww Ct;simpa using this
end L2
namespace PySem
open Sem (wp)
section
variable{K:Type}[DecidableEq K](knd:HeapKind prog w K)(d:Wx)
theorem bb_meets_len(hd:(d == Yo)=D?) :
 MeetsIn prog w (Zx.«dict.__len__» {[.ref d],[]}) (λ_ R s=>∃xs,s.1.DictOfH knd d xs/\R (.ok (.ret (.int xs.length s.toks))) {s with toks:=s.toks+1}) :=
 .of_wp λA R s⟨xs,hm,h⟩=>by
  obtain⟨o,es,ep,ho,hc,MG,he,hp,hn⟩:=hm;show WZ _ _ (dictSize d >>= _) _ _ s;unfold dictSize;refine Wu (Wu (YZ ho MG (WC ?_)));show WZ _ _ (Builtin.Dict.pendingCount d >>= _) _ _ s;refine Wu (wpAny_pendingCount_other hd ?_);refine wpAny_ret_mkInt ?_
  have:es.size=xs.length:=by
   have:=h! X9 he;rw[Wt,Xi]at this;exact this
  rw[Nat.add_zero,this];exact h
end
section
variable{K:Type}[DecidableEq K]{knd:HeapKind prog w K}
theorem bb_call_len{xs:List (K×Wx×WA)}(hd:(d == Yo)=D?)(hm:s.1.DictOfH knd d xs)(zK:(xs.length:Int)<2 ^ 63)
 (h:Q (.int xs.length (s.toks+1)) {s with toks:=s.toks+1+1}):WZ (Xf prog w) A (call (.builtin "len") [.ref d]) Q E s:=by
 refine Calls.call_function_entry kind_len plain_len entry_len (args_len1 _) ?_;unfold Zx.«len»;refine Wu (m:=oneArg "len" _) (WC ?_)
 refine Wu (m:=callSpecial? (.ref d) (WE "__len__")) (XM (name:=WE "__len__") hm.typeIs F.slot_dict_len
  (call_meetsIn F.slot_dict_len hm.typeIs F.entry_dict_len (F.args_dict_len_1 _) (bb_meets_len knd d hd) {xs,hm,?_}))
 show WZ _ _ _ _ _ {s with toks:=s.toks+1};refine Wu (XU (WC ?_));refine Wu (Zl ?_);show WZ _ _ (if((xs.length:Nat):Int)<0 then _ else _) _ _ _;rw[a! (by lia)];show WZ _ _ (if((xs.length:Nat):Int) >= 2 ^ 63 then _ else _) _ _ _;rw[a! (by lia)];exact Wu (wpAny_mkInt (WC {_,rfl,h}))
end
end PySem
namespace L2
open PySem PySem.Spec PyProof.Rows
def ym:List V->Hp->VK->Prop:=λxs H Q=>∃(a:Wx)(kvs:List (List Key×V)),xs=[.ref a]/\H a=A? (.dT kvs)/\Q (.int kvs.length) H
theorem gR{X:Cx}:iR X (.builtin "len") ym:=by
 intro Y s σ H xs us Q I r h;obtain⟨a,kvs,rfl,e,q⟩:=h;obtain⟨u,rfl,rx⟩:=vals1 r;cases rx;obtain⟨z,hd,ys,rel,dd⟩:=qC I.hok e;have hl:kvs.length=ys.length:=WS rel;refine bb_call_len hd dd (by rw[ZX]at z;lia) ?_;rw[<-hl];exact{.int kvs.length,H,I.tok _,{_,E?},q}
end L2
namespace BB
open PySem L2
def dW(e:W8×List Nat):List Key:=.inr e.1::e.2.map λ(i:Nat)=>(Xh ((i:Nat):Int):Key)
theorem tD{e f:W8×List Nat}(h:dW e=dW f):e=f:=by
 obtain⟨n,is⟩:=e;obtain⟨m,js⟩:=f;unfold dW at h;obtain⟨h1,h2⟩:=List.cons.inj h
 have h3:is=js:=by
  clear h h1;induction is generalizing js with
  | nil=>cases js with
    |nil=>rfl
    |cons j js=>cases h2
  | cons i is ih=>cases js with
    |nil=>cases h2
    | cons j js =>
      rw[W9,W9]at h2;obtain⟨g1,g2⟩:=List.cons.inj h2;have g3:=Sum.inl.inj g1;rw[ih js g2,show i=j by lia]
 rw[h3];cases Sum.inr.inj h1;rfl
def kvsOf(E:List (W8×List Nat)):List (List Key×V):=E.zipIdx.map λz=>(dW z.1,o! (z.2:Nat))
theorem fG(E:List (W8×List Nat)):(kvsOf E).length=E.length:=by unfold kvsOf;rw[Wt,List.length_zipIdx]
theorem pY(E:List (W8×List Nat))(e:W8×List Nat):kvsOf (E++[e])=kvsOf E++[(dW e,o! (E.length:Nat))]:=by
 unfold kvsOf;rw[List.zipIdx_append,W3];simp
theorem mn{E:List (W8×List Nat)}{p:List Key×V}(h:p∈kvsOf E):∃i e,p=(dW e,o! (i:Nat))/\E[i]?=A? e:=by
 unfold kvsOf at h;obtain⟨z,hz,rfl⟩:=WY.mp h;exact{z.2,z.1,E?,ZA.mp hz}
theorem lw{E:List (W8×List Nat)}{e:W8×List Nat}{u:V}(h:bC (kvsOf E) (dW e)=A? u):∃i:Nat,u=.int (i:Nat)/\E[i]?=A? e:=by
 unfold bC at h;obtain⟨p,hp,rfl⟩:=W4.mp h;obtain⟨i,f,rfl,hf⟩:=mn (List.mem_of_find?_eq_some hp);have hq:=List.find?_some hp;have:=e! (show decide (dW f=dW e)=C? from hq);rw[tD this]at hf;exact⟨i,E?,hf⟩
theorem iE{E:List (W8×List Nat)}{e:W8×List Nat}(h:bC (kvsOf E) (dW e)=B?):e∉E/\putK (kvsOf E) (dW e) (.int (E.length:Nat))=kvsOf (E++[e]):=by
 unfold bC at h;have h1:=Option.map_eq_none_iff.mp h;rw[List.find?_eq_none]at h1;refine{λhm=>?_,?_}
 .obtain⟨i,hi⟩:=WK.mp hm;refine h1 (dW e,o! (i:Nat)) ?_ (d! rfl);unfold kvsOf;exact WY.mpr {(e,i),ZA.mpr hi,rfl}
 .rw[pY];unfold putK;rw[a!];intro z;obtain⟨p,hp,zt⟩:=List.any_eq_true.mp z;exact h1 p hp zt
structure Cl(E:List (W8×List Nat))(Ts:List Th):Prop where
 len:E.length=Ts.length
 nd:Ts.Nodup
 ent:∀(i:Nat)(e:W8×List Nat),E[i]?=A? e->∃kids,Ts[i]?=A? (.knot e.1 kids)/\Xb (λid u=>id<i/\Ts[id]?=A? u) e.2 kids
theorem db{l:List α}(h:l.Nodup){x:α}(hi:l[i]?=A? x)(hj:l[j]?=A? x):i=j:=by
 obtain⟨h1,e1⟩:=YI.mp hi;obtain⟨h2,e2⟩:=YI.mp hj;rcases Nat.lt_trichotomy i j with z|z|z
 .exact g! (e1.trans e2.symm) (List.pairwise_iff_getElem.mp h i j h1 h2 z)
 .exact z
 .exact g! (e2.trans e1.symm) (List.pairwise_iff_getElem.mp h j i h2 h1 z)
theorem qw(h:Ts.Nodup):∀{ids js:List Nat}{kids:List Th},Xb (λid u=>Ts[id]?=A? u) ids kids->Xb (λid u=>Ts[id]?=A? u) js kids->ids=js
 |_,_,_,.nil,.nil=>rfl
 |_,_,_,.cons a b,.cons c d=>by rw[db h a c,qw h b d]
theorem oj:∀{ids:List Nat}{ks js:List Th},Xb (λid u=>Ts[id]?=A? u) ids ks->Xb (λid u=>Ts[id]?=A? u) ids js->ks=js
 |_,_,_,.nil,.nil=>rfl
 | _,_,_,.cons a b,.cons c d=>by
   rw[a]at c;cases c;rw[oj b d]
theorem Cl.found{E:List (W8×List Nat)}(c:Cl E Ts){n:W8}{kids:List Th}(h:E[i]?=A? (n,ids))(hp:Xb (λid u=>Ts[id]?=A? u) ids kids):Ts[i]?=A? (.knot n kids):=by
 obtain⟨ks,h1,h2⟩:=c.ent i _ h;rw[oj hp (r! (λ_ _ z=>z.2) h2)];exact h1
theorem Cl.snoc{E:List (W8×List Nat)}(c:Cl E Ts){n:W8}{kids:List Th}(hn:(n,ids)∉E)(hp:Xb (λid u=>Ts[id]?=A? u) ids kids):Cl (E++[(n,ids)]) (Ts++[.knot n kids]):=by
 have up:∀{id:Nat}{u:Th},Ts[id]?=A? u->(Ts++[p! n kids])[id]?=A? u:=λ{id u}h=>by
  rw[Xk (glE h)];exact h
 refine{by rw[WL,WL,c.len];rfl,?_,λi e he=>?_}
 .rw[Yc];refine{c.nd,by simp,λa ha b hb z=>?_};rw[WG.mp hb]at z;subst z;obtain⟨i,hi⟩:=WK.mp ha;have zV:i<E.length:=by rw[c.len];exact(glE hi)
  obtain⟨ks,h1,h2⟩:=c.ent i _ (Wv zV);rw[hi]at h1;have h3:=WN h1;injection h3 with h4 h5;subst h5;have h6:=qw c.nd hp (r! (λ_ _ z=>z.2) h2);refine hn ?_;have:(n,ids)=E[i]:=Prod.ext h4 h6;rw[this];exact XS zV
 .by_cases hi:i<E.length
  .rw[Xk hi]at he;obtain⟨ks,h1,h2⟩:=c.ent i e he;exact{ks,up h1,r! (λ_ _ z=>{z.1,up z.2}) h2}
  .rw[Xu (by lia)]at he
   have h0:i - E.length=0:=by
    have:=(glE he);simp at this;lia
   rw[h0]at he;cases he;have MH:i=Ts.length:=by have:=c.len;lia
   subst MH;refine{kids,by simp,r! (λid u z=>{(glE z),up z}) hp}
def fkv(F:List Nat):List (Key×V):=F.zipIdx.map λz=>((Xh ((z.1:Nat):Int):Key),o! (z.2:Nat))
theorem uN(F:List Nat):(fkv F).length=F.length:=by unfold fkv;rw[Wt,List.length_zipIdx]
theorem tZ(F:List Nat)(i:Nat):fkv (F++[i])=fkv F++[((Xh ((i:Nat):Int):Key),o! (F.length:Nat))]:=by
 unfold fkv;rw[List.zipIdx_append,W3];simp
theorem uu{F:List Nat}{p:Key×V}(h:p∈fkv F):∃i id,p=((Xh ((id:Nat):Int):Key),o! (i:Nat))/\F[i]?=A? id:=by
 unfold fkv at h;obtain⟨z,hz,rfl⟩:=WY.mp h;exact{z.2,z.1,E?,ZA.mp hz}
theorem uK{a b:Nat}(h:(Xh ((a:Nat):Int):Key)=Xh ((b:Nat):Int)):a=b:=by
 have:=Sum.inl.inj h;lia
theorem i8{F:List Nat}{id:Nat}{u:V}(h:bC (fkv F) (Xh ((id:Nat):Int):Key)=A? u):∃i:Nat,u=.int (i:Nat)/\F[i]?=A? id:=by
 unfold bC at h;obtain⟨p,hp,rfl⟩:=W4.mp h;obtain⟨i,f,rfl,hf⟩:=uu (List.mem_of_find?_eq_some hp);have hq:=List.find?_some hp;have:=e! (show decide ((Xh ((f:Nat):Int):Key)=Xh ((id:Nat):Int))=C? from hq);rw[uK this]at hf;exact⟨i,E?,hf⟩
theorem jj{F:List Nat}{id:Nat}(h:bC (fkv F) (Xh ((id:Nat):Int):Key)=B?):id∉F/\∀v,putK (fkv F) (Xh ((id:Nat):Int):Key) v=fkv F++[(Xh ((id:Nat):Int),v)]:=by
 unfold bC at h;have h1:=Option.map_eq_none_iff.mp h;rw[List.find?_eq_none]at h1;refine{λhm=>?_,λv=>?_}
 .obtain⟨i,hi⟩:=WK.mp hm;refine h1 (Xh ((id:Nat):Int),o! (i:Nat)) ?_ (d! rfl);unfold fkv;exact WY.mpr {(id,i),ZA.mpr hi,rfl}
 .unfold putK;rw[a!];intro z;obtain⟨p,hp,zt⟩:=List.any_eq_true.mp z;exact h1 p hp zt
theorem uA{F:List Nat}{id:Nat}(h:id∉F):bC (fkv F) (Xh ((id:Nat):Int):Key)=none:=by
 cases hv:bC (fkv F) (Xh ((id:Nat):Int):Key)with
 |none=>rfl
 | some u =>
   obtain⟨i,_,hi⟩:=i8 hv;exact g! (Ww hi) h
theorem pk(F:List Nat)(id:Nat):(bC (fkv F) (Xh ((id:Nat):Int):Key)).isSome=decide (id∈F):=by
 cases hv:bC (fkv F) (Xh ((id:Nat):Int):Key)with
 |none=>rw[c! (jj hv).1];rfl
 | some u =>
   obtain⟨i,_,hi⟩:=i8 hv;rw[d! (Ww hi)];rfl
def unt(N:Nat)(F:List Nat):Nat:=((Yu N).filter λi=>decide (i∉F)).length
theorem xl{N:Nat}{F:List Nat}{a:Nat}(h1:a<N)(h2:a∉F):unt N (F++[a])<unt N F:=by
 unfold unt
 have e:((Yu N).filter λi=>decide (i∉F++[a]))=(((Yu N).filter λi=>decide (i∉F)).filter λi=>decide (i≠a)):=by
  rw[List.filter_filter];congr 1;funext i;simp only[WQ,WG,not_or];by_cases h3:i∈F <;> by_cases h4:i=a <;> simp[h3,h4]
 rw[e];refine List.length_filter_lt_length_iff_exists.mpr {a,?_,by simp};exact Yx.mpr {List.mem_range.mpr h1,d! h2}
theorem fX:∀(n:Nat),(∀(t:Th)(L:List Th),t.size<=n->L.length<=(post t L).length/\(post t L).length<=L.length+t.size)/\(∀(ts:List Th)(L:List Th),au ts<=n->L.length<=(aQ ts L).length/\(aQ ts L).length<=L.length+au ts):=by
 intro n;induction n with
 | zero =>
   refine{λt L h=>?_,λts L h=>?_}
   .have:=t.size_eq;lia
   .cases ts with
    |nil=>rw[aQ,au];exact{WD _,WD _}
    | cons t ts =>
      rw[au]at h;have:=t.size_eq;lia
 | succ n ih =>
   have hT:∀(t:Th)(L:List Th),t.size<=n+1->L.length<=(post t L).length/\(post t L).length<=L.length+t.size:=by
    intro t L h;have hs:=t.size_eq;obtain⟨h1,h2⟩:=ih.2 t.kids L (by lia);rw[post_eq];split
    .lia
    .rw[WL];show L.length<=_+1/\_+1<=_;lia
   refine{hT,λts=>?_};induction ts with
   |nil=>intro L _;rw[aQ,au];exact{WD _,WD _}
   | cons t ts IH =>
     intro L h;rw[au]at h;obtain⟨h1,h2⟩:=hT t L (by lia);obtain⟨h3,h4⟩:=IH (post t L) (by lia);rw[aQ,au];lia
theorem sO(t:Th)(L:List Th):L.length<=(post t L).length/\(post t L).length<=L.length+t.size:=(fX t.size).1 t L (WD _)
mutual
theorem mO:∀t:Th,t.tall<=t.size
 |.knot n ts=>by rw[y!,L!];have:=jO ts;lia
 |.call _ _=>by rw[y!,L!];lia
theorem jO:∀ts:List Th,bJ ts<=au ts
 | []=>by rw[bJ,au];lia
 |t::ts=>by rw[bJ,au];have:=mO t;have:=jO ts;lia
end
open PySem.Builtin PySem.Builtin.Str
end BB
namespace L2
open PySem PySem.Spec PySem.Calls PyProof.Rows BB
section
variable{X:Cx}{σ:List (Option V)}
end
open PySem.Builtin PySem.Builtin.Str
variable{X:Cx}
end L2
namespace BB
open PySem L2
section
variable{t:Th}{ts:List Th}{es:List Wx}
end
end BB
namespace L2
open PySem PySem.Spec PyProof.Rows BB
variable{X:Cx}
end L2
namespace L2
open PySem PySem.Spec PyProof.Rows PySem.W
def sE(K:Frag)(Ch:Wx)(ts:TS)(D:Ends):St->WA->Hp->Prop:=λzz c H'=>∃C,c=.ref C/\Hit K C Ch/\ts D zz H'
def vS(K:Frag)(Ch:Wx)(tb:(St->WA->Hp->Prop)->TS)(ts:TS):TS:=λD σ H=>tb (sE K Ch ts D) D σ H
theorem pG{K:Frag}{Ch:Wx}{tb:(St->WA->Hp->Prop)->TS}{ts:TS}(R:St->WA->Hp->Prop)(h1:∀R':St->WA->Hp->Prop,(∀zz c H',R zz c H'->R' zz c H')->tb R' D σ H)
 (h2:∀zz c H',R zz c H'->sE K Ch ts D zz c H'):vS K Ch tb ts D σ H:=h1 _ h2
theorem vC{X:Cx}{Ch:Wx}{cx:W8}{np zY:ZD}{suite:List Stmt}{b0:Stmt}{tb:(St->WA->Hp->Prop)->TS}{ts:TS}
 (hb:∀Y R,PSs (X.tryB Y R) body (tb R)) (hs:∀ea oe,PSs (X.suite ea oe) (b0::suite) ts)
 (zG:X.stack=X.env::X.outer) (EK:X.env.frame=A? X.env.locals) (hg:Gl X cx) (hm:X.mg cx=A? (.ref Ch))
 (hd:(cx == ("__debug__":W8))=false:=by decide) :
 PS X (.Try body [.ExceptHandler (A? (.Name cx np)) B? (b0::suite) zY] [] [] pos) (vS X.K Ch tb ts):=by
 intro Y s σ H D I h;refine wpAny_Try_except ?_;have zH:=hb Y (sE X.K Ch ts D) [] s σ H D (I.tryB _) h;refine Yn zH (λf s1 q=>?_) λe s1 q=>?_
 .have q':=SP.untryB q;cases f with
  |next=>exact wpAny_execs_nil q'
  |brk=>exact q'
  |cont=>exact q'
  |ret u=>exact q'
 .obtain⟨zz,H1,s0,I1,ea,C,a0,B,H',rfl,BC,DI,un,hok,Eh,b1,b2,C',Mh,hit,q⟩:=q;cases Mh;rw[zG]at Eh;have MI:X.A.frames=A? (X.env::X.outer):=by rw[<-zG];exact I1.ok.frames
  have inv:∀(h6:XT)(tk:Nat),Heap.FlyingW B (X.env::X.outer) ea (.ref C) a0 h6->s1.1.UpToSlots h6->Inv X Y zz H' {s1 with heap:=h6}:=λh6 tk Cb up=>by
   obtain⟨U,_⟩:=ph (fs:=frs X.stack) (H:=H1) (H1:=H1) (h:=s0.1) (h1:=s0.1) (h':=h6) (l:=frs X.stack) (B:=B) Un.refl un (λb o _ z=>z) b1 Cb.1 up (λb hb=>{I1.stkFree b hb,(I1.stack.mem hb).2});exact I1.call' (s':={s1 with heap:=h6}) (ch:=[]) BC U (nR hok Eh.1 Cb.1 b2) DI λ_ z=>nomatch z
  refine wpAny_looks_onW MI EK Eh λh4 IL R8=>?_;refine wpAny_landsW IL λh5 Ga R9=>?_;have IM:=R8.trans R9;have I5:=inv h5 0 Ga IM;obtain⟨o5,Sa,MJ⟩:=Ga.there;refine wpAny_handleBy_cons (codeAny_handlers_test ?_) (by intro q;cases q);have VP:Inv (X.wish X.xe) Y zz H' {s1 with heap:=h5}:=I5;refine Calls.Name_function_global I5.ok.kind hg (Calls.loadGlobal_global (by rw[I5.ok.glob];exact I5.mod.glob.keeps I5.bk) hm ?_) hd;refine(exm_one (M:=Xf X.prog X.w) (h:=h5) I5.kIn (MJ ▸ (Looks.ld Sa).andThen .now) hit.hit).here ?_;refine codeAny_handlers_suite ?_;refine lands_againW (s:={s1 with heap:=h5}) Ga λh6 Cb Sb=>?_;have I6:=inv h6 0 Cb (IM.trans Sb);obtain⟨oe,vs,Ef,Fc,EL,_⟩:=Cb.first
  have Bf:H' ea=none:=by
   cases z:H' ea with
   |none=>rfl
   | some u =>
     obtain⟨o',Bt⟩:=b2 ea u z;rw[Cb.2.1]at Bt;cases Bt
  have MK:ea∉frs (X.env::X.outer):=λz=>by
   obtain⟨_,o,ho,nf⟩:=Cb.2.2.1.mem z;rw[Ef]at ho;cases ho;exact nf vs EL
  rw[pW EK]at MK;have IS:Inv (X.suite ea oe) Y zz H' {s1 with heap:=h6}:=I6.suite {Ef,Bf,λz=>MK (z ▸ WM),λz=>MK (WR _ z),λv z=>by rw[EL]at z;cases z};refine Yn (hs ea oe Y _ _ H' D IS q) (λf s8 q8=>?_) λ_ _ z=>Yz z;cases f with
  |next=>obtain⟨FW,H8,J,q⟩:=q8;exact{_,H8,J.unsuite I1.ok.hd,q}
  |brk=>obtain⟨FW,H8,J,q⟩:=q8;exact{_,H8,J.unsuite I1.ok.hd,q}
  |cont=>obtain⟨FW,H8,J,q⟩:=q8;exact{_,H8,J.unsuite I1.ok.hd,q}
  |ret u=>obtain⟨v,FW,H8,J,r,q⟩:=q8;exact{v,_,H8,J.unsuite I1.ok.hd,r,q}
open BB
variable{X:Cx}
end L2
namespace L2
open PySem PySem.Spec PySem.Calls PyProof.Rows PySem.W
end L2
namespace BB
open PySem L2 PySem.Builtin PySem.Builtin.Str
end BB
namespace L2
open PySem PySem.Spec PySem.Calls PyProof.Rows PySem.Builtin PySem.Builtin.Str BB
variable{X:Cx}
end L2
namespace L2
open PySem PySem.Spec PyProof.Rows
end L2
namespace BB
open PySem L2
end BB
namespace L2
open PySem PySem.Spec PyProof.Rows
open PySem.Calls
structure sk(P:Xa)(w:Xq)(K:WJ)(mg:W8->Option WA)(base:XT)(CX:CXT)(k:Nat)(f:Wx)(sp:Sp):Prop where
 fn:∀(A:Xv)(outer:List Env)(s:WH)(H:Hp)(vs:List V)(Q:VK)(E:XK),Env0 P w K mg base A outer s H->sp vs H Q E->PySem.W.FnAt f s.1
 run:∀(A:Xv)(outer:List Env)(s:WH)(H:Hp)(us:List WA)(vs:List V)(Q:VK)(E:XK),Room k A->Env0 P w K mg base A outer s H->Vals vs us->sp vs H Q E ->
  ZV (Xf P w) A (.call (.ref f) {us,[]}) (CR CX outer P w H s Q E) s
section
variable{X:Cx}{k:Nat}{E:XK}{p:ZD}{e:XD}{es:List XD}{t:TA}
end
def fgt(S:List Wx)(H:Hp):Hp:=λb=>if b∈S then B? else H b
def rst(S:List Wx)(H H':Hp):Hp:=λb=>if b∈S then H b else H' b
theorem kj(h:b∈S):fgt S H b=none:=b! h
theorem eV(h:b∉S):fgt S H b=H b:=a! h
theorem xq(h:b∈S):rst S H H' b=H b:=b! h
theorem fT(h:b∉S):rst S H H' b=H' b:=a! h
theorem tL(h:fgt S H b=A? o):b∉S/\H b=A? o:=by
 by_cases hb:b∈S
 .rw[kj hb]at h;cases h
 .exact{hb,by rw[eV hb]at h;exact h}
def Exts(S:List Wx)(H:Hp):Prop:=∀b∈S,∃φ,H b=A? (.ext φ)
theorem Exts.out(x:Exts S H)(e:H b=A? o)(n:∀φ,o≠.ext φ):b∉S:=λz=>by
 obtain⟨φ,h⟩:=x b z;rw[e]at h;exact n φ (WN h)
theorem HOk.fgt(x:HOk P w H h)(hS:Exts S H):HOk P w (fgt S H) h:=λa o e=>by
 obtain⟨ha,e'⟩:=tL e;exact(x a o e').stay (λ_ _ _ q=>q) (λb q=>by rw[eV (hS.out q (by intro φ z;cases z))];exact q) λb xs q=>by rw[eV (hS.out q (by intro φ z;cases z))];exact q
theorem HOk.rst(x:HOk P w H h)(x':HOk P w H' h')(hS:Exts S H)(hk:∀b∈S,∀o,h.get? b=A? o->h'.get? b=A? o)(hn:∀b∈S,H' b=B?):HOk P w (rst S H H') h':=λa o e=>by
 by_cases ha:a∈S
 .rw[xq ha]at e;obtain⟨φ,Sd⟩:=hS a ha;have e2:=Sd;rw[e]at e2;cases e2;obtain⟨p,⟨ob,q⟩,st⟩:=x a _ e;exact{st _ _ p (λo z=>hk a ha o z),{ob,hk a ha ob q},st}
 .rw[fT ha]at e;have out:∀b u,H' b=A? u->b∉S:=λb u q z=>by rw[hn b z]at q;cases q
  exact(x' a o e).stay (λ_ _ _ q=>q) (λb q=>by rw[fT (out b _ q)];exact q) λb xs q=>by rw[fT (out b _ q)];exact q
def CellAt(H:Hp)(c:Wx)(v:V):Prop:=∃φ,H c=A? (.ext φ)/\∀h:XT,φ h->∃u,RelV v u/\h.IsCell c (A? u)
def CodeAt(H:Hp)(c:Wx)(qual:W8):Prop:=∃φ,H c=A? (.ext φ)/\∀h:XT,φ h->h.CodeRec (.ref c) qual
def vn(H:Hp)(cl:List (W8×Wx))(ns:List W8)(ws:List V):Prop:=Xb (λ(x:W8)(v:V)=>∃c,cl.lookup x=A? c/\CellAt H c v) ns ws
def LamAt(H:Hp)(f c':Wx)(name qual:W8)(params:Arguments)(body:XD)(scope:Zs)(cl:List (W8×Wx)):Prop:=∃φ,H f=A? (.ext φ)/\∀h:XT,φ h->∃pm BK,h.get? f=A? (Y8 name qual params body scope cl pm c' BK)
theorem CodeAt.mono(s:Same H H'){q:W8}(h:CodeAt H c q):CodeAt H' c q:=by
 obtain⟨φ,h1,h2⟩:=h;exact{φ,s _ _ h1,h2}
theorem LamAt.mono(s:Same H H'){c':Wx}{body:XD}(h:LamAt H f c' name qual params body scope cl):LamAt H' f c' name qual params body scope cl:=by
 obtain⟨φ,h1,h2⟩:=h;exact{φ,s _ _ h1,h2}
theorem CellAt.now(x:HOk P w H h)(z:CellAt H c v):∃u,RelV v u/\h.IsCell c (A? u):=by
 obtain⟨φ,h1,h2⟩:=z;exact h2 h (x c _ h1).1
def cxL(P:Xa)(w:Xq)(K:WJ)(mg:W8->Option WA)(base:XT)(N:List W8)(qual:W8)(scope:Zs)(f:Wx)(cd:WA)(cl:List (W8×Wx))(A:Xv)(outer:List Env)(s:WH)(H:Hp):Cx where
 prog:=P
 w:=w
 K:=K
 mg:=mg
 base:=base
 A:=A.deeper (PySem.W.envX qual scope s.1.1.size f cd cl)
 N:=N
 s₀:=s
 H₀:=fgt (cl.map (·.2)) H
 env:=PySem.W.envX qual scope s.1.1.size f cd cl
 outer:=outer
 stack:=PySem.W.envX qual scope s.1.1.size f cd cl::outer
 ex:=[]
 calm:=C?
 fn:=λ_=>D?
 pn:=[]
 xe:=λ_ _=>False
structure oQ(N ps:List W8)(cl:List (W8×Wx))(sc:Zs):Prop where
 kind:sc.kind=.function
 co:sc.isCoroutine=D?
 gen:sc.isGenerator=D?
 nocell:∀x∈sc.names,x.2≠.cell
 nd:N.Nodup
 pre:N.take ps.length=ps
 par:∀x∈ps,sc.names.lookup x=A? .local
 fre:∀x∈N.drop ps.length,sc.names.lookup x=A? .free
 has:∀x,sc.names.lookup x=A? .free->∃c,cl.lookup x=A? c
 inj:∀x y c,cl.lookup x=A? c->cl.lookup y=A? c->x=y
theorem oJ(h:cl.lookup x=A? c):c∈cl.map (·.2):=WY.mpr {(x,c),Ys h,rfl}
theorem l6:∀{l:List (W8×WA)}{x:W8}{u:WA},(l.map (·.1)).Nodup->(x,u)∈l->l.lookup x=A? u
 | [],_,_,_,h=>by cases h
 | (y,v)::l,x,u,nd,h=>by
   rw[W9,XH]at nd;rw[Ym];rcases WW.mp h with e|e
   .cases e;rw[beq_self_eq_true]
   .have zg:(x == y)=false:=by
     rw[beq_eq_false_iff_ne];intro z;subst z;exact nd.1 (WY.mpr {_,e,rfl})
    rw[zg];exact l6 nd.2 e
theorem n9(nd:ps.Nodup)(hl:us.length=ps.length)(h1:ps[i]?=A? x)(h2:us[i]?=A? u):(ps.zip us).reverse.lookup x=A? u:=by
 refine l6 ?_ ?_
 .rw[List.map_reverse,List.map_fst_zip (by lia)];exact(List.pairwise_reverse.mpr (nd.imp λh z=>h z.symm))
 .rw[List.mem_reverse];exact Ww (Yq.mpr ⟨h1,h2⟩)
theorem wX{k:Nat}{c':Wx}{body:XD}
 (S:oQ N ps cl scope) (bind:∀(pm BK:WA)(us:List WA),us.length=ps.length->bindArgs (PySem.W.kla_fn name qual params body scope cl pm (.ref c') BK) {us,[]}=pure (ps.zip us))
 (AQ:∀vs H Q E,sp vs H Q E->vs.length=ps.length/\LamAt H f c' name qual params body scope cl/\CodeAt H c' qual/\Exts (cl.map (·.2)) H/\∀x c,cl.lookup x=A? c->∃v,CellAt H c v)
 (zH:∀(A:Xv)(outer:List Env)(s:WH)(H:Hp)(vs:List V)(Q:VK)(E:XK),Room k (A.deeper (PySem.W.envX qual scope s.1.1.size f (.ref c') cl))->sp vs H Q E ->
  ∃t ws,vn H cl (N.drop ps.length) ws/\PE (cxL P w K mg base N qual scope f (.ref c') cl A outer s H) body t/\t (vs.map A?++ws.map A?) (fgt (cl.map (·.2)) H) λv H'=>Q v (rst (cl.map (·.2)) H H')) :
 sk P w K mg base CX0 (k+1) f sp where
 fn:=λA outer s H vs Q E e0 h=>by
  obtain⟨_,⟨φ,h1,h2⟩,_⟩:=AQ _ _ _ _ h;obtain⟨pm,BK,e⟩:=h2 _ (e0.hok f _ h1).1;exact{_,_,_,_,e}
 run:=λA outer s H us vs Q E hr e0 r h=>by
  obtain⟨hl,⟨φ,h1,h2⟩,⟨ψ,g1,g2⟩,hx,Se⟩:=AQ _ _ _ _ h;obtain⟨pm,BK,ef⟩:=h2 _ (e0.hok f _ h1).1;have Sf:=g2 _ (e0.hok c' _ g1).1;have FT:us.length=ps.length:=by rw[<-r.length];exact hl
  have ML:∀y∈ps.zip us,scope.names.lookup y.1=A? .local:=λ⟨n,v⟩hy=>S.par n (Z5 hy).1;refine PySem.W.kla_callFunE hr.depth ef rfl S.co S.gen rfl Sf ?_;rw[show bindArgs _ _=_ from bind pm BK us FT];refine WC (wpAny_newFunctionEnv S.nocell ML (λzc Ah AR=>?_) S.kind);have BL:∀b o,s.1.get? b=A? o->zc.get? b=A? o:=λb o e=>AR.extBut b o (Xn (W6 e)) (WB _ e);refine{e0.mod.nolimit.keeps λb o e=>BL b o (e0.bs b o e).1,?_};show ZV _ _ (.expr body (PySem.W.envX qual scope s.1.1.size f (.ref c') cl)) _ _;obtain⟨t,ws,Ca,ht,hq⟩:=zH A outer s H vs Q E (hr.deeper _) h;have B2:(N.drop ps.length).length=ws.length:=WS Ca;have Aq:ps.length<=N.length:=by have:=h! X9 S.pre;rw[Xy]at this;lia
  have zb:∀x c,cl.lookup x=A? c->c∈cl.map (·.2):=λx c e=>oJ e
  have yY:∀c∈cl.map (·.2),c<s.1.1.size:=λc hc=>by
   obtain⟨G6,e⟩:=hx c hc;exact e0.hok.lt e
  have Gb:∀x c,cl.lookup x=A? c->∃v,zc.IsCell c v:=λx c e=>by
   obtain⟨v,hv⟩:=Se x c e;obtain⟨u,_,o,ho,hd⟩:=hv.now e0.hok;exact{_,o,BL _ _ ho,hd}
  have G7:∀b,H b=B?->fgt (cl.map (·.2)) H b=none:=λb e=>by
   by_cases hb:b∈cl.map (·.2)
   .exact kj hb
   .rw[eV hb];exact e
  have KP:ps.Nodup:=by rw[<-S.pre];exact S.nd.sublist (List.take_sublist _ _)
  have I:Inv (cxL P w K mg base N qual scope f (.ref c') cl A outer s H) [] (vs.map A?++ws.map A?) (fgt (cl.map (·.2)) H) {s with heap:=zc,toks:=s.toks+(ps.zip us).length}:=by
   refine{{e0.mod,S.kind,E?,E?,WD _,S.inj,λx hx=>?_,λx c hf _=>(by cases hf),λ_=>hr.hd,Around.frames_deeper e0.frames,.inr ⟨rfl,rfl⟩,λb z=>(by cases z),λb o e=>{(e0.bs b o e).1,?_},e0.bsz,λb _ _ z=>(by cases z),λb z=>(by cases z),e0.funs,λb hb=>?_},
    rfl,e0.bare,Un.kept BL,{_,Ah,λi x v e1 e2 e3=>?_},Gb,?_,λx c e=>kj (zb x c e),λp hp=>(by cases hp),?_,?_}
   .have BF:scope.names.lookup x=A? .cell\/scope.names.lookup x=A? .free:=hx;rcases BF with z|z
    .exact g! rfl (S.nocell _ (Ys z))
    .exact S.has x z
   .exact G7 b (e0.bs b o e).2
   .exact G7 b (e0.frf b hb)
   .by_cases hi:i<vs.length
    .rw[Xk (by rw[Wt];exact hi),Wz]at e2;obtain⟨v',Ct,e4⟩:=W4.mp e2;cases e4;obtain⟨u,hu,rv⟩:=r.get Ct
     have hp:ps[i]?=A? x:=by
      rw[<-S.pre,List.getElem?_take_of_lt (by lia)];exact e1
     exact{u,rv,.inl {S.par x (Ww hp),n9 KP FT hp hu}}
    .rw[Xu (by rw[Wt];lia),Wz,Wt]at e2;obtain⟨v',Ct,e4⟩:=W4.mp e2;cases e4
     have hd:(N.drop ps.length)[i - vs.length]?=A? x:=by
      rw[List.getElem?_drop,hl,show ps.length+(i - ps.length)=i by lia];exact e1
     obtain⟨w',Bh,c,hc,Bd⟩:=u! Ca hd;rw[Ct]at Bh;cases Bh;obtain⟨u,ru,o,ho,hdc⟩:=Bd.now e0.hok;exact{u,ru,.inr {.inr (S.fre x (Ww hd)),c,hc,o,BL _ _ ho,hdc}}
   .exact G7 _ (e0.hok.fresh (WD _))
   .exact(e0.hok.fgt hx).kept BL
   .show(vs.map A?++ws.map A?).length=N.length;rw[WL,Wt,Wt,<-B2,XR];lia
  refine PySem.W.kla_codeExpr (Yn (ht [] _ _ _ _ I hq) (λu s' C8=>?_) λe s' z=>z.elim);obtain⟨v,H',I',rv,q'⟩:=C8;have un:Un (frs outer) [] (fgt (cl.map (·.2)) H) H' s.1 s'.1:=I'.base
  have kS:∀b∈cl.map (·.2),∀o,s.1.get? b=A? o->s'.1.get? b=A? o:=λb hb o e=>un.keep b o e (kj hb) (λz=>by
   obtain⟨G6,e'⟩:=hx b hb;rw[e0.frf b z]at e';cases e') (by simp)
  have Sg:∀b∈cl.map (·.2),H' b=none:=λb hb=>by
   obtain⟨G6,e'⟩:=hx b hb;obtain⟨_,⟨o,ho⟩,_⟩:=e0.hok b _ e';exact un.free b o ho (kj hb) (by simp)
  have nS:∀b,H b=B?->b∉cl.map (·.2):=λb e hb=>by
   obtain⟨G6,e'⟩:=hx b hb;rw[e]at e';cases e'
  refine{v,rst (cl.map (·.2)) H H',I'.os,I'.bare,{λb o e n hb BF=>un.keep b o e (G7 b n) hb BF,λb o e n hb BF=>un.slot b o e (G7 b n) hb BF,λb o e n BF=>?_,λb o e BF=>un.there b o e BF,λb xs e=>?_,λb o u' e=>?_,λb pp e=>?_},HOk.rst e0.hok I'.hok hx kS Sg,rv,q'}
  .rw[fT (nS b n)];exact un.free b o e (G7 b n) BF
  .have hb:=hx.out e (by intro G6 z;cases z);rw[fT hb];exact un.tups b xs (by rw[eV hb];exact e)
  .have hb:=hx.out e (by intro G6 z;cases z);rw[fT hb];exact un.frzs b o u' (by rw[eV hb];exact e)
  .have hb:=hx.out e (by intro G6 z;cases z);rw[fT hb];exact un.tbls b pp (by rw[eV hb];exact e)
structure Lam(mg:W8->Option WA)(base:XT)(c P:Wx):Prop where
 hd:PySem.W.CodeHd base c P
 bl:base.BuiltinsAt mg P
def SameT(P:Wx)(H H':Hp):Prop:=∀b o,b≠P->H b=A? o->H' b=A? o
def tabOf(pos:ZD)(c':Wx):Array WA:=#[YW pos.line,YW pos.col,.ref c']
def TabSt(H:Hp)(P:Wx)(pos:ZD)(qual:W8):Prop:=H P=A? (.tbl #[])\/∃c',H P=A? (.tbl (tabOf pos c'))/\CodeAt H c' qual
theorem TabSt.mono(s:Same H H'){P:Wx}(h:TabSt H P pos qual):TabSt H' P pos qual:=by
 rcases h with h|⟨c',h1,h2⟩
 .exact .inl (s _ _ h)
 .exact .inr {c',s _ _ h1,h2.mono s}
theorem SameT.trans{P:Wx}(a:SameT P H H1)(b:SameT P H1 H2):SameT P H H2:=λc o n e=>b c o n (a c o n e)
theorem Same.t(s:Same H H')(P:Wx):SameT P H H':=λb o _ e=>s b o e
theorem ul(pos:ZD)(c':Wx):TriplesOk (tabOf pos c').toList:=trivial
theorem r8(pos:ZD)(c':Wx):codeAmong pos (tabOf pos c').toList=A? (.ref c'):=by
 show codeAmong pos [YW pos.line,YW pos.col,.ref c']=_;simp[codeAmong,YW]
def yR(X:Cx)(P:Wx)(pos:ZD)(params:Arguments)(body:XD)(scope:Zs)(cl:List (W8×Wx)):TE:=λ_ H Q=>TabSt H P pos (X.env.qual++"<lambda>") /\
 ∀f c' H',SameT P H H'->H' P=A? (.tbl (tabOf pos c'))->CodeAt H' c' (X.env.qual++"<lambda>")->LamAt H' f c' "<lambda>" (X.env.qual++"<lambda>") params body scope cl->H f=B?->Q (.ref f) H'
theorem xn{X:Cx}{P:Wx}{body:XD}(L:Lam X.mg X.base c P)(hc:X.env.code=.ref c)(zb:closureFor scope X.env=pure cl)(MM:defaultsOf params X.env=([],[]):=by rfl) :
 PE X (.Lambda params body scope pos) (yR X P pos params body scope cl):=by
 intro Y s σ H Q I h;obtain⟨tab,q⟩:=h;have MN:s.1.Ns Yg X.mg:=I.mod.glob.keeps I.bk;have C:PySem.W.CodeHd s.1 c P:=L.hd.keeps I.bk
 have hb:s.1.BuiltinsAt X.mg P:=by
  obtain⟨bm,o,h1,h2,h3,h4,h5,h6⟩:=L.bl;exact{bm,o,h1,h2,h3,h4,I.bk _ _ h5,h6}
 refine PySem.W.kla_eval MM ?_;rcases tab with hP|⟨c',hP,Ez⟩
 .have K4:s.1.get? P=A? (PySem.W.tabObj #[]):=I.hok P _ hP
  have Sh:Yg≠P:=λz=>by
   obtain⟨o,es,ep,e,d,_⟩:=MN;rw[z,K4]at e;cases e;cases d
  refine PySem.W.kla_makeFunction zb I.ok.glob MN hc C K4 trivial rfl Sh hb λc' BK h' tk hx G8 yY IP IQ=>?_;have hsz:s.1.1.size<=h'.objs.size:=XB G8 (Yj yY);have Pz:H c'=none:=I.hok.fresh G8;have nf:H h'.objs.size=none:=I.hok.fresh hsz;have Si:c'≠h'.objs.size:=Xn yY;have Sj:P≠c':=λz=>by rw[z,Pz]at hP;cases hP
  have Sk:P≠h'.objs.size:=λz=>by rw[z,nf]at hP;cases hP
  have kp:∀b o,b≠P->s.1.get? b=A? o->(h'.push (Y8 "<lambda>" (X.env.qual++"<lambda>") params body scope cl ((X.mg "__name__").getD .none) c' BK)).get? b=A? o:=λb o n e=>WB _ (hx b o n e);obtain⟨H',K5⟩:∃H',H'=upd (upd (upd H P (.tbl (tabOf pos c'))) c' (.ext λh=>h.CodeRec (.ref c') (X.env.qual++"<lambda>"))) h'.objs.size (.ext λh=>h.get? h'.objs.size=A? (Y8 "<lambda>" (X.env.qual++"<lambda>") params body scope cl ((X.mg "__name__").getD .none) c' BK)):={_,rfl};have eP:H' P=A? (.tbl (tabOf pos c')):=by rw[K5,aj Sk,aj Sj,af]
  have ec:H' c'=A? (.ext λh=>h.CodeRec (.ref c') (X.env.qual++"<lambda>")):=by rw[K5,aj Si,af]
  have ef:H' h'.objs.size=A? (.ext λh=>h.get? h'.objs.size=A? (Y8 "<lambda>" (X.env.qual++"<lambda>") params body scope cl ((X.mg "__name__").getD .none) c' BK)):=by rw[K5,af]
  have eo:∀b,b≠P->b≠c'->b≠h'.objs.size->H' b=H b:=λb n1 n2 n3=>by rw[K5,aj n3,aj n2,aj n1]
  have es:∀b o,H b=A? o->b≠P->H' b=A? o:=λb o e n=>by rw[eo b n (λz=>by rw[z,Pz]at e;cases e) (λz=>by rw[z,nf]at e;cases e)];exact e
  have un:Un X.fs [] H H' s.1 (h'.push (Y8 "<lambda>" (X.env.qual++"<lambda>") params body scope cl ((X.mg "__name__").getD .none) c' BK)):=by
   have nP:∀b,H b=B?->b≠P:=λb n z=>by rw[z,hP]at n;cases n
   refine{λb o e n _ _=>kp b o (nP b n) e,λb o e n _ _=>{o.slots,kp b o (nP b n) e},λb o e n _=>?_,λb o e _=>?_,λb xs e=>es b _ e (λz=>by rw[z,hP]at e;cases e),λb o u e=>es b _ e (λz=>by rw[z,hP]at e;cases e),λb pp e=>?_}
   .rw[eo b (nP b n) (Xn (Xz (W6 e) G8)) (Xn (Xz (W6 e) hsz))];exact n
   .by_cases hb:b=P
    .exact{_,by rw[hb];exact WB _ IQ}
    .exact{o,kp b o hb e}
   .by_cases hb:b=P
    .subst hb;rw[hP]at e;cases e;exact{tabOf pos c',by rw[eP];simp}
    .exact{#[],by rw[es b _ e hb];simp}
  have hok:HOk X.prog X.w H' (h'.push (Y8 "<lambda>" (X.env.qual++"<lambda>") params body scope cl ((X.mg "__name__").getD .none) c' BK)):=λa o e=>by
   by_cases ha:a=P
   .subst ha;rw[eP]at e;cases e;exact WB _ IQ
   by_cases zT:a=c'
   .subst zT;rw[ec]at e;cases e;refine{IP.push _,?_,λh1 h2 z k=>?_}
    .obtain⟨_,oc,_,_,e1,e2,_⟩:=IP;cases e1;exact{oc,WB _ e2}
    .obtain⟨_,oc,vs,t,e1,e2,e3⟩:=z;cases e1;exact{_,oc,vs,t,E?,k _ e2,e3}
   by_cases Df:a=h'.objs.size
   .subst Df;rw[ef]at e;cases e;exact{WO _ rfl,{_,WO _ rfl},λh1 h2 z k=>k _ z}
   rw[eo a ha zT Df]at e;refine(I.hok a o e).stay (λb u hb z=>kp b u ?_ z) (λb z=>es b _ z (λy=>by rw[y,hP]at z;cases z)) λb xs z=>es b _ z (λy=>by rw[y,hP]at z;cases z);rcases hb with hb|hb
   .rw[hb];exact ha
   .exactλy=>by rw[y,hP]at hb;cases hb
  refine{.ref h'.objs.size,H',I.un un hok,E?,q _ c' H' (λb o n e=>es b o e n) eP {_,ec,λ_ z=>z} {_,ef,λ_ z=>{_,_,z}} nf}
 .have K4:s.1.get? P=A? (PySem.W.tabObj (tabOf pos c')):=I.hok P _ hP;refine PySem.W.kla_makeFunctionHit zb I.ok.glob MN hc C K4 (ul pos c') (r8 pos c') hb λBK h' tk hk hsz=>?_;have nf:H h'.objs.size=none:=I.hok.fresh hsz
  have I':=I.laid (h':=h'.push {cls:=.type "function",data:=.func (PySem.W.kla_fn "<lambda>" (X.env.qual++"<lambda>") params body scope cl ((X.mg "__name__").getD .none) (.ref c') BK)}) (a:=h'.objs.size) (t':=tk)
   (o:=.ext λh=>h.get? h'.objs.size=A? (Y8 "<lambda>" (X.env.qual++"<lambda>") params body scope cl ((X.mg "__name__").getD .none) c' BK)) (λb u e=>WB _ (hk b u e)) hsz {WO _ rfl,{_,WO _ rfl},λh1 h2 z k=>k _ z}
  have sm:Same H (upd H h'.objs.size (.ext λh=>h.get? h'.objs.size=A? (Y8 "<lambda>" (X.env.qual++"<lambda>") params body scope cl ((X.mg "__name__").getD .none) c' BK))):=ao nf _;exact{.ref h'.objs.size,_,I',E?,q _ c' _ (sm.t P) (sm _ _ hP) (Ez.mono sm) {_,af,λ_ z=>{_,_,z}} nf}
section
variable{X:Cx}{k:Nat}{p:ZD}{e:XD}{es:List XD}{t:TA}
end
theorem sf{mb:W8->Option WA}{k:Nat}{fa T:Wx}{l':WH}{vs:List WA}
 (KX:K.In l'.heap) (Ah:l'.heap.Ns Yg mg) (hb:l'.heap.Ns builtinsNs mb) (Sl:∀x:W8,x≠"__name__"->mb x=bootBuiltins x) (MO:l'.heap.NoLimit) (hg:l'.gens=#[])
 (ha:l'.heap.get? a=A? {cls:=.type "list",data:=.seq vs.toArray}) (hi:IntsAre vs ns) (hl:ns.length<=W5) (hr:Room k callerA)
 (hC:PySem.W.CodeHd l'.heap c T) (hT:l'.heap.get? T=A? (PySem.W.tabObj #[])) (AI:l'.heap.BuiltinsAt mg T) (MP:K.lookup T=B?)
 (F:∀base:XT,K.In base->base.Ns Yg mg->Lam mg base c T->bv P w K mg base CX k fa fd [x] sp) (IT:∀(s:WH)(u:WA),BindsTo s fd {[u],[]} [(x,u)])
 (AQ:∀H:Hp,SqL K H a (ns.map o!)->H T=A? (.tbl #[])->sp [.ref a] H (λv _=>v=.bl C?) λ_ _ _=>False)
 (MQ:∀H e s',CX [] H l' (λ_ _ _=>False) e s'->False) :
 ZV (Xf P w) callerA (.call (.ref fa) {[.ref a],[]}) (λr s'=>r=.ok (.ret (.bool C?))/\OldK l'.heap s'.1/\s'.os=l'.os/\AllBare s'.gens) l':=by
 have rv:=lW hi;have MR:=hi.length;have PB:a≠T:=λz=>by rw[z,hT]at ha;cases ha
 have core:∀H:Hp,(∀b,H b=B?\/(∃o xs,H b=A? (.frz o (.lst xs)))\/(b=T/\H b=A? (.tbl #[])))->H T=A? (.tbl #[])->SqL K H a (ns.map o!)->HOk P w H l'.heap->(∀b,H b≠B?->b=a\/b=T)->(H a≠B?->K.lookup a=B?) ->
  ZV (Xf P w) callerA (.call (.ref fa) {[.ref a],[]}) (λr s'=>r=.ok (.ret (.bool C?))/\OldK l'.heap s'.1/\s'.os=l'.os/\AllBare s'.gens) l':=by
  intro H hO MS hS hok hA hK;have Av:∀{b:Wx}{o:Yw},l'.heap.get? b=A? o->H b=B?->(lM l'.heap H).get? b=A? o:=λe n=>sT e n
  have MT:∀{b:Wx}{o:Yw},l'.heap.get? b=A? o->(∀xs n,o.data≠.seq xs n)->(∀xs,o.data≠.fields xs\/o.cls≠.none)->H b=none:=λ{b o}e d1 d2=>by
   cases q:H b with
   |none=>rfl
   | some u =>
     rcases hA b (by rw[q];simp)with e'|e'
     .subst e';rw[ha]at e;cases e;exact g! rfl (d1 _ _)
     .subst e';rw[hT]at e;cases e;rcases d2 #[]with z|z
      .exact g! rfl z
      .exact g! rfl z
  have K6:∀{b:Wx}{m:W8->Option WA},l'.heap.Ns b m->(lM l'.heap H).Ns b m:=λ{b m}⟨o,es,ep,e,d,r⟩=>{o,es,ep,Av e (MT e (λxs n=>by rw[d];exactλz=>nomatch z) (λxs=>.inl (by rw[d];exactλz=>nomatch z))),d,r}
  have PD:K.In (lM l'.heap H):=λb o e=>Av (KX b o e) (by
   cases q:H b with
   |none=>rfl
   | some u =>
     rcases hA b (by rw[q];simp)with e'|e'
     .subst e';rw[hK (by rw[q];simp)]at e;cases e
     .subst e';rw[MP]at e;cases e)
  have hM:Mod K mg (lM l'.heap H):={PD,K6 Ah,{mb,K6 hb,Sl},let⟨mc,h1,h2⟩:=MO;{mc,K6 h1,h2}}
  have hL:Lam mg (lM l'.heap H) c T:=by
   refine{?_,?_}
   .obtain⟨o,Sm,file,tf,flags,tg,Sn,text,tt,e1,r1,r2,r3⟩:=hC;exact{o,Sm,file,tf,flags,tg,Sn,text,tt,Av e1 (MT e1 (λxs n=>by rw[r2];exactλz=>nomatch z) (λxs=>.inr (by rw[r1];exactλz=>nomatch z))),r1,r2,r3}
   .obtain⟨bm,o,h1,h2,h3,h4,h5,h6,h7,h8⟩:=AI;exact{bm,o,h1,h2,h3,h4,Av h5 (MT h5 (λxs n=>by rw[h8];exactλz=>nomatch z) (λxs=>.inl (by rw[h8];exactλz=>nomatch z))),h6,h7,h8}
  have e0:Env0 P w K mg (lM l'.heap H) callerA [] l' H:={rfl,hM,λb o e=>vj e,Nat.le_of_eq (sw _ _),trivial,λb hb=>g! (show b∈([]:List Wx)from hb) (by simp),hok,.of_eq hg};refine codeAny_mono ((F _ PD (K6 Ah) hL).run callerA [] l' H {[.ref a],[]} [.ref a] [.ref a] _ _ hr e0 (IT l' (.ref a)) (.cons rfl .nil) (AQ H hS MS)) λr s' h=>?_;cases r with
  |error e=>exact(MQ H e s' h).elim
  | ok fl =>
    cases fl with
    |next=>exact Yz h
    |brk=>exact Yz h
    |cont=>exact Yz h
    | ret u =>
      obtain⟨v,H',os,bare,un,IU,r',q⟩:=h;have q':v=.bl true:=q;subst q';obtain rfl:u=Value.bool true:=r';refine{E?,{λb o e=>?_,λb o e=>un.there b o e (by simp)},os,bare};cases q:H b with
      |none=>exact .inl (un.keep b o e q (by intro z;exact g! (show b∈([]:List Wx)from z) (by simp)) (by simp))
      | some u =>
        rcases hO b with z|⟨ob,xs,z⟩|⟨rfl,z⟩
        .rw[q]at z;cases z
        .have z2:=un.frzs b ob _ z;obtain⟨e1,_⟩:=hok b _ z;obtain⟨e2,_⟩:=IU b _ z2;rw[e]at e1;cases e1;exact .inl e2
        .obtain⟨more,z2⟩:=un.tbls b _ z;have e2:s'.1.get? b=A? {cls:=.none,data:=.fields (#[]++more)}:=IU b _ z2;rw[hT]at e;cases e;exact .inr (.inl {(hC.tab hT).isCodeTable,rfl,#[],more,rfl,e2})
 have PF:∀H:Hp,ObjOk P w H l'.heap T (.tbl #[]):=λ_=>hT;cases hk:K.lookup a with
 | some o =>
   have e:=KX a o hk;rw[ha]at e;cases e;refine core (λb=>if b=T then A? (.tbl #[])else B?) (λb=>?_) (b! rfl) (.inr {_,vs.toArray,_,hk,rfl,rfl,rfl,by rw[WT,MR];exact hl,by simpa using rv}) (λb u z=>?_) (λb z=>?_) λz=>g! (a! PB) z
   .by_cases hb:b=T
    .exact .inr (.inr {hb,b! hb})
    .exact .inl (a! hb)
   .by_cases hb:b=T
    .have z':=(b! hb).symm.trans z;cases z';rw[hb];exact PF _
    .have z':=(a! hb).symm.trans z;cases z'
   .by_cases hb:b=T
    .exact .inr hb
    .exact g! (a! hb) z
 | none =>
   refine core (λb=>if b=T then A? (.tbl #[])else if b=a then A? (.frz {cls:=.type "list",data:=.seq vs.toArray} (.lst (ns.map o!)))else B?) (λb=>?_) (b! rfl) (.inl (.inr {{cls:=.type "list",data:=.seq vs.toArray},(a! PB).trans (b! rfl)})) (λb u z=>?_) (λb z=>?_) λ_=>hk
   .by_cases hb:b=T
    .exact .inr (.inr {hb,b! hb})
    .by_cases zA:b=a
     .exact .inr (.inl {_,_,(a! hb).trans (b! zA)})
     .exact .inl ((a! hb).trans (a! zA))
   .by_cases hb:b=T
    .have z':=(b! hb).symm.trans z;cases z';rw[hb];exact PF _
    .have z':=(a! hb).symm.trans z;by_cases zA:b=a
     .have z2:=(b! zA).symm.trans z';cases z2;subst zA;exact{ha,by rw[Wt];exact hl,vs,_,rv,ha}
     .have z2:=(a! zA).symm.trans z';cases z2
   .by_cases hb:b=T
    .exact .inr hb
    .by_cases zA:b=a
     .exact .inl zA
     .exact g! ((a! hb).trans (a! zA)) z
def tabAt(o:Yw):Option Wx:=match o.data with
 | .fields vs=>(match(vs[11]?:Option WA)with
   |some (.ref P)=>A? P
   |_=>B?)
 |_=>B?
end L2
namespace BB
open PySem L2
theorem dq(f:Int->Int->Th):∀ts:List Th,fills f ts=ts.map (·.fill f)
 | []=>rfl
 |t::ts=>by rw[fills,dq f ts];rfl
end BB
namespace L2
open PySem PySem.Spec PySem.SeqAt PyProof.Rows
section
variable{X:Cx}{o i value:XD}{td ty tv:TE}
end
end L2
namespace BB
open PySem L2
mutual
def cnT:Th->Nat
 |.knot _ ks=>oA ks
 |.call _ _=>1
def oA:List Th->Nat
 | []=>0
 |t::ts=>cnT t+oA ts
end
section
variable{mid:List (W8×Int)}{S1 S2:Int}{DJ DK:Th}{DL DM:List (List Th)}
end
end BB
namespace L2
open PySem PySem.Spec PySem.Calls PyProof.Rows
end L2
namespace BB
open PySem L2
mutual
def lc:Th->Nat
 |.call _ _=>1
 |.knot _ ks=>if lcs ks=0 then 0 else lcs ks+1
def lcs:List Th->Nat
 | []=>0
 |t::ts=>max (lc t) (lcs ts)
end
mutual
theorem jH{ks:List (W8×Int)}{S C:Int}(g:GoodN ks):∀t:Th,t.FitS ks S C->2 * t.size+1<=3 ^ t.tall/\3 * cnT t<=3 ^ lc t
 | .call _ _,_=>by
   rw[L!,y!,cnT,lc];exact{by decide,by decide}
 | .knot n ts,h=>by
   rw[I!]at h;obtain⟨h1,h2⟩:=lB g ts h.2
   have hw:ts.length<=3:=by
    have:=(g.num _ h.1).2;have h2:((ts.length:Nat):Int)<=3:=this;lia
   rw[L!,y!,cnT,lc];refine{?_,?_}
   .rw[Nat.pow_succ];have hp:1<=3 ^ bJ ts:=Nat.pow_pos (by decide);have:ts.length * (3 ^ bJ ts - 1)<=3 * (3 ^ bJ ts - 1):=Zd _ hw;lia
   .have:ts.length * 3 ^ lcs ts<=3 * 3 ^ lcs ts:=Zd _ hw;split
    .rename_i hz
     rw[hz]at h2 this;have h3:=mB g ts h.2 hz;lia
    .rw[Nat.pow_succ];lia
theorem lB{ks:List (W8×Int)}{S C:Int}(g:GoodN ks):∀ts:List Th,FitSs ks S C ts->2 * au ts<=ts.length * (3 ^ bJ ts - 1)/\3 * oA ts<=ts.length * 3 ^ lcs ts
 | [],_=>by
   rw[au,oA];exact{Xo _,Xo _}
 | t::ts,h=>by
   rw[FitSs]at h;obtain⟨h1,h2⟩:=jH g t h.1;obtain⟨h3,h4⟩:=lB g ts h.2;rw[au,oA,bJ,lcs,WV];have a1:3 ^ t.tall<=3 ^ max t.tall (bJ ts):=YA (by decide) (Nat.le_max_left ..);have a2:3 ^ bJ ts<=3 ^ max t.tall (bJ ts):=YA (by decide) (Nat.le_max_right ..);have b1:3 ^ lc t<=3 ^ max (lc t) (lcs ts):=YA (by decide) (Nat.le_max_left ..);have b2:3 ^ lcs ts<=3 ^ max (lc t) (lcs ts):=YA (by decide) (Nat.le_max_right ..);have a3:ts.length * (3 ^ bJ ts - 1)<=ts.length * (3 ^ max t.tall (bJ ts) - 1):=Nat.mul_le_mul_left _ (by lia);have b3:ts.length * 3 ^ lcs ts<=ts.length * 3 ^ max (lc t) (lcs ts):=Nat.mul_le_mul_left _ b2;rw[Nat.add_mul,Nat.add_mul];lia
theorem mB{ks:List (W8×Int)}{S C:Int}(g:GoodN ks):∀ts:List Th,FitSs ks S C ts->lcs ts=0->oA ts=0
 | [],_,_=>by rw[oA]
 | t::ts,h,hz=>by
   rw[FitSs]at h;rw[lcs]at hz;have h1:=(jH g t h.1).2;rw[show lc t=0 by lia]at h1;rw[oA,mB g ts h.2 (by lia)];lia
end
theorem nH(f:Int->Int->Th)(ts:List Th):(fills f ts).length=ts.length:=by rw[dq,Wt]
mutual
theorem kB{ks:List (W8×Int)}{S C S' C':Int}(f:Int->Int->Th)(hf:∀s c,0<=s->s<S->0<=c->c<C->(f s c).FitS ks S' C'):∀t:Th,t.FitS ks S C->(t.fill f).FitS ks S' C'
 | .call s c,h=>by
   rw[I!]at h;rw[D!];exact hf s c h.1 h.2.1 h.2.2.1 h.2.2.2
 | .knot n ts,h=>by
   rw[I!]at h;rw[D!,I!,nH];exact{h.1,my f hf ts h.2}
theorem my{ks:List (W8×Int)}{S C S' C':Int}(f:Int->Int->Th)(hf:∀s c,0<=s->s<S->0<=c->c<C->(f s c).FitS ks S' C'):∀ts:List Th,FitSs ks S C ts->FitSs ks S' C' (fills f ts)
 | [],_=>by rw[fills,FitSs];trivial
 | t::ts,h=>by
   rw[FitSs]at h;rw[fills,FitSs];exact{kB f hf t h.1,my f hf ts h.2}
end
section
variable{mid:List (W8×Int)}{S1 S2:Int}{DJ DK:Th}{DL DM:List (List Th)}{So Sq Sr Ss Su Sv Sw:Nat}
end
end BB
namespace L2
open PySem PySem.Spec PySem.Calls PyProof.Rows
end L2
namespace BB
open PySem L2
section
variable{k0 k1 k2 k3:List (W8×Int)}{SA SB SC:Int}{a0 b0 c0:Th}{PH PJ PK:List (List Th)}
end
section
variable{mid:List (W8×Int)}{S1 S2:Int}{DJ DK:Th}{DL DM:List (List Th)}{So Sq Sr Ss Su Sv Sw:Nat}
end
theorem hid{G:Prop}(k:∀F:Prop,(G->F)->F):G:=k G id
inductive Ex1{A0:Type}(p:A0->Prop):Prop
 |mk (x0:A0) (h:p x0):Ex1 p
inductive Ex2{A0 A1:Type}(p:A0->A1->Prop):Prop
 |mk (x0:A0) (x1:A1) (h:p x0 x1):Ex2 p
inductive Ex3{A0 A1 A2:Type}(p:A0->A1->A2->Prop):Prop
 |mk (x0:A0) (x1:A1) (x2:A2) (h:p x0 x1 x2):Ex3 p
inductive Ex4{A0 A1 A2 A3:Type}(p:A0->A1->A2->A3->Prop):Prop
 |mk (x0:A0) (x1:A1) (x2:A2) (x3:A3) (h:p x0 x1 x2 x3):Ex4 p
inductive Ex5{A0 A1 A2 A3 A4:Type}(p:A0->A1->A2->A3->A4->Prop):Prop
 |mk (x0:A0) (x1:A1) (x2:A2) (x3:A3) (x4:A4) (h:p x0 x1 x2 x3 x4):Ex5 p
inductive Ex6{A0 A1 A2 A3 A4 A5:Type}(p:A0->A1->A2->A3->A4->A5->Prop):Prop
 |mk (x0:A0) (x1:A1) (x2:A2) (x3:A3) (x4:A4) (x5:A5) (h:p x0 x1 x2 x3 x4 x5):Ex6 p
inductive Ex7{A0 A1 A2 A3 A4 A5 A6:Type}(p:A0->A1->A2->A3->A4->A5->A6->Prop):Prop
 |mk (x0:A0) (x1:A1) (x2:A2) (x3:A3) (x4:A4) (x5:A5) (x6:A6) (h:p x0 x1 x2 x3 x4 x5 x6):Ex7 p
inductive Ex8{A0 A1 A2 A3 A4 A5 A6 A7:Type}(p:A0->A1->A2->A3->A4->A5->A6->A7->Prop):Prop
 |mk (x0:A0) (x1:A1) (x2:A2) (x3:A3) (x4:A4) (x5:A5) (x6:A6) (x7:A7) (h:p x0 x1 x2 x3 x4 x5 x6 x7):Ex8 p
inductive Ex9{A0 A1 A2 A3 A4 A5 A6 A7 A8:Type}(p:A0->A1->A2->A3->A4->A5->A6->A7->A8->Prop):Prop
 |mk (x0:A0) (x1:A1) (x2:A2) (x3:A3) (x4:A4) (x5:A5) (x6:A6) (x7:A7) (x8:A8) (h:p x0 x1 x2 x3 x4 x5 x6 x7 x8):Ex9 p
inductive xI{A0 A1 A2 A3 A4 A5 A6 A7 A8 A9:Type}(p:A0->A1->A2->A3->A4->A5->A6->A7->A8->A9->Prop):Prop
 |mk (x0:A0) (x1:A1) (x2:A2) (x3:A3) (x4:A4) (x5:A5) (x6:A6) (x7:A7) (x8:A8) (x9:A9) (h:p x0 x1 x2 x3 x4 x5 x6 x7 x8 x9):xI p
inductive An2(a0 a1:Prop):Prop
 |mk (h0:a0) (h1:a1):An2 a0 a1
inductive An3(a0 a1 a2:Prop):Prop
 |mk (h0:a0) (h1:a1) (h2:a2):An3 a0 a1 a2
inductive An4(a0 a1 a2 a3:Prop):Prop
 |mk (h0:a0) (h1:a1) (h2:a2) (h3:a3):An4 a0 a1 a2 a3
inductive An5(a0 a1 a2 a3 a4:Prop):Prop
 |mk (h0:a0) (h1:a1) (h2:a2) (h3:a3) (h4:a4):An5 a0 a1 a2 a3 a4
inductive An6(a0 a1 a2 a3 a4 a5:Prop):Prop
 |mk (h0:a0) (h1:a1) (h2:a2) (h3:a3) (h4:a4) (h5:a5):An6 a0 a1 a2 a3 a4 a5
inductive An7(a0 a1 a2 a3 a4 a5 a6:Prop):Prop
 |mk (h0:a0) (h1:a1) (h2:a2) (h3:a3) (h4:a4) (h5:a5) (h6:a6):An7 a0 a1 a2 a3 a4 a5 a6
inductive An8(a0 a1 a2 a3 a4 a5 a6 a7:Prop):Prop
 |mk (h0:a0) (h1:a1) (h2:a2) (h3:a3) (h4:a4) (h5:a5) (h6:a6) (h7:a7):An8 a0 a1 a2 a3 a4 a5 a6 a7
inductive An9(a0 a1 a2 a3 a4 a5 a6 a7 a8:Prop):Prop
 |mk (h0:a0) (h1:a1) (h2:a2) (h3:a3) (h4:a4) (h5:a5) (h6:a6) (h7:a7) (h8:a8):An9 a0 a1 a2 a3 a4 a5 a6 a7 a8
inductive wk(a0 a1 a2 a3 a4 a5 a6 a7 a8 a9 PL PM PN PQ:Prop):Prop
 |mk (h0:a0) (h1:a1) (h2:a2) (h3:a3) (h4:a4) (h5:a5) (h6:a6) (h7:a7) (h8:a8) (h9:a9) (VQ:PL) (VR:PM) (PR:PN) (VS:PQ):wk a0 a1 a2 a3 a4 a5 a6 a7 a8 a9 PL PM PN PQ
end BB
namespace L2
open PySem PySem.Spec PyProof.Rows
end L2
namespace BB
open PySem L2
section
variable{S:Int}{d:Nat}
end
end BB
namespace L2
open PySem PySem.Spec PyProof.Rows
def Thaws(H H1 H2:Hp):Prop:=∀b,H2 b=H1 b\/∃o u,H1 b=A? (.frz o u)/\H b=A? u/\H2 b=A? u
theorem Thaws.refl(H H1:Hp):Thaws H H1 H1:=λ_=>.inl rfl
theorem wF{o:Yw}{u:HO}(h:u=.frz o u):False:=by
 have:=h! sizeOf h;simp at this
theorem Inv.thaw{X:Cx}{zz:St}{s1:WH}(I:Inv X Y σ H s)(I1:Inv X Y zz H1 s1)(h:Thaws H H1 H2):Inv X Y zz H2 s1:=by
 have keep:∀b u,H1 b=A? u->(∀o v,u≠.frz o v)->H2 b=A? u:=λb u e n=>by
  rcases h b with z|⟨o,v,z,_⟩
  .rw[z];exact e
  .rw[e]at z;cases z;exact g! rfl (n o v)
 have non:∀b,H1 b=B?->H2 b=none:=λb e=>by
  rcases h b with z|⟨o,v,z,_⟩
  .rw[z];exact e
  .rw[e]at z;cases z
 have ht:∀b xs,H1 b=A? (.tup xs)->H2 b=A? (.tup xs):=λb xs e=>keep b _ e (λ_ _ z=>nomatch z);have hw:∀c b,H1 b=A? (.own c)->H2 b=A? (.own c):=λc b e=>keep b _ e (λ_ _ z=>nomatch z);refine{I1.ok,I1.os,I1.bare,{I1.base.keep,I1.base.slot,λb o e n x=>non b (I1.base.free b o e n x),I1.base.there,λb xs e=>ht b xs (I1.base.tups b xs e),λb o u e=>?_,λb ps e=>?_},I1.loc,I1.cell,non _ I1.free,λx c e=>non _ (I1.freeC x c e),λp hp=>?_,λb u e=>?_,I1.len}
 .have e1:=I1.base.frzs b o u e;have e2:=I.base.frzs b o u e;rcases h b with z|⟨o',v,z,z2,_⟩
  .rw[z];exact e1
  .rw[e1]at z;cases z;rw[e2]at z2;exact(wF (WN z2).symm).elim
 .obtain⟨more,e1⟩:=I1.base.tbls b ps e;exact{more,keep b _ e1 (λ_ _ z=>nomatch z)}
 .obtain⟨a1,a2,a3⟩:=I1.pin p hp;exact{a1,non _ a2,a3}
 .rcases h b with z|⟨o,v,z,_,z3⟩
  .rw[z]at e;exact(I1.hok b u e).stay (λ_ _ _ q=>q) (hw b) ht
  .rw[z3]at e;cases e;obtain⟨_,k⟩:=(show ObjOk X.prog X.w H1 s1.1 b (.frz o u)from I1.hok b _ z);exact k.stay (λ_ _ _ q=>q) (hw b) ht
def xY(t:TS):TS:=λD σ H=>t {D with nx:=λzz H1=>∃H2,Thaws H H1 H2/\D.nx zz H2} σ H
theorem gW{X:Cx}{t:TS}(h:PS X st t):PS X st (xY t):=λY s σ H D I q=>thn (h Y s σ H _ I q) λf s' r=>by
 cases f with
 | next =>
   obtain⟨zz,H1,I1,H2,th,q2⟩:=r;exact{zz,H2,I.thaw I1 th,q2}
 |brk=>exact r
 |cont=>exact r
 |ret u=>exact r
def sP(t:TE):TE:=λσ H Q=>t σ H λv H1=>∃H2,Thaws H H1 H2/\Q v H2
theorem eU:entryFor table "dict_itemiterator.__iter__"=A? Zx.«dict_keyiterator.__iter__»:=entryFor_alias (id':="dict_keyiterator.__iter__") (by kernel_rfl) rfl (by decide +kernel) (by kernel_rfl)
theorem Inv.freezeK{X:Cx}{kvs:List (Key×V)}{o:Yw}(I:Inv X Y σ H s)(ha:H a=A? (.dK kvs))(ho:s.1.get? a=A? o):Inv X Y σ (upd H a (.frz o (.dK kvs))) s:=by
 have ne:∀b u,H b=A? u->u≠.dK kvs->b≠a:=λb u e d z=>by rw[z,ha]at e;exact d (WN e).symm
 have ht:∀b xs,H b=A? (.tup xs)->upd H a (.frz o (.dK kvs)) b=A? (.tup xs):=λb xs e=>by rw[aj (ne b _ e (by intro z;cases z))];exact e
 have hw:∀c b,H b=A? (.own c)->upd H a (.frz o (.dK kvs)) b=A? (.own c):=λc b e=>by rw[aj (ne b _ e (by intro z;cases z))];exact e
 have st:∀b u,H b=A? u->ObjOk X.prog X.w (upd H a (.frz o (.dK kvs))) s.1 b u:=λb u e=>(I.hok b u e).stay (λ_ _ _ q=>q) (hw b) ht;refine I.step (g':=s.gens) (d':=s.drawn) (t':=s.toks) (ch:=[]) (λ_ z=>nomatch z) (λb ob _ _ _ e _=>e) (λb ob _ _ _ e _=>⟨ob.slots,e⟩) (λb ob _ e n=>?_) (λb ob _ e=>⟨ob,e⟩) ht (λb ob u e=>?_) (λb ps e=>{#[],?_}) (λm hm=>hm) (λb u e=>?_) I.bare
 .rw[aj (λz=>by rw[z,ha]at n;cases n)];exact n
 .rw[aj (ne b _ e (by intro z;cases z))];exact e
 .rw[aj (ne b _ e (by intro z;cases z)),e];simp
 .by_cases hb:b=a
  .subst hb;rw[af]at e;cases e;exact{ho,st _ _ ha}
  .rw[aj hb]at e;exact st b u e
theorem qR{o:Yw}{es:Array DictEntry}{kvs:List (Key×V)}(hd:o.data=.dict es ep)(k:ObjOk P w H h a (.frz o (.dK kvs))) :
 ∃vs,KV kvs vs/\h.DictAt (bD P w) a vs ep/\vs.length=kvs.length:=by
 obtain⟨e0,z,y,vs,rel,o',GV,GW,h1,h2,h3,h4⟩:=k;rw[e0]at h1;cases h1;rw[hd]at h3;cases h3;exact{vs,rel,⟨o,es,e0,h2,hd,h4⟩,(WS rel).symm}
theorem vx{k:Key}{v:WA}(h:(bD P w).is k v=C?):RelV (kV k) v:=by
 rcases bV h with⟨i,tk,e1,e2⟩|⟨x,tk,e1,e2⟩
 .rw[e1];exact⟨tk,e2⟩
 .rw[e1];exact⟨tk,e2⟩
def ItI(a:Wx)(o:Yw)(kvs:List (Key×V)):It :=
 {λi H=>H a=A? (.frz o (.dK kvs))/\i<kvs.length,
  λi H v H'=>∃p kv,H p=B?/\v=.ref p/\H'=upd H p (.tup [kV kv.1,kv.2])/\kvs[i]?=A? kv,
  λi H=>H a=A? (.frz o (.dK kvs))/\kvs.length<=i}
theorem qi{k1}(a it:Wx)(o:Yw)(es:Array DictEntry)(ep:Nat)(kvs:List (Key×V))(hd:o.data=.dict es ep) :
 Turn P w K (.Tuple elts k1 pos) (ItI a o kvs) [it] it (λi h=>∃ok ov,IsItemIter h it a i kvs.length ep ok ov) where
 mem:=by simp
 obj:=λi h st b hb=>by
  obtain⟨ok,ov,e⟩:=st;have eb:b=it:=by simpa using hb
  subst eb;exact{_,e,λv z=>by cases z}
 keep:=λi h h' st k=>by
  obtain⟨ok,ov,e⟩:=st;exact{ok,ov,k it (by simp) _ e}
 item:=by
  walk_at"aa";obtain⟨hq,yY⟩:=hg;obtain⟨ok,ov,hit⟩:=st;obtain⟨vs,rel,dat,hlen⟩:=qR hd (I.hok a _ hq);obtain⟨kv,An⟩:∃kv,kvs[i]?=A? kv:={_,Wv yY};obtain⟨xv,Sy,r1,r2⟩:=u! rel An;rw[<-hlen]at hit;have zV:it<s.1.1.size:=W6 hit;obtain⟨f0,f1,f2,f3,f4,f5⟩:=hf it (by simp);refine wpAny_pyNext_items_item hit dat (k:=xv.1) (v:=xv.2) Sy λkey h1 Bm Gd BM hsz DN=>?_;refine{_,E?,wpAny_letOwnedTupleGo_items Gd λh2 g1 sb=>?_};replace sb:X3 it h1 h2:=sb;have F0:H s.1.1.size=none:=I.hok.fresh (WD _)
  have IA:Inv X Y σ (upd H s.1.1.size (.tup [kV kv.1,kv.2])) {s with heap:=s.1.push {cls:=.type "tuple",data:=.seq #[key,xv.2]},toks:=s.toks} :=
   I.laid (o:=.tup [kV kv.1,kv.2]) (λb ob q=>WB _ q) (WD _) {by show 2<=W5;decide,[key,xv.2],0,.cons (by rw[r1];exact vx Bm) (.cons r2 .nil),WO _ rfl}
  refine{.ref s.1.1.size,upd H s.1.1.size (.tup [kV kv.1,kv.2]),?_,E?,{_,kv,F0,E?,E?,An},{_,_,by rw[<-hlen];exact g1},λc hc=>?_}
  .refine Inv.turnedL (s:={s with heap:=s.1.push {cls:=.type "tuple",data:=.seq #[key,xv.2]},toks:=s.toks}) (h':=h2) (fp:=[it]) (t':=s.toks) IA (λc oc hc q=>?_) λc hc=>?_
   .have n1:c≠it:=λe=>hc (by simp[e]);rw[sb.2 c n1];by_cases hb2:c=s.1.1.size
    .subst hb2;have q':(s.1.push {cls:=.type "tuple",data:=.seq #[key,xv.2]}).get? s.1.1.size=A? oc:=q;rw[WO _ rfl]at q';rw[<-q'];exact BM
    .have q':(s.1.push {cls:=.type "tuple",data:=.seq #[key,xv.2]}).get? c=A? oc:=q;rw[Heap.get?_push_ne _ _ _ hb2]at q';exact DN c oc n1 q'
   .have e:c=it:=by simpa using hc
    subst e;exact{by rw[aj (Xn zV)];exact f0,f1,f2,f3,f4,f5}
  .have e:c=it:=by simpa using hc
   subst e;rw[aj (Xn zV)];exact f0
 done:=by
  walk_at"aa";obtain⟨hq,G8⟩:=hg;obtain⟨ok,ov,hit⟩:=st;obtain⟨vs,rel,dat,hlen⟩:=qR hd (I.hok a _ hq);rw[<-hlen]at hit;obtain⟨f0,f1,f2,f3,f4,f5⟩:=hf it (by simp);exact wpAny_pyNext_items_end (I.ok.hd hc) hit dat (XJ (by lia)) λh' eb=>{rfl,I.turned (t':=s.toks) (λb ob hb e=>eb b ob hb e) f0 f1 f3 f4 f5}
 self:=by
  intro A i s Q E st h;obtain⟨ok,ov,e⟩:=st;have hT:s.TypeIs (.ref it) "dict_itemiterator":={_,e,rfl};refine wpAny_pyIter_slot hT ZK (XQ ZK hT eU ?_ (F.args_dict_itemiterator_iter_1 _));exact WC {_,rfl,"dict_itemiterator",_,hT,Yh.lookup,h}
section
variable{X:Cx}{e:XD}{te:TE}{apos zf:ZD}
def wB(tl:TE):TI:=λσ H R=>tl σ H λx H1=>∃a kvs,x=.ref a/\H1 a=A? (.dK kvs)/\∀o,R (ItI a o kvs) (upd H1 a (.frz o (.dK kvs)))
theorem kU{k1}(he:PE X e te)(Ax:attributeBase e "items" X.env (YC e X.env)=YC e X.env:=by rfl)(Ay:(apos.endLine == zf.line)=true:=by rfl) :
 PI X (.Tuple elts k1 pos) (.Call (.Attribute e "items" apos) [] [] zf) (wB te):=by
 intro Y s σ H R I h;refine wpAny_Call_method0_late Ax Ay (thn (he Y s σ H _ I h) λv s1⟨x,H1,I1,r1,a,kvs,ex,ha,q⟩=>?_);subst ex;cases r1;obtain⟨z,y,vs,rel,dd⟩:=(show ObjOk X.prog X.w H1 s1.1 a (.dK kvs)from I1.hok a _ ha);obtain⟨o,es,ep,h1,h2,h3,h4⟩:=id dd;have hlen:kvs.length=vs.length:=WS rel;have dat:s1.1.DictAt (bD X.prog X.w) a vs ep:=⟨o,es,h1,h2,h3,h4⟩;refine{"dict","dict.items",F.plainAttrs_dict,F.slot_dict_items,F.type_dict_items,dd.typeIs,dd.mapOf.noDict,?_};refine method_meetsIn F.slot_dict_items F.entry_dict_items rfl (PySem.evalArgs_none {rfl,dd.typeIs,F.args_dict_items_1 _,_,meets_dict_items (bD X.prog X.w) a y,⟨vs,dd⟩,?_});have I2:=I1.freezeK ha h1;refine wpAny_pyIter_items (kvs:=vs) (ep:=ep) {_,WO _ rfl,rfl,rfl} (dat.push _) ?_;generalize hN:((s1.1.push {cls:=.type "dict_items",data:=.fields #[.ref a]}).objs.size)=n;have hn:n=s1.1.1.size+1:=by rw[<-hN,XZ]
 have kept:∀b ob,s1.1.get? b=A? ob->((s1.1.push {cls:=.type "dict_items",data:=.fields #[.ref a]}).push {cls:=.type "dict_itemiterator",data:=.fields #[.none,.bool D?,.ref a,.int 0 0,.int vs.length 0,.int ep 0,.none,.none]}).get? b=A? ob:=λb ob e=>WB _ (WB _ e);have hz:s1.1.1.size<=n:=by lia
 refine{n,[n],_,_,upd H1 a (.frz o (.dK kvs)),E?,I2.kept (t':=s1.toks) kept,qi a n o es ep kvs h3,{.none,.none,?_},λb hb=>?_,q o}
 .rw[<-hN,hlen];exact WO _ rfl
 .have e:b=n:=by simpa using hb
  subst e;exact I2.fpOk hz (I2.hok.fresh hz)
theorem jv{o:Yw}{kvs:List (Key×V)}{g:TG}(Pv:Nat->St->Hp->Prop)(h0:Pv 0 σ H)(hl:∀i σ H,i<=kvs.length->Pv i σ H->H a=A? (.frz o (.dK kvs)))
 (hs:∀i kv p σ H,kvs[i]?=A? kv->H p=B?->Pv i σ H->g (.ref p) σ (upd H p (.tup [kV kv.1,kv.2])) λze H2=>tb {D with nx:=Pv (i+1),ct:=Pv (i+1),bk:=D.nx} ze H2) (hd:∀σ H,Pv kvs.length σ H->D.nx σ H) :
 ∃W:Nat->Nat->St->Hp->Prop,(∃m,W 0 m σ H)/\∀i m σ H,W i m σ H ->
   ((ItI a o kvs).stop i H/\D.nx σ H)\/((ItI a o kvs).go i H/\∃N:St->Hp->Prop,(∀i' H',N i' H'->∃m',m'<m/\W (i+1) m' i' H')/\∀x H',(ItI a o kvs).yld i H x H'->g x σ H' λze H2=>tb {D with nx:=N,ct:=N,bk:=D.nx} ze H2):=by
 refine{λi m σ H=>m=kvs.length - i/\i<=kvs.length/\Pv i σ H,{kvs.length,by simp,Xo _,h0},?_};rintro i m σ H ⟨rfl,hi,p⟩;have q:=hl i σ H hi p;by_cases yY:i<kvs.length
 .refine .inr {⟨q,yY⟩,Pv (i+1),λi' H' p'=>{kvs.length - (i+1),by lia,rfl,yY,p'},λx H' y=>?_};obtain⟨pa,kv,hp,rfl,rfl,An⟩:=y;exact hs i kv pa σ H An hp p
 .have e:i=kvs.length:=by lia
  subst e;exact .inl {{q,WD _},hd σ H p}
end
section
variable{X:Cx}{e:XD}{te:TE}{apos zf:ZD}
end
end L2
namespace PySem
open Sem (wp)
section
variable{od:Yw}{es:Array DictEntry}{ok ov:WA}
theorem bb_put{vs:Array WA}{x:WA}{Q:Unit->WH->Prop}(e:s.1.get? it=A? {cls:=.type "dict_itemiterator",dict:=B?,data:=.fields vs,slots:=#[]})(hj:j<vs.size)
 (k:∀h',h'.get? it=A? {cls:=.type "dict_itemiterator",dict:=B?,data:=.fields (vs.setIfInBounds j x),slots:=#[]}->X3 it s.1 h'->Q () {s with heap:=h'}):WZ (Xf prog w) A (setField (.ref it) j x) Q E s :=
 YN e hj λh' e' sb=>k h' e' sb
theorem bb_itemNextT{en:DictEntry}{Q:Option WA->WH->Prop}(g:IsItemIter s.1 it d i es.size ep ok ov)(g1:s.1.get? d=A? od)(g2:od.data=.dict es ep)(hx:es[i]?=A? en)
 (fin:∀h',IsItemIterOut h' it d (i+1) es.size ep en.key en.val s.1.1.size->h'.get? s.1.1.size=A? {cls:=.type "tuple",data:=.seq #[en.key,en.val]}->(∀b o,b≠it->s.1.get? b=A? o->h'.get? b=A? o)->Q (A? (.ref s.1.1.size)) {s with heap:=h'}) :
 WZ (Xf prog w) A (Zz (.ref it)) Q E s:=by
 obtain⟨h0,gn,dr,tk,os⟩:=s;have gT:Shared.TypeIs ⟨h0,gn,dr,tk,os⟩ (.ref it) "dict_itemiterator":={_,g,rfl};have own:Y2 "dict_itemiterator"=true:=by decide
 have lt:i<es.size:=(ZS.mp hx).1;have ee:es[i]=en:=(ZS.mp hx).2;have zV:it<h0.objs.size:=W6 g;unfold Zz;refine Wu (wpAny_attempt (XM (name:=WE "__next__") gT Yh (XQ Yh gT F.entry_dict_itemiterator_next ?_ (F.args_dict_itemiterator_next_1 _))));refine Wu (WC (Wu (Wu ?_)));first|refine Wu (Zy gT (WC ?_))|refine Wu (wpAny_typeNameOf_itemiter gT (WC ?_))
 refine Wu (wpAny_fieldsOf g rfl ?_);simp only[own,if_true];show WZ _ _ (if(Xs d == Yb)=C? then _ else _) _ _ _;rw[a! (show¬((Xs d == Yb)=C?)from W2)];refine Wu (WC (Wu (YZ g1 g2 ?_)));rw[a! (by simp)];refine Wu (WC (Wu (wpAny_dictEpoch g1 g2 ?_)));rw[a! (by simp)];refine WC ?_;simp only[show¬((i:Int)<0)from by lia,if_false,WU,Y7 lt];rw[ee];refine Wu ?_;first|refine Wu (Zy gT (WC ?_))|refine Wu (wpAny_typeNameOf_itemiter gT (WC ?_))
 refine Wu (wpAny_isOneOf_itemiter gT ?_);show WZ _ _ (setField (.ref it) 3 (YW ((i:Int)+1)) >>= _) _ _ _;refine Wu (bb_put g (by simp) λh1 e1 K7=>?_);replace K7:X3 it h0 h1:=K7
 replace e1:IsItemIter h1 it d (i+1) es.size ep ok ov:=by
  have e:((i+1:Nat):Int)=(i:Int)+1:=by lia
  unfold IsItemIter;rw[e];simpa[YW]using e1
 have PU:Shared.TypeIs ⟨h1,gn,dr,tk,os⟩ (.ref it) "dict_itemiterator":={_,e1,rfl};refine Wu (XU (Wu (wpAny_isOneOf_itemiter PU (Wu (wpAny_isOneOf_itemiter PU ?_)))));show WZ _ _ (Builtin.Dict_items.pairFromOwner (.ref it) 6 en.key en.val) _ _ ⟨h1,gn,dr,tk,os⟩;unfold Builtin.Dict_items.pairFromOwner;refine Wu (wpAny_newTuple ?_);have z1:h1.objs.size=h0.objs.size:=K7.1;have e2:IsItemIter (h1.push {cls:=.type "tuple",data:=.seq #[en.key,en.val]}) it d (i+1) es.size ep ok ov:=WB _ e1;have t2:(h1.push {cls:=.type "tuple",data:=.seq #[en.key,en.val]}).get? h0.objs.size=A? {cls:=.type "tuple",data:=.seq #[en.key,en.val]}:=by rw[<-z1];exact WO _ rfl
 have k2:∀b o,b≠it->h0.get? b=A? o->(h1.push {cls:=.type "tuple",data:=.seq #[en.key,en.val]}).get? b=A? o:=λb o hb q=>WB _ (K7.extBut b o hb q);rw[z1];generalize h1.push {cls:=.type "tuple",data:=.seq #[en.key,en.val]}=h2 at e2 t2 k2 |-;show WZ _ _ (Builtin.Dict_items.ownedTupleIsFree (.ref it) >>= _) _ _ ⟨h2,gn,dr,tk,os⟩;refine Wu ?_;unfold Builtin.Dict_items.ownedTupleIsFree;refine Wu (XG e2 rfl (x:=.none) rfl (WC ?_));simp only[if_true];refine Wu (XG e2 rfl (x:=ok) rfl (Wu (XG e2 rfl (x:=ov) rfl ?_)));refine Wu (bb_put e2 (by simp) λh3 e3 MV=>?_);replace MV:X3 it h2 h3:=MV;refine Wu (bb_put e3 (by simp) λh4 e4 DO=>?_);replace DO:X3 it h3 h4:=DO;refine Wu (bb_put e4 (by simp) λh5 e5 G9=>?_);replace G9:X3 it h4 h5:=G9;refine Wu (bb_put e5 (by simp) λh6 e6 MW=>?_);replace MW:X3 it h5 h6:=MW;have up:∀b o,b≠it->h2.get? b=A? o->h6.get? b=A? o:=λb o hb q=>MW.extBut b o hb (G9.extBut b o hb (DO.extBut b o hb (MV.extBut b o hb q)));exact Wu (Zl (WC (WC {_,rfl,WC (fin h6 (by unfold IsItemIterOut;simpa[YW]using e6) (up _ _ (Zv zV) t2) λb o hb q=>up b o hb (k2 b o hb q))})))
theorem bb_itemEndT{Q:Option WA->WH->Prop}(calm:A.handled=B?)(g:IsItemIter s.1 it d i es.size ep ok ov)(g1:s.1.get? d=A? od)(g2:od.data=.dict es ep)(hx:es.size<=i)
 (fin:∀h',Heap.ExtBut it s.1 h'->Q B? {s with heap:=h'}):WZ (Xf prog w) A (Zz (.ref it)) Q E s:=by
 have gT:s.TypeIs (.ref it) "dict_itemiterator":={_,g,rfl};have own:Y2 "dict_itemiterator"=true:=by decide
 unfold Zz;refine Wu (wpAny_attempt (XM (name:=WE "__next__") gT Yh (XQ Yh gT F.entry_dict_itemiterator_next ?_ (F.args_dict_itemiterator_next_1 _))));refine Wu (WC (Wu (Wu ?_)));first|refine Wu (Zy gT (WC ?_))|refine Wu (wpAny_typeNameOf_itemiter gT (WC ?_))
 refine Wu (wpAny_fieldsOf g rfl ?_);simp only[own,if_true];show WZ _ _ (if(Xs d == Yb)=C? then _ else _) _ _ s;rw[a! (show¬((Xs d == Yb)=C?)from W2)];refine Wu (WC (Wu (YZ g1 g2 ?_)));rw[a! (by simp)];refine Wu (WC (Wu (wpAny_dictEpoch g1 g2 ?_)));rw[a! (by simp)];refine WC ?_;simp only[show¬((i:Int)<0)from by lia,if_false,WU,Array.getElem?_eq_none hx];refine Wu ?_;first|refine Wu (Zy gT (WC ?_))|refine Wu (wpAny_typeNameOf_itemiter gT (WC ?_))
 show WZ _ _ (setField (.ref it) 2 .none >>= _) _ _ s;refine Wu (wpAny_setField g rfl (by simp) ?_);walk_at"ac";rw[show A.in1.handled=B? from calm];refine Wu (WC (wpAny_throw ?_));refine Wu (wpAny_isInstance (T:="StopIteration") (b:=C?) {_,WO _ rfl,rfl} isSubtype_stop ?_);exact WC (fin _ (((Yd ..).extBut.push _).push _))
theorem bb_itemsT(ns:(d == Yo)=D?)(gT:s.TypeIs (.ref d) "dict")(fin:Q (.ref s.1.1.size) {s with heap:=s.1.push {cls:=.type "dict_items",data:=.fields #[.ref d]}}):WZ (Xf prog w) A (call (.builtin "dict.items") [.ref d]) Q E s:=by
 refine XQ F.slot_dict_items gT F.entry_dict_items ?_ (F.args_dict_items_1 _);unfold Zx.«dict.items»;refine Wu ?_;unfold Builtin.Dict.noArgs;refine Wu (wpAny_notOrdered_dict gT ?_);show WZ _ _ (pure d) _ _ s;refine WC ?_;show WZ _ _ (Builtin.Dict.showsAll d >>= _) _ _ s;unfold Builtin.Dict.showsAll;rw[a! (by rw[ns];exact W2)];exact Wu (WC (Wu (XC (WC {_,rfl,fin}))))
theorem bb_itemsIterT{v:Wx}(hv:s.1.IsItemsView v d)(g1:s.1.get? d=A? od)(g2:od.data=.dict es ep)
 (fin:Q (.ref s.1.1.size) {s with heap:=s.1.push {cls:=.type "dict_itemiterator",data:=.fields #[.none,.bool D?,.ref d,.int 0 0,.int es.size 0,.int ep 0,.none,.none]}}):WZ (Xf prog w) A (pyIter (.ref v)) Q E s:=by
 obtain⟨o,e1,e2,e3⟩:=id hv;have own:Y2 "dict_itemiterator"=true:=by decide
 refine wpAny_pyIter_slot hv.typeIs F.slot_dict_items_iter (XQ F.slot_dict_items_iter hv.typeIs F.entry_dict_items_iter ?_ (F.args_dict_items_iter_1 _));unfold Zx.«dict_items.__iter__»;refine Wu (WC (Wu ?_));unfold Builtin.Dict_items.dictOf;refine Wu (XG e1 e3 (x:=.ref d) rfl (WC ?_));refine Wu ?_;unfold Builtin.Dict_items.newIterator;refine Wu (YZ g1 g2 (Wu (wpAny_dictEpoch g1 g2 ?_)));simp only[own,if_true];refine XC (WC {_,rfl,"dict_itemiterator",_,{_,WO _ rfl,rfl},Yh.lookup,?_}) (by simp only[sizeOk,Builtin.Dict_items.ownedTupleFields,WT,WL,WV,ZC,ZX];lia);simpa[YW,Builtin.Dict_items.ownedTupleFields]using fin
end
end PySem
namespace L2
open PySem PySem.Spec PyProof.Rows
def tJ(a:Wx)(o:Yw)(kvs:List (List Key×V)):It :=
 {λi H=>H a=A? (.frz o (.dT kvs))/\i<kvs.length,
  λi H v H'=>∃p b kv,H p=B?/\v=.ref p/\H'=upd H p (.tup [.ref b,kv.2])/\kvs[i]?=A? kv/\H b=A? (.tup (kv.1.map kV)),
  λi H=>H a=A? (.frz o (.dT kvs))/\kvs.length<=i}
theorem ou{k1}(a it:Wx)(o:Yw)(es:Array DictEntry)(ep:Nat)(kvs:List (List Key×V))(hd:o.data=.dict es ep) :
 Turn P w K (.Tuple elts k1 pos) (tJ a o kvs) [it] it (λi h=>∃ok ov,IsItemIter h it a i es.size ep ok ov) where
 mem:=by simp
 obj:=λi h st b hb=>by
  obtain⟨ok,ov,e⟩:=st;have eb:b=it:=by simpa using hb
  subst eb;exact{_,e,λv z=>by cases z}
 keep:=λi h h' st k=>by
  obtain⟨ok,ov,e⟩:=st;exact{ok,ov,k it (by simp) _ e}
 item:=by
  walk_at"aa";obtain⟨hq,yY⟩:=hg;obtain⟨ok,ov,hit⟩:=st;obtain⟨e0,z,y,xs,r,o',GV,GW,h1,h2,h3,h4,h5⟩:=(show ObjOk X.prog X.w H s.1 a (.frz o (.dT kvs))from I.hok a _ hq);rw[e0]at h1;cases h1;rw[hd]at h3;cases h3;obtain⟨kv,An⟩:∃kv,kvs[i]?=A? kv:={_,Wv yY};obtain⟨q',AE,hr⟩:=u! r An;have Ej:es[i]?=A? (entryOfKey (tupleKind (bD X.prog X.w)) q'):=by rw[<-ZH,h4,Wz,AE];rfl
  have zV:it<s.1.1.size:=W6 hit;obtain⟨f0,f1,f2,f3,f4,f5⟩:=hf it (by simp);refine bb_itemNextT hit e0 hd Ej λh1 Gd BM DN=>?_;refine{_,E?,wpAny_letOwnedTupleGo_items Gd λh2 g1 sb=>?_};replace sb:X3 it h1 h2:=sb;have F0:H s.1.1.size=none:=I.hok.fresh (WD _)
  have IA:Inv X Y σ (upd H s.1.1.size (.tup [.ref q'.2.1,kv.2])) {s with heap:=s.1.push {cls:=.type "tuple",data:=.seq #[.ref q'.2.1,q'.2.2]},toks:=s.toks} :=
   I.laid (o:=.tup [.ref q'.2.1,kv.2]) (λb ob q=>WB _ q) (WD _) {by show 2<=W5;decide,[.ref q'.2.1,q'.2.2],0,.cons rfl (.cons hr.2.2 .nil),WO _ rfl}
  refine{.ref s.1.1.size,upd H s.1.1.size (.tup [.ref q'.2.1,kv.2]),?_,E?,{_,q'.2.1,kv,F0,E?,E?,An,hr.2.1},{_,_,g1},λc hc=>?_}
  .refine Inv.turnedL (s:={s with heap:=s.1.push {cls:=.type "tuple",data:=.seq #[.ref q'.2.1,q'.2.2]},toks:=s.toks}) (h':=h2) (fp:=[it]) (t':=s.toks) IA (λc oc hc q=>?_) λc hc=>?_
   .have n1:c≠it:=λe=>hc (by simp[e]);rw[sb.2 c n1];by_cases hb2:c=s.1.1.size
    .subst hb2;have q2:(s.1.push {cls:=.type "tuple",data:=.seq #[.ref q'.2.1,q'.2.2]}).get? s.1.1.size=A? oc:=q;rw[WO _ rfl]at q2;rw[<-q2];exact BM
    .have q2:(s.1.push {cls:=.type "tuple",data:=.seq #[.ref q'.2.1,q'.2.2]}).get? c=A? oc:=q;rw[Heap.get?_push_ne _ _ _ hb2]at q2;exact DN c oc n1 q2
   .have e:c=it:=by simpa using hc
    subst e;exact{by rw[aj (Xn zV)];exact f0,f1,f2,f3,f4,f5}
  .have e:c=it:=by simpa using hc
   subst e;rw[aj (Xn zV)];exact f0
 done:=by
  walk_at"aa";obtain⟨hq,G8⟩:=hg;obtain⟨ok,ov,hit⟩:=st;obtain⟨e0,z,y,xs,r,o',GV,GW,h1,h2,h3,h4,h5⟩:=(show ObjOk X.prog X.w H s.1 a (.frz o (.dT kvs))from I.hok a _ hq);rw[e0]at h1;cases h1;rw[hd]at h3;cases h3;have hl:=WS r
  have Aa:es.size=xs.length:=by
   have:=h! X9 h4;rw[Wt,Xi]at this;exact this
  obtain⟨f0,f1,f2,f3,f4,f5⟩:=hf it (by simp);exact bb_itemEndT (I.ok.hd hc) hit e0 hd (by lia) λh' eb=>{rfl,I.turned (t':=s.toks) (λb ob hb e=>eb b ob hb e) f0 f1 f3 f4 f5}
 self:=by
  intro A i s Q E st h;obtain⟨ok,ov,e⟩:=st;have hT:s.TypeIs (.ref it) "dict_itemiterator":={_,e,rfl};refine wpAny_pyIter_slot hT ZK (XQ ZK hT eU ?_ (F.args_dict_itemiterator_iter_1 _));exact WC {_,rfl,"dict_itemiterator",_,hT,Yh.lookup,h}
section
variable{X:Cx}{e:XD}{te:TE}{apos zf:ZD}
def qx(tl:TE):TI:=λσ H R=>tl σ H λx H1=>∃a kvs,x=.ref a/\H1 a=A? (.dT kvs)/\∀o,R (tJ a o kvs) (upd H1 a (.frz o (.dT kvs)))
theorem jz{k1}(he:PE X e te)(Ax:attributeBase e "items" X.env (YC e X.env)=YC e X.env:=by rfl)(Ay:(apos.endLine == zf.line)=true:=by rfl) :
 PI X (.Tuple elts k1 pos) (.Call (.Attribute e "items" apos) [] [] zf) (qx te):=by
 intro Y s σ H R I h;refine wpAny_Call_method0_late Ax Ay (thn (he Y s σ H _ I h) λv s1⟨x,H1,I1,r1,a,kvs,ex,ha,q⟩=>?_);subst ex;cases r1;obtain⟨z,y,xs,r,dd⟩:=(show ObjOk X.prog X.w H1 s1.1 a (.dT kvs)from I1.hok a _ ha);obtain⟨o,es,ep,h1,h2,h3,h4,h5⟩:=id dd;have gT:s1.TypeIs (.ref a) "dict":={_,h1,h2.1};refine{"dict","dict.items",F.plainAttrs_dict,F.slot_dict_items,F.type_dict_items,gT,λc e=>by cases e;exact{_,h1,h2.2.1},?_};refine Calls.callWith_builtin rfl (PySem.evalArgs_none (bb_itemsT y gT ?_));have I2:=I1.freeze ha h1;refine bb_itemsIterT (d:=a) (od:=o) (es:=es) (ep:=ep) {_,WO _ rfl,rfl,rfl} (WB _ h1) h3 ?_;generalize hN:((s1.1.push {cls:=.type "dict_items",data:=.fields #[.ref a]}).objs.size)=n;have hn:n=s1.1.1.size+1:=by rw[<-hN,XZ]
 have hz:s1.1.1.size<=n:=by lia
 refine{n,[n],_,_,upd H1 a (.frz o (.dT kvs)),E?,I2.kept (t':=s1.toks) (λb ob e=>WB _ (WB _ e)),ou a n o es ep kvs h3,{.none,.none,?_},λb hb=>?_,q o}
 .rw[<-hN];exact WO _ rfl
 .have e:b=n:=by simpa using hb
  subst e;exact I2.fpOk hz (I2.hok.fresh hz)
end
section
variable{X:Cx}{e1 e2:XD}{t:TA}{p2 zq:ZD}
end
section
variable{X:Cx}
end
end L2
namespace BB
open PySem L2
def ky(c:Int×Int):List Key:=[Xh c.1,Xh c.2]
theorem no{a b:Int×Int}(h:ky a=ky b):a=b:=by
 obtain⟨a1,a2⟩:=a;obtain⟨b1,b2⟩:=b;simp only[ky,List.cons.injEq,Sum.inl.injEq,and_true]at h;rw[h.1,h.2]
abbrev CLs:=List ((Int×Int)×Int)
def dE(es:CLs):List (List Key×V):=es.map λe=>(ky e.1,o! e.2)
def dS(es:CLs)(k:Int×Int)(v:Int):CLs:=if k∈es.map (·.1)then es.map (λe=>if e.1=k then(e.1,v)else e)else es++[(k,v)]
def cQ:CLs->Int×Int->Option Int
 | [],_=>B?
 |e::es,k=>if e.1=k then A? e.2 else cQ es k
theorem fU(k:Int×Int):∀es:CLs,bC (dE es) (ky k)=(cQ es k).map o!
 | []=>rfl
 | e::es=>by
   show bC ((ky e.1,o! e.2)::dE es) (ky k)=_;rw[cQ];by_cases h:e.1=k
   .rw[b! h,ck (by rw[h])];rfl
   .rw[a! h,cj (λz=>h (no z)),fU k es]
theorem wW(k:Int×Int)(es:CLs):((dE es).any λkv=>decide (kv.1=ky k))=decide (k∈es.map (·.1)):=by
 rw[Bool.eq_iff_iff,List.any_eq_true,decide_eq_true_iff];constructor
 .rintro⟨x,hx,hk⟩;obtain⟨e,he,rfl⟩:=WY.mp hx;exact WY.mpr {e,he,no (e! hk)}
 .intro h;obtain⟨e,he,rfl⟩:=WY.mp h;exact{_,WY.mpr ⟨e,he,E?⟩,d! rfl}
theorem kf(es:CLs)(k:Int×Int)(v:Int):putK (dE es) (ky k) (.int v)=dE (dS es k v):=by
 unfold putK dS;rw[wW];by_cases h:k∈es.map (·.1)
 .rw[b! (d! h),b! h];unfold dE;rw[Xg,Xg];refine List.map_congr_left λe he=>?_;simp only[Function.comp];by_cases g:e.1=k
  .rw[b! (by rw[g]),b! g]
  .rw[a! (λz=>g (no z)),a! g]
 .rw[a! (λz=>h (e! z)),a! h];unfold dE;rw[W3];rfl
theorem gK{es:CLs}{k:Int×Int}{v:Int}(h:cQ es k=A? v):(k,v)∈es:=by
 induction es with
 |nil=>cases h
 | cons e es ih =>
   rw[cQ]at h;by_cases g:e.1=k
   .rw[b! g]at h;cases h;rw[<-g];exact WM ..
   .rw[a! g]at h;exact WR _ (ih h)
theorem rA{es:CLs}{k:Int×Int}(h:cQ es k=B?):k∉es.map (·.1):=by
 induction es with
 |nil=>intro z;cases z
 | cons e es ih =>
   rw[cQ]at h;by_cases g:e.1=k
   .rw[b! g]at h;cases h
   .rw[a! g]at h;intro z;rcases WW.mp z with z|z
    .exact g z.symm
    .exact ih h z
theorem uG{es:CLs}(nd:(es.map (·.1)).Nodup){e:(Int×Int)×Int}(h:e∈es):cQ es e.1=A? e.2:=by
 induction es with
 |nil=>cases h
 | cons x es ih =>
   rw[W9,XH]at nd;rw[cQ];rcases WW.mp h with rfl|h
   .rw[b! rfl]
   .rw[a! (λz=>nd.1 (by rw[z];exact WY.mpr ⟨e,h,rfl⟩))];exact ih nd.2 h
theorem rZ(es:CLs)(k:Int×Int)(v:Int):(dS es k v).map (·.1)=if k∈es.map (·.1)then es.map (·.1)else es.map (·.1)++[k]:=by
 unfold dS;by_cases h:k∈es.map (·.1)
 .rw[b! h,b! h,Xg];refine List.map_congr_left λe he=>?_;simp only[Function.comp];by_cases g:e.1=k
  .rw[b! g]
  .rw[a! g]
 .rw[a! h,a! h,W3];rfl
theorem lu{es:CLs}(nd:(es.map (·.1)).Nodup)(k:Int×Int)(v:Int):((dS es k v).map (·.1)).Nodup:=by
 rw[rZ];by_cases h:k∈es.map (·.1)
 .rw[b! h];exact nd
 .rw[a! h,Yc];refine{nd,by simp,λa ha b hb=>?_};rw[WG.mp hb];exactλz=>h (z ▸ ha)
theorem iY{es:CLs}{k:Int×Int}{v:Int}{e:(Int×Int)×Int}(h:e∈dS es k v):e=(k,v)\/(e∈es/\e.1≠k):=by
 unfold dS at h;by_cases g:k∈es.map (·.1)
 .rw[b! g]at h;obtain⟨x,hx,rfl⟩:=WY.mp h;by_cases e:x.1=k
  .rw[b! e,e];exact .inl rfl
  .rw[a! e];exact .inr ⟨hx,e⟩
 .rw[a! g]at h;rcases WQ.mp h with h|h
  .exact .inr {h,λz=>g (z ▸ WY.mpr ⟨e,h,rfl⟩)}
  .exact .inl (WG.mp h)
theorem tT(es:CLs)(k:Int×Int)(v:Int):(k,v)∈dS es k v:=by
 unfold dS;by_cases g:k∈es.map (·.1)
 .rw[b! g];obtain⟨x,hx,hk⟩:=WY.mp g;exact WY.mpr {x,hx,by rw[b! hk,hk]}
 .rw[a! g];exact Xc _ (WG.mpr rfl)
theorem rF{es:CLs}{k:Int×Int}{v:Int}{e:(Int×Int)×Int}(h:e∈es)(hk:e.1≠k):e∈dS es k v:=by
 unfold dS;by_cases g:k∈es.map (·.1)
 .rw[b! g];exact WY.mpr {e,h,a! hk}
 .rw[a! g];exact WX _ h
theorem lf(es:CLs)(k:Int×Int)(v:Int):(dS es k v).length<=es.length+1:=by
 unfold dS;split
 .rw[Wt];lia
 .rw[WL];exact WD _
end BB
variable{es:BB.CLs}
namespace BB
open PySem L2
def FrB(S:List Wx)(H H':Hp):Prop:=∀b o,b∉S->H b=A? o->H' b=A? o
theorem FrB.refl:FrB S H H:=λ_ _ _ e=>e
theorem FrB.of(h:k! H H'):FrB S H H':=λb o _ e=>h b o e
theorem FrB.trans{A B C:Hp}(h:FrB S A B)(k:FrB S B C):FrB S A C:=λb o hb e=>k b o hb (h b o hb e)
theorem FrB.more{R:List Wx}{A B:Hp}(h:FrB S A B)(k:∀b∈S,b∈R):FrB R A B:=λb o hb e=>h b o (λz=>hb (k b z)) e
theorem FrB.set(h:a∈S):FrB S H (upd H a o):=λb u hb e=>by rw[aj (show b≠a fromλz=>hb (by rw[z];exact h))];exact e
theorem fC:∀{l m:List α},l.Nodup->(∀a∈l,a∈m)->l.length<=m.length
 | [],m,_,_=>Xo _
 | a::l,m,h,hs=>by
   rw[XH]at h;obtain⟨m1,m2,rfl⟩:=List.append_of_mem (hs a (WM ..))
   have:l.length<=(m1++m2).length:=fC h.2 λb hb=>by
    rcases WQ.mp (hs b (WR _ hb))with z|z
    .exact WX _ z
    .rcases WW.mp z with z|z
     .exact g! (z ▸ hb) h.1
     .exact Xc _ z
   rw[WL,WV]at*;rw[WV];lia
end BB
open BB.FrB renaming of->K!,set->N!
namespace L2
open PySem
theorem tq{g:TG}(Pv:Nat->St->Hp->Prop)(h0:Pv 0 σ H)(hl:∀i σ H,i<=xs.length->Pv i σ H->SqT K H a xs)
 (hs:∀i x p σ H,xs[i]?=A? x->H p=B?->Pv i σ H->g (.ref p) σ (upd H p (.tup [.int (i:Nat),x])) λze H2=>tb {D with nx:=Pv (i+1),ct:=Pv (i+1),bk:=D.nx} ze H2) (hd:∀σ H,Pv xs.length σ H->D.nx σ H) :
 ∃W:Nat->Nat->St->Hp->Prop,(∃m,W 0 m σ H)/\∀i m σ H,W i m σ H ->
   ((Ite K a).stop i H/\D.nx σ H)\/((Ite K a).go i H/\∃N:St->Hp->Prop,(∀i' H',N i' H'->∃m',m'<m/\W (i+1) m' i' H')/\∀x H',(Ite K a).yld i H x H'->g x σ H' λze H2=>tb {D with nx:=N,ct:=N,bk:=D.nx} ze H2):=by
 refine{λi m σ H=>m=xs.length - i/\i<=xs.length/\Pv i σ H,{xs.length,by simp,Xo _,h0},?_};rintro i m σ H ⟨rfl,hi,p⟩;have q:=hl i σ H hi p;by_cases yY:i<xs.length
 .refine .inr {{xs,xs[i],q,by simp[yY]},Pv (i+1),λi' H' p'=>{xs.length - (i+1),by lia,rfl,yY,p'},λx H' y=>?_};obtain⟨pa,y,hp,rfl,rfl,hy⟩:=y;exact hs i y pa σ H (hy xs q) hp p
 .have e:i=xs.length:=by lia
  subst e;exact .inl {⟨xs,q,rfl⟩,hd σ H p}
end L2
namespace BB
open PySem L2
theorem nw[DecidableEq κ]{kvs:List (κ×V)}{k:κ}(h:bC kvs k=A? v):(k,v)∈kvs:=by
 induction kvs with
 |nil=>cases h
 | cons p r ih =>
   by_cases e:p.1=k
   .rw[ck e]at h;cases h;rw[<-e];exact WM ..
   .rw[cj e]at h;exact WR _ (ih h)
theorem map_set(f:α->β){l:List α}{a b:α}(h:l[i]?=A? a)(e:f b=f a):(l.set i b).map f=l.map f:=by
 rw[List.map_set];refine YH λj=>?_;rw[List.getElem?_set];split
 .rename_i z
  subst z;rw[Wt,b! (glE h),Wz,h,e];rfl
 .rfl
theorem mem_set{l:List α}{b x:α}(h:x∈l.set i b):x=b\/∃j,j≠i/\l[j]?=A? x:=by
 obtain⟨j,hj⟩:=WK.mp h;rw[List.getElem?_set]at hj;split at hj
 .split at hj
  .exact .inl (WN hj).symm
  .cases hj
 .rename_i z
  exact .inr {j,λe=>z e.symm,hj}
section
variable{Dp:DP}{ok:Th->Prop}{L:Lv}{n:Nd}{B:Lv}{Hg:Hp}{B':Lv}{sp:List (Key×V)}
end
theorem Ats.get'{ts:List Th}(h:Ats H ts as){t:Th}(hi:ts[i]?=A? t):∃a,as[i]?=A? a/\At H t a:=by
 have hl:=h.length;have yY:=(glE hi);obtain⟨a,ha⟩:∃a,as[i]?=A? a:={_,Wv (by lia)};obtain⟨t',ht,hA⟩:=h.get ha;rw[hi]at ht;cases ht;exact⟨a,ha,hA⟩
section
variable{Dp:DP}{ok:Th->Prop}{H0:Hp}{L B:Lv}{L' B':Lv}
end
theorem jk:∀(n:Nat)(ts:List Th),au ts<=n->∀(i:Nat)(p:Th),(walks ts)[i]?=A? p->∃rest,(walks ts).drop i=p.walk++rest
 |_,[],_,i,p,h=>by cases h
 | 0,t::ts,hn,i,p,h=>by
   have:=t.size_pos;rw[au]at hn;lia
 | n+1,t::ts,hn,i,p,h=>by
   rw[au]at hn;rw[walks]at h |-;by_cases hi:i<t.walk.length
   .rw[Xk hi]at h;rw[List.drop_append_of_le_length (Yj hi)];rw[t.walk_eq]at h |-;cases i with
    | zero =>
      cases h;rw[ZR,<-t.walk_eq];exact{_,E?}
    | succ i =>
      rw[List.getElem?_cons_succ]at h;rw[List.drop_succ_cons];have hk:au t.kids<=n:=by have:=t.size_eq;lia
      obtain⟨r,hr⟩:=jk n t.kids hk i p h;exact{r++walks ts,by rw[hr,Zf]}
   .rw[Xu (by lia)]at h;have:=t.size_pos;obtain⟨r,hr⟩:=jk n ts (by lia) _ p h;refine{r,?_};rw[List.drop_append,List.drop_eq_nil_of_le (by lia),List.nil_append];exact hr
theorem uW(g:Int->Int->Th)(t:Th)(h:t.walk[i]?=A? p):∃S,bl ((t.walk.map (di g)).drop i)=p.fill g::S:=by
 have e:walks [t]=t.walk:=by simp[walks]
 obtain⟨r,hr⟩:=jk _ [t] (WD _) i p (by rw[e];exact h);rw[e]at hr;rw[<-List.map_drop,hr,W3];have h2:=(i5 g _ [p] (WD _) (r.map (di g))).1;have e2:walks [p]=p.walk:=by simp[walks]
 rw[e2]at h2;exact{_,h2}
end BB
namespace L2
open PySem
end L2
namespace BB
open PySem L2
end BB
namespace L2
open PySem PySem.Spec PyProof.Rows PySem.W
end L2
namespace BB
open PySem L2
end BB
namespace L2
open PySem PySem.Spec PySem.Calls PyProof.Rows PySem.W
theorem Fun.okT1{k:Nat}(F:Fun K x qual st f fd)(hc:fd.code=.ref c)(S:b7 N ps (aE st))(len:∀vs H Q E,sp vs H Q E->vs.length=ps.length)
 (zH:∀(A:Xv)(outer:List Env)(s:WH)(H:Hp)(vs:List V)(Q:VK)(E:XK),Room k (A.deeper (Zp qual (aE st) s.1.1.size f (.ref c)))->sp vs H Q E ->
  ∃t,PSs (j2 (CX1 P w) P w K mg base N qual (aE st) f (.ref c) A outer s H E) (b8 st) t/\t {nx:=λ_ H'=>Q .non H',rt:=Q} (start N vs) H):bv P w K mg base (CX1 P w) (k+1) f fd ps sp:=by
 obtain⟨oc,od,kV,doc,pm,an,y9,ct,Ed,rfl,lk,AO⟩:=F.ex;have zT:y9=.ref c:=hc;subst zT;exact t7 lk AO S len λA outer s H vs Q E hr AQ=>zH A outer s H vs Q E hr AQ
end L2
namespace BB
open PySem L2
theorem cy(n:Nat):((2 ^ n:Nat):Int)=2 ^ n:=by exact_mod_cast rfl
def bt(x:Int)(i:Nat):Bool:=x.toNat.testBit i
theorem vd{x y:Int}(hx:0<=x)(hy:0<=y):XO x y=((x.toNat &&& y.toNat:Nat):Int):=by
 unfold XO;rw[d! hx,d! hy]
theorem mX(x:Int):X8 (X8 x)=x:=by unfold X8;lia
theorem xf{x y:Int}(hx:0<=x)(hy:0<=y):YT x y=((x.toNat |||y.toNat:Nat):Int):=by
 have h1:¬0<=X8 x:=by unfold X8;lia
 have h2:¬0<=X8 y:=by unfold X8;lia
 unfold YT XO;rw[c! h1,c! h2];dsimp only;rw[mX,mX,mX]
theorem wL{x y:Int}(hx:0<=x)(hy:0<=y):0<=XO x y/\∀i,bt (XO x y) i=(bt x i && bt y i):=by
 rw[vd hx hy];refine{Int.natCast_nonneg _,λi=>?_};unfold bt;rw[WU,Nat.testBit_and]
theorem vR{x y:Int}(hx:0<=x)(hy:0<=y)(lx:x<2 ^ n)(ly:y<2 ^ n):0<=YT x y/\YT x y<2 ^ n/\∀i,bt (YT x y) i=(bt x i ||bt y i):=by
 rw[xf hx hy];refine{Int.natCast_nonneg _,?_,λi=>?_}
 .have:=Nat.or_lt_two_pow (x:=x.toNat) (y:=y.toNat) (n:=n) (by have:=cy n;lia) (by have:=cy n;lia)
  exact_mod_cast this
 .unfold bt;rw[WU,Nat.testBit_or]
def ones(n:Nat):Int:=2 ^ n - 1
theorem qZ(n:Nat):0<=ones n:=by
 have:=Nat.two_pow_pos n;have:=cy n;unfold ones;lia
theorem uX(n i:Nat):bt (ones n) i=decide (i<n):=by
 have h0:=Nat.two_pow_pos n
 have e:(ones n).toNat=2 ^ n - 1:=by
  have:=cy n;unfold ones;lia
 unfold bt;rw[e,Nat.testBit_two_pow_sub_one]
theorem pV(n i:Nat):bt (1 * 2 ^ (n:Int).toNat) i=decide (n=i):=by
 rw[Int.one_mul,WU,<-cy];unfold bt;rw[WU,Nat.testBit_two_pow]
theorem vi{y:Int}(hy:0<=y)(ly:y<2 ^ n):0<=XO (ones n) (X8 y)/\∀i,bt (XO (ones n) (X8 y)) i=(decide (i<n) && !bt y i):=by
 have h0:=Nat.two_pow_pos n;have hc:=cy n;have PV:y.toNat<2 ^ n:=by lia
 have e:(ones n).toNat=2 ^ n - 1:=by unfold ones;lia
 have h2:¬0<=X8 y:=by unfold X8;lia
 have e2:XO (ones n) (X8 y)=((2 ^ n - (y.toNat+1):Nat):Int):=by
  unfold XO;rw[d! (qZ n),c! h2];dsimp only;rw[mX,e,Nat.and_comm,Nat.and_two_pow_sub_one_eq_mod,Nat.mod_eq_of_lt PV];unfold ones;lia
 rw[e2];refine{Int.natCast_nonneg _,λi=>?_};unfold bt;rw[WU,Nat.testBit_two_pow_sub_succ PV]
theorem nX(i:Nat):bt 0 i=false:=by unfold bt;exact Nat.zero_testBit i
theorem wd{x:Int}(hx:0<=x)(i:Nat):decide (XO (x / 2 ^ ((i:Nat):Int).toNat) 1=1)=bt x i:=by
 rw[PyProof.Rows.bitAnd_m1,WU,<-cy];unfold bt;rw[Nat.testBit_eq_decide_div_mod_eq];congr 1;have:x=(x.toNat:Int):=by lia
 rw[this];rw[WU];generalize x.toNat=m;apply propext;constructor
 .intro h;exact_mod_cast h
 .intro h;exact_mod_cast h
structure Cand where
 b:Int
 n:Int
 ks:List Nat
structure Least(S:Cand->Prop)(D:List Cand):Prop where
 nd:(D.map (·.b)).Nodup
 sub:∀e∈D,S e
 le:∀c,S c->∃e∈D,e.b=c.b/\e.n<=c.n
theorem Least.congr{S S':Cand->Prop}{D:List Cand}(h:Least S D)(e:∀c,S c↔S' c):Least S' D:={h.nd,λx hx=>(e x).mp (h.sub x hx),λc hc=>h.le c ((e c).mpr hc)}
theorem Least.nil:Least (λ_=>False) []:={by simp,(by intro e h;cases h),(by intro c h;exact h.elim)}
theorem Least.one(c:Cand):Least (λx=>x=c) [c]:={by simp,(by intro e h;exact WG.mp h),(by intro x h;exact{c,by simp,by rw[h],by rw[h];exact Int.le_refl _})}
theorem Least.add{S:Cand->Prop}{D:List Cand}{c:Cand}(h:Least S D)(hn:c.b∉D.map (·.b)):Least (λx=>S x\/x=c) (D++[c]):=by
 refine{?_,λe he=>?_,λx hx=>?_}
 .rw[W3,Yc];refine{h.nd,by simp,λa ha b hb z=>hn ?_};rw[List.map_singleton,WG]at hb;rw[<-hb,<-z];exact ha
 .rcases WQ.mp he with he|he
  .exact .inl (h.sub e he)
  .exact .inr (WG.mp he)
 .rcases hx with hx|rfl
  .obtain⟨e,he,h1⟩:=h.le x hx;exact{e,WX _ he,h1}
  .exact{x,by simp,E?,Int.le_refl _}
theorem Least.keep{S:Cand->Prop}{D:List Cand}{c e:Cand}(h:Least S D)(he:e∈D)(hb:e.b=c.b)(hn:e.n<=c.n):Least (λx=>S x\/x=c) D :=
 {h.nd,λx hx=>.inl (h.sub x hx),λx hx=>by
  rcases hx with hx|rfl
  .exact h.le x hx
  .exact⟨e,he,hb,hn⟩}
theorem Least.set{S:Cand->Prop}{D:List Cand}{c:Cand}{i:Nat}{e:Cand}(h:Least S D)(he:D[i]?=A? e)(hb:e.b=c.b)(hn:c.n<=e.n):Least (λx=>S x\/x=c) (D.set i c):=by
 have hi:=(glE he);refine{by rw[map_set (λx:Cand=>x.b) he hb.symm];exact h.nd,λx hx=>?_,λx hx=>?_}
 .rcases mem_set hx with rfl|⟨j,_,hj⟩
  .exact .inr rfl
  .exact .inl (h.sub x (Ww hj))
 .have hc:c∈D.set i c:=Ww (i:=i) (by rw[X5 hi]);rcases hx with hx|rfl
  .obtain⟨y,hy,h1,h2⟩:=h.le x hx;obtain⟨j,hj⟩:=WK.mp hy;by_cases z:i=j
   .subst z;rw[he]at hj;cases hj;exact{c,hc,hb.symm.trans h1,by lia}
   .exact{y,Ww (i:=j) (by rw[X6 z];exact hj),h1,h2}
  .exact{x,hc,E?,Int.le_refl _}
def Cand.ext(ag sz:List Int)(e:Cand)(n:Nat):Cand:={XO e.b (ag.getD n 0),e.n+sz.getD n 0,e.ks++[n]}
theorem Least.trans{S:Cand->Prop}{D D':List Cand}{ag sz:List Int}{ns:List Nat}(h:Least S D)(h':Least (λx=>∃e∈D,∃n∈ns,x=e.ext ag sz n) D'):Least (λx=>∃e,S e/\∃n∈ns,x=e.ext ag sz n) D':=by
 refine{h'.nd,λx hx=>?_,λc hc=>?_}
 .obtain⟨e,he,g⟩:=h'.sub x hx;exact{e,h.sub e he,g}
 .obtain⟨e,he,n,hn,rfl⟩:=hc;obtain⟨d,hd,h1,h2⟩:=h.le e he;obtain⟨x,hx,g1,g2⟩:=h'.le (d.ext ag sz n) ⟨d,hd,n,hn,rfl⟩;refine{x,hx,?_,?_}
  .rw[g1];show XO d.b _=XO e.b _;rw[h1]
  .have:(d.ext ag sz n).n=d.n+sz.getD n 0:=rfl;have:(e.ext ag sz n).n=e.n+sz.getD n 0:=rfl;lia
def cnd(AG:List (List Int))(sz:List Int)(all:Int)(ks:List Nat):Cand:=ks.zipIdx.foldl (λc p=>c.ext (AG.getD p.2 []) sz p.1) {all,0,[]}
theorem gz(AG:List (List Int))(sz:List Int)(all:Int)(ks:List Nat)(n:Nat):cnd AG sz all (ks++[n])=(cnd AG sz all ks).ext (AG.getD ks.length []) sz n:=by
 unfold cnd;rw[List.zipIdx_append,List.foldl_append];simp
theorem snoc_ind{P:List Nat->Prop}(h0:P [])(hs:∀l a,P l->P (l++[a])):∀l,P l:=λl=>by
 have:∀r:List Nat,P r.reverse:=by
  intro r;induction r with
  |nil=>exact h0
  |cons a r ih=>rw[X0];exact hs _ _ ih
 have:=this l.reverse
 rwa [Ze]at this
theorem xi(AG:List (List Int))(sz:List Int)(all:Int):∀ks,(cnd AG sz all ks).ks=ks:=snoc_ind rfl λl a ih=>by
 rw[gz];show(cnd AG sz all l).ks++[a]=_;rw[ih]
theorem wu{AG:List (List Int)}{sz:List Int}{N L:Nat}(Sz:∀j n,j<AG.length->n<L->0<=(AG.getD j []).getD n 0):∀ks:List Nat,ks.length<=AG.length->(∀n∈ks,n<L) ->
 0<=(cnd AG sz (ones N) ks).b/\∀i,bt (cnd AG sz (ones N) ks).b i=C?↔i<N/\∀j n,ks[j]?=A? n->bt ((AG.getD j []).getD n 0) i=true:=by
 refine snoc_ind (λ_ _=>{qZ N,λi=>?_}) λl a ih hl hL=>?_
 .show bt (ones N) i=C?↔_;rw[uX,decide_eq_true_iff];exact{λh=>{h,λj n e=>by simp at e},λh=>h.1}
 .rw[WL,Xe]at hl;obtain⟨h0,h1⟩:=ih (by lia) λn hn=>hL n (WX _ hn);have ha:=Sz l.length a (by lia) (hL a (by simp));obtain⟨g0,g1⟩:=wL h0 ha;rw[gz];refine{g0,λi=>?_};show bt (XO _ _) i=C?↔_;rw[g1,YK,h1];constructor
  .rintro⟨⟨h2,h3⟩,h4⟩;refine{h2,λj n e=>?_};by_cases z:j<l.length
   .rw[Xk z]at e;exact h3 j n e
   .have hj:j=l.length:=by
     have:=(glE e);rw[WL,Xe]at this;lia
    subst hj;rw[Xu (WD _),Zu]at e;cases e;exact h4
  .rintro⟨h2,h3⟩;refine{{h2,λj n e=>h3 j n ?_},h3 l.length a ?_}
   .rw[Xk (glE e)];exact e
   .rw[Xu (WD _),Zu];rfl
def InB(lo hi:Nat->Nat)(ks:List Nat):Prop:=∀j n,ks[j]?=A? n->lo j<=n/\n<hi j
theorem InB.snoc{lo hi:Nat->Nat}{ks:List Nat}:InB lo hi (ks++[n])↔InB lo hi ks/\lo ks.length<=n/\n<hi ks.length:=by
 constructor
 .intro h;refine{λj m e=>h j m ?_,h ks.length n ?_}
  .rw[Xk (glE e)];exact e
  .rw[Xu (WD _),Zu];rfl
 .rintro⟨h1,h2⟩ j m e;by_cases z:j<ks.length
  .rw[Xk z]at e;exact h1 j m e
  .have hj:j=ks.length:=by
    have:=(glE e);rw[WL,Xe]at this;lia
   subst hj;rw[Xu (WD _),Zu]at e;cases e;exact h2
def SrcP(AG:List (List Int))(sz:List Int)(all:Int)(lo hi:Nat->Nat)(p:Nat)(x:Cand):Prop:=∃ks:List Nat,ks.length=p/\InB lo hi ks/\x=cnd AG sz all ks
theorem SrcP.zero(AG:List (List Int))(sz:List Int)(all:Int)(lo hi:Nat->Nat)(x:Cand):x={all,0,[]}↔SrcP AG sz all lo hi 0 x:=by
 constructor
 .rintro rfl;exact{[],E?,λj n e=>by simp at e,E?}
 .rintro⟨ks,h,_,rfl⟩;cases ks with
  |nil=>rfl
  |cons a l=>simp at h
theorem SrcP.succ(AG:List (List Int))(sz:List Int)(all:Int)(lo hi:Nat->Nat)(p:Nat)(ns:List Nat)(Ah:∀n,n∈ns↔lo p<=n/\n<hi p)(x:Cand) :
 (∃e,SrcP AG sz all lo hi p e/\∃n∈ns,x=e.ext (AG.getD p []) sz n)↔SrcP AG sz all lo hi (p+1) x:=by
 constructor
 .rintro⟨e,⟨ks,h1,h2,rfl⟩,n,hn,rfl⟩;refine{ks++[n],by simp[h1],InB.snoc.mpr {h2,by rw[h1];exact(Ah n).mp hn},?_};rw[gz,h1]
 .rintro⟨ks,h1,h2,rfl⟩;have zg:ks≠[]:=λz=>by rw[z]at h1;simp at h1
  obtain⟨l,a,rfl⟩:∃l a,ks=l++[a]:={_,_,(YS zg).symm};rw[WL,Xe]at h1;obtain⟨h3,h4⟩:=InB.snoc.mp h2;have hl:l.length=p:=by lia
  exact{_,⟨l,hl,h3,E?⟩,a,(Ah a).mpr (by rw[<-hl];exact h4),by rw[gz,hl]}
def loF(last first p:Nat):Nat:=if p=first then last else 0
def hiF(last first p:Nat):Nat:=if p<first then last else last+1
theorem kC{last:Nat}{ks:List Nat}(hl:ks.length=m):(∃first,first<m/\InB (loF last first) (hiF last first) ks)↔(∀n∈ks,n<=last)/\last∈ks:=by
 constructor
 .rintro⟨f,hf,h⟩;obtain⟨n,hn⟩:∃n,ks[f]?=A? n:={_,Wv (by lia)};have h1:=h f n hn;unfold loF hiF at h1;rw[b! rfl,a! (X1 _)]at h1;refine{λa ha=>?_,?_}
  .obtain⟨j,hj⟩:=WK.mp ha;have h2:=(h j a hj).2;unfold hiF at h2;split at h2 <;> lia
  .have:n=last:=by lia
   rw[<-this];exact Ww hn
 .rintro⟨h1,h2⟩;refine{ks.idxOf last,by rw[<-hl];exact List.idxOf_lt_length_of_mem h2,λj n e=>?_};have hn:=h1 n (Ww e);unfold loF hiF;have hj:=(glE e);refine{?_,?_}
  .split
   .rename_i z
    have h3:=List.findIdx_getElem (p:=λx=>x == last) (xs:=ks) (w:=List.idxOf_lt_length_of_mem h2)
    have h4:ks[ks.idxOf last]?=A? last:=by
     rw[Wv (List.idxOf_lt_length_of_mem h2)];exact h! A? (eq_of_beq h3)
    rw[<-z,e]at h4;cases h4;exact WD _
   .exact Xo _
  .split
   .rename_i z
    have:n≠last:=λy=>by
     have h3:=List.not_of_lt_findIdx (p:=λx=>x == last) (xs:=ks) (i:=j) z;rw[Wv hj]at e;cases e;simp[y]at h3
    lia
   .lia
end BB
namespace HT
open PySem PyProof.Rows PySem.SeqAt
open PySem.AutoSeq1 (wpAny_loadPart')
open PySem.MeetsSeq PySem.MeetsSeq2 PySem.MeetsSeq3
theorem tuple_lt_two(l b:Wx)(v1 v2 w1 w2:WA)(n n2:Nat)(dd Cu:Option Wx)(sl Cv:Array (Option WA))(e1 e2 b1 b2:Bool) :
 Meets (Zx.«tuple.__lt__» {[.ref l,.ref b],[]})
  (λA R s=>s.1.get? l=A? {cls:=.type "tuple",dict:=dd,data:=.seq #[v1,v2] n,slots:=sl}/\s.1.get? b=A? {cls:=.type "tuple",dict:=Cu,data:=.seq #[w1,w2] n2,slots:=Cv} /\
   EqAt A.in1 s v1 w1 e1/\EqAt A.in1 s v2 w2 e2/\(e1=D?->∀prog w E Q,Q (.bool b1) s->WZ (Xf prog w) A.in1 (richCompare .Lt v1 w1) Q E s)/\(e2=D?->∀prog w E Q,Q (.bool b2) s->WZ (Xf prog w) A.in1 (richCompare .Lt v2 w2) Q E s) /\
   R (.ok (.ret (.bool (if e1=C? then(if e2=C? then D? else b2)else b1)))) s) :=
 .of_wp λprog w A R s h=>by
  obtain⟨hp,g,d,tk,os⟩:=s;obtain⟨hl,hb,q1,q2,r1,r2,h⟩:=h;have f2:=AutoSeq1.sub_tuple_tuple
  wp_walk using wpAny_loadPart' hl,wpAny_loadPart' hb,wpAny_forIn_list _ (λrest b s'=>b.1=B?/\s'=⟨hp,g,d,tk,os⟩/\((rest=[(v1,w1),(v2,w2)]/\R (.ok (.ret (.bool (if e1=C? then(if e2=C? then D? else b2)else b1)))) ⟨hp,g,d,tk,os⟩)\/(rest=[(v2,w2)]/\R (.ok (.ret (.bool (if e2=C? then D? else b2)))) ⟨hp,g,d,tk,os⟩)\/(rest=[]/\R (.ok (.ret (.bool D?))) ⟨hp,g,d,tk,os⟩))) _
  case turn =>
   rintro⟨y,x⟩ rest b s' ⟨zA,rfl,⟨hz,hR⟩|⟨hz,hR⟩|⟨hz,hR⟩⟩
   .injection hz with Ia BA;injection Ia with hy hx;subst hy hx;refine Wu (q1 prog w _ _ ?_);cases e1 with
    | true =>
      rw[b! rfl]at hR
      wp_walk
      exact{E?,E?,.inr (.inl ⟨BA,hR⟩)}
    | false =>
      rw[a! W2]at hR;have Ic:=r1 rfl prog w
      wp_walk using Ic
      exact{_,E?,by simpa using hR}
   .injection hz with Ia BA;injection Ia with hy hx;subst hy hx;refine Wu (q2 prog w _ _ ?_);cases e2 with
    | true =>
      rw[b! rfl]at hR
      wp_walk
      exact{E?,E?,.inr (.inr ⟨BA,hR⟩)}
    | false =>
      rw[a! W2]at hR;have Ic:=r2 rfl prog w
      wp_walk using Ic
      exact{_,E?,by simpa using hR}
   .cases hz
  case fin =>
   rintro⟨c1,c2⟩ s' ⟨zA,rfl,⟨hz,hR⟩|⟨hz,hR⟩|⟨hz,hR⟩⟩
   .cases hz
   .cases hz
   simp only at zA;subst zA
   wp_walk
   exact{_,E?,by simpa[Builtin.Tuple.tupleCompareSizes]using hR}
  case h =>
   exact{E?,E?,.inl ⟨E?,h⟩}
end HT
namespace L2
open PySem PySem.Spec PySem.Calls PyProof.Rows PySem.SeqAt
def lN(H:Hp)(κ:Wx)(k:Int×List Int):Prop:=∃na,H κ=A? (.tup [.int k.1,.ref na])/\H na=A? (.tup (k.2.map o!))
def keyLt(a b:Int×List Int):Bool:=if a.1=b.1 then H! a.2 b.2 else decide (a.1<b.1)
theorem jJ:∀l:List Int,H! l l=D?
 | []=>rfl
 |x::l=>by rw[P!,b! rfl,jJ l]
theorem gN:∀ns:List Int,BB.DAts H (ns.map C!) (ns.map o!)
 | []=>by rw[YL,YL,BB.DAts]
 |n::ns=>by rw[W9,W9,BB.DAts];exact{_,_,E?,by rw[BB.DAt],gN ns}
theorem kK:∀{a b:List Int},a.map C!=b.map C!->a=b
 | [],[],_=>rfl
 | [],_::_,h=>by cases h
 |_::_,[],h=>by cases h
 | x::a,y::b,h=>by
   rw[W9,W9]at h;injection h with h1 h2;injection h1 with h1;rw[h1,kK h2]
theorem iG:∀ns:List Int,BB.gx (ns.map C!)<=1
 | []=>by rw[YL,BB.gx];lia
 | n::ns=>by
   have:=iG ns;rw[W9,BB.gx,BB.Dv.deep];lia
open Classical in
theorem wJ{X:Cx}(I:Inv X Y σ H s){k m:Int×List Int}(ha:lN H a k)(hb:lN H b m)(hu:A.units+4<ZY)(q:Q (.bool (keyLt k m)) s) :
 WZ (Xf X.prog X.w) A (richCompare .Lt (.ref a) (.ref b)) Q E s:=by
 obtain⟨na,ea,en⟩:=ha;obtain⟨ma,eb,em⟩:=hb;obtain⟨its,r1,p1,_⟩:=I.tuple (i! (K:=X.K) ea);obtain⟨zh,r2,p2,_⟩:=I.tuple (i! (K:=X.K) eb);obtain⟨u1,u2,rfl,⟨t,rfl⟩,q2⟩:=vals2 r1;obtain⟨w1,w2,rfl,⟨t',rfl⟩,q3⟩:=vals2 r2;obtain rfl:u2=Xs na:=q2;obtain rfl:w2=Xs ma:=q3;obtain⟨⟨cls,dd,data,sl⟩,ho,hc,n,hd⟩:=id p1;obtain⟨⟨EC,Cu,data2,Cv⟩,CP,Be,n2,hd2⟩:=id p2;simp only at hc hd Be hd2;subst hc hd Be hd2
 have h2:=qG I _ (.tup (k.2.map C!)) (.tup (m.2.map C!)) (WD _) (.ref na) (.ref ma) (.ref na) (.ref ma) A.in1 (by rw[BB.DAt];exact{na,_,E?,en,gN _}) (by rw[BB.DAt];exact{ma,_,E?,em,gN _}) rfl rfl (by
  have:=iG k.2;rw[BB.Dv.deep];show A.units+1+_<ZY;lia)
 obtain⟨SD,r3,p3,_⟩:=I.tuple (i! (K:=X.K) en);obtain⟨SE,r4,p4,_⟩:=I.tuple (i! (K:=X.K) em);obtain⟨e1,g1,g2⟩:=HT.eqAt_int A.in1 s k.1 t m.1 t';refine richCompare_meets_room (op:=.Lt) {_,ho,rfl} {_,CP,rfl} PySem.F.slot_tuple_lt PySem.F.entry_tuple_lt (PySem.F.args_tuple_lt_2 _ _) (HT.tuple_lt_two a b (.int k.1 t) (.ref na) (.int m.1 t') (.ref ma) n n2 dd Cu sl Cv e1 (decide (O! (k.2.map C!)=O! (m.2.map C!))) (decide (k.1<m.1)) (H! k.2 m.2)) ?_ (by lia);refine{ho,CP,g1,h2,λ_ prog w E Q h=>HT.rcLt_int _ s _ _ _ _ prog w E Q h,λ_ prog w E Q h=>(HT.lt_tupInts p3 p4 (intsAre_of r3) (intsAre_of r4) (show A.units+1<ZY by lia) h:WZ (Xf prog w) A.in1 (YO .Lt (.ref na) (.ref ma)) Q E s),(λx=>nomatch x),?_}
 have e:keyLt k m=(if e1=C? then(if decide (O! (k.2.map C!)=O! (m.2.map C!))=C? then D? else H! k.2 m.2)else decide (k.1<m.1)):=by
  unfold keyLt;by_cases h1:k.1=m.1
  .rw[b! h1,b! (g2.mpr h1)];by_cases h3:k.2=m.2
   .rw[h3,jJ,b! (d! rfl)]
   .rw[a!];intro z;exact h3 (kK (BB.Dv.tup.inj (e! z)))
  .rw[a! h1,a! (λz=>h1 (g2.mp z))]
 rw[<-e];exact q
theorem jZ:∀{a b c:List Int},H! a b=C?->H! b c=C?->H! a c=C?
 | [],[],_,h,_=>by cases h
 |_::_,[],_,h,_=>by cases h
 | [],_::_,[],_,h=>by cases h
 | [],_::_,_::_,_,_=>rfl
 |_::_,_::_,[],_,h=>by cases h
 | x::a,y::b,z::c,h,g=>by
   rw[P!]at h g |-;by_cases e:x=y
   .rw[b! e]at h;subst e;by_cases e2:x=z
    .rw[b! e2]at g |-;exact jZ h g
    .rw[a! e2]at g |-;exact g
   .rw[a! e]at h;have h:=e! h;by_cases e2:y=z
    .subst e2;rw[a! e];exact d! h
    .rw[a! e2]at g;have g:=e! g;rw[a! (by lia)];exact d! (by lia)
theorem keyLt_trans{a b c:Int×List Int}(h:keyLt a b=C?)(g:keyLt b c=C?):keyLt a c=true:=by
 unfold keyLt at h g |-;by_cases e:a.1=b.1
 .rw[b! e]at h;by_cases e2:b.1=c.1
  .rw[b! e2]at g;rw[b! (e.trans e2)];exact jZ h g
  .rw[a! e2]at g;rw[a! (by lia),e];exact g
 .rw[a! e]at h;have h:=e! h;by_cases e2:b.1=c.1
  .rw[a! (by lia),<-e2];exact d! h
  .rw[a! e2]at g;have g:=e! g;rw[a! (by lia)];exact d! (by lia)
theorem fH(a:Int×List Int):keyLt a a=false:=by
 unfold keyLt;rw[b! rfl,jJ]
section
variable{X:Cx}{H0:Hp}{q I S:Wx}{ws:List V}{key:Nat->Int×List Int}{k:Nat}{R:Result->WH->Prop}
structure yg(X:Cx)(Y:List (Wx×Yw))(σ:St)(H0:Hp)(l I S:Wx)(ws:List V)(key:Nat->Int×List Int)(H:Hp)(s:WH)(j i:Nat)(vb:WA)(κ:Wx)(c:Nat):Prop where
 inv:Inv X Y σ H s
 fI:FpOk X Y H I
 fS:FpOk X Y H S
 it:s.1.IsListIter I l j
 st:s.1.get? S=A? (seqObj "list" #[vb,.ref κ] c)
 sm:Same H0 H
 rv:∃x,ws[i]?=A? x/\RelV x vb
 ky:lN H κ (key i)
theorem FpOk.of(f:FpOk X Y H b)(h:H' b=B?):FpOk X Y H' b:=⟨h,f.2⟩
theorem n8(hc:X.calm=C?)(hr:Room (k+1) X.A)(F:sk X.prog X.w X.K X.mg X.base CX0 k q sp)(I1:Inv X Y σ H s)(fI:FpOk X Y H I)(fS:FpOk X Y H S){oI oS:Yw}(gI:s.1.get? I=A? oI)(gS:s.1.get? S=A? oS)
 (cI:∀v,oI.data≠.cell v) (cS:∀v,oS.data≠.cell v) {x:V} {v:WA} (rx:RelV x v) {m:Int×List Int} (h:sp [x] H (λr H'=>∃κ,r=.ref κ/\Same H H'/\lN H' κ m) E0)
 (hQ:∀κ H' s',Inv X Y σ H' s'->FpOk X Y H' I->FpOk X Y H' S->s'.1.get? I=A? oI->s'.1.get? S=A? oS->Same H H'->lN H' κ m->Q (.ref κ) s') :
 WZ (Xf X.prog X.w) X.A.in1 (call (.ref q) [v]) Q E s:=by
 have hf:∀b∈[I,S],FpOk X Y H b:=λb hb=>by
  rcases WW.mp hb with rfl|hb
  .exact fI
  .rw[WG.mp hb];exact fS
 have hp:=I1.pinned hf λb hb=>by
  rcases WW.mp hb with rfl|hb
  .exact{_,gI,cI}
  .rw[WG.mp hb];exact{_,gS,cS}
 refine wpAny_call (codeAny_mono (F.run X.A.in1 X.stack s H [v] [x] _ _ hr.in1 hp.env0.in1 (.cons rx .nil) h) λr s' hq=>?_);cases r with
 |error e=>exact hq.elim
 | ok fl =>
   cases fl with
   |next=>exact hq.elim
   |brk=>exact hq.elim
   |cont=>exact hq.elim
   | ret u =>
     obtain⟨y,H',I2,ry,κ,rfl,sm,ky⟩:=hp.after hq;obtain rfl:u=Xs κ:=ry;have pI:=I2.pin _ (Xc _ (Xc _ (dw (WM ..) gI)));have pS:=I2.pin _ (Xc _ (Xc _ (dw (WR _ (WM ..)) gS)));exact hQ κ H' s' I2.unpinned (fI.of pI.2.1) (fS.of pS.2.1) pI.1 pS.1 sm ky
theorem tK(hc:X.calm=C?)(hr:Room (k+1) X.A)(MX:I≠S)(hl:H0 l=A? (.lst ws))(F:sk X.prog X.w X.K X.mg X.base CX0 k q sp)
 (turn:∀i x H,ws[i]?=A? x->Same H0 H->sp [x] H (λr H'=>∃κ,r=.ref κ/\Same H H'/\lN H' κ (key i)) E0)
 (hR:∀i x vb H s,Inv X Y σ H s->Same H0 H->ws[i]?=A? x->RelV x vb->(∀j,j<ws.length->keyLt (key j) (key i)=D?)->R (.ok (.ret vb)) s) :
 ∀(r j i:Nat)(H:Hp)(s:WH)(vb:WA)(κ:Wx)(c:Nat),ws.length - j=r->j<=ws.length->yg X Y σ H0 l I S ws key H s j i vb κ c->(∀j',j'<j->keyLt (key j') (key i)=D?) ->
   ZV (Xf X.prog X.w) X.A (.builtin "min.loop" {[.ref I,.ref q,.ref S],[]}) R s:=by
 have BN:(toString "min"++toString ".loop":String)="min.loop":=by decide
 have hh:=X.A.handled;intro r;induction r with
 | zero =>
   intro j i H s vb κ c BO hj M hb;obtain⟨its,rv,pl,_⟩:=M.inv.list (l! (M.sm _ _ hl));have W:=Walks.list (prog:=X.prog) (w:=X.w) (A:=X.A.in1) hr.hd I l (λz=>by have:=M.fI.1;rw[<-z,M.sm _ _ hl]at this;cases this) its.toArray;have hsz:its.toArray.size=j:=by rw[WT,<-rv.length];lia
   refine ZO PySem.F.entry_min_loop ?_;rw[YY YF _];show WZ _ X.A.in1 (seqItems? (.ref S) >>= _) _ _ _;refine Wu (Ye M.st rfl ?_);show WZ _ X.A.in1 (tryCatch (Zz (.ref I)) _ >>= _) _ _ _;refine Wu (wpAny_tryCatch (W.done _ _ _ {by rw[hsz];exact M.it,pl.isList} λh' IV zm=>?_));have I2:=M.inv.turned (h':=h') (t':=IV) (it:=I) (λb o zA e=>zm b o (by simpa using zA) e) M.fI.1 M.fI.2.1 M.fI.2.2.2.1 M.fI.2.2.2.2.1 M.fI.2.2.2.2.2;have gS:=zm S _ (by simpa using MX.symm) M.st;show WZ _ X.A.in1 (updateSeq S (λ_=>#[]) >>= _) _ _ _;refine Wu ?_;refine Yr gS rfl (Wu (Zl (WC ?_)));obtain⟨x,hx,rx⟩:=M.rv;refine hR i x vb H _ (I2.turned (it:=S) (λb o zA e=>?_) M.fS.1 M.fS.2.1 M.fS.2.2.2.1 M.fS.2.2.2.2.1 M.fS.2.2.2.2.2) M.sm hx rx λj' G'=>hb j' (by lia);exact(Yd h' S (XX λ_=>(#[]:Array WA))).2 b zA |>.trans e
 | succ r ih =>
   intro j i H s vb κ c BO hj M hb;obtain⟨its,rv,pl,_⟩:=M.inv.list (l! (M.sm _ _ hl));have W:=Walks.list (prog:=X.prog) (w:=X.w) (A:=X.A.in1) hr.hd I l (λz=>by have:=M.fI.1;rw[<-z,M.sm _ _ hl]at this;cases this) its.toArray;have hlen:=rv.length;have yY:j<its.toArray.size:=by rw[WT];lia
   refine ZO PySem.F.entry_min_loop ?_;rw[YY YF _];show WZ _ X.A.in1 (seqItems? (.ref S) >>= _) _ _ _;refine Wu (Ye M.st rfl ?_);show WZ _ X.A.in1 (tryCatch (Zz (.ref I)) _ >>= _) _ _ _;refine Wu (wpAny_tryCatch (W.item j _ _ _ yY ⟨M.it,pl.isList⟩ λv h' IV hP DD zm=>?_));have hv:its[j]?=A? v:=by simpa using hP
   obtain⟨x,hx,rx⟩:∃x,ws[j]?=A? x/\RelV x v:=by
    obtain⟨x,hx⟩:∃x,ws[j]?=A? x:={_,Wv (by lia)};obtain⟨v',h1,h2⟩:=rv.get hx;rw[hv]at h1;cases h1;exact⟨x,hx,h2⟩
   have I2:=M.inv.turned (h':=h') (t':=IV) (it:=I) (λb o zA e=>zm b o (by simpa using zA) e) M.fI.1 M.fI.2.1 M.fI.2.2.2.1 M.fI.2.2.2.2.1 M.fI.2.2.2.2.2;have gS:=zm S _ (by simpa using MX.symm) M.st;obtain⟨oI,MY,Fc,EL⟩:=id DD.1;show WZ _ X.A.in1 (tryCatch (holding [v] (call (.ref q) [v])) _ >>= _) _ _ _;refine Wu (wpAny_tryCatch (XU (n8 hc hr F I2 M.fI M.fS MY gS (λz e=>by rw[EL]at e;cases e) (λz e=>by cases e) rx (turn j x H hx M.sm) λCC H2 s2 I3 K8 CD K9 Hf IW K'=>?_)));have PX:=M.sm.trans IW
   have PY:lN H2 κ (key i):=by
    obtain⟨na,e1,e2⟩:=M.ky;exact{na,IW _ _ e1,IW _ _ e2}
   show WZ _ X.A.in1 (tryCatch (holding [v,.ref CC] (richCompare .Lt (.ref CC) (.ref κ) >>= _)) _ >>= _) _ _ _;refine Wu (wpAny_tryCatch (XU (Wu (wJ I3 K' PY (by have:=hr.units;show X.A.units+1+4<ZY;lia) ?_))));refine Wu (XU (ZU ?_));refine Wu (Zl (WC ?_));have SF:s2.1.IsListIter I l (j+1):=⟨oI,K9,Fc,EL⟩;by_cases zA:keyLt (key j) (key i)=C?
   .simp only[zA,if_true];obtain⟨c2,Be⟩:∃c2,(s2.1.update S (XX λ_=>#[v,.ref CC])).get? S=A? (seqObj "list" #[v,.ref CC] c2):={_,get?_update_seq Hf λ_=>#[v,.ref CC]};have sb:=Yd s2.1 S (XX λ_=>#[v,.ref CC]);refine Wu ?_;refine Yr Hf rfl (Wu (Zl ?_));rw[BN];refine WC {Zq YF _,ih (j+1) j H2 _ v CC c2 (by lia) (by lia) {I3.turned (it:=S) (λb o hn e=>(sb.2 b hn).trans e) CD.1 CD.2.1 CD.2.2.2.1 CD.2.2.2.2.1 CD.2.2.2.2.2,K8,CD,{oI,(sb.2 I MX).trans K9,Fc,EL},Be,PX,⟨x,hx,rx⟩,K'} λj' G'=>?_};by_cases e:j'=j
    .rw[e];exact fH _
    .have h1:=hb j' (by lia);cases h2:keyLt (key j') (key j)with
     |false=>rfl
     |true=>rw[keyLt_trans h2 zA]at h1;cases h1
   .simp only[zA,if_false];refine Wu (Zl ?_);rw[BN];refine WC {Zq YF _,ih (j+1) i H2 _ vb κ c (by lia) (by lia) ⟨I3,K8,CD,SF,Hf,PX,M.rv,PY⟩ λj' G'=>?_};by_cases e:j'=j
    .rw[e];cases h2:keyLt (key j) (key i)with
     |false=>rfl
     |true=>exact g! h2 zA
    .exact hb j' (by lia)
theorem vy(hc:X.calm=C?)(hr:Room (k+1) X.A)(hl:H0 l=A? (.lst ws))(zg:0<ws.length)(F:sk X.prog X.w X.K X.mg X.base CX0 k q sp)(I0:Inv X Y σ H0 s)
 (turn:∀i x H,ws[i]?=A? x->Same H0 H->sp [x] H (λr H'=>∃κ,r=.ref κ/\Same H H'/\lN H' κ (key i)) E0)
 (hR:∀i x vb H s,Inv X Y σ H s->Same H0 H->ws[i]?=A? x->RelV x vb->(∀j,j<ws.length->keyLt (key j) (key i)=D?)->Q vb s) :
 WZ (Xf X.prog X.w) X.A (call (.builtin "min") [.ref l] [(WE "key",.ref q)]) Q E s:=by
 have BN:(toString "min"++toString ".loop":String)="min.loop":=by decide
 obtain⟨its,rv,pl,_⟩:=I0.list (l! hl);have hlen:=rv.length;obtain⟨ol,Ge,_⟩:=id pl.isList;have VT:l<s.1.1.size:=W6 Ge;refine kmk_tree PySem.F.kind_min PySem.F.plain_min PySem.F.entry_min (kmk_min_key _ _) ?_;show WZ _ X.A.in1 (Builtin.Builtins.bindParams "min" ["key","default"] 0 {[],[(WE "key",.ref q)]} >>= _) _ _ s;refine Wu (wpAny_of_eq (show Builtin.Builtins.bindParams "min" ["key","default"] 0 {[],[(WE "key",.ref q)]}=pure [A? (.ref q),B?]from rfl) ?_);refine Wu (WC ?_);refine Wu (wpAny_pyIter_list pl.isList ?_);refine Wu (wpAny_newList ?_ (Xo _));rw[BN];have hS:(s.1.push {cls:=.type "list_iterator",data:=.fields #[.ref l,.int 0 0]}).objs.size=s.1.1.size+1:=size_push' ..;have Iz:(s.1.push {cls:=.type "list_iterator",data:=.fields #[.ref l,.int 0 0]}).objs.size≠s.1.1.size:=by rw[hS];exact Zv (Nat.lt_succ_self _)
 refine WC {Zq YF _,?_}
 have gI:((s.1.push {cls:=.type "list_iterator",data:=.fields #[.ref l,.int 0 0]}).push (seqObj "list" #[] 0)).get? s.1.1.size=A? {cls:=.type "list_iterator",data:=.fields #[.ref l,.int 0 0]} :=
  WB _ (WO _ rfl)
 have gS:((s.1.push {cls:=.type "list_iterator",data:=.fields #[.ref l,.int 0 0]}).push (seqObj "list" #[] 0)).get? (s.1.push {cls:=.type "list_iterator",data:=.fields #[.ref l,.int 0 0]}).objs.size=A? (seqObj "list" #[] 0):=WO _ rfl;have I1:Inv X Y σ H0 {s with heap:=(s.1.push {cls:=.type "list_iterator",data:=.fields #[.ref l,.int 0 0]}).push (seqObj "list" #[] 0),toks:=s.toks}:=I0.kept (t':=s.toks) λb u e=>WB _ (WB _ e);have fI:FpOk X Y H0 s.1.1.size:=I0.fpOk (WD _) (I0.hok.fresh (WD _))
 have fS:FpOk X Y H0 (s.1.push {cls:=.type "list_iterator",data:=.fields #[.ref l,.int 0 0]}).objs.size:=by
  have h:s.1.1.size<=(s.1.push {cls:=.type "list_iterator",data:=.fields #[.ref l,.int 0 0]}).objs.size:=by rw[hS];lia
  exact I0.fpOk h (I0.hok.fresh h)
 have SG:=(I1.list (l! hl));obtain⟨its,rv,pl,_⟩:=SG;have hlen:=rv.length;generalize(s.1.push {cls:=.type "list_iterator",data:=.fields #[.ref l,.int 0 0]}).objs.size=S at*;generalize s.1.1.size=I at*;have W:=Walks.list (prog:=X.prog) (w:=X.w) (A:=X.A.in1) hr.hd I l (λz=>by have:=fI.1;rw[<-z,hl]at this;cases this) its.toArray;refine ZO PySem.F.entry_min_loop ?_;rw[YY YF _];show WZ _ X.A.in1 (seqItems? (.ref _) >>= _) _ _ _;refine Wu (Ye gS rfl ?_);show WZ _ X.A.in1 (tryCatch (Zz (.ref I)) _ >>= _) _ _ _;refine Wu (wpAny_tryCatch (W.item 0 _ _ _ (by rw[WT];lia) {{_,gI,rfl,rfl},pl.isList} λv h' IV hP DD zm=>?_));have hv:its[0]?=A? v:=by simpa using hP
 obtain⟨x,hx,rx⟩:∃x,ws[0]?=A? x/\RelV x v:=by
  obtain⟨x,hx⟩:∃x,ws[0]?=A? x:={_,Wv zg};obtain⟨v',h1,h2⟩:=rv.get hx;rw[hv]at h1;cases h1;exact⟨x,hx,h2⟩
 have I2:=I1.turned (h':=h') (t':=IV) (it:=I) (λb o zA e=>zm b o (by simpa using zA) e) fI.1 fI.2.1 fI.2.2.2.1 fI.2.2.2.2.1 fI.2.2.2.2.2;have SH:=zm S _ (by simpa using Iz) gS;obtain⟨oI,MY,Fc,EL⟩:=id DD.1;show WZ _ X.A.in1 (tryCatch (holding [v] (call (.ref q) [v])) _ >>= _) _ _ _;refine Wu (wpAny_tryCatch (XU (n8 hc hr F I2 fI fS MY SH (λz e=>by rw[EL]at e;cases e) (λz e=>by cases e) rx (turn 0 x H0 hx (λ_ _ e=>e)) λCC H2 s2 I3 K8 CD K9 Hf IW K'=>?_)));obtain⟨c2,Be⟩:∃c2,(s2.1.update S (XX λ_=>#[v,.ref CC])).get? S=A? (seqObj "list" #[v,.ref CC] c2):={_,get?_update_seq Hf λ_=>#[v,.ref CC]};have sb:=Yd s2.1 S (XX λ_=>#[v,.ref CC]);show WZ _ X.A.in1 (updateSeq S (λ_=>#[v,.ref CC]) >>= _) _ _ _;refine Wu ?_;refine Yr Hf rfl ?_;rw[BN];refine WC {Zq YF _,tK hc hr Iz.symm hl F turn hR _ 1 0 H2 _ v CC c2 rfl zg {I3.turned (it:=S) (λb o hn e=>(sb.2 b hn).trans e) CD.1 CD.2.1 CD.2.2.2.1 CD.2.2.2.2.1 CD.2.2.2.2.2,K8,CD,{oI,(sb.2 I Iz.symm).trans K9,Fc,EL},Be,IW,⟨x,hx,rx⟩,K'} λj' G'=>?_};have e:j'=0:=by lia
 rw[e];exact fH _
end
inductive vL(X:Cx)(k:Nat)(vs:List V)(f:V)(H2:Hp)(Q:VK):Prop
 |mk (l q:Wx) (ws:List V) (key:Nat->Int×List Int) (sp:Sp) (e1:vs=[.ref l]) (e2:f=.ref q) (hl:H2 l=A? (.lst ws)) (hn:0<ws.length) (F:sk X.prog X.w X.K X.mg X.base CX0 k q sp)
  (turn:∀i x H,ws[i]?=A? x->Same H2 H->sp [x] H (λr H'=>∃κ,r=.ref κ/\Same H H'/\lN H' κ (key i)) E0)
  (hR:∀i x H',ws[i]?=A? x->Same H2 H'->(∀j,j<ws.length->keyLt (key j) (key i)=D?)->Q x H'):vL X k vs f H2 Q
def xz(X:Cx)(k:Nat)(t:TA)(tf:TE):TE:=λσ H Q=>t σ H λvs H1=>tf σ H1 λf H2=>vL X k vs f H2 Q
theorem vt{X:Cx}{k:Nat}{e f:XD}{t:TA}{tf:TE}{p kp:ZD}(hc:X.calm=C?)(hr:Room (k+1) X.A)(hg:Gl X "min")(hm:X.mg "min"=B?)(ha:PA X [e] t)(hf:PE X f tf)
 (h1:Zr pos (Xw [e] X.env)=(D?,YC e X.env)::Zr pos (Xw [] X.env):=by rfl) (h2:(Zr pos (Xw [e] X.env)).any (·.1)=false:=by rfl) :
 PE X (.Call (.Name "min" p) [e] [{A? "key",f,kp}] pos) (xz X k t tf):=by
 intro Y s σ H Q I h;refine X2 (ej I hg hm boot_min ?_);refine callWith_kw (thn (ha pos Y s σ H _ I h) λus s1⟨vs,H1,I1,r1,q1⟩=>kws_cons (thn (hf Y s1 σ H1 _ I1 q1) λu2 s2⟨f',H2,I2,r2,q2⟩=>kws_nil ?_)) h1 h2;obtain⟨l,q,ws,key,sp,rfl,rfl,hl,hn,F,turn,hR⟩:=q2;obtain⟨u,rfl,ru⟩:=vals1 r1;obtain rfl:u=Xs l:=ru;obtain rfl:u2=Xs q:=r2;exact vy hc hr hl hn F I2 turn λi x vb H3 s3 I3 sm hx rx hb=>{x,H3,I3,rx,hR i x H3 hx sm hb}
theorem tw{acc:List WA}:∀(n k:Nat),acc.length=n->(∀i v,acc[i]?=A? v->∃t,v=Value.int ((k+i:Nat):Int) t)->Vals ((ZP k n).map λ(i:Nat)=>o! (i:Nat)) acc:=by
 induction acc with
 |nil=>intro n k hn _;subst hn;exact .nil
 | cons a acc ih =>
   intro n k hn h;subst hn;rw[WV,List.range'_succ,W9];refine .cons ?_ (ih _ (k+1) rfl λi v hv=>?_)
   .obtain⟨t,e⟩:=h 0 a rfl;exact⟨t,e⟩
   .obtain⟨t,e⟩:=h (i+1) v hv;refine{t,?_};rw[e];congr 2;lia
section
variable{X:Cx}{e:XD}{t:TA}{p p2 zq:ZD}
end
section
variable{X:Cx}
theorem xU:PIp X .BitOr (ipI λi j=>YT i j):=by
 intro Y s σ H x y v u Q I r1 r2 h;obtain⟨i,j,e1,e2,q⟩:=h;subst e1;subst e2;obtain⟨t,rfl⟩:=r1;obtain⟨t',rfl⟩:=r2;exact ior_int {.int _,H,I.tok _,{_,rfl},q}
end
def ww(t:TA):TE:=λσ H Q=>t σ H λvs H1=>∃i j:Nat,vs=[.int (i:Nat),.int (j:Nat)]/\j<=1000000/\i<=1000000/\∀l:Wx,H1 l=B?->Q (.ref l) (upd H1 l (.lst ((ZP i (j - i)).map λ(i:Nat)=>o! (i:Nat))))
section
variable{X:Cx}{e1 e2:XD}{t:TA}{p p2 zq:ZD}
theorem tm(hc:X.calm=C?)(g1:Gl X "list")(m1:X.mg "list"=B?)(g2:Gl X "range")(m2:X.mg "range"=B?)(ha:PA X [e1,e2] t)
 (h1:Xw [.Call (.Name "range" p2) [e1,e2] [] zq] X.env=[(D?,YC (.Call (.Name "range" p2) [e1,e2] [] zq) X.env)]:=by rfl) (h2:Xw [e1,e2] X.env=(D?,YC e1 X.env)::Xw [e2] X.env:=by rfl) (h3:(Zr zq (Xw [e2] X.env)).any (·.1)=false:=by rfl) :
 PE X (.Call (.Name "list" p) [.Call (.Name "range" p2) [e1,e2] [] zq] [] pos) (ww t):=by
 intro Y s σ H Q I h;refine X2 (ej I g1 m1 boot_list (XY ?_ h1 rfl));rw[h1];show WZ _ _ (spliced ((D?,YC (.Call (.Name "range" p2) [e1,e2] [] zq) X.env)::[])) _ _ s;refine YD ?_;refine X2 (ej I g2 m2 boot_range (XY (thn (ha zq Y s σ H _ I h) λus s2⟨vs,H2,I2,r,i,j,ev,hj,hi,q⟩=>?_) h2 h3));subst ev;obtain⟨u,u',rfl,⟨ti,rfl⟩,⟨tu,rfl⟩⟩:=vals2 r;refine call_range_2 (Y0 ?_);have hh:X.A.handled=none:=I2.ok.hd hc
 have hs:Builtin.Range.rangeSize (i:Nat) (j:Nat) 1=((j - i:Nat):Int):=by
  rw[rangeSize_one];split <;> lia
 refine call_list_range hh (IsRange.new ..) (small_one (by lia) (by lia) (by lia) (by lia)) hs (by lia) λh' tk acc c hk hS zr=>?_;have I3:Inv X Y σ H2 {s2 with heap:=s2.1.push {cls:=.type "range",data:=.fields #[.int (i:Nat) ti,.int (j:Nat) tu,.int 1 s2.toks]},toks:=s2.toks+1}:=I2.kept λb o e=>WB _ e;refine{.ref (s2.1.push {cls:=.type "range",data:=.fields #[.int (i:Nat) ti,.int (j:Nat) tu,.int 1 s2.toks]}).objs.size,_,?_,E?,q _ (I3.hok.fresh (WD _))};refine I3.laid (t':=tk) hk (WD _) {by rw[Wt,List.length_range'];exact XB (show j - i<=1000000 by lia) (by decide),acc.toList,c,?_,hS};obtain⟨hsz,hit⟩:=zr
 exact tw (acc:=acc.toList) (j - i) i (by rw[Xi];exact hsz) λn v hv=>by
  rw[ZH]at hv;obtain⟨t,e⟩:=hit n v hv;refine{t,?_};rw[e];congr 1;lia
end
end L2
namespace BB
open PySem L2
def Ars(ar:W8->Nat)(t:Th):Prop:=∀n ks,p! n ks∈t.walk->ks.length=ar n
theorem eE{t u:Th}(h:u∈t.kids):∀x∈u.walk,x∈t.walk:=λx hx=>by
 rw[t.walk_eq];refine WR _ ?_
 have:∀ts:List Th,u∈ts->x∈walks ts:=by
  intro ts;induction ts with
  |nil=>intro z;cases z
  | cons a ts ih =>
    intro z;rw[walks];rcases WW.mp z with rfl|z
    .exact WX _ hx
    .exact Xc _ (ih z)
 exact this _ h
theorem Ars.kids{t u:Th}(h:Ars ar t)(hu:u∈t.kids):Ars ar u:=λn ks m=>h n ks (eE hu _ m)
theorem Ars.len{n:W8}{ks:List Th}(h:Ars ar (.knot n ks)):ks.length=ar n:=h n ks (by rw[E!];exact WM ..)
structure mP(Ls:List Th)(p u:Th)(es:CLs):Prop where
 nd:(es.map (·.1)).Nodup
 ok:∀e∈es,(∃w:Nat,e.2=(w:Int)/\w<Ls.length)/\t! e.1.1 e.1.2∈p.walk
 iff:∀g:Int->Int->Th,p.fill g=u↔∀e∈es,Ls[e.2.toNat]?=A? (g e.1.1 e.1.2)
structure NeedI(Ls:List Th)(p u:Th)(es:CLs)(As:List (Th×Nat)):Prop where
 nd:(es.map (·.1)).Nodup
 ok:∀e∈es,(∃w:Nat,e.2=(w:Int)/\w<Ls.length)/\t! e.1.1 e.1.2∈p.walk
 iff:∀g:Int->Int->Th,p.fill g=u↔(∀e∈es,Ls[e.2.toNat]?=A? (g e.1.1 e.1.2))/\∀a∈As,Ls[a.2]?=A? (a.1.fill g)
 sub:∀a∈As,∀x∈a.1.walk,x∈p.walk
 ix:∀a∈As,a.2<Ls.length
theorem NeedI.start{u:Th}(h:Ls[n]?=A? u):NeedI Ls p u [] [(p,n)] :=
 {by simp,(by intro e he;cases he),λg=>by
  constructor
  .intro e;refine{(by intro e he;cases he),λa ha=>?_};rw[WG.mp ha];show Ls[n]?=A? (p.fill g);rw[e];exact h
  .rintro⟨_,h2⟩;have:=h2 _ (WG.mpr rfl);dsimp only at this;rw[h]at this;exact(WN this).symm,λa ha x hx=>by rw[WG.mp ha]at hx;exact hx,λa ha=>by rw[WG.mp ha];exact(glE h)}
theorem NeedI.done{u:Th}(h:NeedI Ls p u es []):mP Ls p u es:={h.nd,h.ok,λg=>(h.iff g).trans {λz=>z.1,λz=>{z,(by intro a ha;cases ha)}}}
theorem eg{P:α->Prop}{l:List α}{a:α}:(∀x∈l++[a],P x)↔(∀x∈l,P x)/\P a :=
 {λh=>{λx hx=>h x (WX _ hx),h a (by simp)},λh x hx=>by
  rcases WQ.mp hx with hx|hx
  .exact h.1 x hx
  .rw[WG.mp hx];exact h.2}
theorem NeedI.put{u:Th}{s k:Int}{w:Nat}(h:NeedI Ls p u es (As++[(.call s k,w)]))(hn:cQ es (s,k)=B?):NeedI Ls p u (dS es (s,k) (w:Int)) As:=by
 have hk:=rA hn;have e:dS es (s,k) (w:Int)=es++[((s,k),(w:Int))]:=by unfold dS;rw[a! hk]
 refine{lu h.nd _ _,?_,λg=>?_,λa ha=>h.sub a (WX _ ha),λa ha=>h.ix a (WX _ ha)}
 .rw[e];exact eg.mpr {h.ok,{w,rfl,h.ix (.call s k,w) (by simp)},h.sub (.call s k,w) (by simp) _ (by rw[E!];exact WM ..)}
 .rw[h.iff g,e,eg,eg,D!];dsimp only;rw[WU];exact{λ⟨a,b,c⟩=>{⟨a,c⟩,b},λ⟨⟨a,c⟩,b⟩=>⟨a,b,c⟩}
theorem NeedI.same{u:Th}{s k:Int}{w:Nat}(h:NeedI Ls p u es (As++[(.call s k,w)]))(hn:cQ es (s,k)=A? (w:Int)):NeedI Ls p u es As:=by
 refine{h.nd,h.ok,λg=>?_,λa ha=>h.sub a (WX _ ha),λa ha=>h.ix a (WX _ ha)};rw[h.iff g,eg,D!];refine{λ⟨a,b,c⟩=>⟨a,b⟩,λ⟨a,b⟩=>{a,b,?_}};have:=a _ (gK hn);dsimp only at this;rw[WU]at this;exact this
theorem NeedI.clash{u:Th}{s k v:Int}{w:Nat}(Bu:Ls.Nodup)(h:NeedI Ls p u es (As++[(.call s k,w)]))(hn:cQ es (s,k)=A? v)(hv:v≠(w:Int)):∀g,p.fill g≠u:=λg e=>by
 obtain⟨a,b⟩:=(h.iff g).mp e;have h1:=a _ (gK hn);have h2:=(eg.mp b).2;obtain⟨⟨w',e',_⟩,_⟩:=h.ok _ (gK hn);dsimp only at h1 h2 e';rw[D!]at h2;rw[e',WU]at h1;have:=db Bu h1 h2;lia
theorem l9{g:Int->Int->Th}:∀{ks kids:List Th}{ids:List Nat},Xb (λid u=>Ls[id]?=A? u) ids kids->ks.length=kids.length->(fills g ks=kids↔∀a∈ks.zip ids,Ls[a.2]?=A? (a.1.fill g))
 | [],[],_,.nil,_=>by
   rw[fills];exact{λ_=>(by intro a ha;simp at ha),λ_=>rfl}
 | [],_::_,_,_,h=>by cases h
 |_::_,[],_,_,h=>by cases h
 | x::ks,y::kids,_::ids,.cons h t,hl=>by
   rw[fills,List.zip_cons_cons,List.cons.injEq,l9 t (by simpa using hl)];constructor
   .rintro⟨h1,h2⟩ a ha;rcases WW.mp ha with rfl|ha
    .dsimp only;rw[h1];exact h
    .exact h2 a ha
   .intro q;refine{?_,λa ha=>q a (WR _ ha)};have:=q _ (WM ..);dsimp only at this;rw[h]at this;exact(WN this).symm
theorem NeedI.knot{u:Th}{n:W8}{ks kids:List Th}{w:Nat}(h:NeedI Ls p u es (As++[(.knot n ks,w)]))(hw:Ls[w]?=A? (.knot n kids))(hp:Xb (λid u=>Ls[id]?=A? u) ids kids)(hl:ks.length=kids.length):NeedI Ls p u es (As++ks.zip ids):=by
 refine{h.nd,h.ok,λg=>?_,λa ha x hx=>?_,λa ha=>?_}
 .rw[h.iff g,eg,D!];dsimp only;rw[hw,Option.some.injEq,Th.knot.injEq,eq_comm (a:=kids),l9 hp hl];refine{λ⟨a,b,_,c⟩=>{a,λx hx=>(WQ.mp hx).elim (b x) (c x)},λ⟨a,b⟩=>{a,λx hx=>b x (WX _ hx),E?,λx hx=>b x (Xc _ hx)}}
 .rcases WQ.mp ha with ha|ha
  .exact h.sub a (WX _ ha) x hx
  .exact h.sub (.knot n ks,w) (by simp) x (eE (t:=.knot n ks) (Z5 ha).1 x hx)
 .rcases WQ.mp ha with ha|ha
  .exact h.ix a (WX _ ha)
  .obtain⟨i,hi⟩:=WK.mp (Z5 ha).2;obtain⟨y,_,e⟩:=u! hp hi;exact(glE e)
theorem NeedI.other{u:Th}{n n':W8}{ks kids:List Th}{w:Nat}(h:NeedI Ls p u es (As++[(.knot n ks,w)]))(hw:Ls[w]?=A? (.knot n' kids))(hn:n≠n'):∀g,p.fill g≠u:=λg e=>by
 have h2:=(eg.mp ((h.iff g).mp e).2).2;dsimp only at h2;rw[hw,D!]at h2;injection h2 with h2;injection h2 with h2 _;exact hn h2.symm
theorem mz:∀(ks:List Th)(ids:List Nat),ids.length=ks.length->au ((ks.zip ids).map (·.1))=au ks
 | [],_,_=>by rw[List.zip_nil_left];rfl
 |_::_,[],h=>by cases h
 |k::ks,i::ids,h=>by rw[List.zip_cons_cons,W9,au,au,mz ks ids (by simpa using h)]
theorem iF(ts:List Th):ts.length<=au ts:=by
 induction ts with
 |nil=>exact Xo _
 | cons t ts ih =>
   have:=t.size_pos;rw[au,WV];lia
def NdAt(H:Hp)(a:Th×Nat)(b:Wx):Prop:=∃pa,H b=A? (.tup [.ref pa,.int (a.2:Nat)])/\At H a.1 pa
theorem NdAt.mono(k:KT H H'){a:Th×Nat}(h:NdAt H a b):NdAt H' a b:=by
 obtain⟨pa,h1,h2⟩:=h;exact{pa,k _ _ h1,h2.mono k}
def nW(i:Nat):V:=.int (i:Nat)
def RowE(H:Hp)(c:Cand)(kv:Key×V):Prop:=kv.1=Xh c.b/\∃a ka,kv.2=.ref a/\H a=A? (.tup [.int c.n,.ref ka])/\H ka=A? (.tup (c.ks.map nW))
theorem RowE.mono(k:KT H H'){c:Cand}{kv:Key×V}(h:RowE H c kv):RowE H' c kv:=by
 obtain⟨h1,a,ka,h2,h3,h4⟩:=h;exact{h1,a,ka,h2,k _ _ h3,k _ _ h4}
def dN(H:Hp)(d:Wx)(D:List Cand):Prop:=∃kvs,H d=A? (.dK kvs)/\Xb (RowE H) D kvs
theorem lY:∀{D:List Cand}{kvs:List (Key×V)},Xb (RowE H) D kvs->kvs.map (·.1)=D.map λc=>(Xh c.b:Key)
 | [],_,.nil=>rfl
 |c::D,_,.cons h t=>by rw[W9,W9,lY t,h.1]
theorem mr:∀{l:List Int},l.Nodup->(l.map λb=>(Xh b:Key)).Nodup
 | [],_=>by simp
 | x::l,h=>by
   rw[XH]at h;rw[W9,XH];refine{λz=>?_,mr h.2};obtain⟨y,hy,e⟩:=WY.mp z;exact h.1 (Sum.inl.inj e ▸ hy)
theorem oC[DecidableEq κ]{kvs:List (κ×V)}{k:κ}(h:k∉kvs.map (·.1)):putK kvs k v=kvs++[(k,v)]:=by
 unfold putK;rw[a!];intro z;obtain⟨x,hx,e⟩:=List.any_eq_true.mp z;exact h (WY.mpr {x,hx,e! e})
theorem oW[DecidableEq κ]{kvs:List (κ×V)}(nd:(kvs.map (·.1)).Nodup){k:κ}{u:V}(h:kvs[i]?=A? (k,u)):putK kvs k v=kvs.set i (k,v):=by
 unfold putK;rw[b! (List.any_eq_true.mpr {_,Ww h,d! rfl})];refine YH λj=>?_;rw[Wz,List.getElem?_set];by_cases z:i=j
 .subst z;rw[b! rfl,b! (glE h),h];show A? (if k=k then(k,v)else(k,u))=_;rw[b! rfl]
 .rw[a! z];cases hj:kvs[j]? with
  |none=>rfl
  | some x =>
    show A? (if x.1=k then(x.1,v)else x)=A? x;rw[a!];intro e;have h1:(kvs.map (·.1))[i]?=A? k:=by rw[Wz,h];rfl
    have h2:(kvs.map (·.1))[j]?=A? k:=by rw[Wz,hj,<-e];rfl
    exact z (db nd h1 h2)
theorem lz[DecidableEq κ]{kvs:List (κ×V)}{k:κ}(h:bC kvs k=B?):k∉kvs.map (·.1):=λz=>by
 induction kvs with
 |nil=>cases z
 | cons p r ih =>
   by_cases e:p.1=k
   .rw[ck e]at h;cases h
   .rw[cj e]at h;rw[W9]at z;rcases WW.mp z with z|z
    .exact e z.symm
    .exact ih h z
theorem vW{F:α->β->Prop}:∀{a:List α}{b:List β},Xb F a b->∀(i:Nat){x:α}{y:β},F x y->Xb F (a.set i x) (b.set i y)
 |_,_,.nil,_,_,_,_=>.nil
 |_,_,.cons h t,0,_,_,f=>.cons f t
 |_,_,.cons h t,i+1,_,_,f=>.cons h (vW t i f)
structure Kept(D:List Cand)(c:Cand)(D':List Cand):Prop where
 len:D'.length<=D.length+1
 least:∀S,Least S D->Least (λx=>S x\/x=c) D'
theorem lk0{a:W8}{r:List (W8×V)}:((a,v)::r).lookup a=A? v:=by rw[Ym,beq_self_eq_true]
theorem lk1{a b:W8}{r:List (W8×V)}(h:(a == b)=D?):((b,v)::r).lookup a=r.lookup a:=by rw[Ym,h]
theorem cJ{f g:W8}{u:V}{r:List (W8×V)}(h:(f == g)=D?):aP f v ((g,u)::r)=(g,u)::aP f v r:=by
 have h':¬g=f:=λz=>by rw[z,beq_self_eq_true]at h;cases h
 rw[aP,a! h']
def wyF(nm:W8)(pl nl al:Wx):List (W8×V):=[(WE "kind_name",.str nm),(WE "pairs",.ref pl),(WE "needing",.ref nl),(WE "agreeing",.ref al)]
theorem xA:(wyF nm pl nl al).lookup (WE "kind_name")=A? (.str nm):=lk0
theorem qN:(wyF nm pl nl al).lookup (WE "pairs")=A? (.ref pl):=(lk1 (by decide +kernel)).trans lk0
theorem sH:(wyF nm pl nl al).lookup (WE "needing")=A? (.ref nl):=(lk1 (by decide +kernel)).trans ((lk1 (by decide +kernel)).trans lk0)
theorem rc:(wyF nm pl nl al).lookup (WE "agreeing")=A? (.ref al):=(lk1 (by decide +kernel)).trans ((lk1 (by decide +kernel)).trans ((lk1 (by decide +kernel)).trans lk0))
theorem gy{m:W8}(h1:(m == WE "kind_name")=false:=by decide +kernel)(h2:(m == WE "pairs")=false:=by decide +kernel)(h3:(m == WE "needing")=false:=by decide +kernel)(h4:(m == WE "agreeing")=false:=by decide +kernel):(wyF nm pl nl al).lookup m=B? :=
 (lk1 h1).trans ((lk1 h2).trans ((lk1 h3).trans ((lk1 h4).trans rfl)))
theorem uU(nm:W8)(pl nl al:Wx):aP (WE "agreeing") (.ref al) (aP (WE "needing") (.ref nl) (aP (WE "pairs") (.ref pl) (aP (WE "kind_name") (.str nm) [])))=wyF nm pl nl al:=by
 have e1:∀(f:W8)(v:V),aP f v []=[(f,v)]:=λf v=>by rw[aP]
 rw[e1,cJ (by decide +kernel),e1,cJ (by decide +kernel),cJ (by decide +kernel),cJ (by decide +kernel),e1,cJ (by decide +kernel),cJ (by decide +kernel),e1];rfl
structure Kd where
 d:Wx
 es:CLs
 a:Wx
 ag:List Int
structure Wy where
 x:Wx
 dx:Wx
 nm:W8
 pl:Wx
 nl:Wx
 al:Wx
 ps:List (Int×Int×Wx)
 ks:List Kd
structure WyAt(C:Wx)(H:Hp)(w:Wy):Prop where
 ins:H w.x=A? (.ins C w.dx (wyF w.nm w.pl w.nl w.al))
 pl:H w.pl=A? (.lst (w.ps.map λq=>j! q.2.2))
 pr:∀q∈w.ps,H q.2.2=A? (.tup [.int q.1,.int q.2.1])
 nl:H w.nl=A? (.lst (w.ks.map λk=>j! k.d))
 al:H w.al=A? (.lst (w.ks.map λk=>j! k.a))
 nd:∀k∈w.ks,H k.d=A? (.dT (dE k.es))
 ag:∀k∈w.ks,H k.a=A? (.lst (k.ag.map o!))
 n1:w.pl≠w.nl
 n2:w.pl≠w.al
 n3:w.nl≠w.al
 n4:∀k∈w.ks,k.a≠w.pl/\k.a≠w.nl/\k.a≠w.al
 nda:(w.ks.map (·.a)).Nodup
 ndd:(w.ks.map (·.d)).Nodup
def Wy.own(w:Wy):List Wx:=w.x::w.pl::w.nl::w.al::(w.ks.map (·.d)++w.ks.map (·.a))
theorem Wy.own_d{w:Wy}{k:Kd}(h:k∈w.ks):k.d∈w.own:=by unfold Wy.own;simp;exact .inr (.inr (.inr (.inr (.inl ⟨k,h,rfl⟩))))
theorem Wy.own_a{w:Wy}{k:Kd}(h:k∈w.ks):k.a∈w.own:=by unfold Wy.own;simp;exact .inr (.inr (.inr (.inr (.inr ⟨k,h,rfl⟩))))
theorem WyAt.keep{w:Wy}(h:WyAt C H w)(k:KT H H')(f:∀b∈w.own,∀o,H b=A? o->H' b=A? o):WyAt C H' w :=
 {f _ (by simp[Wy.own]) _ h.ins,f _ (by simp[Wy.own]) _ h.pl,λq hq=>k _ _ (h.pr q hq),f _ (by simp[Wy.own]) _ h.nl,f _ (by simp[Wy.own]) _ h.al,λkd hk=>f _ (Wy.own_d hk) _ (h.nd kd hk),λkd hk=>f _ (Wy.own_a hk) _ (h.ag kd hk),h.n1,h.n2,h.n3,h.n4,h.nda,h.ndd}
theorem WyAt.same{w:Wy}(h:WyAt C H w)(s:k! H H'):WyAt C H' w:=h.keep (n! s) λb _ o e=>s b o e
abbrev cA:=Int×Int×CLs
structure NeedT(Ws:List cA)(k:Nat)(es:CLs):Prop where
 nd:(es.map (·.1)).Nodup
 rng:∀e∈es,0<=e.2/\e.2<2 ^ Ws.length
 bit:∀(c w:Int)(i:Nat),(∃e∈es,e.1=(c,w)/\bt e.2 i=C?)↔∃q,Ws[i]?=A? q/\((c,(k:Int)),w)∈q.2.2
 nz:∀e∈es,e.2≠0
theorem NeedT.nil(k:Nat):NeedT [] k []:={by simp,(by intro e h;cases h),λc w i=>{λ⟨e,h,_⟩=>(by cases h),λ⟨q,h,_⟩=>(by simp at h)},(by intro e h;cases h)}
theorem be{l:List α}{a b:α}:(l++[a])[i]?=A? b↔l[i]?=A? b\/(i=l.length/\a=b):=by
 by_cases h:i<l.length
 .rw[Xk h];exact{.inl,λz=>z.elim id λz=>by lia}
 .rw[Xu (by lia),XJ (show l.length<=i by lia)];by_cases e:i=l.length
  .subst e;rw[Zu];exact{λz=>.inr {E?,(by simpa using z)},λz=>z.elim (λy=>(by cases y)) λy=>(by rw[y.2];rfl)}
  .rw[XJ (by simp;lia)];exact{λz=>(by cases z),λz=>z.elim (λy=>y) λy=>g! y.1 e}
theorem NeedT.more{Ws:List cA}{k:Nat}(h:NeedT Ws k es)(s p:Int):NeedT (Ws++[(s,p,[])]) k es:=by
 refine{h.nd,λe he=>{(h.rng e he).1,?_},λc w i=>?_,h.nz}
 .have h1:=(h.rng e he).2;have h2:=cy Ws.length;have h3:=cy (Ws++[((s,p,[]):cA)]).length;have:2 ^ Ws.length<=2 ^ (Ws++[((s,p,[]):cA)]).length:=YA (by decide) (by simp);lia
 .rw[h.bit];constructor
  .rintro⟨q,hq,hm⟩;exact{q,be.mpr (.inl hq),hm}
  .rintro⟨q,hq,hm⟩;rcases be.mp hq with hq|⟨_,rfl⟩
   .exact⟨q,hq,hm⟩
   .cases hm
theorem NeedT.other{Ws:List cA}{k:Nat}{L:CLs}{s p:Int}{e:(Int×Int)×Int}(h:NeedT (Ws++[(s,p,L)]) k es)(hk:e.1.2≠(k:Int)):NeedT (Ws++[(s,p,L++[e])]) k es:=by
 refine{h.nd,λe' he=>by have:=h.rng e' he;simpa using this,λc w i=>?_,h.nz};rw[h.bit];constructor
 .rintro⟨q,hq,hm⟩;rcases be.mp hq with hq|⟨hi,rfl⟩
  .exact{q,be.mpr (.inl hq),hm}
  .exact{_,be.mpr (.inr ⟨hi,E?⟩),WX _ hm}
 .rintro⟨q,hq,hm⟩;rcases be.mp hq with hq|⟨hi,rfl⟩
  .exact{q,be.mpr (.inl hq),hm}
  .rcases WQ.mp hm with hm|hm
   .exact{_,be.mpr (.inr ⟨hi,E?⟩),hm}
   .have:=WG.mp hm;rw[<-this]at hk;exact g! rfl hk
theorem NeedT.put{Ws:List cA}{k:Nat}{L:CLs}{s p c w:Int}(h:NeedT (Ws++[(s,p,L)]) k es) :
 NeedT (Ws++[(s,p,L++[((c,(k:Int)),w)])]) k (dS es (c,w) (YT ((cQ es (c,w)).getD 0) (1 * 2 ^ ((Ws.length:Nat):Int).toNat))):=by
 have hp:=cy Ws.length;have Am:=cy (Ws.length+1);have hq:(2:Nat) ^ (Ws.length+1)=2 * 2 ^ Ws.length:=by rw[Nat.pow_succ];lia
 have zY:=Nat.two_pow_pos Ws.length;have hlen:(Ws++[((s,p,L):cA)]).length=Ws.length+1:=by simp
 have r0:0<=(cQ es (c,w)).getD 0/\(cQ es (c,w)).getD 0<2 ^ (Ws.length+1):=by
  cases e:cQ es (c,w)with
  |none=>exact{by decide,by show(0:Int)<_;lia}
  | some v =>
    have:=h.rng _ (gK e);rw[hlen]at this;exact this
 have IX:(1 * 2 ^ ((Ws.length:Nat):Int).toNat:Int)=2 ^ Ws.length:=by rw[Int.one_mul,WU]
 obtain⟨b0,b1,b2⟩:=vR (n:=Ws.length+1) r0.1 (y:=1 * 2 ^ ((Ws.length:Nat):Int).toNat) (by rw[IX];lia) r0.2 (by rw[IX];lia);refine{lu h.nd _ _,λe he=>?_,λc' w' i=>?_,λe he=>?_}
 .rw[WL,Xe];rcases iY he with rfl|⟨he,_⟩
  .exact⟨b0,b1⟩
  .have:=h.rng e he;rw[hlen]at this;exact this
 .have old:=h.bit c' w' i;by_cases hk:(c',w')=(c,w)
  .injection hk with e1 e2;subst e1 e2;constructor
   .rintro⟨e,he,e1,e2⟩;rcases iY he with rfl|⟨he,zg⟩
    .rw[b2,Bool.or_eq_true]at e2;rcases e2 with e2|e2
     .cases hg:cQ es (c',w')with
      |none=>rw[hg]at e2;exact g! e2 (by show¬bt 0 i=C?;rw[nX];decide)
      | some v =>
        rw[hg]at e2;obtain⟨q,hq,hm⟩:=old.mp {_,gK hg,rfl,e2};rcases be.mp hq with hq|⟨hi,rfl⟩
        .exact{q,be.mpr (.inl hq),hm}
        .exact{_,be.mpr (.inr ⟨hi,E?⟩),WX _ hm}
     .rw[pV]at e2;exact{_,be.mpr (.inr {(e! e2).symm,E?}),by simp}
    .exact g! e1 zg
   .rintro⟨q,hq,hm⟩;refine{_,tT es (c',w') _,E?,?_};rw[b2,Bool.or_eq_true];rcases be.mp hq with hq|⟨hi,rfl⟩
    .obtain⟨e,he,e1,e2⟩:=old.mpr {q,be.mpr (.inl hq),hm};have hg:=uG h.nd he;rw[e1]at hg;rw[hg];exact .inl e2
    .rw[pV];exact .inr (d! hi.symm)
  .constructor
   .rintro⟨e,he,e1,e2⟩;rcases iY he with rfl|⟨he,zg⟩
    .exact g! e1.symm hk
    .obtain⟨q,hq,hm⟩:=old.mp ⟨e,he,e1,e2⟩;rcases be.mp hq with hq|⟨hi,rfl⟩
     .exact{q,be.mpr (.inl hq),hm}
     .exact{_,be.mpr (.inr ⟨hi,E?⟩),WX _ hm}
   .rintro⟨q,hq,hm⟩
    have:∃q,(Ws++[(s,p,L)])[i]?=A? q/\((c',(k:Int)),w')∈q.2.2:=by
     rcases be.mp hq with hq|⟨hi,rfl⟩
     .exact{q,be.mpr (.inl hq),hm}
     .rcases WQ.mp hm with hm|hm
      .exact{_,be.mpr (.inr ⟨hi,E?⟩),hm}
      .have:=WG.mp hm;simp only[Prod.mk.injEq]at this;exact g! (by rw[this.1.1,this.2]) hk
    obtain⟨e,he,e1,e2⟩:=old.mpr this;exact{e,rF he (by rw[e1];exact hk),e1,e2}
 .rcases iY he with rfl|⟨he,_⟩
  .intro z;have:=b2 Ws.length;rw[pV,d! rfl,Bool.or_true]at this;dsimp only at z;rw[z,nX]at this;cases this
  .exact h.nz e he
def Agr(Ws:List cA)(note:List Int)(k i:Nat):Prop:=∃q,Ws[i]?=A? q/\∀c w:Int,((c,(k:Int)),w)∈q.2.2->note[c.toNat]?=A? w
structure Agst(es:CLs)(note:List Int)(N j:Nat)(x:Int):Prop where
 rng:0<=x/\x<2 ^ N
 bit:∀i,bt x i=C?↔∃e∈es.take j,note[e.1.1.toNat]?≠A? e.1.2/\bt e.2 i=C?
theorem Agst.zero(es:CLs)(note:List Int)(N:Nat):Agst es note N 0 0:=by
 have h1:=Nat.two_pow_pos N;have h2:=cy N;exact{{by decide,by lia},λi=>by rw[nX,YM];exact{λz=>(by cases z),λ⟨e,he,_⟩=>(by cases he)}}
theorem Agst.step{note:List Int}{N:Nat}{x:Int}{e:(Int×Int)×Int}(h:Agst es note N j x)(he:es[j]?=A? e)(hr:0<=e.2/\e.2<2 ^ N):(note[e.1.1.toNat]?=A? e.1.2->Agst es note N (j+1) x)/\(note[e.1.1.toNat]?≠A? e.1.2->Agst es note N (j+1) (YT x e.2)):=by
 have ht:es.take (j+1)=es.take j++[e]:=by rw[YG,he];rfl
 refine{λhn=>{h.rng,λi=>?_},λhn=>?_}
 .rw[h.bit,ht];constructor
  .rintro⟨e',zN,g⟩;exact{e',WX _ zN,g}
  .rintro⟨e',zN,g⟩;rcases WQ.mp zN with zN|zN
   .exact⟨e',zN,g⟩
   .rw[WG.mp zN]at g;exact g! hn g.1
 .obtain⟨b0,b1,b2⟩:=vR h.rng.1 hr.1 h.rng.2 hr.2;refine{⟨b0,b1⟩,λi=>?_};rw[b2,Bool.or_eq_true,h.bit,ht];constructor
  .rintro(⟨e',zN,g⟩|g)
   .exact{e',WX _ zN,g}
   .exact{e,by simp,hn,g}
  .rintro⟨e',zN,g⟩;rcases WQ.mp zN with zN|zN
   .exact .inl ⟨e',zN,g⟩
   .rw[WG.mp zN]at g;exact .inr g.2
theorem Agst.done{Ws:List cA}{k:Nat}{note:List Int}{x:Int}(h:Agst es note Ws.length es.length x)(hN:NeedT Ws k es):0<=XO (ones Ws.length) (X8 x)/\∀i,bt (XO (ones Ws.length) (X8 x)) i=C?↔Agr Ws note k i:=by
 obtain⟨b0,b1⟩:=vi h.rng.1 h.rng.2;refine{b0,λi=>?_};rw[b1,YK,decide_eq_true_iff,Bool.not_eq_true',<-Bool.not_eq_true,h.bit,YJ];constructor
 .rintro⟨hi,zJ⟩;refine{Ws[i],Wv hi,λc w hm=>?_};obtain⟨e,he,e1,e2⟩:=(hN.bit c w i).mpr {_,Wv hi,hm};by_cases z:note[c.toNat]?=A? w
  .exact z
  .exact g! {e,he,by rw[e1];exact z,e2} zJ
 .rintro⟨q,hq,yW⟩;refine{(glE hq),λ⟨e,he,e1,e2⟩=>?_};obtain⟨q',AE,hm⟩:=(hN.bit e.1.1 e.1.2 i).mp ⟨e,he,rfl,e2⟩;rw[hq]at AE;cases AE;exact e1 (yW _ _ hm)
structure NoteBy(W:List (Int×Int×Wx))(b:Int)(S:Nat)(j:Nat)(note:List Int):Prop where
 len:note.length=S
 at':∀s:Nat,s<S->(∃i q,i<j/\W[i]?=A? q/\q.1=(s:Int)/\bt b i=C?/\note[s]?=A? q.2.1)\/((∀i q,i<j->W[i]?=A? q->q.1=(s:Int)->bt b i=D?)/\note[s]?=A? (-1))
theorem NoteBy.zero(W:List (Int×Int×Wx))(b:Int)(S:Nat):NoteBy W b S 0 (Xx S (-1)) :=
 {List.length_replicate,λs hs=>.inr {λi q h=>by lia,by rw[List.getElem?_replicate,b! hs]}}
theorem NoteBy.skip{b:Int}{S:Nat}{note:List Int}{q:Int×Int×Wx}(h:NoteBy W b S j note)(hq:W[j]?=A? q)(hb:bt b j=D?):NoteBy W b S (j+1) note :=
 {h.len,λs hs=>by
  rcases h.at' s hs with⟨i,q',h1,h2⟩|⟨h1,h2⟩
  .exact .inl {i,q',by lia,h2}
  .refine .inr {λi q' hi AE Bg=>?_,h2};by_cases z:i=j
   .rw[z];exact hb
   .exact h1 i q' (by lia) AE Bg}
theorem NoteBy.set{b:Int}{S:Nat}{note:List Int}{q:Int×Int×Wx}{s0:Nat}(h:NoteBy W b S j note)(hq:W[j]?=A? q)(hb:bt b j=C?)(Gf:q.1=(s0:Int)):NoteBy W b S (j+1) (note.set s0 q.2.1) :=
 {by rw[YR];exact h.len,λs hs=>by
  by_cases z:s0=s
  .subst z;exact .inl {j,q,by lia,hq,Gf,hb,by rw[X5 (by rw[h.len];exact hs)]}
  .rw[X6 z];rcases h.at' s hs with⟨i,q',h1,h2⟩|⟨h1,h2⟩
   .exact .inl {i,q',by lia,h2}
   .refine .inr {λi q' hi AE Bg=>?_,h2};by_cases y:i=j
    .subst y;rw[hq]at AE;cases AE;exact g! (Int.ofNat.inj (Gf.symm.trans Bg)) z
    .exact h1 i q' (by lia) AE Bg}
end BB
variable{Ws:List BB.cA}{kd:BB.Kd}{yZ:List BB.Kd}
namespace L2
open PySem PySem.Spec PySem.SeqAt PyProof.Rows
section
variable{X:Cx}{o i value:XD}{td ty tv:TE}
end
section
variable{X:Cx}{o i e f:XD}{apos zf:ZD}{td ty tx:TE}
end
end L2
namespace BB
open PySem L2
theorem iA(g:GoodN ins){n:W8}{m:Int}(hj:ins[j]?=A? (n,m)):(ins.map (·.1)).idxOf n=j:=by
 have h1:n∈ins.map (·.1):=WY.mpr {_,Ww hj,rfl};have h2:=List.idxOf_lt_length_iff.mpr h1;have h3:(ins.map (·.1))[(ins.map (·.1)).idxOf n]=n:=List.getElem_idxOf h2;rw[Wt]at h2;rw[List.getElem_map]at h3;exact g.nd _ _ _ _ (Wv h2) hj h3
section
variable{mid:List (W8×Int)}{S1 S2:Int}{DJ DK:Th}{DL DM:List (List Th)}
end
section
variable{D:Int->List Int->Bool}{mk f0:Int->Th}
end
end BB
namespace L2
open PySem PySem.Spec PyProof.Rows
def sK(K:WJ)(a:Wx):It:={λi H=>∃xs x,SqL K H a xs/\xs[i]?=A? x,λi H x H'=>∃p y,H p=B?/\x=.ref p/\H'=upd H p (.tup [.int (i:Nat),y])/\∀xs,SqL K H a xs->xs[i]?=A? y,λi H=>∃xs,SqL K H a xs/\xs.length=i}
theorem pP{k1}(a e it:Wx):Turn P w K (.Tuple elts k1 pos) (sK K a) [e,it] e (λi h=>(∃old,IsEnum h e it ((i:Nat):Int) old)/\h.IsListIter it a i) where
 mem:=by simp
 obj:=λi h st b hb=>by
  obtain⟨⟨old,he⟩,o,e1,e2,e3⟩:=st;rcases WW.mp hb with rfl|hb
  .exact{_,he,λv z=>by cases z}
  .have:b=it:=by simpa using hb
   subst this;exact{o,e1,λv z=>by rw[e3]at z;cases z}
 keep:=λi h h' st k=>by
  obtain⟨⟨old,he⟩,o,e1,e2⟩:=st;exact{{old,k e (by simp) _ he},o,k it (by simp) _ e1,e2}
 item:=by
  walk_at"aa";obtain⟨xs,x,hq,hx⟩:=hg;obtain⟨its,rv,p,hz⟩:=I.list hq;obtain⟨u,hu,ru⟩:=rv.get hx;obtain⟨⟨old,he⟩,hi⟩:=st
  have FZ:e≠it:=by
   rintro rfl;obtain⟨o,e1,e2,_⟩:=hi;rw[he]at e1;cases e1;exact g! (Yp e2) (by decide)
  have EG:a≠it:=by
   rintro rfl;obtain⟨o,e1,e2,_⟩:=hi;obtain⟨o',CS,B4,_⟩:=p.isList;rw[CS]at e1;cases e1;rw[B4]at e2;exact g! (Yp e2) (by decide)
  have Ml:a≠e:=by
   rintro rfl;obtain⟨o',CS,B4,_⟩:=p.isList;rw[he]at CS;cases CS;exact g! (Yp B4) (by decide)
  have yY:i<its.toArray.size:=by
   have:=(glE hu);simpa using this
  have B9:e<s.1.1.size:=W6 he;have zV:it<s.1.1.size:=by obtain⟨o,e1,_⟩:=hi;exact W6 e1
  refine wpAny_pyNext_enum_itemD (Draws.list (A:=X.A.in1) (show X.A.in1.handled=B? from I.ok.hd hc) it a EG its.toArray) he ⟨hi,p.isList⟩ yY FZ (by simp[FZ,Ml.symm]) λy h1 tk hy ho Mm hT hsz hk=>?_
  have Mn:y=u:=by
   have:its[i]?=A? y:=by simpa using hy
   rw[hu]at this;exact(WN this).symm
  subst Mn;refine{_,E?,wpAny_letOwnedTupleGo_enum ho λh2 Mo Dw=>?_};replace Dw:X3 e h1 h2:=Dw
  have zg:∀b∈[e,it],b<s.1.1.size:=λb hb=>by
   rcases WW.mp hb with rfl|hb
   .exact B9
   .have:b=it:=by simpa using hb
    subst this;exact zV
  have F0:H s.1.1.size=none:=I.hok.fresh (WD _)
  have IA:Inv X Y σ (upd H s.1.1.size (.tup [.int (i:Nat),x])) {s with heap:=s.1.push {cls:=.type "tuple",data:=.seq #[.int (i:Nat) tk,y]},toks:=tk} :=
   I.laid (o:=.tup [.int (i:Nat),x]) (λb ob q=>WB _ q) (WD _) {by show 2<=W5;decide,[.int (i:Nat) tk,y],0,.cons ⟨tk,rfl⟩ (.cons ru .nil),WO _ rfl}
  refine{.ref s.1.1.size,upd H s.1.1.size (.tup [.int (i:Nat),x]),?_,E?,{_,x,F0,E?,E?,λys Cw=>by rw[I.list_inj Cw hq];exact hx},{{y,by simpa using Mo},?_},λb hb=>?_}
  .have IB:Inv X Y σ (upd H s.1.1.size (.tup [.int (i:Nat),x])) {s with heap:=h2,toks:=tk+1}:=by
    refine Inv.turnedL (s:={s with heap:=s.1.push {cls:=.type "tuple",data:=.seq #[.int (i:Nat) tk,y]},toks:=tk}) (h':=h2) (fp:=[e,it]) (t':=tk+1) IA (λb o hb q=>?_) λb hb=>?_
    .have CO:b≠e:=λz=>hb (by simp[z]);have Ip:b≠it:=λz=>hb (by simp[z]);rw[Dw.2 b CO];by_cases hb2:b=s.1.1.size
     .subst hb2;rw[hT];have q':(s.1.push {cls:=.type "tuple",data:=.seq #[.int (i:Nat) tk,y]}).get? s.1.1.size=A? o:=q;rw[WO _ rfl]at q';exact q'
     .have AI:b<(s.1.push {cls:=.type "tuple",data:=.seq #[.int (i:Nat) tk,y]}).objs.size:=W6 q;rw[XZ]at AI;refine hk b o CO Ip ?_;have q':(s.1.push {cls:=.type "tuple",data:=.seq #[.int (i:Nat) tk,y]}).get? b=A? o:=q;rw[Heap.get?_push_ne _ _ _ hb2]at q';exact q'
    .obtain⟨f0,f1⟩:=hf b hb;exact{by rw[aj (Xn (zg b hb))];exact f0,f1}
   exact IB
  .obtain⟨o,e1,r⟩:=Mm.1;exact{o,(Dw.2 it (YB FZ)).trans e1,r}
  .rw[aj (Xn (zg b hb))];exact(hf b hb).1
 done:=by
  walk_at"aa";obtain⟨xs,hq,hx⟩:=hg;obtain⟨its,rv,p,hz⟩:=I.list hq;obtain⟨⟨old,he⟩,hi⟩:=st
  have EG:a≠it:=by
   rintro rfl;obtain⟨o,e1,e2,_⟩:=hi;obtain⟨o',CS,B4,_⟩:=p.isList;rw[CS]at e1;cases e1;rw[B4]at e2;exact g! (Yp e2) (by decide)
  have hn:its.toArray.size=i:=by
   have:=rv.length;rw[WT];lia
  refine wpAny_pyNext_enum_endD (Draws.list (A:=X.A.in1) (show X.A.in1.handled=B? from I.ok.hd hc) it a EG its.toArray) he (by rw[hn];exact⟨hi,p.isList⟩) λh' eb=>{rfl,?_};exact I.turnedL (fp:=[e,it]) (t':=s.toks) (λb o hb q=>eb b o (λz=>hb (by simp[z])) q) hf
 self:=λ_ _ _ _ _ st h=>by
  obtain⟨⟨old,he⟩,_⟩:=st;exact wpAny_pyIter_enum he h
section
variable{X:Cx}{e:XD}{te:TE}{p2 zq:ZD}
def wR(K:WJ)(tl:TE):TI:=λσ H R=>tl σ H λx H1=>∃a,x=.ref a/\(∃xs,SqL K H1 a xs)/\R (sK K a) H1
theorem i9{k1}(g2:Gl X "enumerate")(m2:X.mg "enumerate"=B?)(he:PE X e te)(h2:Xw [e] X.env=[(D?,YC e X.env)]:=by rfl):PI X (.Tuple elts k1 pos) (.Call (.Name "enumerate" p2) [e] [] zq) (wR X.K te):=by
 intro Y s σ H R I h;refine X2 (ej I g2 m2 boot_enumerate (XY ?_ h2 rfl));rw[h2];show WZ _ _ (spliced ((D?,YC e X.env)::[])) _ _ s;refine YD (thn (he Y s σ H _ I h) λu s1⟨x,H1,I1,r1,a,ex,⟨xs,hq⟩,q⟩=>Y0 ?_);subst ex;cases r1;obtain⟨its,rv,p,hz⟩:=I1.list hq;refine call_enumerate_list (show s1.1.IsList a its.toArray from p.isList) λh' g1 g2 g3 g4=>?_;refine wpAny_pyIter_enum (s:={s1 with heap:=h'}) g1 ?_;refine{s1.1.1.size+1,[s1.1.1.size+1,s1.1.1.size],_,_,H1,E?,I1.kept (t':=s1.toks) g4,pP a _ _,{{_,g1},g2},λb hb=>?_,q}
 have zA:s1.1.1.size<=b:=by
  rcases WW.mp hb with rfl|hb
  .lia
  .have:b=s1.1.1.size:=by simpa using hb
   exact Nat.le_of_eq this.symm
 exact I1.fpOk zA (I1.hok.fresh zA)
end
theorem gM{g:TG}(Pv:Nat->St->Hp->Prop)(h0:Pv 0 σ H)(hl:∀i σ H,i<=xs.length->Pv i σ H->SqL K H a xs)
 (hs:∀i x p σ H,xs[i]?=A? x->H p=B?->Pv i σ H->g (.ref p) σ (upd H p (.tup [.int (i:Nat),x])) λze H2=>tb {D with nx:=Pv (i+1),ct:=Pv (i+1),bk:=D.nx} ze H2) (hd:∀σ H,Pv xs.length σ H->D.nx σ H) :
 ∃W:Nat->Nat->St->Hp->Prop,(∃m,W 0 m σ H)/\∀i m σ H,W i m σ H ->
   ((sK K a).stop i H/\D.nx σ H)\/((sK K a).go i H/\∃N:St->Hp->Prop,(∀i' H',N i' H'->∃m',m'<m/\W (i+1) m' i' H')/\∀x H',(sK K a).yld i H x H'->g x σ H' λze H2=>tb {D with nx:=N,ct:=N,bk:=D.nx} ze H2):=by
 refine{λi m σ H=>m=xs.length - i/\i<=xs.length/\Pv i σ H,{xs.length,by simp,Xo _,h0},?_};rintro i m σ H ⟨rfl,hi,p⟩;have q:=hl i σ H hi p;by_cases yY:i<xs.length
 .refine .inr {{xs,xs[i],q,by simp[yY]},Pv (i+1),λi' H' p'=>{xs.length - (i+1),by lia,rfl,yY,p'},λx H' y=>?_};obtain⟨pa,y,hp,rfl,rfl,hy⟩:=y;exact hs i y pa σ H (hy xs q) hp p
 .have e:i=xs.length:=by lia
  subst e;exact .inl {⟨xs,q,rfl⟩,hd σ H p}
end L2
namespace BB
open PySem L2
theorem kh{o:Yw}{g:TG}(Pv:Nat->St->Hp->Prop)(h0:Pv 0 σ H)(hl:∀i σ H,i<=es.length->Pv i σ H->H a=A? (.frz o (.dT (dE es))))
 (hs:∀(i:Nat)(e:(Int×Int)×Int)(p b:Wx)(σ:St)(H:Hp),es[i]?=A? e->H p=B?->H b=A? (.tup [.int e.1.1,.int e.1.2])->Pv i σ H->g (.ref p) σ (upd H p (.tup [.ref b,.int e.2])) λze H2=>tb {D with nx:=Pv (i+1),ct:=Pv (i+1),bk:=D.nx} ze H2) (hd:∀σ H,Pv es.length σ H->D.nx σ H) :
 ∃W:Nat->Nat->St->Hp->Prop,(∃m,W 0 m σ H)/\∀i m σ H,W i m σ H ->
   ((tJ a o (dE es)).stop i H/\D.nx σ H)\/((tJ a o (dE es)).go i H/\∃N:St->Hp->Prop,(∀i' H',N i' H'->∃m',m'<m/\W (i+1) m' i' H')/\∀x H',(tJ a o (dE es)).yld i H x H'->g x σ H' λze H2=>tb {D with nx:=N,ct:=N,bk:=D.nx} ze H2):=by
 have hlen:(dE es).length=es.length:=by unfold dE;rw[Wt]
 refine{λi m σ H=>m=es.length - i/\i<=es.length/\Pv i σ H,{es.length,by simp,Xo _,h0},?_};rintro i m σ H ⟨rfl,hi,p⟩;have q:=hl i σ H hi p;by_cases yY:i<es.length
 .refine .inr {{q,by lia},Pv (i+1),λi' H' p'=>{es.length - (i+1),by lia,rfl,yY,p'},λx H' y=>?_};obtain⟨pa,b,kv,hp,rfl,rfl,An,eb⟩:=y;unfold dE at An;rw[Wz]at An;obtain⟨e,he,rfl⟩:=W4.mp An;exact hs i e pa b σ H he hp eb p
 .have e:i=es.length:=by lia
  subst e;exact .inl {{q,by lia},hd σ H p}
theorem Least.join{S1 S2:Cand->Prop}{D Dt:List Cand}(h:Least (λc=>S1 c\/∃e∈D,c=e) Dt)(g:Least S2 D):Least (λc=>S1 c\/S2 c) Dt :=
 {h.nd,λe he=>(h.sub e he).imp id λ⟨e',zN,z⟩=>by rw[z];exact g.sub e' zN,λc hc=>by
  rcases hc with hc|hc
  .exact h.le c (.inl hc)
  .obtain⟨e,he,h1,h2⟩:=g.le c hc;obtain⟨d,hd,h3,h4⟩:=h.le e (.inr ⟨e,he,rfl⟩);exact{d,hd,h3.trans h1,by lia}}
theorem fP{f:α->β}{l:List α}(h:(l.map f).Nodup){x y:α}(hi:l[i]?=A? x)(hj:l[j]?=A? y)(e:f x=f y):i=j :=
 db h (gmE hi) (by rw[Wz,hj,e];rfl)
theorem WyAt.setAg{w:Wy}{k:Nat}{l:List Int}(h:WyAt C H w)(hk:w.ks[k]?=A? kd):WyAt C (upd H kd.a (.lst (l.map o!))) {w with ks:=w.ks.set k {kd with ag:=l}}:=by
 have hm:=Ww hk;have ea:=h.ag kd hm;have hn:=h.n4 kd hm;have md:(w.ks.set k {kd with ag:=l}).map (·.d)=w.ks.map (·.d):=map_set _ hk rfl;have ma:(w.ks.set k {kd with ag:=l}).map (·.a)=w.ks.map (·.a):=map_set _ hk rfl;have rd:(w.ks.set k {kd with ag:=l}).map (λk=>j! k.d)=w.ks.map (λk=>j! k.d):=map_set _ hk rfl;have ra:(w.ks.set k {kd with ag:=l}).map (λk=>j! k.a)=w.ks.map (λk=>j! k.a):=map_set _ hk rfl
 have mem:∀x∈w.ks.set k {kd with ag:=l},x={kd with ag:=l}\/(x∈w.ks/\x.a≠kd.a):=λx hx=>by
  rcases mem_set hx with rfl|⟨j,hj,hx⟩
  .exact .inl rfl
  .exact .inr {Ww hx,λz=>hj (fP h.nda hx hk z)}
 refine{?_,?_,λq hq=>?_,?_,?_,λx hx=>?_,λx hx=>?_,h.n1,h.n2,h.n3,λx hx=>?_,?_,?_}
 .exact(aj (aF h.ins ea (λz=>nomatch z))).trans h.ins
 .exact(aj hn.1.symm).trans h.pl
 .exact(aj (aF (h.pr q hq) ea (λz=>nomatch z))).trans (h.pr q hq)
 .exact((aj hn.2.1.symm).trans h.nl).trans (h! (λz=>A? (HO.lst z)) rd.symm)
 .exact((aj hn.2.2.symm).trans h.al).trans (h! (λz=>A? (HO.lst z)) ra.symm)
 .rcases mem x hx with rfl|⟨hx,_⟩
  .exact(aj (aF (h.nd kd hm) ea (λz=>nomatch z))).trans (h.nd kd hm)
  .exact(aj (aF (h.nd x hx) ea (λz=>nomatch z))).trans (h.nd x hx)
 .rcases mem x hx with rfl|⟨hx,zg⟩
  .exact af
  .exact(aj zg).trans (h.ag x hx)
 .rcases mem x hx with rfl|⟨hx,_⟩
  .exact hn
  .exact h.n4 x hx
 .exact(h! List.Nodup ma).mpr h.nda
 .exact(h! List.Nodup md).mpr h.ndd
structure Took(Ws:List cA)(note:List Int)(ks:List Kd)(j:Nat)(yZ:List Kd):Prop where
 len:yZ.length=ks.length
 lo:∀(k:Nat)(kd:Kd),k<j->ks[k]?=A? kd->∃b:Int,yZ[k]?=A? {kd with ag:=kd.ag++[b]}/\0<=b/\∀i,bt b i=C?↔Agr Ws note k i
 hi:∀(k:Nat)(kd:Kd),j<=k->ks[k]?=A? kd->yZ[k]?=A? kd
theorem Took.zero(Ws:List cA)(note:List Int)(ks:List Kd):Took Ws note ks 0 ks:={rfl,λk kd h=>g! h (Z4 _),λk kd _ h=>h}
theorem Took.step{note:List Int}{ks:List Kd}{b:Int}(h:Took Ws note ks j yZ)(hk:ks[j]?=A? kd)(hb:0<=b)(La:∀i,bt b i=C?↔Agr Ws note j i):Took Ws note ks (j+1) (yZ.set j {kd with ag:=kd.ag++[b]}):=by
 have hj:j<yZ.length:=by rw[h.len];exact(glE hk)
 refine{by rw[YR];exact h.len,λk AD yY zm=>?_,λk AD hle zm=>?_}
 .by_cases z:j=k
  .subst z;rw[hk]at zm;cases zm;exact{b,by rw[X5 hj],hb,La}
  .rw[X6 z];exact h.lo k AD (by lia) zm
 .rw[X6 (by lia)];exact h.hi k AD (by lia) zm
theorem Took.map{note:List Int}{ks:List Kd}(h:Took Ws note ks j yZ):yZ.map (·.a)=ks.map (·.a)/\yZ.map (·.d)=ks.map (·.d):=by
 have key:∀k:Nat,∀kd,ks[k]?=A? kd->∃AD,yZ[k]?=A? AD/\AD.a=kd.a/\AD.d=kd.d:=λk kd hk=>by
  by_cases z:k<j
  .obtain⟨b,h1,_⟩:=h.lo k kd z hk;exact{_,h1,E?,E?}
  .exact{kd,h.hi k kd (by lia) hk,E?,E?}
 refine{YH λk=>?_,YH λk=>?_}
 all_goals
  rw[Wz,Wz];by_cases hk:k<ks.length
  .obtain⟨AD,h1,h2,h3⟩:=key k _ (Wv hk);rw[h1,Wv hk]
   first|exact h! A? h2|exact h! A? h3
  .have hl:=h.len;rw[XJ (show yZ.length<=k by lia),XJ (show ks.length<=k by lia)]
theorem WyAt.setEs{w:Wy}{k:Nat}(h:WyAt C H w)(hk:w.ks[k]?=A? kd):WyAt C (upd H kd.d (.dT (dE es))) {w with ks:=w.ks.set k {kd with es:=es}}:=by
 have hm:=Ww hk;have ed:=h.nd kd hm;have md:(w.ks.set k {kd with es:=es}).map (·.d)=w.ks.map (·.d):=map_set _ hk rfl;have ma:(w.ks.set k {kd with es:=es}).map (·.a)=w.ks.map (·.a):=map_set _ hk rfl;have rd:(w.ks.set k {kd with es:=es}).map (λk=>j! k.d)=w.ks.map (λk=>j! k.d):=map_set _ hk rfl;have ra:(w.ks.set k {kd with es:=es}).map (λk=>j! k.a)=w.ks.map (λk=>j! k.a):=map_set _ hk rfl;have lst:∀{b:Wx}{xs:List V},H b=A? (.lst xs)->(upd H kd.d (.dT (dE es))) b=A? (.lst xs):=λe=>(aj (aF e ed (λz=>nomatch z))).trans e
 have mem:∀x∈w.ks.set k {kd with es:=es},x={kd with es:=es}\/(x∈w.ks/\x.d≠kd.d):=λx hx=>by
  rcases mem_set hx with rfl|⟨j,hj,hx⟩
  .exact .inl rfl
  .exact .inr {Ww hx,λz=>hj (fP h.ndd hx hk z)}
 refine{?_,lst h.pl,λq hq=>?_,?_,?_,λx hx=>?_,λx hx=>?_,h.n1,h.n2,h.n3,λx hx=>?_,?_,?_}
 .exact(aj (aF h.ins ed (λz=>nomatch z))).trans h.ins
 .exact(aj (aF (h.pr q hq) ed (λz=>nomatch z))).trans (h.pr q hq)
 .exact(lst h.nl).trans (h! (λz=>A? (HO.lst z)) rd.symm)
 .exact(lst h.al).trans (h! (λz=>A? (HO.lst z)) ra.symm)
 .rcases mem x hx with rfl|⟨hx,zg⟩
  .exact af
  .exact(aj zg).trans (h.nd x hx)
 .rcases mem x hx with rfl|⟨hx,zg⟩
  .exact lst (h.ag kd hm)
  .exact lst (h.ag x hx)
 .rcases mem x hx with rfl|⟨hx,_⟩
  .exact h.n4 kd hm
  .exact h.n4 x hx
 .exact(h! List.Nodup ma).mpr h.nda
 .exact(h! List.Nodup md).mpr h.ndd
theorem WyAt.addP{w:Wy}{s p:Int}(h:WyAt C H w)(ea:H a=A? (.tup [.int s,.int p])):WyAt C (upd H w.pl (.lst ((w.ps.map λq=>j! q.2.2)++[.ref a]))) {w with ps:=w.ps++[(s,p,a)]}:=by
 have o:∀{b:Wx}{u:HO},b≠w.pl->H b=A? u->(upd H w.pl (.lst ((w.ps.map λq=>j! q.2.2)++[.ref a]))) b=A? u:=λhb e=>(aj hb).trans e;have tu:∀{b:Wx}{xs:List V},H b=A? (.tup xs)->(upd H w.pl (.lst ((w.ps.map λq=>j! q.2.2)++[.ref a]))) b=A? (.tup xs):=λe=>o (aF e h.pl (λz=>nomatch z)) e;refine{o (aF h.ins h.pl (λz=>nomatch z)) h.ins,?_,λq hq=>?_,o h.n1.symm h.nl,o h.n2.symm h.al,λx hx=>o (aF (h.nd x hx) h.pl (λz=>nomatch z)) (h.nd x hx),λx hx=>o (h.n4 x hx).1 (h.ag x hx),h.n1,h.n2,h.n3,h.n4,h.nda,h.ndd}
 .show(upd H w.pl _) w.pl=_;rw[af,W3];rfl
 .rcases WQ.mp hq with hq|hq
  .exact tu (h.pr q hq)
  .rw[WG.mp hq];exact tu ea
def Kd.sh(k:Kd):Wx×Wx×List Int:=(k.d,k.a,k.ag)
theorem oK{g:TG}{te:TE}(hn:n<=1000000)
 (hb:∀(i:Nat)(H2:Hp)(R:VK),i<n->(∀p,H2 p=B?->R (.ref p) (upd H2 p o))->g (.int (0+(i:Nat))) (cσ js σ) H2 λze H3=>te ze H3 R)
 (zS:∀(D:Wx)(H':Hp)(as:List Wx),H D=B?->k! H H'->H' D=A? (.lst (as.map j!))->as.length=n->as.Nodup->(∀a∈as,H' a=A? o/\H a=B?/\a≠D)->fin D H') :
 ∀D,H D=B?->∃(m:Nat)(W:Nat->Hp->Prop),W 0 (upd H D (.lst []))/\gf js g aI te σ (Itr 0 n) D m W λH'=>fin D H':=by
 intro D hD;refine{n,λi H'=>i<=n/\k! H H'/\∃as:List Wx,H' D=A? (.lst (as.map j!))/\as.length=i/\as.Nodup/\∀a∈as,H' a=A? o/\H a=B?/\a≠D,{Xo _,ao hD _,[],by rw[af];rfl,E?,Y4,(by intro a ha;cases ha)},?_};rintro i H' ⟨hi,s1,as,e1,hl,Bu,has⟩;by_cases yY:i<n
 .refine .inr {yY,yY,λv H1 hy=>?_};obtain⟨rfl,rfl⟩:=hy;refine hb i H1 _ yY λp hp=>?_;have CB:p≠D:=λz=>by rw[z,e1]at hp;cases hp
  have SI:H p=none:=by
   cases z:H p with
   |none=>rfl
   |some u=>rw[s1 _ _ z]at hp;cases hp
  have Bv:p∉as:=λz=>by rw[(has p z).1]at hp;cases hp
  refine{as.map j!,(aj CB.symm).trans e1,lbE (by lia),yY,aM (s1.trans (ao hp _)) hD,as++[p],uAE,by rw[WL,Xe];lia,?_,λa ha=>?_}
  .rw[Yc];refine{Bu,by simp,λa ha b hb z=>?_};rw[WG.mp hb]at z;exact Bv (z ▸ ha)
  .rcases WQ.mp ha with ha|ha
   .obtain⟨h1,h2,h3⟩:=has a ha;exact{(aj h3).trans ((ao hp _) _ _ h1),h2,h3}
   .rw[WG.mp ha];exact{(aj CB).trans af,SI,CB}
 .have e:i=n:=by lia
  subst e;exact .inl {WD _,zS D H' as hD s1 e1 hl Bu has}
def iB:List Wx->List Wx->List Kd
 |d::ds,a::as=>{d,[],a,[]}::iB ds as
 |_,_=>[]
theorem tP:∀{ds as:List Wx},ds.length=as.length->(iB ds as).map (·.d)=ds/\(iB ds as).map (·.a)=as/\(∀k∈iB ds as,k.es=[]/\k.ag=[])
 | [],[],_=>{rfl,rfl,(by intro k hk;cases hk)}
 | [],_::_,h=>by cases h
 |_::_,[],h=>by cases h
 | d::ds,a::as,h=>by
   obtain⟨h1,h2,h3⟩:=tP (ds:=ds) (as:=as) (by simpa using h);rw[iB];refine{by rw[W9,h1],by rw[W9,h2],λk hk=>?_};rcases WW.mp hk with rfl|hk
   .exact⟨E?,E?⟩
   .exact h3 k hk
structure WSp(Ls:List Th)(pats:List Th)(done:Nat->Nat->Prop)(Ws:List cA):Prop where
 wf:∀q∈Ws,∃(s pt:Nat)(p u:Th),q.1=(s:Int)/\q.2.1=(pt:Int)/\pats[s]?=A? p/\Ls[pt]?=A? u/\mP Ls p u q.2.2
 all:∀(s pt:Nat)(p u:Th),done s pt->pats[s]?=A? p->Ls[pt]?=A? u->(∃q∈Ws,q.1=(s:Int)/\q.2.1=(pt:Int))\/∀g,p.fill g≠u
theorem WSp.nil(Ls pats:List Th):WSp Ls pats (λ_ _=>False) []:={(by intro q hq;cases hq),λ_ _ _ _ h=>h.elim}
theorem WSp.congr{d d':Nat->Nat->Prop}(h:WSp Ls pats d Ws)(e:∀s pt,(∃p,pats[s]?=A? p)->(∃u,Ls[pt]?=A? u)->d' s pt->d s pt):WSp Ls pats d' Ws :=
 {h.wf,λs pt p u hd hp hu=>h.all s pt p u (e s pt ⟨p,hp⟩ ⟨u,hu⟩ hd) hp hu}
theorem WSp.none{d:Nat->Nat->Prop}{s pt:Nat}{u:Th}(h:WSp Ls pats d Ws)(hp:pats[s]?=A? p)(hu:Ls[pt]?=A? u)(hn:∀g,p.fill g≠u):WSp Ls pats (λs' EM=>d s' EM\/(s'=s/\EM=pt)) Ws :=
 {h.wf,λs' EM p' u' hd AH DH=>by
  rcases hd with hd|⟨rfl,rfl⟩
  .exact h.all s' EM p' u' hd AH DH
  .rw[hp]at AH;rw[hu]at DH;cases AH;cases DH;exact .inr hn}
theorem WSp.add{d:Nat->Nat->Prop}{s pt:Nat}{u:Th}{L:CLs}(h:WSp Ls pats d Ws)(hp:pats[s]?=A? p)(hu:Ls[pt]?=A? u)(hn:mP Ls p u L):WSp Ls pats (λs' EM=>d s' EM\/(s'=s/\EM=pt)) (Ws++[((s:Int),(pt:Int),L)]) :=
 {λq hq=>by
  rcases WQ.mp hq with hq|hq
  .exact h.wf q hq
  .rw[WG.mp hq];exact⟨s,pt,p,u,E?,E?,hp,hu,hn⟩,λs' EM p' u' hd AH DH=>by
  rcases hd with hd|⟨rfl,rfl⟩
  .exact(h.all s' EM p' u' hd AH DH).imp (λ⟨q,hq,z⟩=>{q,WX _ hq,z}) id
  .exact .inl {_,Xc _ (WG.mpr rfl),rfl,rfl}}
theorem rT{u:Th}{L:CLs}(h:mP Ls p u L):L.length<=p.size:=by
 have MZ:∀(l:List (Int×Int)),l.Nodup->(l.map λc=>t! c.1 c.2).Nodup:=λl=>by
  induction l with
  |nil=>intro _;simp
  | cons c l ih =>
    intro hn;rw[XH]at hn;rw[W9,XH];refine{λz=>?_,ih hn.2};obtain⟨c',zT,e⟩:=WY.mp z;injection e with e1 e2;exact hn.1 ((Prod.ext e1 e2:c'=c) ▸ zT)
 have:=fC (m:=p.walk) (MZ _ h.nd) λt ht=>by
  obtain⟨c,hc,rfl⟩:=WY.mp ht;obtain⟨e,he,rfl⟩:=WY.mp hc;exact(h.ok e he).2
 rw[Wt,Wt,Th.walk_len]at this;exact this
def bh:Th:=.call 0 0
mutual
def aR(ins:List (W8×Int))(rows:List (List Th)):Th->List Th
 |.knot n ks=>rows.map λrow=>(row.getD ((ins.map (·.1)).idxOf n) bh).fill λs k=>((m5 ins rows ks).getD k.toNat []).getD s.toNat bh
 |.call _ _=>[]
def m5(ins:List (W8×Int))(rows:List (List Th)):List Th->List (List Th)
 | []=>[]
 |t::ts=>aR ins rows t::m5 ins rows ts
end
theorem lq(ins:List (W8×Int))(rows:List (List Th)):∀ts,m5 ins rows ts=ts.map (aR ins rows)
 | []=>rfl
 |t::ts=>by rw[m5,W9,lq ins rows ts]
def ce(ins:List (W8×Int))(rows:List (List Th))(ks:List Th)(s k:Int):Th:=((ks.map (aR ins rows)).getD k.toNat []).getD s.toNat bh
theorem cE(ins:List (W8×Int))(rows:List (List Th))(n:W8)(ks:List Th):aR ins rows (.knot n ks)=rows.map λrow=>(row.getD ((ins.map (·.1)).idxOf n) bh).fill (ce ins rows ks):=by
 rw[aR,lq];rfl
structure IsNote(Ls:List Th)(ms:List Th)(note:List Int):Prop where
 len:note.length=ms.length
 at':∀(s:Nat)(u:Th),ms[s]?=A? u->(∃j:Nat,Ls[j]?=A? u/\note[s]?=A? (j:Int))\/(u∉Ls/\note[s]?=A? (-1))
theorem IsNote.uniq{a b:List Int}(nd:Ls.Nodup)(ha:IsNote Ls ms a)(hb:IsNote Ls ms b):a=b:=by
 refine YH λs=>?_;by_cases hs:s<ms.length
 .have hu:=Wv hs;rcases ha.at' s _ hu with⟨i,h1,h2⟩|⟨h1,h2⟩
  .rcases hb.at' s _ hu with⟨j,g1,g2⟩|⟨g1,g2⟩
   .rw[h2,g2,db nd h1 g1]
   .exact g! (Ww h1) g1
  .rcases hb.at' s _ hu with⟨j,g1,g2⟩|⟨g1,g2⟩
   .exact g! (Ww g1) h1
   .rw[h2,g2]
 .rw[XJ (by rw[ha.len];lia),XJ (by rw[hb.len];lia)]
theorem IsNote.iff{note:List Int}(nd:Ls.Nodup)(h:IsNote Ls ms note){s w:Nat}{u:Th}(hu:ms[s]?=A? u):note[s]?=A? (w:Int)↔Ls[w]?=A? u:=by
 rcases h.at' s u hu with⟨j,h1,h2⟩|⟨h1,h2⟩
 .rw[h2];constructor
  .intro e
   have:j=w:=by
    have:=WN e;lia
   rw[<-this];exact h1
  .intro e;rw[db nd h1 e]
 .rw[h2];constructor
  .intro e;have:=WN e;lia
  .intro e;exact g! (Ww e) h1
theorem si{a:Nat}{b:Int}{xs:List Th}{notes:List (List Int)}{note:List Int}
 (nd:Ls.Nodup) (AS:(ins.map (·.1)).idxOf nm=a) (BP:rows.map (λrow=>row.getD a bh)=pats) (AQ:WSp Ls pats (λ_ _=>True) Ws) (hW:W.map (λq=>(q.1,q.2.1))=Ws.map (λq=>(q.1,q.2.1)))
 (DQ:xs.length=m) (Ah:∀(k:Nat)(x:Th),xs[k]?=A? x->∃n,notes[k]?=A? n/\IsNote Ls (aR ins rows x) n)
 (DR:∀p∈pats,∀s k:Int,t! s k∈p.walk->(∃k':Nat,k=(k':Int)/\k'<m)/\∃s':Nat,s=(s':Int)/\s'<rows.length) (hlen:∀x∈xs,(aR ins rows x).length=rows.length)
 (hb:∀i,bt b i=C?↔∃q,Ws[i]?=A? q/\∀(k:Nat)(n:List Int),notes[k]?=A? n->k<m->∀c w:Int,((c,(k:Int)),w)∈q.2.2->n[c.toNat]?=A? w)
 (hn:NoteBy W b rows.length W.length note):IsNote Ls (aR ins rows (.knot nm xs)) note:=by
 have IY:W.length=Ws.length:=by
  have:=h! X9 hW;rw[Wt,Wt]at this;exact this
 have SJ:∀(i:Nat)(q:Int×Int×Wx),W[i]?=A? q->∃q',Ws[i]?=A? q'/\q'.1=q.1/\q'.2.1=q.2.1:=λi q h=>by
  have:(W.map (λq=>(q.1,q.2.1)))[i]?=(Ws.map (λq=>(q.1,q.2.1)))[i]?:=by rw[hW]
  rw[Wz,Wz,h]at this;obtain⟨q',h1,h2⟩:=W4.mp this.symm;exact{q',h1,h! Prod.fst h2,h! Prod.snd h2}
 have SK:∀(i:Nat)(q':cA),Ws[i]?=A? q'->∃q,W[i]?=A? q/\q'.1=q.1/\q'.2.1=q.2.1:=λi q' h=>by
  have:(W.map (λq=>(q.1,q.2.1)))[i]?=(Ws.map (λq=>(q.1,q.2.1)))[i]?:=by rw[hW]
  rw[Wz,Wz,h]at this;obtain⟨q,h1,h2⟩:=W4.mp this;exact{q,h1,(h! Prod.fst h2).symm,(h! Prod.snd h2).symm}
 have need:∀p∈pats,∀(u:Th)(L:CLs),mP Ls p u L->∀e∈L,∃(k c w:Nat)(n:List Int),e.1.2=(k:Int)/\k<m/\e.1.1=(c:Int)/\e.2=(w:Int)/\notes[k]?=A? n/\(n[c]?=A? (w:Int)↔Ls[w]?=A? (ce ins rows xs e.1.1 e.1.2)):=λp hp u L hL e he=>by
  obtain⟨⟨w,hw,_⟩,hc⟩:=hL.ok e he;obtain⟨⟨k,hk,AJ⟩,c,Ez,Fd⟩:=DR p hp _ _ hc;obtain⟨x,hx⟩:∃x,xs[k]?=A? x:={_,Wv (by lia)};obtain⟨n,h1,h2⟩:=Ah k x hx;have hl:=hlen x (Ww hx);refine{k,c,w,n,hk,AJ,Ez,hw,h1,h2.iff nd (s:=c) ?_};unfold ce;rw[hk,Ez,WU,WU,W0 (l:=xs.map _),Wz,hx,W0];show(aR ins rows x)[c]?=A? (((aR ins rows x)[c]?).getD bh);rw[Wv (by lia)];rfl
 rw[cE,AS];refine{by rw[hn.len,Wt],λs u hu=>?_};rw[Wz]at hu;obtain⟨row,zC,rfl⟩:=W4.mp hu;have hs:=(glE zC);have hp:pats[s]?=A? (row.getD a bh):=by rw[<-BP,Wz,zC];rfl
 have Lc:=Ww hp;rcases hn.at' s hs with⟨i,q,hi,hq,VU,Ip,BQ⟩|⟨zJ,BQ⟩
 .obtain⟨q',AE,e1,e2⟩:=SJ i q hq;obtain⟨s0,pt,p0,u0,w1,w2,w3,w4,w5⟩:=AQ.wf q' (Ww AE);have:s0=s:=by lia
  subst this;rw[hp]at w3;cases w3;obtain⟨q2,PZ,yW⟩:=(hb i).mp Ip;rw[AE]at PZ;cases PZ;left;refine{pt,?_,by rw[BQ,<-e2,w2]};rw[w4];refine h! A? (Eq.symm ((w5.iff _).mpr λe he=>?_));obtain⟨k,c,w,n,h1,h2,h3,h4,h5,h6⟩:=need _ Lc _ _ w5 e he;have:=yW k n h5 h2 e.1.1 e.2 (by rw[<-h1];exact he);rw[h3,WU,h4]at this;rw[h4,WU];exact h6.mp this
 .right;refine{λhm=>?_,BQ};obtain⟨pt,Bw⟩:=WK.mp hm;rcases AQ.all s pt _ _ trivial hp Bw with⟨q',AE,e1,e2⟩|zg
  .obtain⟨i,hi⟩:=WK.mp AE;obtain⟨s0,SM,p0,u0,w1,w2,w3,w4,w5⟩:=AQ.wf q' AE;have h1:s0=s:=by lia
   have h2:SM=pt:=by lia
   subst h1 h2;rw[hp]at w3;rw[Bw]at w4;cases w3;cases w4;obtain⟨q,hq,f1,f2⟩:=SK i q' hi;have P0:=zJ i q (by rw[IY];exact(glE hi)) hq (by lia);rw[(hb i).mpr {q',hi,λk n hk AJ c w P1=>?_}]at P0
   .cases P0
   .obtain⟨k',c',w',n',g1,g2,g3,g4,g5,g6⟩:=need _ Lc _ _ w5 _ P1;dsimp only at g1 g3 g4;have:k'=k:=by lia
    subst this;rw[hk]at g5;cases g5;rw[g3,WU,g4];have:=(w5.iff _).mp rfl _ P1;dsimp only at this;rw[g4,WU]at this;exact g6.mpr this
  .exact zg _ rfl
structure NtE where
 n:Nat
 note:List Int
 t:Th
 a:Wx
 na:Wx
 ta:Wx
def NtE.key(e:NtE):Int×List Int:=((e.n:Int),e.note)
structure NtA(H:Hp)(e:NtE):Prop where
 a:H e.a=A? (.tup [.int (e.n:Nat),.ref e.na,.ref e.ta])
 na:H e.na=A? (.tup (e.note.map o!))
 ta:At H e.t e.ta
theorem NtA.mono(k:KT H H'){e:NtE}(h:NtA H e):NtA H' e:={k _ _ h.a,k _ _ h.na,h.ta.mono k}
def gp(note:List Int):List Key:=note.map Xh
theorem oV{a b:List Int}(h:gp a=gp b):a=b:=by
 unfold gp at h;exact List.map_inj_right (λx y e=>Sum.inl.inj e) |>.mp h
theorem ut(note:List Int):(gp note).map kV=note.map o!:=by unfold gp;rw[Xg];rfl
def nfv(F:List NtE):List (List Key×V):=F.map λe=>(gp e.note,j! e.a)
theorem j7(F:List NtE):(nfv F).length=F.length:=Wt _
theorem qK{F:List NtE}{note:List Int}(h:bC (nfv F) (gp note)=A? v):∃(i:Nat)(e:NtE),F[i]?=A? e/\e.note=note/\v=.ref e.a:=by
 obtain⟨i,hi⟩:=WK.mp (nw h);unfold nfv at hi;rw[Wz]at hi;obtain⟨e,he,z⟩:=W4.mp hi;exact{i,e,he,oV (h! Prod.fst z),(h! Prod.snd z).symm}
theorem kR{F:List NtE}{note:List Int}(h:bC (nfv F) (gp note)=B?):note∉F.map (·.note):=λz=>by
 obtain⟨e,he,rfl⟩:=WY.mp z;exact lz h (by unfold nfv;rw[Xg];exact WY.mpr ⟨e,he,rfl⟩)
theorem vf{F:List NtE}{c:NtE}(h:bC (nfv F) (gp c.note)=B?):putK (nfv F) (gp c.note) (.ref c.a)=nfv (F++[c]):=by
 rw[oC (lz h)];unfold nfv;rw[W3];rfl
theorem wU{F:List NtE}(nd:(F.map (·.note)).Nodup):((nfv F).map (·.1)).Nodup:=by
 unfold nfv;rw[Xg]
 have:∀l:List (List Int),l.Nodup->(l.map gp).Nodup:=λl=>by
  induction l with
  |nil=>intro _;simp
  | cons c l ih =>
    intro hn;rw[XH]at hn;rw[W9,XH];refine{λz=>?_,ih hn.2};obtain⟨c',zT,e⟩:=WY.mp z;exact hn.1 (oV e ▸ zT)
 have:=this _ nd;rw[Xg]at this;exact this
theorem u8{F:List NtE}(nd:(F.map (·.note)).Nodup){e c:NtE}(h:F[i]?=A? e)(hn:e.note=c.note):putK (nfv F) (gp c.note) (.ref c.a)=nfv (F.set i c):=by
 rw[oW (wU nd) (i:=i) (u:=.ref e.a) (by unfold nfv;rw[Wz,h,<-hn];rfl)];unfold nfv;rw[List.map_set]
structure Tb where
 x:Wx
 dx:Wx
 S:Nat
 wl:Wx
 fd:Wx
 st:Wx
 ws:List Wy
 found:List NtE
 settled:List NtE
def tbF(S:Nat)(wl fd st:Wx):List (W8×V):=[(WE "states",.int (S:Nat)),(WE "ways",.ref wl),(WE "found",.ref fd),(WE "settled",.ref st)]
theorem yd{S:Nat}{fd st:Wx}:(tbF S wl fd st).lookup (WE "states")=A? (.int (S:Nat)):=lk0
theorem vK{S:Nat}{fd st:Wx}:(tbF S wl fd st).lookup (WE "ways")=A? (.ref wl):=(lk1 (by decide +kernel)).trans lk0
theorem kL{S:Nat}{fd st:Wx}:(tbF S wl fd st).lookup (WE "found")=A? (.ref fd):=(lk1 (by decide +kernel)).trans ((lk1 (by decide +kernel)).trans lk0)
theorem lZ{S:Nat}{fd st:Wx}:(tbF S wl fd st).lookup (WE "settled")=A? (.ref st):=(lk1 (by decide +kernel)).trans ((lk1 (by decide +kernel)).trans ((lk1 (by decide +kernel)).trans lk0))
theorem nG{m:W8}{S:Nat}{fd st:Wx}(h1:(m == WE "states")=false:=by decide +kernel)(h2:(m == WE "ways")=false:=by decide +kernel)(h3:(m == WE "found")=false:=by decide +kernel)(h4:(m == WE "settled")=false:=by decide +kernel):(tbF S wl fd st).lookup m=B? :=
 (lk1 h1).trans ((lk1 h2).trans ((lk1 h3).trans ((lk1 h4).trans rfl)))
theorem vo(S:Nat)(wl fd st:Wx):aP (WE "settled") (.ref st) (aP (WE "found") (.ref fd) (aP (WE "ways") (.ref wl) (aP (WE "states") (.int (S:Nat)) [])))=tbF S wl fd st:=by
 have e1:∀(f:W8)(v:V),aP f v []=[(f,v)]:=λf v=>by rw[aP]
 rw[e1,cJ (by decide +kernel),e1,cJ (by decide +kernel),cJ (by decide +kernel),cJ (by decide +kernel),e1,cJ (by decide +kernel),cJ (by decide +kernel),e1];rfl
def Wy.bs(w:Wy):List Wx:=w.pl::w.nl::w.al::(w.ks.map (·.d)++w.ks.map (·.a))
structure TbAt(CT CW:Wx)(H:Hp)(tb:Tb):Prop where
 ins:H tb.x=A? (.ins CT tb.dx (tbF tb.S tb.wl tb.fd tb.st))
 wl:H tb.wl=A? (.lst (tb.ws.map λw=>j! w.x))
 wa:∀w∈tb.ws,WyAt CW H w
 fd:H tb.fd=A? (.dT (nfv tb.found))
 st:H tb.st=A? (.lst (tb.settled.map λe=>j! e.a))
 fe:∀e∈tb.found,NtA H e
 se:∀e∈tb.settled,NtA H e
 nd:(tb.ws.flatMap Wy.bs).Nodup
 sep:∀b∈tb.ws.flatMap Wy.bs,b≠tb.wl/\b≠tb.st/\b≠tb.fd
 n1:tb.wl≠tb.st
theorem iw{ws:List Wy}{w:Wy}(h:w∈ws)(hb:b∈w.bs):b∈ws.flatMap Wy.bs:=Zn.mpr ⟨w,h,hb⟩
theorem xg{w:Wy}(h:b∈w.ks.map (·.a)):b∈w.bs:=by unfold Wy.bs;simp only[WW,WQ];exact .inr (.inr (.inr (.inr h)))
theorem WyAt.frame{w:Wy}(h:WyAt C H w)(f:FrB S H H')(k:KT H H')(hx:w.x∉S)(hS:∀b∈w.bs,b∉S):WyAt C H' w:=h.keep k λb hb o e=>f b o (by
 unfold Wy.own at hb;rcases WW.mp hb with rfl|hb
 .exact hx
 .exact hS b hb) e
theorem TbAt.same{tb:Tb}(h:TbAt CT CW H tb)(s:k! H H'):TbAt CT CW H' tb :=
 {s _ _ h.ins,s _ _ h.wl,λw hw=>(h.wa w hw).same s,s _ _ h.fd,s _ _ h.st,λe he=>(h.fe e he).mono (n! s),λe he=>(h.se e he).mono (n! s),h.nd,h.sep,h.n1}
theorem KT.of_frame(f:FrB S H H')(hS:∀b∈S,∃o,H b=A? o/\∀xs,o≠.tup xs):KT H H':=λb xs e=>f b _ (λz=>by
 obtain⟨o,h1,h2⟩:=hS b z;rw[e]at h1;exact h2 xs (WN h1).symm) e
theorem wM(e:H b=A? o)(hS:∀a∈S,∃u,H a=A? u/\u≠o):b∉S:=λz=>by
 obtain⟨u,h1,h2⟩:=hS b z;rw[e]at h1;exact h2 (WN h1).symm
theorem TbAt.setFound{tb:Tb}{F:List NtE}(h:TbAt CT CW H tb)(hF:∀e∈F,NtA H e):TbAt CT CW (upd H tb.fd (.dT (nfv F))) {tb with found:=F}:=by
 have k:KT H (upd H tb.fd (.dT (nfv F))):=λb xs e=>by rw[aj (aF e h.fd (λz=>nomatch z))];exact e
 have o:∀{b:Wx}{u:HO},H b=A? u->b≠tb.fd->(upd H tb.fd (.dT (nfv F))) b=A? u:=λe hb=>(aj hb).trans e;refine{o h.ins (aF h.ins h.fd (λz=>nomatch z)),o h.wl (aF h.wl h.fd (λz=>nomatch z)),λw hw=>(h.wa w hw).frame (N! (WG.mpr rfl)) k ?_ λb hb=>?_,af,o h.st (aF h.st h.fd (λz=>nomatch z)),λe he=>(hF e he).mono k,λe he=>(h.se e he).mono k,h.nd,h.sep,h.n1}
 .exactλz=>aF (h.wa w hw).ins h.fd (λz=>nomatch z) (WG.mp z)
 .exactλz=>(h.sep b (iw hw hb)).2.2 (WG.mp z)
theorem TbAt.push{tb:Tb}{e:NtE}(h:TbAt CT CW H tb)(he:NtA H e):TbAt CT CW (upd H tb.st (.lst ((tb.settled.map λe=>j! e.a)++[.ref e.a]))) {tb with settled:=tb.settled++[e]}:=by
 have k:KT H (upd H tb.st (.lst ((tb.settled.map λe=>j! e.a)++[.ref e.a]))):=λb xs e=>by rw[aj (aF e h.st (λz=>nomatch z))];exact e
 have o:∀{b:Wx}{u:HO},H b=A? u->b≠tb.st->(upd H tb.st (.lst ((tb.settled.map λe=>j! e.a)++[.ref e.a]))) b=A? u:=λe hb=>(aj hb).trans e;refine{o h.ins (aF h.ins h.st (λz=>nomatch z)),o h.wl h.n1,λw hw=>(h.wa w hw).frame (N! (WG.mpr rfl)) k ?_ λb hb=>?_,o h.fd (aF h.fd h.st (λz=>nomatch z)),?_,λe he=>(h.fe e he).mono k,λe' zN=>?_,h.nd,h.sep,h.n1}
 .exactλz=>aF (h.wa w hw).ins h.st (λz=>nomatch z) (WG.mp z)
 .exactλz=>(h.sep b (iw hw hb)).2.1 (WG.mp z)
 .show(upd H tb.st _) tb.st=_;rw[af,W3];rfl
 .rcases WQ.mp zN with zN|zN
  .exact(h.se e' zN).mono k
  .rw[WG.mp zN];exact he.mono k
theorem qD:∀{ws:List Wy}{i j:Nat}{w w':Wy},(ws.flatMap Wy.bs).Nodup->ws[i]?=A? w->ws[j]?=A? w'->i≠j->∀{b:Wx},b∈w.bs->b∈w'.bs->False
 | [],_,_,_,_,_,hi,_,_,_,_,_=>by simp at hi
 |x::ws,0,0,_,_,_,_,_,h,_,_,_=>h rfl
 | x::ws,0,j+1,w,w',nd,hi,hj,_,b,h1,h2=>by
   rw[List.flatMap_cons,Yc]at nd;rw[List.getElem?_cons_zero]at hi;rw[List.getElem?_cons_succ]at hj;cases hi;exact nd.2.2 b h1 b (iw (Ww hj) h2) rfl
 | x::ws,i+1,0,w,w',nd,hi,hj,_,b,h1,h2=>by
   rw[List.flatMap_cons,Yc]at nd;rw[List.getElem?_cons_zero]at hj;rw[List.getElem?_cons_succ]at hi;cases hj;exact nd.2.2 b h2 b (iw (Ww hi) h1) rfl
 | x::ws,i+1,j+1,w,w',nd,hi,hj,SN,b,h1,h2=>by
   rw[List.flatMap_cons,Yc]at nd;rw[List.getElem?_cons_succ]at hi hj;exact qD nd.2.1 hi hj (λz=>SN (by rw[z])) h1 h2
theorem TbAt.setWy{tb:Tb}{w w':Wy}(h:TbAt CT CW H tb)(hi:tb.ws[i]?=A? w)(f:FrB (w.ks.map (·.a)) H H')(Bh:WyAt CW H' w')(hx:w'.x=w.x)(hb:w'.bs=w.bs):TbAt CT CW H' {tb with ws:=tb.ws.set i w'}:=by
 have hm:=Ww hi;have AK:=h.wa w hm
 have hS:∀b∈w.ks.map (·.a),∃xs,H b=A? (.lst xs):=λb hb=>by
  obtain⟨k,hk,rfl⟩:=WY.mp hb;exact{_,AK.ag k hk}
 have k:KT H H':=KT.of_frame f λb hb=>by
  obtain⟨xs,e⟩:=hS b hb;exact{_,e,λys z=>nomatch z}
 have nS:∀{b:Wx}{o:HO},H b=A? o->(∀xs,o≠.lst xs)->b∉w.ks.map (·.a):=λe ho=>wM e λa ha=>by
  obtain⟨xs,e'⟩:=hS a ha;exact{_,e',(ho xs).symm}
 have sp:∀b∈w.ks.map (·.a),b≠tb.wl/\b≠tb.st/\b≠tb.fd:=λb hb=>h.sep b (iw hm (xg hb))
 have P4:(tb.ws.set i w').flatMap Wy.bs=tb.ws.flatMap Wy.bs:=by
  rw[List.flatMap_def,List.flatMap_def,map_set _ hi hb]
 refine{f _ _ (nS h.ins (λxs z=>nomatch z)) h.ins,?_,λv hv=>?_,f _ _ (nS h.fd (λxs z=>nomatch z)) h.fd,f _ _ (λz=>(sp _ z).2.1 rfl) h.st,λe he=>(h.fe e he).mono k,λe he=>(h.se e he).mono k,?_,?_,h.n1}
 .exact(f _ _ (λz=>(sp _ z).1 rfl) h.wl).trans (h! (λz=>A? (HO.lst z)) (map_set (λw:Wy=>j! w.x) hi (by rw[hx])).symm)
 .rcases mem_set hv with rfl|⟨j,hj,hv⟩
  .exact Bh
  .have P5:=h.wa v (Ww hv);exact P5.frame f k (nS P5.ins (λxs z=>nomatch z)) λb hb SO=>qD h.nd hi hv (YB hj) (xg SO) hb
 .show((tb.ws.set i w').flatMap Wy.bs).Nodup;rw[P4];exact h.nd
 .show∀b∈(tb.ws.set i w').flatMap Wy.bs,_;rw[P4];exact h.sep
end BB
variable{e:BB.NtE}{F F':List BB.NtE}
namespace BB
open PySem L2
inductive Entd(F:List NtE)(c:NtE):List NtE->Prop
 |keep (e:NtE):e∈F->e.note=c.note->e.n<=c.n->Entd F c F
 |set (i:Nat) (e:NtE):F[i]?=A? e->e.note=c.note->c.n<e.n->Entd F c (F.set i c)
 |add:c.note∉F.map (·.note)->F.length≠30->Entd F c (F++[c])
theorem Entd.mem{c:NtE}(h:Entd F c F'):∀e∈F',e∈F\/e=c:=λe he=>by
 cases h with
 |keep=>exact .inl he
 | set i e0 h1 h2 h3 =>
   rcases mem_set he with rfl|⟨j,_,hj⟩
   .exact .inr rfl
   .exact .inl (Ww hj)
 | add =>
   rcases WQ.mp he with he|he
   .exact .inl he
   .exact .inr (WG.mp he)
def aH(settled:List NtE)(ks:List Nat):List Th:=ks.map λk=>((settled[k]?).map (·.t)).getD bh
theorem qY{settled:List NtE}:∀{ks:List Nat},(∀k∈ks,k<settled.length)->(∀e∈settled,NtA H e)->Ats H (aH settled ks) (ks.map λk=>((settled[k]?).map (·.ta)).getD 0)
 | [],_,_=>.nil
 | k::ks,h,hs=>by
   have hk:=h k (WM ..);have e:=Wv hk;unfold aH;rw[W9,W9];refine .cons ?_ (qY (λk hk=>h k (WR _ hk)) hs);rw[e];exact(hs _ (XS hk)).ta
theorem mm:∀{a b:List Int},H! a b=D?->H! b a=D?->a=b
 | [],[],_,_=>rfl
 | [],_::_,h,_=>by cases h
 |_::_,[],_,h=>by cases h
 | x::a,y::b,h,g=>by
   rw[P!]at h g;by_cases e:x=y
   .rw[b! e]at h;rw[b! e.symm]at g;rw[e,mm h g]
   .rw[a! e]at h;rw[a! (YB e)]at g;have h:=of_decide_eq_false h;have g:=of_decide_eq_false g;lia
theorem rp{a b:Int×List Int}(h:keyLt a b=D?)(g:keyLt b a=D?):a=b:=by
 unfold keyLt at h g;by_cases e:a.1=b.1
 .rw[b! e]at h;rw[b! e.symm]at g;exact Prod.ext e (mm h g)
 .rw[a! e]at h;rw[a! (YB e)]at g;have h:=of_decide_eq_false h;have g:=of_decide_eq_false g;lia
theorem uz{a b:Int×List Int}(h:keyLt a b=C?):a.1<=b.1:=by
 unfold keyLt at h;by_cases e:a.1=b.1
 .lia
 .rw[a! e]at h;have:=e! h;lia
theorem ue{a b:Int×List Int}(h:a.1<b.1):keyLt a b=true:=by
 unfold keyLt;rw[a! (by lia)];exact d! h
structure Told(ins:List (W8×Int))(rows:List (List Th))(Ls:List Th)(e:NtE):Prop where
 n:e.n=e.t.size
 fit:e.t.Fit ins
 note:IsNote Ls (aR ins rows e.t) e.note
structure PInv(ins:List (W8×Int))(rows:List (List Th))(Ls:List Th)(F St:List NtE)(cl:W8->List Nat->Prop):Prop where
 f1:∀e∈F,Told ins rows Ls e
 f2:(F.map (·.note)).Nodup
 f3:F.length<=30
 s1:∀e∈St,e∈F
 s2:St.Pairwise λa b=>keyLt a.key b.key=C?
 s3:∀e∈F,e∉St->∀s∈St,keyLt s.key e.key=C?
 cl:∀nm ks,cl nm ks->∃e∈F,IsNote Ls (aR ins rows (.knot nm (aH St ks))) e.note/\e.n<=(p! nm (aH St ks)).size
 t1:∀(j:Nat)(e:NtE),St[j]?=A? e->e.t.tall<=j+1
 t2:∀e∈F,e.t.tall<=St.length+1
theorem PInv.congr{St:List NtE}{c d:W8->List Nat->Prop}(h:PInv ins rows Ls F St c)(e:∀nm ks,d nm ks->c nm ks):PInv ins rows Ls F St d:={h.f1,h.f2,h.f3,h.s1,h.s2,h.s3,λnm ks z=>h.cl nm ks (e nm ks z),h.t1,h.t2}
theorem PInv.nil:PInv ins rows Ls [] [] (λ_ _=>False):={(by intro e he;cases he),by simp,Xo _,(by intro e he;cases he),.nil,(by intro e he;cases he),λ_ _ h=>h.elim,λj e h=>by simp at h,(by intro e he;cases he)}
theorem PInv.enter{St:List NtE}{c:W8->List Nat->Prop}{x:NtE}(h:PInv ins rows Ls F St c)(hd:Entd F x F')(hx:Told ins rows Ls x)(yY:∀s∈St,s.n<x.n)(Hh:x.t.tall<=St.length+1):PInv ins rows Ls F' St (λnm ks=>c nm ks\/p! nm (aH St ks)=x.t):=by
 have hk:∀s∈St,keyLt s.key x.key=true:=λs hs=>ue (by have:=yY s hs;show(s.n:Int)<(x.n:Int);lia);cases hd with
 | keep e he h1 h2 =>
   refine{h.f1,h.f2,h.f3,h.s1,h.s2,h.s3,λnm ks z=>?_,h.t1,h.t2};rcases z with z|z
   .exact h.cl nm ks z
   .rw[z];exact{e,he,by rw[h1];exact hx.note,by rw[<-hx.n];exact h2}
 | set i e he h1 h2 =>
   have BX:e∉St:=λz=>by have:=yY e z;lia
   have hi:=(glE he);have IZ:x∈F.set i x:=Ww (i:=i) (by rw[X5 hi])
   have old:∀y∈F,y≠e->y∈F.set i x:=λy hy zg=>by
    obtain⟨j,hj⟩:=WK.mp hy;by_cases z:i=j
    .subst z;rw[he]at hj;cases hj;exact g! rfl zg
    .exact Ww (i:=j) (by rw[X6 z];exact hj)
   have mem:∀y∈F.set i x,y=x\/y∈F:=λy hy=>by
    rcases mem_set hy with rfl|⟨j,_,hj⟩
    .exact .inl rfl
    .exact .inr (Ww hj)
   refine{λy hy=>?_,by rw[map_set _ he h1.symm];exact h.f2,by rw[YR];exact h.f3,λs hs=>old s (h.s1 s hs) (λz=>BX (z ▸ hs)),h.s2,λy hy Cw s hs=>?_,λnm ks z=>?_,h.t1,λy hy=>?_}
   .rcases mem y hy with rfl|hy
    .exact hx
    .exact h.f1 y hy
   .rcases mem y hy with rfl|hy
    .exact hk s hs
    .exact h.s3 y hy Cw s hs
   .rcases z with z|z
    .obtain⟨y,hy,g1,g2⟩:=h.cl nm ks z;by_cases ye:y=e
     .subst ye;exact{x,IZ,by rw[<-h1];exact g1,by lia}
     .exact{y,old y hy ye,g1,g2}
    .rw[z];exact{x,IZ,hx.note,by rw[<-hx.n];exact WD _}
   .rcases mem y hy with rfl|hy
    .exact Hh
    .exact h.t2 y hy
 | add h1 h2 =>
   have h3:=h.f3;refine{λy hy=>?_,?_,by rw[WL,Xe];lia,λs hs=>WX _ (h.s1 s hs),h.s2,λy hy Cw s hs=>?_,λnm ks z=>?_,h.t1,λy hy=>?_}
   .rcases WQ.mp hy with hy|hy
    .exact h.f1 y hy
    .rw[WG.mp hy];exact hx
   .rw[W3,Yc];refine{h.f2,by simp,λa ha b hb z=>h1 ?_};rw[List.map_singleton,WG]at hb;rw[<-hb,<-z];exact ha
   .rcases WQ.mp hy with hy|hy
    .exact h.s3 y hy Cw s hs
    .rw[WG.mp hy];exact hk s hs
   .rcases z with z|z
    .obtain⟨y,hy,g⟩:=h.cl nm ks z;exact{y,WX _ hy,g}
    .rw[z];exact{x,by simp,hx.note,by rw[<-hx.n];exact WD _}
   .rcases WQ.mp hy with hy|hy
    .exact h.t2 y hy
    .rw[WG.mp hy];exact Hh
theorem o8{St:List NtE}{ks:List Nat}(h:∀k∈ks,k<St.length):aH (St++[e]) ks=aH St ks:=by
 unfold aH;refine List.map_congr_left λk hk=>?_;rw[Xk (h k hk)]
theorem PInv.settle{St:List NtE}{c:W8->List Nat->Prop}(h:PInv ins rows Ls F St c)(he:e∈F)(hn:e∉St)(Cc:∀y∈F,y∉St->keyLt y.key e.key=D?) :
 PInv ins rows Ls F (St++[e]) (λnm ks=>c nm ks/\∀k∈ks,k<St.length)/\∀s∈St,s.n<=e.n:=by
 have hs:=h.s3 e he hn;refine{{h.f1,h.f2,h.f3,λs hs=>?_,?_,λy hy Cw s Bg=>?_,λnm ks z=>?_,λj y hj=>?_,λy hy=>?_},λs h'=>?_}
 .rcases WQ.mp hs with hs|hs
  .exact h.s1 s hs
  .rw[WG.mp hs];exact he
 .rw[ZQ];exact{h.s2,by simp,λa ha b hb=>by rw[WG.mp hb];exact hs a ha}
 .have P6:y∉St:=λz=>Cw (WX _ z);rcases WQ.mp Bg with Bg|Bg
  .exact h.s3 y hy P6 s Bg
  .rw[WG.mp Bg];cases hk:keyLt e.key y.key with
   |true=>rfl
   | false =>
     have:=rp hk (Cc y hy P6);have zg:y≠e:=λz=>Cw (by rw[z];simp);have BQ:y.note=e.note:=(h! Prod.snd this).symm;obtain⟨i,hi⟩:=WK.mp hy;obtain⟨j,hj⟩:=WK.mp he;have:=fP h.f2 hi hj BQ;subst this;rw[hi]at hj;exact g! (WN hj) zg
 .rw[o8 z.2];exact h.cl nm ks z.1
 .by_cases Dd:j<St.length
  .rw[Xk Dd]at hj;exact h.t1 j y hj
  .rw[Xu (by lia)]at hj
   have:j - St.length=0:=by
    have:=(glE hj);rw[Xe]at this;lia
   rw[this]at hj;cases hj;have:=h.t2 e he;lia
 .have:=h.t2 y hy;rw[WL,Xe];lia
 .have:=uz (hs s h');have h1:(s.n:Int)<=(e.n:Int):=this;lia
def Over(ins:List (W8×Int))(rows:List (List Th))(Ls:List Th):Prop:=∃l:List (List Int),l.length=31/\l.Nodup/\∀note∈l,∃t:Th,t.Fit ins/\IsNote Ls (aR ins rows t) note
theorem PInv.over{St:List NtE}{c:W8->List Nat->Prop}{t:Th}{note:List Int}(h:PInv ins rows Ls F St c)(Hi:F.length=30)(zJ:note∉F.map (·.note))(hf:t.Fit ins)(hn:IsNote Ls (aR ins rows t) note):Over ins rows Ls:=by
 refine{note::F.map (·.note),by rw[WV,Wt,Hi],XH.mpr ⟨zJ,h.f2⟩,λx hx=>?_};rcases WW.mp hx with rfl|hx
 .exact⟨t,hf,hn⟩
 .obtain⟨e,he,rfl⟩:=WY.mp hx;exact{e.t,(h.f1 e he).fit,(h.f1 e he).note}
theorem jt{g1 g2:Int->Int->Th}(hL:b9 Ls):∀(p:Th),(∀s k:Int,t! s k∈p.walk->∀u∈Ls,g1 s k=u->g2 s k=u)->∀u∈Ls,p.fill g1=u->p.fill g2=u
 | .call s k,h,u,hu,e=>by
   rw[D!]at e |-;exact h s k (by rw[E!];exact WM ..) u hu e
 | .knot n ks,h,u,hu,e=>by
   rw[D!]at e |-;subst e;have hk:=hL _ hu;refine h! (p! n) ?_
   have:∀ts:List Th,(∀t∈ts,t∈ks)->(∀x∈fills g1 ts,x∈Ls)->fills g2 ts=fills g1 ts:=by
    intro ts;induction ts with
    |nil=>intro _ _;rw[fills,fills]
    | cons t ts ih =>
      intro ht hx;rw[fills]at hx |-;rw[fills,ih (λt h=>ht t (WR _ h)) λx h=>hx x (WR _ h)];have Ja:=ht t (WM ..);rw[jt hL t (λs k m=>h s k (eE (t:=.knot n ks) Ja _ m)) (t.fill g1) (hx _ (WM ..)) rfl]
   exact this ks (λt h=>h) hk
termination_by p=>p.size
decreasing_by
 all_goals
  have:=tG (t:=.knot n ks) Ja;exact this
theorem qg{xs ys:List Th}{note:List Int}(hL:b9 Ls)(nd:Ls.Nodup)(hc:∀p,(∃row∈rows,p=row.getD ((ins.map (·.1)).idxOf nm) bh)->∀s k:Int,t! s k∈p.walk->(∃k':Nat,k=(k':Int)/\k'<xs.length)/\∃s':Nat,s=(s':Int)/\s'<rows.length)
 (hp:Xb (λx y=>∃n,IsNote Ls (aR ins rows x) n/\IsNote Ls (aR ins rows y) n/\n.length=rows.length) xs ys) (hn:IsNote Ls (aR ins rows (.knot nm xs)) note):IsNote Ls (aR ins rows (.knot nm ys)) note:=by
 rw[cE]at hn |-
 have key:∀row∈rows,∀s k:Int,t! s k∈(row.getD ((ins.map (·.1)).idxOf nm) bh).walk->∀u∈Ls,ce ins rows xs s k=u↔ce ins rows ys s k=u:=λrow hr s k hm u hu=>by
  obtain⟨⟨k',rfl,zm⟩,s',rfl,Bg⟩:=hc _ ⟨row,hr,rfl⟩ _ _ hm;obtain⟨x,hx⟩:∃x,xs[k']?=A? x:={_,Wv zm};obtain⟨y,hy,n,h1,h2,h3⟩:=u! hp hx;obtain⟨w,hw⟩:=WK.mp hu
  have get:∀(zs:List Th)(z:Th),zs[k']?=A? z->IsNote Ls (aR ins rows z) n->(ce ins rows zs (s':Int) (k':Int)=u↔n[s']?=A? (w:Int)):=λzs z hz Fb=>by
   have hl:s'<(aR ins rows z).length:=by rw[<-Fb.len,h3];exact Bg
   have e:(aR ins rows z)[s']?=A? (ce ins rows zs (s':Int) (k':Int)):=by
    unfold ce;rw[WU,WU,W0 (l:=zs.map _),Wz,hz,W0];show _=A? (((aR ins rows z)[s']?).getD bh);rw[Wv hl];rfl
   rw[Fb.iff nd e,hw];exact{λz=>by rw[z],λz=>(WN z).symm}
  rw[get xs x hx h1,get ys y hy h2]
 refine{by rw[hn.len,Wt,Wt],λs u hu=>?_};rw[Wz]at hu;obtain⟨row,zC,rfl⟩:=W4.mp hu;have hr:=Ww zC;rcases hn.at' s _ (gmE zC)with⟨j,h1,h2⟩|⟨h1,h2⟩
 .have:=jt hL _ (λs k m u hu e=>(key row hr s k m u hu).mp e) _ (Ww h1) rfl;exact .inl {j,by rw[this];exact h1,h2}
 .refine .inr {λz=>h1 ?_,h2};have:=jt hL _ (λs k m u hu e=>(key row hr s k m u hu).mpr e) _ z rfl;show D! (ce ins rows xs) _∈Ls;rw[this];exact z
structure KAg(Ws:List cA)(St:List NtE)(ks:List Kd):Prop where
 len:∀kd∈ks,kd.ag.length=St.length
 at':∀(k:Nat)(kd:Kd)(n:Nat)(e:NtE),ks[k]?=A? kd->St[n]?=A? e->∃b,kd.ag[n]?=A? b/\0<=b/\∀i,bt b i=C?↔Agr Ws e.note k i
theorem KAg.nil{ks:List Kd}(h:∀kd∈ks,kd.ag=[]):KAg Ws [] ks :=
 {λkd hk=>by rw[h kd hk];rfl,λk kd n e _ he=>by simp at he}
theorem KAg.take{St:List NtE}{ks:List Kd}(h:KAg Ws St ks)(t:Took Ws e.note ks ks.length yZ):KAg Ws (St++[e]) yZ:=by
 have old:∀(k:Nat)(AD:Kd),yZ[k]?=A? AD->∃kd b,ks[k]?=A? kd/\AD={kd with ag:=kd.ag++[b]}/\0<=b/\∀i,bt b i=C?↔Agr Ws e.note k i:=λk AD hk=>by
  have hl:k<ks.length:=by rw[<-t.len];exact(glE hk)
  obtain⟨b,h1,h2,h3⟩:=t.lo k _ hl (Wv hl);rw[hk]at h1;exact{_,b,Wv hl,WN h1,h2,h3}
 refine{λAD hk=>?_,λk AD n e' hk he=>?_}
 .obtain⟨k,hk⟩:=WK.mp hk;obtain⟨kd,b,h1,rfl,_⟩:=old k AD hk;show(kd.ag++[b]).length=_;rw[WL,WL,h.len kd (Ww h1)];rfl
 .obtain⟨kd,b,h1,rfl,h2,h3⟩:=old k AD hk;have hl:=h.len kd (Ww h1);rcases be.mp he with he|⟨rfl,rfl⟩
  .obtain⟨b',g1,g2⟩:=h.at' k kd n e' h1 he;exact{b',be.mpr (.inl g1),g2}
  .exact{b,be.mpr (.inr ⟨hl.symm,E?⟩),h2,h3}
def iL(St:List NtE)(js:List Nat):List (List Int):=js.map λj=>((St[j]?).map (·.note)).getD []
theorem KAg.bits{St:List NtE}{ks:List Kd}(h:KAg Ws St ks){js:List Nat}(hl:js.length=ks.length)(hj:∀n∈js,n<St.length) :
 0<=(cnd (ks.map (·.ag)) Z (ones Ws.length) js).b/\∀i,bt (cnd (ks.map (·.ag)) Z (ones Ws.length) js).b i=C?↔∃q,Ws[i]?=A? q/\∀(k:Nat)(n:List Int),(iL St js)[k]?=A? n->k<ks.length->∀c w:Int,((c,(k:Int)),w)∈q.2.2->n[c.toNat]?=A? w:=by
 have get:∀j n,j<ks.length->n<St.length->∃e b,St[n]?=A? e/\((ks.map (·.ag)).getD j []).getD n 0=b/\0<=b/\∀i,bt b i=C?↔Agr Ws e.note j i:=λj n h1 h2=>by
  have e1:=Wv h1;have e2:=Wv h2;obtain⟨b,g1,g2⟩:=h.at' j _ n _ e1 e2;refine{_,b,e2,?_,g2};rw[W0,W0,Wz,e1];show((ks[j].ag)[n]?).getD 0=b;rw[g1];rfl
 obtain⟨b0,b1⟩:=wu (AG:=ks.map (·.ag)) (sz:=Z) (N:=Ws.length) (L:=St.length) (λj n h1 h2=>by
  obtain⟨e,b,_,g2,g3,_⟩:=get j n (by simpa using h1) h2;rw[g2];exact g3) js (by rw[Wt];lia) hj
 refine{b0,λi=>?_};rw[b1];constructor
 .rintro⟨hi,yW⟩;refine{_,Wv hi,λk n hk AJ c w hm=>?_};unfold iL at hk;rw[Wz]at hk;obtain⟨j,CF,rfl⟩:=W4.mp hk;obtain⟨e,b,g1,g2,_,g4⟩:=get k j AJ (hj j (Ww CF));have:=yW k j CF;rw[g2,g4]at this;obtain⟨q,hq,Jb⟩:=this;rw[Wv hi]at hq;cases hq;rw[g1];exact Jb c w hm
 .rintro⟨q,hq,yW⟩;refine{(glE hq),λk j CF=>?_};have hk:k<ks.length:=by rw[<-hl];exact(glE CF)
  obtain⟨e,b,g1,g2,_,g4⟩:=get k j hk (hj j (Ww CF));rw[g2,g4];refine{q,hq,λc w hm=>?_};refine yW k e.note ?_ hk c w hm;unfold iL;rw[Wz,CF];show A? (((St[j]?).map (·.note)).getD [])=_;rw[g1];rfl
theorem KAg.note{a:Nat}{St:List NtE}{ks:List Kd}{Z:List Int}{js:List Nat}{note:List Int}
 (h:KAg Ws St ks) (nd:Ls.Nodup) (AS:(ins.map (·.1)).idxOf nm=a) (BP:rows.map (λrow=>row.getD a bh)=pats) (AQ:WSp Ls pats (λ_ _=>True) Ws) (hW:W.map (λq=>(q.1,q.2.1))=Ws.map (λq=>(q.1,q.2.1)))
 (hl:js.length=ks.length) (hj:∀n∈js,n<St.length) (ht:∀e∈St,Told ins rows Ls e) (hlen:∀e∈St,(aR ins rows e.t).length=rows.length)
 (DR:∀p∈pats,∀s k:Int,t! s k∈p.walk->(∃k':Nat,k=(k':Int)/\k'<ks.length)/\∃s':Nat,s=(s':Int)/\s'<rows.length)
 (hn:NoteBy W (cnd (ks.map (·.ag)) Z (ones W.length) js).b rows.length W.length note):IsNote Ls (aR ins rows (.knot nm (aH St js))) note:=by
 have IY:W.length=Ws.length:=by
  have:=h! X9 hW;rw[Wt,Wt]at this;exact this
 have kid:∀(k:Nat)(x:Th),(aH St js)[k]?=A? x->∃j e,js[k]?=A? j/\St[j]?=A? e/\x=e.t:=λk x hx=>by
  unfold aH at hx;rw[Wz]at hx;obtain⟨j,CF,rfl⟩:=W4.mp hx;have e:=Wv (hj j (Ww CF));exact{j,_,CF,e,by rw[e];rfl}
 refine si (m:=ks.length) (notes:=iL St js) nd AS BP AQ hW (by unfold aH;rw[Wt];exact hl) (λk x hx=>?_) DR (λx hx=>?_) (h.bits hl hj (Z:=Z)).2 (by rw[<-IY];exact hn)
 .obtain⟨j,e,h1,h2,rfl⟩:=kid k x hx;refine{e.note,?_,(ht e (Ww h2)).note};unfold iL;rw[Wz,h1];show A? (((St[j]?).map (·.note)).getD [])=_;rw[h2];rfl
 .obtain⟨k,hk⟩:=WK.mp hx;obtain⟨j,e,h1,h2,rfl⟩:=kid k x hk;exact hlen e (Ww h2)
theorem yq{x:Int}(h:0<=x)(hz:x≠0):∃i,bt x i=true:=by
 have:x.toNat≠0:=by lia
 obtain⟨i,hi⟩:=Nat.exists_testBit_of_ne_zero this;exact⟨i,hi⟩
structure KOk(ins:List (W8×Int))(rows:List (List Th))(Ls:List Th)(St:List NtE)(a:Nat)(w:Wy)(Ws:List cA):Prop where
 nm:ins[a]?=A? (w.nm,((w.ks.length:Nat):Int))
 m3:w.ks.length<=3
 sp:WSp Ls (rows.map λrow=>row.getD a bh) (λ_ _=>True) Ws
 ps:w.ps.map (λq=>(q.1,q.2.1))=Ws.map (λq=>(q.1,q.2.1))
 nt:∀(k:Nat)(kd:Kd),w.ks[k]?=A? kd->NeedT Ws k kd.es
 len:Ws.length<=4000
 call:∀p∈rows.map (λrow=>row.getD a bh),∀s k:Int,t! s k∈p.walk->(∃k':Nat,k=(k':Int)/\k'<w.ks.length)/\∃s':Nat,s=(s':Int)/\s'<rows.length
 ag:KAg Ws St w.ks
 nq:w.nm≠q
section
variable{St:List NtE}{a:Nat}{w:Wy}
theorem KOk.psl(h:KOk ins rows Ls St a w Ws):w.ps.length=Ws.length:=by
 have:=h! X9 h.ps;rw[Wt,Wt]at this;exact this
theorem KOk.pz(h:KOk ins rows Ls St a w Ws):∀p∈w.ps,∃s:Nat,p.1=(s:Int)/\s<rows.length:=λp hp=>by
 have:(p.1,p.2.1)∈Ws.map (λq=>(q.1,q.2.1)):=by rw[<-h.ps];exact WY.mpr ⟨p,hp,rfl⟩
 obtain⟨q,hq,e⟩:=WY.mp this;obtain⟨s,pt,x,u,h1,h2,h3,_⟩:=h.sp.wf q hq;refine{s,by rw[<-h1];exact(h! Prod.fst e).symm,?_};have:=(glE h3);rw[Wt]at this;exact this
theorem KOk.nc(h:KOk ins rows Ls St a w Ws):∀kd∈w.ks,∀e∈kd.es,∃c:Nat,e.1.1=(c:Int)/\c<rows.length:=λkd hk e he=>by
 obtain⟨k,hk⟩:=WK.mp hk;have nt:=h.nt k kd hk;obtain⟨i,hi⟩:=yq (nt.rng e he).1 (nt.nz e he);obtain⟨q,hq,hm⟩:=(nt.bit e.1.1 e.1.2 i).mp ⟨e,he,rfl,hi⟩;obtain⟨s,pt,x,u,h1,h2,h3,h4,h5⟩:=h.sp.wf q (Ww hq);exact(h.call x (Ww h3) _ _ (h5.ok _ hm).2).2
theorem KOk.ix(h:KOk ins rows Ls St a w Ws)(g:GoodN ins):(ins.map (·.1)).idxOf w.nm=a:=iA g h.nm
theorem KOk.take(h:KOk ins rows Ls St a w Ws)(t:Took Ws e.note w.ks w.ks.length yZ):KOk ins rows Ls (St++[e]) a {w with ks:=yZ} Ws:=by
 have hl:yZ.length=w.ks.length:=t.len;refine{?_,by show yZ.length<=3;rw[hl];exact h.m3,h.sp,h.ps,λk AD hk=>?_,h.len,?_,h.ag.take t,h.nq}
 .show ins[a]?=A? (w.nm,((yZ.length:Nat):Int));rw[hl];exact h.nm
 .have yY:k<w.ks.length:=by rw[<-hl];exact(glE hk)
  obtain⟨b,h1,_⟩:=t.lo k _ yY (Wv yY);have hk:yZ[k]?=A? AD:=hk;rw[hk]at h1;have e2:=h.nt k _ (Wv yY);rw[WN h1];exact e2
 .show∀p∈rows.map (λrow=>row.getD a bh),∀s k:Int,t! s k∈p.walk->(∃k':Nat,k=(k':Int)/\k'<yZ.length)/\_;rw[hl];exact h.call
theorem gu(h:Told ins rows Ls e):(aR ins rows e.t).length=rows.length:=by
 have hf:=h.fit;cases ht:e.t with
 |call s k=>rw[ht,F!]at hf;exact hf.elim
 |knot n ks=>rw[cE,Wt]
theorem kD{St:List NtE}{js:List Nat}:(aH St js).length=js.length:=Wt _
theorem pq{js:List Nat}(hj:∀n∈js,n<St.length)(ht:∀e∈St,Told ins rows Ls e):Fits ins (aH St js):=by
 induction js with
 |nil=>exact trivial
 | cons j js ih =>
   have e:=Wv (hj j (WM ..));refine{?_,ih λn hn=>hj n (WR _ hn)};show F! ins (((St[j]?).map (·.t)).getD bh);rw[e];exact(ht _ (XS _)).fit
theorem KOk.told{js:List Nat}{c:NtE}(h:KOk ins rows Ls St a w Ws)(hn:GoodN ins)(nd:Ls.Nodup)(ht:∀e∈St,Told ins rows Ls e)(hl:js.length=w.ks.length)(hj:∀n∈js,n<St.length)
 (hb:NoteBy w.ps (cnd (w.ks.map (·.ag)) Z (ones w.ps.length) js).b rows.length w.ps.length c.note) (hc:c.t=.knot w.nm (aH St js)) (hz:c.n=(p! w.nm (aH St js)).size):Told ins rows Ls c:=by
 refine{by rw[hc];exact hz,?_,?_}
 .rw[hc,F!];refine{?_,pq hj ht};rw[kD,hl];exact Ww h.nm
 .rw[hc];exact h.ag.note nd (h.ix hn) rfl h.sp h.ps hl hj ht (λe he=>gu (ht e he)) h.call hb
end
theorem mC:∀{ts:List Th},(∀t∈ts,t.tall<=m)->bJ ts<=m
 | [],_=>Xo _
 | t::ts,h=>by
   have h1:=h t (WM ..);have h2:=mC λu hu=>h u (WR _ hu);rw[bJ];lia
theorem PInv.tallK{St:List NtE}{c:W8->List Nat->Prop}(h:PInv ins rows Ls F St c){js:List Nat}(hj:∀n∈js,n<St.length):(p! nm (aH St js)).tall<=St.length+1:=by
 show bJ (aH St js)+1<=_
 have:=mC (m:=St.length) (ts:=aH St js) λt ht=>by
  obtain⟨j,M0,rfl⟩:=WY.mp ht;have hl:=hj j M0;have e:=Wv hl;rw[e];have:=h.t1 j _ e;show(St[j]).t.tall<=_;lia
 lia
def Tb.mut(tb:Tb):List Wx:=tb.fd::tb.st::tb.ws.flatMap λw=>w.ks.map (·.a)
structure TInv(ins:List (W8×Int))(rows:List (List Th))(Ls:List Th)(old:List NtE)(i:Nat)(cl:W8->List Nat->Prop)(tb:Tb):Prop where
 p:PInv ins rows Ls tb.found tb.settled cl
 S:tb.S=rows.length
 n:tb.ws.length=ins.length
 k:∀(a:Nat)(w:Wy),tb.ws[a]?=A? w->∃Ws,KOk ins rows Ls (if a<i then tb.settled else old) a w Ws
section
variable{old:List NtE}{cl:W8->List Nat->Prop}{tb:Tb}
theorem TInv.congr{Jc:W8->List Nat->Prop}(h:TInv ins rows Ls old i cl tb)(e:∀nm ks,Jc nm ks->cl nm ks):TInv ins rows Ls old i Jc tb:={h.p.congr e,h.S,h.n,h.k}
theorem TInv.enter{c:NtE}{js:List Nat}(h:TInv ins rows Ls old i cl tb)(hd:Entd tb.found c F')(hc:Told ins rows Ls c)(ht:c.t=.knot nm (aH tb.settled js))(yY:∀s∈tb.settled,s.n<c.n)(hj:∀n∈js,n<tb.settled.length) :
 TInv ins rows Ls old i (λm ks=>cl m ks\/(m=nm/\ks=js)) {tb with found:=F'} :=
 {(h.p.enter hd hc yY (by rw[ht];exact h.p.tallK hj)).congr λm ks z=>z.imp id λy=>by rw[ht,y.1,y.2],h.S,h.n,h.k}
theorem TInv.take{Jd:List NtE}{w:Wy}(h:TInv ins rows Ls Jd i cl tb)(hs:tb.settled=Jd++[e])(hw:tb.ws[i]?=A? w)(hk:KOk ins rows Ls Jd i w Ws)(t:Took Ws e.note w.ks w.ks.length yZ) :
 TInv ins rows Ls Jd (i+1) cl {tb with ws:=tb.ws.set i {w with ks:=yZ}}:=by
 have hi:=(glE hw);refine{h.p,h.S,by show(tb.ws.set i _).length=_;rw[YR];exact h.n,λa v hv=>?_};have hv:(tb.ws.set i {w with ks:=yZ})[a]?=A? v:=hv;show∃Ws,KOk ins rows Ls (if a<i+1 then tb.settled else Jd) a v Ws;by_cases z:i=a
 .subst z;rw[X5 hi]at hv;rw[<-WN hv,b! (Nat.lt_succ_self _),hs];exact{Ws,hk.take t}
 .rw[X6 z]at hv;have:=h.k a v hv;by_cases y:a<i
  .rw[b! y]at this;rw[b! (by lia)];exact this
  .rw[a! y]at this;rw[a! (by lia)];exact this
theorem TInv.settle(h:TInv ins rows Ls old tb.ws.length cl tb)(he:e∈tb.found)(hn:e∉tb.settled)(Cc:∀y∈tb.found,y∉tb.settled->keyLt y.key e.key=D?) :
 TInv ins rows Ls tb.settled 0 (λnm ks=>cl nm ks/\∀k∈ks,k<tb.settled.length) {tb with settled:=tb.settled++[e]}/\∀s∈tb.settled++[e],s.n<=e.n:=by
 obtain⟨h1,h2⟩:=h.p.settle he hn Cc;refine{{h1,h.S,h.n,λa w hw=>?_},λs hs=>?_}
 .have hw:tb.ws[a]?=A? w:=hw;rw[a! (Z4 _)];have:=h.k a w hw;rw[b! (glE hw)]at this;exact this
 .rcases WQ.mp hs with hs|hs
  .exact h2 s hs
  .rw[WG.mp hs];exact WD _
end
theorem fH(a:Int×List Int):keyLt a a=false:=by
 unfold keyLt;rw[b! rfl]
 have:∀l:List Int,H! l l=false:=λl=>by
  induction l with
  |nil=>rfl
  |cons x l ih=>rw[P!,b! rfl];exact ih
 exact this _
theorem sub_len:∀{l m:List α},l.Nodup->(∀x∈l,x∈m)->l.length<=m.length
 | [],_,_,_=>Xo _
 | x::l,m,nd,h=>by
   rw[XH]at nd;obtain⟨s,t,rfl⟩:=List.append_of_mem (h x (WM ..))
   have:=sub_len (m:=s++t) nd.2 λy hy=>by
    have:=h y (WR _ hy);rcases WQ.mp this with g|g
    .exact WX _ g
    .rcases WW.mp g with rfl|g
     .exact g! hy nd.1
     .exact Xc _ g
   rw[WL]at this;rw[WV,WL,WV];lia
theorem PInv.s30{St:List NtE}{c:W8->List Nat->Prop}(h:PInv ins rows Ls F St c):St.length<=30:=by
 refine XB (sub_len ?_ h.s1) h.f3;refine List.Pairwise.imp (λ{a b}k z=>?_) h.s2;rw[z,fH]at k;cases k
theorem TbAt.beside{tb:Tb}{r:Wx}{v o':HO}(h:TbAt CT CW H tb)(hr:H r=A? v)(v1:∀xs,v≠.tup xs)(v2:∀xs,v≠.lst xs)(v3:∀xs,v≠.dT xs)(v4:∀c d f,v≠.ins c d f):TbAt CT CW (upd H r o') tb:=by
 have k:KT H (upd H r o'):=λb xs e=>by rw[aj (aF e hr (v1 xs).symm)];exact e
 have o:∀{b:Wx}{u:HO},H b=A? u->u≠v->(upd H r o') b=A? u:=λe hb=>(aj (aF e hr hb)).trans e;refine{o h.ins (v4 _ _ _).symm,o h.wl (v2 _).symm,λw hw=>(h.wa w hw).frame (S:=[r]) (N! (WG.mpr rfl)) k ?_ λb hb=>?_,o h.fd (v3 _).symm,o h.st (v2 _).symm,λe he=>(h.fe e he).mono k,λe he=>(h.se e he).mono k,h.nd,h.sep,h.n1}
 .exactλz=>aF (h.wa w hw).ins hr (v4 _ _ _).symm (WG.mp z)
 .intro z;have AK:=h.wa w hw;have z:=WG.mp z;unfold Wy.bs at hb;simp only[WW,WQ]at hb;rcases hb with rfl|rfl|rfl|hb|hb
  .exact aF AK.pl hr (v2 _).symm z
  .exact aF AK.nl hr (v2 _).symm z
  .exact aF AK.al hr (v2 _).symm z
  .obtain⟨kd,hk,rfl⟩:=WY.mp hb;exact aF (AK.nd kd hk) hr (v3 _).symm z
  .obtain⟨kd,hk,rfl⟩:=WY.mp hb;exact aF (AK.ag kd hk) hr (v2 _).symm z
theorem lA{AG:List (List Int)}{all:Int}{St:List NtE}:∀js:List Nat,(∀j∈js,j<St.length)->(∀e∈St,e.n=e.t.size)->(cnd AG (St.map λy=>((y.n:Nat):Int)) all js).n=((au (aH St js):Nat):Int)/\(cnd AG (St.map λy=>((y.n:Nat):Int)) all js).ks=js:=by
 have snoc:∀(l:List Th)(t:Th),au (l++[t])=au l+t.size:=λl t=>by
  induction l with
  |nil=>show t.size+0=0+t.size;lia
  |cons x l ih=>show x.size+au (l++[t])=x.size+au l+t.size;lia
 refine snoc_ind (λ_ _=>⟨rfl,rfl⟩) λl a ih hj ht=>?_;obtain⟨h1,h2⟩:=ih (λj h=>hj j (WX _ h)) ht;rw[gz];refine{?_,by show _++[a]=_;rw[h2]};show(cnd AG (St.map λy=>((y.n:Nat):Int)) all l).n+(St.map λy=>((y.n:Nat):Int)).getD a 0=_;have hl:=hj a (by simp);have e:=Wv hl
 have e2:aH St (l++[a])=aH St l++[(St[a]).t]:=by
  unfold aH;rw[W3];show _++[((St[a]?).map (·.t)).getD bh]=_;rw[e];rfl
 rw[h1,e2,snoc,W0,Wz,e];show _+((St[a].n:Nat):Int)=_;rw[ht _ (XS hl)];lia
theorem tW:∀{ks:List Th}{t:Th},t∈ks->t.size<=au ks
 | x::ks,t,h=>by
   show t.size<=x.size+au ks;rcases WW.mp h with rfl|h
   .lia
   .have:=tW h;lia
theorem TInv.more{old:List NtE}{cl Jc:W8->List Nat->Prop}{tb:Tb}(h:TInv ins rows Ls old i cl tb)
 (e:∀nm ks,Jc nm ks->cl nm ks\/∃y∈tb.found,IsNote Ls (aR ins rows (.knot nm (aH tb.settled ks))) y.note/\y.n<=(p! nm (aH tb.settled ks)).size):TInv ins rows Ls old i Jc tb :=
 {{h.p.f1,h.p.f2,h.p.f3,h.p.s1,h.p.s2,h.p.s3,λnm ks z=>(e nm ks z).elim (h.p.cl nm ks) id,h.p.t1,h.p.t2},h.S,h.n,h.k}
section
variable{St:List NtE}
def ClAll(ins:List (W8×Int))(n:Nat)(nm:W8)(ks:List Nat):Prop:=(∃m:Nat,ins[m]?=A? (nm,((ks.length:Nat):Int)))/\∀k∈ks,k<n
theorem ClAll.succ{ks:List Nat}(h:ClAll ins (n+1) nm ks):(ClAll ins n nm ks/\∀k∈ks,k<n)\/((∃m:Nat,ins[m]?=A? (nm,((ks.length:Nat):Int)))/\(∀k∈ks,k<=n)/\n∈ks):=by
 by_cases z:n∈ks
 .exact .inr {h.1,λk hk=>by have:=h.2 k hk;lia,z}
 .have:∀k∈ks,k<n:=λk hk=>by
   have h1:=h.2 k hk;have h2:k≠n:=λy=>z (y ▸ hk);lia
  exact .inl {⟨h.1,this⟩,this}
theorem PInv.full(hL:b9 Ls)(nd:Ls.Nodup)(hc:∀nm c,(nm,c)∈ins->∀p,(∃row∈rows,p=row.getD ((ins.map (·.1)).idxOf nm) bh)->∀s k:Int,t! s k∈p.walk->(∃k':Nat,k=(k':Int)/\(k':Int)<c)/\∃s':Nat,s=(s':Int)/\s'<rows.length)
 (h:PInv ins rows Ls F St (ClAll ins St.length)) (yW:∀e∈F,e∈St):∀(n:Nat)(t:Th),t.size<=n->t.Fit ins->∃e∈St,IsNote Ls (aR ins rows t) e.note/\e.n<=t.size
 |0,t,hz,_=>by have:=J! t;lia
 |n+1,.call s k,_,hf=>by rw[F!]at hf;exact hf.elim
 | n+1,.knot nm ts,hz,hf=>by
   rw[F!]at hf;have hz:au ts+1<=n+1:=hz;have ih:=PInv.full hL nd hc h yW n
   have rowsOf:∀us:List Th,au us<=n->Fits ins us->∃ks:List Nat,ks.length=us.length/\(∀k∈ks,k<St.length)/\au (aH St ks)<=au us/\Xb (λx y=>∃n,IsNote Ls (aR ins rows x) n/\IsNote Ls (aR ins rows y) n/\n.length=rows.length) (aH St ks) us:=λus=>by
    induction us with
    |nil=>exactλ_ _=>{[],rfl,(by intro k hk;cases hk),WD _,.nil}
    | cons u us SQ =>
      intro hs P7;have hs:u.size+au us<=n:=hs;obtain⟨ks,h1,h2,h3,h4⟩:=SQ (by lia) P7.2;obtain⟨e,he,g1,g2⟩:=ih u (by lia) P7.1;obtain⟨i,hi⟩:=WK.mp he;have zV:=(glE hi);have ht:=h.f1 e (h.s1 e he)
      have ek:aH St (i::ks)=e.t::aH St ks:=by
       unfold aH;show((St[i]?).map (·.t)).getD bh::_=_;rw[hi];rfl
      refine{i::ks,by rw[WV,WV,h1],λk hk=>?_,?_,?_}
      .rcases WW.mp hk with rfl|hk
       .exact zV
       .exact h2 k hk
      .rw[ek];show e.t.size+au (aH St ks)<=u.size+au us;have:=ht.n;lia
      .rw[ek];exact .cons {e.note,ht.note,g1,by rw[ht.note.len,gu ht]} h4
   obtain⟨ks,h1,h2,h3,h4⟩:=rowsOf ts (by lia) hf.2;obtain⟨m,hm⟩:=WK.mp hf.1;obtain⟨e,he,g1,g2⟩:=h.cl nm ks {{m,by rw[h1];exact hm},h2};refine{e,yW e he,qg hL nd (λp hp s k hw=>?_) h4 g1,?_}
   .obtain⟨⟨k',e1,e2⟩,h5⟩:=hc nm _ hf.1 p hp s k hw;exact{{k',e1,by rw[kD,h1];lia},h5}
   .have q1:(p! nm (aH St ks)).size=au (aH St ks)+1:=rfl;have q2:(p! nm ts).size=au ts+1:=rfl;lia
end
section
variable{St:List NtE}{c:W8->List Nat->Prop}
theorem PInv.snd(h:PInv ins rows Ls F St c):St.Nodup :=
 List.Pairwise.imp (λ{a b}k z=>by rw[z,fH]at k;cases k) h.s2
theorem PInv.all(h:PInv ins rows Ls F St c)(hl:F.length<=St.length):∀e∈F,e∈St:=λe he=>by
 by_cases z:e∈St
 .exact z
 .have:=sub_len (l:=e::St) (m:=F) (XH.mpr ⟨z,h.snd⟩) λx hx=>by
   rcases WW.mp hx with rfl|hx
   .exact he
   .exact h.s1 x hx
  rw[WV]at this;lia
theorem PInv.late(h:PInv ins rows Ls F St c){y:NtE}(hy:y∈F):y.note∈St.map (·.note)↔y∈St:=by
 constructor
 .intro z;obtain⟨e,he,g⟩:=WY.mp z;obtain⟨i,hi⟩:=WK.mp hy;obtain⟨j,hj⟩:=WK.mp (h.s1 e he);have:=fP h.f2 hi hj g.symm;subst this;rw[hi]at hj;rw[WN hj];exact he
 .exactλz=>WY.mpr ⟨y,z,rfl⟩
theorem PInv.some_late(h:PInv ins rows Ls F St c)(hl:St.length<F.length):∃e∈F,e∉St:=by
 refine Classical.byContradiction λz=>?_;have yW:∀e∈F,e∈St:=λe he=>Classical.byContradiction λy=>z ⟨e,he,y⟩
 have fn:F.Nodup:=by
  have:=h.f2;exact(List.pairwise_map.mp this).imp λ{a b}k z=>k (by rw[z])
 have:=sub_len fn yW;lia
end
theorem TInv.nil{tb:Tb}(hf:tb.found=[])(hs:tb.settled=[])(hS:tb.S=rows.length)(hn:tb.ws.length=ins.length)(hk:∀(a:Nat)(w:Wy),tb.ws[a]?=A? w->∃Ws,KOk ins rows Ls [] a w Ws)(old:List NtE) :
 TInv ins rows Ls old tb.ws.length (λ_ _=>False) tb :=
 {by rw[hf,hs];exact PInv.nil,hS,hn,λa w hw=>by rw[b! (glE hw),hs];exact hk a w hw}
theorem WyAt.bsnd{w:Wy}(h:WyAt C H w):w.bs.Nodup:=by
 have dn:∀k∈w.ks,∀{b:Wx}{xs:List V},H b=A? (.lst xs)->b≠k.d:=λk hk{b xs}e z=>by
  have:=h.nd k hk;rw[<-z,e]at this;cases this
 have g:∀{f:Kd->Wx}{x:Wx},x∈w.ks.map f->∃k∈w.ks,x=f k:=λhx=>by
  obtain⟨k,hk,e⟩:=WY.mp hx;exact⟨k,hk,e.symm⟩
 have Cd:(w.ks.map (·.d)++w.ks.map (·.a)).Nodup:=by
  rw[Yc];refine{h.ndd,h.nda,λx hx y hy z=>?_};obtain⟨k,hk,rfl⟩:=g hx;obtain⟨k',zm,rfl⟩:=g hy;exact dn k hk (h.ag k' zm) z.symm
 unfold Wy.bs;rw[XH,XH,XH]
 have M1:∀{b:Wx}{xs:List V},H b=A? (.lst xs)->(∀k∈w.ks,b≠k.a)->b∉w.ks.map (·.d)++w.ks.map (·.a):=λ{b xs}e ha z=>by
  rcases WQ.mp z with z|z
  .obtain⟨k,hk,y⟩:=g z;exact dn k hk e y
  .obtain⟨k,hk,y⟩:=g z;exact ha k hk y
 refine{λz=>?_,λz=>?_,M1 h.al λk hk=>(h.n4 k hk).2.2.symm,Cd}
 .rcases WW.mp z with z|z
  .exact h.n1 z
  .rcases WW.mp z with z|z
   .exact h.n2 z
   .exact M1 h.pl (λk hk=>(h.n4 k hk).1.symm) z
 .rcases WW.mp z with z|z
  .exact h.n3 z
  .exact M1 h.nl (λk hk=>(h.n4 k hk).2.1.symm) z
theorem WyAt.some_bs{w:Wy}(h:WyAt C H w):∀b∈w.bs,∃o,H b=A? o/\(∀xs,o≠.tup xs)/\(∀c d f,o≠.ins c d f)/\∀z,o≠.tbl z:=λb hb=>by
 unfold Wy.bs at hb;simp only[WW,WQ]at hb;rcases hb with rfl|rfl|rfl|hb|hb
 .exact{_,h.pl,λ_ z=>(nomatch z),(λ_ _ _ z=>nomatch z),λ_ z=>nomatch z}
 .exact{_,h.nl,λ_ z=>(nomatch z),(λ_ _ _ z=>nomatch z),λ_ z=>nomatch z}
 .exact{_,h.al,λ_ z=>(nomatch z),(λ_ _ _ z=>nomatch z),λ_ z=>nomatch z}
 .obtain⟨k,hk,rfl⟩:=WY.mp hb;exact{_,h.nd k hk,λ_ z=>(nomatch z),(λ_ _ _ z=>nomatch z),λ_ z=>nomatch z}
 .obtain⟨k,hk,rfl⟩:=WY.mp hb;exact{_,h.ag k hk,λ_ z=>(nomatch z),(λ_ _ _ z=>nomatch z),λ_ z=>nomatch z}
def lR(S:Nat)(wl:Wx):List (W8×V):=aP (WE "ways") (.ref wl) (aP (WE "states") (.int (S:Nat)) [])
theorem sL{S:Nat}:(lR S wl).lookup (WE "ways")=A? (.ref wl):=by
 have e1:∀(f:W8)(v:V),aP f v []=[(f,v)]:=λf v=>by rw[aP]
 unfold lR;rw[e1,cJ (by decide +kernel),e1];exact(lk1 (by decide +kernel)).trans lk0
theorem tQ(S:Nat)(wl fd st:Wx):aP (WE "settled") (.ref st) (aP (WE "found") (.ref fd) (lR S wl))=tbF S wl fd st:=vo S wl fd st
structure TiI(C CW:Wx)(H:Hp)(x dx wl:Wx)(ins:List (W8×Int))(rows:List (List Th))(Ls:List Th)(n S:Nat)(H7:Hp)(ws:List Wy):Prop where
 sb:SameB x H H7
 self:H7 x=A? (.ins C dx (lR S wl))
 wll:H7 wl=A? (.lst (ws.map λw=>j! w.x))
 wln:H wl=B?
 wa:∀w∈ws,WyAt CW H7 w
 fr:∀b∈ws.flatMap Wy.bs,H b=B?/\b≠wl
 nd:(ws.flatMap Wy.bs).Nodup
 len:ws.length=n
 k:∀(a:Nat)(w:Wy),ws[a]?=A? w->∃Ws,KOk ins rows Ls [] a w Ws
section
variable{x dx:Wx}{S:Nat}{ws:List Wy}
theorem TiI.same(h:TiI C CW H x dx wl ins rows Ls n S H7 ws)(s:k! H7 H8):TiI C CW H x dx wl ins rows Ls n S H8 ws :=
 {h.sb.trans (A! s),s _ _ h.self,s _ _ h.wll,h.wln,λw hw=>(h.wa w hw).same s,h.fr,h.nd,h.len,h.k}
theorem TiI.null(h:TiI C CW H x dx wl ins rows Ls n S H7 ws)(hb:H7 b=B?):H b=B?/\b≠x/\b≠wl:=by
 have h1:b≠x:=λz=>by rw[z,h.self]at hb;cases hb
 refine{?_,h1,λz=>by rw[z,h.wll]at hb;cases hb};cases z:H b with
 |none=>rfl
 |some o=>rw[h.sb b o h1 z]at hb;cases hb
theorem mT{y dy:Wx}(hy:H7 y=B?)(Ld:H7 dy=B?)(sb:SameB y (upd (upd H7 dy (.own y)) y (.ins CW dy [])) H8):k! H7 H8:=λb o e=>sb b o (aq e hy) (by rw[aj (aq e hy),aj (aq e Ld)];exact e)
theorem TiI.add{w:Wy}(h:TiI C CW H x dx wl ins rows Ls n S H7 ws)(wa:WyAt CW H7 w)(fr:∀b∈w.bs,H b=B?/\b≠wl)(ft:∀b∈w.bs,b∉ws.flatMap Wy.bs)(hk:∃Ws,KOk ins rows Ls [] n w Ws) :
 TiI C CW H x dx wl ins rows Ls (n+1) S (upd H7 wl (.lst ((ws.map λw=>j! w.x)++[.ref w.x]))) (ws++[w]):=by
 have hx:x≠wl:=aF h.self h.wll (λz=>nomatch z);have k:KT H7 (upd H7 wl (.lst ((ws.map λw=>j! w.x)++[.ref w.x]))):=λb xs e=>by rw[aj (aF e h.wll (λz=>nomatch z))];exact e
 have fw:∀v:Wy,WyAt CW H7 v->(∀b∈v.bs,b≠wl)->WyAt CW (upd H7 wl (.lst ((ws.map λw=>j! w.x)++[.ref w.x]))) v:=λv hv hb =>
  hv.frame (S:=[wl]) (N! (WG.mpr rfl)) k (λz=>aF hv.ins h.wll (λz=>nomatch z) (WG.mp z)) λb zA z=>hb b zA (WG.mp z)
 refine{λb o hb e=>?_,(aj hx).trans h.self,?_,h.wln,λv hv=>?_,?_,?_,by rw[WL,h.len];rfl,λa v hv=>?_}
 .rw[aj (aq e h.wln)];exact h.sb b o hb e
 .rw[af,W3];rfl
 .rcases WQ.mp hv with hv|hv
  .exact fw v (h.wa v hv) λb hb=>(h.fr b (iw hv hb)).2
  .rw[WG.mp hv];exact fw w wa λb hb=>(fr b hb).2
 .intro b hb;rw[List.flatMap_append]at hb;rcases WQ.mp hb with hb|hb
  .exact h.fr b hb
  .rw[List.flatMap_singleton]at hb;exact fr b hb
 .rw[List.flatMap_append,List.flatMap_singleton,Yc];exact{h.nd,wa.bsnd,λa ha b hb z=>ft b hb (z ▸ ha)}
 .rcases be.mp hv with hv|⟨e,rfl⟩
  .exact h.k a v hv
  .rw[e,h.len];exact hk
theorem TiI.done{fd st:Wx}{Hd He:Hp}(h:TiI C CW H x dx wl ins rows Ls n S H7 ws)(hn:n=ins.length)(hS:S=rows.length)(s1:SameB x H7 He)(ex:He x=A? (.ins C dx (tbF S wl fd st)))(ef:He fd=A? (.dT []))(es:He st=A? (.lst []))
 (nf:H7 fd=B?) (ns:H7 st=B?) :
 TbAt C CW He {x,dx,S,wl,fd,st,ws,[],[]}/\TInv ins rows Ls [] ws.length (λ_ _=>False) {x,dx,S,wl,fd,st,ws,[],[]}/\SameB x H He/\∀b∈Tb.mut {x,dx,S,wl,fd,st,ws,[],[]},H b=none:=by
 have Gg:wl≠x:=aF h.wll h.self (λz=>nomatch z)
 have bx:∀w∈ws,∀b∈w.bs,b≠x:=λw hw b hb z=>by
  obtain⟨o,e,_,h2,_⟩:=(h.wa w hw).some_bs b hb;rw[z,h.self]at e;exact h2 _ _ _ (WN e).symm
 have bo:∀w∈ws,∀b∈w.bs,∃o,H7 b=A? o:=λw hw b hb=>by
  obtain⟨o,e,_⟩:=(h.wa w hw).some_bs b hb;exact⟨o,e⟩
 have k:KT H7 He:=λb xs e=>s1 b _ (aF e h.self (λz=>nomatch z)) e;refine{{ex,s1 _ _ Gg h.wll,λw hw=>?_,ef,es,(by intro e he;cases he),(by intro e he;cases he),h.nd,λb hb=>{(h.fr b hb).2,?_},?_},TInv.nil (tb:={x,dx,S,wl,fd,st,ws,[],[]}) rfl rfl hS (h.len.trans hn) h.k _,h.sb.trans s1,λb hb=>?_}
 .refine(h.wa w hw).keep k λb hb o e=>?_;by_cases z:b=x
  .unfold Wy.own at hb;rcases WW.mp hb with y|hb
   .exfalso;have e1:=(h.wa w hw).ins;rw[<-y,z,h.self]at e1;have e2:=WN e1;injection e2 with _ _ e3;have:(wyF w.nm w.pl w.nl w.al).lookup (WE "ways")=A? (.ref wl):=by rw[<-e3];exact sL
    rw[gy]at this;cases this
   .exact g! z (bx w hw b hb)
  .exact s1 b o z e
 .obtain⟨w,hw,hb⟩:=Zn.mp hb;obtain⟨o,e⟩:=bo w hw b hb;exact{aq e ns,aq e nf}
 .exact aq h.wll ns
 .unfold Tb.mut at hb;rcases WW.mp hb with rfl|hb
  .exact(h.null nf).1
  rcases WW.mp hb with rfl|hb
  .exact(h.null ns).1
  .obtain⟨w,hw,hb⟩:=Zn.mp hb;exact(h.fr b (iw hw (xg hb))).1
end
theorem oZ{g:TG}{te:TE}{p:List Key×V->Bool}{Q:VK}
 (zl:∀R:VK,R (.ref d) H->tl σ H R) (hd:H d=A? (.dT kvs)) (hlen:kvs.length<=10000)
 (hs:∀(i:Nat)(kv:List Key×V)(pa b:Wx)(H2:Hp)(R:VK)(W':Hp->Prop),kvs[i]?=A? kv->SameB d H H2->H2 pa=A? (.tup [.ref b,kv.2])->H2 b=A? (.tup (kv.1.map kV))->(p kv=C?->R kv.2 H2)->(p kv=D?->W' H2)->g (.ref pa) (cσ js σ) H2 λze H3=>tt ze H3 λb H4=>if b=C? then te ze H4 R else W' H4)
 (hq:∀(D:Wx)(H2:Hp),k! H H2->H D=B?->H2 D=A? (.lst ((kvs.filter p).map (·.2)))->Q (.ref D) H2) :
 sP (uo js (qx tl) g tt te) σ H Q:=by
 refine zl _ {d,kvs,rfl,hd,λo D hD=>?_};have Fo:D≠d:=λz=>by rw[z,af]at hD;cases hD
 have M3:H D=none:=by rw[aj Fo]at hD;exact hD
 refine{kvs.length,λj H2=>j<=kvs.length/\SameB d H H2/\H2 d=A? (.frz o (.dT kvs))/\H2 D=A? (.lst (((kvs.take j).filter p).map (·.2))),{Xo _,λb u hb e=>by rw[aj (aq e M3),aj hb];exact e,by rw[aj Fo.symm,af],af},?_};rintro j H2 ⟨hj,sb,ed,eD⟩;by_cases CF:j=kvs.length
 .left;refine{{ed,by lia},upd H2 d (.dT kvs),λb=>?_,?_}
  .by_cases hb:b=d
   .rw[hb];exact .inr {o,_,ed,hd,af}
   .exact .inl (aj hb)
  .rw[CF,YJ]at eD;refine hq D _ (λb u e=>?_) M3 (by rw[aj Fo];exact eD);by_cases hb:b=d
   .rw[hb,hd]at e;rw[hb,af];exact e
   .rw[aj hb];exact sb b u hb e
 .right;refine{by lia,{ed,by lia},?_};rintro x H3 ⟨pa,b,kv,hp,rfl,rfl,An,eb⟩;have Le:d≠pa:=λz=>by rw[<-z,ed]at hp;cases hp
  have CB:D≠pa:=λz=>by rw[<-z,eD]at hp;cases hp
  have e2:(kvs.take (j+1)).filter p=(kvs.take j).filter p++(if p kv=C? then[kv]else[]):=by
   rw[YG,An,List.filter_append];show _++List.filter p [kv]=_;rw[List.filter_cons,List.filter_nil]
  have hl:(((kvs.take j).filter p).map (·.2)).length<=10000:=by
   rw[Wt];have:=List.length_filter_le p (kvs.take j);rw[Xy]at this;lia
  have Io:SameB d H (upd H2 pa (.tup [.ref b,kv.2])):=λc u hc ec=>by rw[aj (aq (sb c u hc ec) hp)];exact sb c u hc ec
  refine hs j kv pa b _ _ _ An Io af (by rw[aj (aq eb hp)];exact eb) (λBi=>?_) λBi=>?_
  .refine{_,by rw[aj CB];exact eD,aT (by lia),by lia,λc u hc ec=>?_,?_,?_}
   .rw[aj (aq ec M3)];exact Io c u hc ec
   .rw[aj Fo.symm,aj Le];exact ed
   .rw[af,e2,b! Bi,W3];rfl
  .refine{by lia,Io,by rw[aj Le];exact ed,?_};rw[aj CB,e2,a! (by rw[Bi];exact W2),Z9];exact eD
def SameO(H H':Hp):Prop:=∀b o,H b=A? o->(∀z,o≠.tbl z)->H' b=A? o
theorem SameO.kt(s:SameO H H'):KT H H':=λb xs e=>s b _ e λ_ z=>nomatch z
end BB
namespace L2
open PySem BB
theorem TabSt.sameO{P:Wx}(t:TabSt H P pos qual)(s:SameT P H H'):SameO H H':=λb o e h=>s b o (λz=>by
 rw[z]at e;rcases t with y|⟨_,y,_⟩ <;> · rw[y]at e;cases e;exact h _ rfl) e
end L2
namespace BB
open PySem L2
theorem TbAt.sameO{tb:Tb}(h:TbAt CT CW H tb)(s:SameO H H'):TbAt CT CW H' tb:=by
 refine{s _ _ h.ins (λ_ z=>nomatch z),s _ _ h.wl (λ_ z=>nomatch z),λw hw=>?_,s _ _ h.fd (λ_ z=>nomatch z),s _ _ h.st (λ_ z=>nomatch z),λe he=>(h.fe e he).mono s.kt,λe he=>(h.se e he).mono s.kt,h.nd,h.sep,h.n1};have Bh:=h.wa w hw;refine Bh.keep s.kt λb hb o e=>s b o e λz y=>?_;unfold Wy.own at hb;rcases WW.mp hb with rfl|hb
 .rw[Bh.ins,y]at e;cases e
 .obtain⟨o',e',_,_,h3⟩:=Bh.some_bs b hb;rw[e,y]at e';exact h3 _ (WN e').symm
def ie(F St:List NtE):List NtE:=F.filter λe=>!decide (e.note∈St.map (·.note))
theorem fB{f:α->β}{p:β->Bool}{r:α->Bool}:∀{l:List α},(∀x∈l,p (f x)=r x)->(l.map f).filter p=(l.filter r).map f
 | [],_=>rfl
 | x::l,h=>by
   rw[W9,List.filter_cons,List.filter_cons,h x (WM ..),fB λy hy=>h y (WR _ hy)];by_cases z:r x=C?
   .rw[b! z,b! z,W9]
   .rw[a! z,a! z]
def nDv(note:List Int):Dv:=.tup (note.map C!)
theorem vp{a b:List Int}(h:nDv a=nDv b):a=b:=by
 unfold nDv at h;injection h with h;exact kK h
theorem ui{note:List Int}(h:H a=A? (.tup (note.map o!))):DAt H (nDv note) (.ref a):=by
 unfold nDv;rw[DAt];exact{a,_,E?,h,gN _}
theorem qz:∀{St:List NtE},(∀e∈St,NtA H e)->DAts H (St.map λe=>nDv e.note) (St.map λe=>j! e.na)
 | [],_=>by rw[YL,YL,DAts]
 | e::St,h=>by
   rw[W9,W9,DAts];exact{_,_,E?,ui (h e (WM ..)).na,qz λx hx=>h x (WR _ hx)}
theorem l8:∀{St:List NtE},gx (St.map λe=>nDv e.note)<=3
 | []=>by rw[YL,gx];lia
 | e::St=>by
   have:=l8 (St:=St);have h:=iG e.note;rw[W9,gx]
   have h2:(nDv e.note).deep<=3:=by
    unfold nDv;rw[Dv.deep];lia
   lia
theorem uQ{St:List NtE}{note:List Int}:nDv note∈St.map (λe=>nDv e.note)↔note∈St.map (·.note):=by
 constructor
 .intro h;obtain⟨e,he,z⟩:=WY.mp h;exact WY.mpr {e,he,vp z}
 .intro h;obtain⟨e,he,rfl⟩:=WY.mp h;exact WY.mpr ⟨e,he,rfl⟩
end BB
namespace L2
open PySem BB
theorem TabSt.frb{P:Wx}(t:TabSt H P pos qual)(hS:∀b∈S,∃u,H b=A? u/\(∀φ,u≠.ext φ)/\∀z,u≠.tbl z)(f:FrB S H H'):TabSt H' P pos qual:=by
 have np:∀{z:Array WA},H P=A? (.tbl z)->P∉S:=λe hb=>by
  obtain⟨u,h1,_,h3⟩:=hS _ hb;rw[e]at h1;exact h3 _ (WN h1).symm
 rcases t with h|⟨c',h1,φ,h2,h3⟩
 .exact .inl (f _ _ (np h) h)
 .refine .inr {c',f _ _ (np h1) h1,φ,f _ _ (λhb=>?_) h2,h3};obtain⟨u,g1,g2,_⟩:=hS _ hb;rw[h2]at g1;exact g2 _ (WN g1).symm
end L2
namespace BB
open PySem L2
theorem TbAt.mutOk{tb:Tb}(ht:TbAt CT CW H tb):∀b∈tb.mut,∃u,H b=A? u/\(∀φ,u≠.ext φ)/\∀z,u≠.tbl z:=λb hb=>by
 unfold Tb.mut at hb;rcases WW.mp hb with rfl|hb
 .exact{_,ht.fd,λ_ z=>(nomatch z),λ_ z=>nomatch z}
 .rcases WW.mp hb with rfl|hb
  .exact{_,ht.st,λ_ z=>(nomatch z),λ_ z=>nomatch z}
  .obtain⟨v,hv,hb⟩:=Zn.mp hb;obtain⟨kd,Ab,rfl⟩:=WY.mp hb;exact{_,(ht.wa v hv).ag kd Ab,λ_ z=>(nomatch z),λ_ z=>nomatch z}
def qo(ks:List Key):List Int:=ks.map λk=>match k with
 |.inl i=>i
 |.inr _=>0
theorem gv:∀note:List Int,qo (gp note)=note
 | []=>rfl
 |i::note=>h! (List.cons i) (gv note)
theorem rQ{St:List NtE}:(nfv F).filter (λkv=>!decide (qo kv.1∈St.map (·.note)))=nfv (ie F St):=by
 unfold nfv ie;refine fB λx _=>?_;rw[gv]
theorem gP{St:List NtE}{c:W8->List Nat->Prop}(h:PInv ins rows Ls F St c):e∈ie F St↔e∈F/\e∉St:=by
 unfold ie;rw[Yx];constructor
 .rintro⟨h1,h2⟩;refine{h1,λz=>?_};rw[d! ((h.late h1).mpr z)]at h2;cases h2
 .rintro⟨h1,h2⟩;refine{h1,?_};rw[c! λz=>h2 ((h.late h1).mp z)];rfl
structure WBk(H:Hp)(ins:List (W8×Int))(head:Th)(rows:List (List Th))(ba:Wx):Prop where
 ex:∃(ia ha ra:Wx)(v2:V)(zi zd:List Wx),H ba=A? (.tup [.ref ia,v2,.ref ha,.ref ra])/\H ia=A? (.tup (zi.map j!))/\KsAt H ins zi/\H ra=A? (.tup (zd.map j!))/\Xb (RowAt H) rows zd/\At H head ha
theorem WBk.mono{ba:Wx}(h:WBk H ins head rows ba)(k:KT H H'):WBk H' ins head rows ba:=by
 obtain⟨ia,ha,ra,v2,zi,zd,e1,e2,e3,e4,e5,e6⟩:=h.ex;exact{ia,ha,ra,v2,zi,zd,k _ _ e1,k _ _ e2,e3.mono k,k _ _ e4,r! (λ_ _ e=>e.mono k) e5,e6.mono k}
structure WCd(ins:List (W8×Int))(rows:List (List Th))(t:Th)(ar:W8->Nat):Prop where
 gi:GoodN ins
 nq:∀k∈ins,k.1≠q
 rl:rows.length<=1000
 row:∀row∈rows,row.length=ins.length
 pt:∀(a:Nat)(nm:W8)(c:Int),ins[a]?=A? (nm,c)->∀p∈rows.map (λrow=>row.getD a bh),Ars ar p/\p.size<=100/\∀s k:Int,t! s k∈p.walk->(∃k':Nat,k=(k':Int)/\(k':Int)<c)/\∃s':Nat,s=(s':Int)/\s'<rows.length
 ta:Ars ar t
 tc:∀p∈t.walk,p.isCall=D?
 ts:t.size<=100000
 big:rows.length * t.size<=4000
theorem j8(t:Th):(post t []).Nodup:=(gX t (by intro u h;cases h) Y4).2.2.1
theorem uR(t:Th):b9 (post t []):=(gX t (by intro u h;cases h) Y4).2.1
theorem post_of{P:Th->Prop}(hk:∀t,P t->∀u∈t.kids,P u):∀(n:Nat),(∀(t:Th)(L:List Th),t.size<=n->P t->(∀u∈L,P u)->∀u∈post t L,P u)/\(∀(ts:List Th)(L:List Th),au ts<=n->(∀t∈ts,P t)->(∀u∈L,P u)->∀u∈aQ ts L,P u):=by
 intro n;induction n with
 | zero =>
   refine{λt L h=>?_,λts L h=>?_}
   .have:=J! t;lia
   .cases ts with
    |nil=>intro _ hL u hu;rw[aQ]at hu;exact hL u hu
    |cons t ts=>rw[au]at h;have:=J! t;lia
 | succ n ih =>
   have h1:∀(t:Th)(L:List Th),t.size<=n+1->P t->(∀u∈L,P u)->∀u∈post t L,P u:=λt L h ht hL u hu=>by
    have zO:au t.kids<=n:=by
     have:=t.size_eq;lia
    have hw:u∈aQ t.kids L\/u=t:=by
     rw[post_eq]at hu;split at hu
     .exact .inl hu
     .rcases WQ.mp hu with hu|hu
      .exact .inl hu
      .exact .inr (WG.mp hu)
    rcases hw with hw|rfl
    .exact ih.2 _ L zO (hk t ht) hL u hw
    .exact ht
   refine{h1,λts=>?_};induction ts with
   |nil=>intro L _ _ hL u hu;rw[aQ]at hu;exact hL u hu
   | cons t ts Je =>
     intro L h ht hL u hu;rw[au]at h;rw[aQ]at hu;exact Je _ (by lia) (λx hx=>ht x (WR _ hx)) (h1 t L (by lia) (ht t (WM ..)) hL) u hu
theorem wN{P:Th->Prop}(hk:∀t,P t->∀u∈t.kids,P u){t:Th}(h:P t):∀u∈post t [],P u:=(post_of hk t.size).1 t [] (WD _) h (by intro u hu;cases hu)
def vh(ins:List (W8×Int))(rows:List (List Th))(head u:Th):Th:=head.fill (ce ins rows [u])
theorem WCd.full{t:Th}{St:List NtE}(hc:WCd ins rows t ar)(hp:PInv ins rows (post t []) F St (ClAll ins St.length))(yW:∀e∈F,e∈St)(u:Th)(hu:u.Fit ins):∃e∈St,IsNote (post t []) (aR ins rows u) e.note/\e.n<=u.size:=by
 refine PInv.full (uR t) (j8 t) (λnm c hm p M4 s k hw=>?_) hp yW u.size u (WD _) hu;obtain⟨a,ha⟩:=WK.mp hm;obtain⟨row,hr,rfl⟩:=M4;rw[iA hc.gi ha]at hw;exact(hc.pt a nm c ha _ (WY.mpr ⟨row,hr,rfl⟩)).2.2 s k hw
@[elab_as_elim] theorem cu {G:Hp->Prop} (h:H a=B?) (k:∀ H',k! H H'->H' a=A? o->G H'):G (upd H a o):=k _ (ao h _) af
theorem ud{s k:Int}:Ars ar (.call s k):=λn ks h=>by
 rw[E!,WG]at h;cases h
theorem tE{n:W8}{ks:List Th}(h:ks.length=ar n)(hk:∀u∈ks,Ars ar u):Ars ar (.knot n ks):=λm us hm=>by
 rw[E!]at hm;rcases WW.mp hm with e|hm
 .injection e with e1 e2;rw[e1,e2];exact h
 .have:∀ts:List Th,(∀u∈ts,Ars ar u)->p! m us∈walks ts->us.length=ar m:=λts=>by
   induction ts with
   |nil=>intro _ h;rw[walks]at h;cases h
   | cons t ts ih =>
     intro ht h;rw[walks]at h;rcases WQ.mp h with h|h
     .exact ht t (WM ..) m us h
     .exact ih (λu hu=>ht u (WR _ hu)) h
  exact this ks hk hm
section
variable{k0 k1 k2 k3:W8}
end
end BB
namespace L2
open PySem PySem.Spec PyProof.Rows
theorem ur{l:PySem.W.OpenLaw}{k:Nat}{q:Xa}{d:DefRec}{K:Params->WJ}{ts:List Wx}{CX:Xq->CXT}{sp:Xq->Wx->Sp}
 (hn:l.most=A? n) (KO:n<=W5) (EF:d.params.defaults=[]) (hr:Room k callerA)
 (hY:∀(w:Xq)(h:XT),YP w h->(K w.params).In h) (hT:∀(w:Xq)(h:XT),YP w h->∀P∈ts,h.get? P=A? (PySem.W.tabObj #[])) (he:∀P:Params,ts=HD.lg (K P))
 (F:∀(w:Xq)(mg:W8->Option WA)(fa:Wx)(h:XT),(K w.params).In h->h.Ns Yg mg->mg d.name=A? (.ref fa) ->
  ∃(fd:Zg)(c T:Wx),(∀(s:WH)(u:WA),BindsTo s fd {[u],[]} [(x,u)])/\PySem.W.codeHdIn (K w.params) c T=C?/\(K w.params).lookup T=B? /\
    ∀base:XT,(K w.params).In base->base.Ns Yg mg->Lam mg base c T->bv l.prog w (K w.params) mg base (CX w) k fa fd [x] (sp w T))
 (AQ:∀(w:Xq)(T:Wx)(H:Hp)(a:Wx)(ns:List Int),ns.length<=n->SqL (K w.params) H a (ns.map o!)->H T=A? (.tbl #[])->sp w T [.ref a] H (λv _=>v=.bl C?) λ_ _ _=>False)
 (MQ:∀(w:Xq)(H:Hp)(s:WH)(e:WA)(s':WH),CX w [] H s (λ_ _ _=>False) e s'->False) :
 PySem.W.WalkO q loose XP YP l.row.toRowW d [] (λf vs=>PySem.call f vs):=by
 refine Att.attach_call hn EF λw s₀ l' mg mb fa o pm cd doc a vs ns G Y ho hd AO Ig FV hints hlen hg=>?_;have KX:=hY w _ Y;obtain⟨fd,c,T,hb,ht,MP,hF⟩:=F w mg fa _ KX G.T.g Ig;have hC:=PySem.W.codeHd_of_K KX ht;have hT:=hT w _ Y T (by rw[he w.params];exact HD.p9 ht)
 have AI:l'.heap.BuiltinsAt mg T:=by
  obtain⟨bm,ob,b1,b2,b3,b4,b5,b6⟩:=G.T.bmain;refine{bm,ob,b1,b2,λz=>?_,λz=>?_,b3,b4,b5,b6}
  .obtain⟨o',es,ep,e,d',_⟩:=G.T.g;rw[z,e]at b3;cases b3;rw[d']at b6;cases b6
  .rw[z,hT]at b3;cases b3;cases b4
 exact sf KX G.T.g G.T.b G.T.builtins G.T.nolimit hg FV hints (XB hlen KO) hr hC hT AI MP hF hb (λH hS MS=>AQ w T H a ns hlen hS MS) λH e s'=>MQ w H l' e s'
end L2
namespace BB
open PySem L2
def og:List Int:=[0,1,2,2,1,3]
def oy(r:Int):Int:=og.getD (r%6).toNat 0
theorem qS(r:Int):0<=oy r/\oy r<=3:=by
 unfold oy;have h0:=Xr r (by decide:(6:Int)≠0);have h1:=Xp r (by decide:(0:Int)<6);obtain⟨n,hn⟩:=Zo h0;rw[hn,WU];have:n<6:=by lia
 have:∀n:Fin 6,0<=og.getD n.1 0/\og.getD n.1 0<=3:=by decide
 exact this {n,by lia}
theorem u7(r:Int):atI (og.map o!) (r%6)=A? (.int (oy r)):=by
 have h0:=Xr r (by decide:(6:Int)≠0);have h1:=Xp r (by decide:(0:Int)<6);refine at_nonneg h0 ?_;have hl:(r%6).toNat<og.length:=by show _<6;lia
 unfold oy;rw[Wz,W0,Wv hl];rfl
def gr(r:Int):Nat->Int
 |0=>r
 |k+1=>gr r k / 6+(k:Int)
def cB(cell:Int):Int:=1+fg cell%4
def jR(cell:Int):List (W8×Int):=(Yu (cB cell).toNat).map λ(k:Nat)=>(nameOf (fg cell / 36) (k:Int),oy (gr (fg cell / 7) k))
def fF(cell:Int):Int:=fg cell / 6%cB cell
def dJ(cell:Int):List (W8×Int):=(jR cell).set (fF cell).toNat (nameOf (fg cell / 36) (fF cell),0)
theorem jG(cell:Int):1<=cB cell/\cB cell<=4:=by
 have:=Xr (fg cell) (by decide:(4:Int)≠0);have:=Xp (fg cell) (by decide:(0:Int)<4);unfold cB;lia
theorem mY(cell:Int):0<=fF cell/\fF cell<cB cell:=by
 have:=jG cell;unfold fF;exact{Xr _ (by lia),Xp _ (by lia)}
theorem fA(cell:Int):(jR cell).length=(cB cell).toNat:=by unfold jR;rw[Wt,List.length_range]
theorem eF(cell:Int):(dJ cell).length=(cB cell).toNat:=by unfold dJ;rw[YR,fA]
theorem jq(h:i<(cB cell).toNat):(jR cell)[i]?=A? (nameOf (fg cell / 36) (i:Int),oy (gr (fg cell / 7) i)):=by
 unfold jR;rw[Wz,List.getElem?_range h];rfl
theorem du{k:W8×Int}(h:(dJ cell)[i]?=A? k):i<(cB cell).toNat/\k.1=nameOf (fg cell / 36) (i:Int)/\0<=k.2/\k.2<=3/\(i=(fF cell).toNat->k.2=0):=by
 have hi:i<(cB cell).toNat:=by
  have:=(glE h);rw[eF]at this;exact this
 have ha:=mY cell;unfold dJ at h;by_cases e:(fF cell).toNat=i
 .rw[e,X5 (by rw[fA];exact hi)]at h;cases h;have:(i:Int)=fF cell:=by lia
  exact{hi,by rw[this],by simp,by simp,λ_=>rfl}
 .rw[X6 e,jq hi]at h;cases h;exact{hi,E?,(qS _).1,(qS _).2,λz=>g! z.symm e}
theorem jV(cell:Int):GoodN (dJ cell)/\(dJ cell).length<=4:=by
 have hm:=jG cell;have ha:=mY cell;refine{{by rw[eF];lia,by rw[eF];lia,λk hk=>?_,λk hk=>?_,?_,λi j k l hi hj e=>?_},by rw[eF];lia}
 .obtain⟨i,hi⟩:=WK.mp hk;rw[(du hi).2.1];exact{pR _ _,qe _ _}
 .obtain⟨i,hi⟩:=WK.mp hk;exact{(du hi).2.2.1,(du hi).2.2.2.1}
 .have hl:(fF cell).toNat<(dJ cell).length:=by rw[eF];lia
  exact{_,XS hl,(du (Wv hl)).2.2.2.2 rfl}
 .obtain⟨h1,h2,_⟩:=du hi;obtain⟨h3,h4,_⟩:=du hj;rw[h2,h4]at e;have:=qr (by lia) (by lia) (by lia) (by lia) e;lia
theorem GoodN.goodK{ks:List (W8×Int)}(g:GoodN ks)(h:ks.length<=4):g8 ks:={g.ne,by lia,g.low,g.num,g.zero}
def LsT(H:Hp)(ts:List Th)(la:Wx):Prop:=∃as:List Wx,H la=A? (.lst (as.map j!))/\Ats H ts as
theorem LsT.up(k:KT H H'){ts:List Th}{la:Wx}(s:∀o,H la=A? o->H' la=A? o)(h:LsT H ts la):LsT H' ts la:=by
 obtain⟨as,h1,h2⟩:=h;exact{as,s _ h1,h2.mono k}
theorem LsT.same(s:k! H H'){ts:List Th}{la:Wx}(h:LsT H ts la):LsT H' ts la:=h.up (n! s) λo=>s la o
def pickK(Ar:List (List Th))(s k:Int):Th:=(Ar.getD k.toNat []).getD s.toNat bh
def InK(Ar:List (List Th))(p:Th):Prop:=∀s k:Int,t! s k∈p.walk->∃(k' s':Nat)(ts:List Th)(t:Th),k=(k':Int)/\s=(s':Int)/\Ar[k']?=A? ts/\ts[s']?=A? t
theorem InK.kid{Ar:List (List Th)}{u:Th}(h:InK Ar p)(hu:u∈p.kids):InK Ar u:=λs k m=>h s k (eE hu _ m)
structure BkC(ins:List (W8×Int))(rows:List (List Th)):Prop where
 gi:GoodN ins
 rl:rows.length<=1000
 row:∀row∈rows,row.length=ins.length
 tl:∀row∈rows,∀p∈row,p.tall<=3/\p.size<=100
 cl:∀(a:Nat)(nm:W8)(c:Int),ins[a]?=A? (nm,c)->∀row∈rows,∀s k:Int,t! s k∈(row.getD a bh).walk->(∃k':Nat,k=(k':Int)/\(k':Int)<c)/\∃s':Nat,s=(s':Int)/\s'<rows.length
theorem dA{t:Th}(h:t.Fit ins):(aR ins rows t).length=rows.length:=by
 cases t with
 |call s k=>rw[F!]at h;exact h.elim
 |knot n ks=>rw[cE,Wt]
theorem BkC.inK(h:BkC ins rows){a:Nat}{ks:List Th}(hi:ins[a]?=A? (nm,((ks.length:Nat):Int)))(hk:Fits ins ks)(hr:row∈rows):InK (ks.map (aR ins rows)) (row.getD a bh):=λs k hm=>by
 obtain⟨⟨k',h1,h2⟩,s',h3,h4⟩:=h.cl a nm _ hi row hr s k hm;have hl:k'<ks.length:=by lia
 have e:=Wv hl;have hf:=dH hk _ (XS hl);have hs:s'<(aR ins rows ks[k']).length:=by rw[dA hf];exact h4
 exact{k',s',_,_,h1,h3,by rw[Wz,e];rfl,Wv hs}
def LsN(H:Hp)(ts:List Th)(la:Wx):Prop:=H la=A? (.lst ((ts.map λt=>((t.size:Nat):Int)).map o!))
theorem gQ:∀ts:List Th,(ts.map λt=>((t.size:Nat):Int)).sum=((au ts:Nat):Int)
 | []=>rfl
 | t::ts=>by
   have e:au (t::ts)=t.size+au ts:=rfl;rw[W9,List.sum_cons,gQ ts,e];lia
theorem Cl.closed{E:List (W8×List Nat)}(h:Cl E Ts):b9 Ts:=λt ht u hu=>by
 obtain⟨i,hi⟩:=WK.mp ht;have hl:i<E.length:=by rw[h.len];exact(glE hi)
 obtain⟨kids,h1,h2⟩:=h.ent i _ (Wv hl);rw[hi]at h1;cases h1;obtain⟨j,hj⟩:=WK.mp (show u∈kids from hu);obtain⟨id,_,_,h3⟩:=w! h2 hj;exact Ww h3
open Classical in
noncomputable def ixC(Ls:List Th)(u:Th):Int:=if h:∃j:Nat,Ls[j]?=A? u then((Classical.choose h:Nat):Int)else -1
theorem nK(nd:Ls.Nodup){u:Th}(h:Ls[j]?=A? u):ixC Ls u=(j:Int):=by
 unfold ixC;have hx:∃j:Nat,Ls[j]?=A? u:=⟨j,h⟩;rw[dif_pos hx,db nd (Classical.choose_spec hx) h]
theorem qm{u:Th}(h:u∉Ls):ixC Ls u=-1:=by
 unfold ixC;exact dif_neg λ⟨j,hj⟩=>h (Ww hj)
theorem u5(nd:Ls.Nodup){u:Th}(h:ixC Ls u=(j:Int)):Ls[j]?=A? u:=by
 by_cases z:u∈Ls
 .obtain⟨i,hi⟩:=WK.mp z;rw[nK nd hi]at h;have:i=j:=by lia
  rw[<-this];exact hi
 .rw[qm z]at h;lia
theorem tO{note:List Int}(nd:Ls.Nodup)(h:IsNote Ls ms note){s:Nat}{u:Th}(hu:ms[s]?=A? u):note[s]?=A? (ixC Ls u):=by
 rcases h.at' s u hu with⟨j,h1,h2⟩|⟨h1,h2⟩
 .rw[h2,nK nd h1]
 .rw[h2,qm h1]
theorem wZ{E:List (W8×List Nat)}(c:Cl E Ls)(m:W8)(us:List Th):(bC (kvsOf E) (.inr m::us.map λu=>(Xh (ixC Ls u):Key))).getD (.int (-1))=.int (ixC Ls (.knot m us)):=by
 cases hv:bC (kvsOf E) (.inr m::us.map λu=>(Xh (ixC Ls u):Key))with
 | some u =>
   obtain⟨i,e,he,hi⟩:=mn (nw hv);have hk:(.inr m::us.map λu=>(Xh (ixC Ls u):Key))=dW e:=h! Prod.fst he;have hu:u=o! (i:Nat):=h! Prod.snd he
   have AL:m=e.1/\(us.map λu=>(Xh (ixC Ls u):Key))=e.2.map λ(i:Nat)=>(Xh ((i:Nat):Int):Key):=by
    unfold dW at hk;injection hk with h1 h2;injection h1 with h1;exact⟨h1,h2⟩
   have hp:Xb (λid u=>Ls[id]?=A? u) e.2 us:=by
    refine dz ?_ λj id u hid hu=>?_
    .have:=h! X9 AL.2;rw[Wt,Wt]at this;exact this.symm
    .have:(us.map λu=>(Xh (ixC Ls u):Key))[j]?=(e.2.map λ(i:Nat)=>(Xh ((i:Nat):Int):Key))[j]?:=by rw[AL.2]
     rw[Wz,Wz,hid,hu]at this;have:=WN this;injection this with this;exact u5 c.nd this
   have hf:=c.found (n:=e.1) (ids:=e.2) hi hp;rw[hu,AL.1,nK c.nd hf];rfl
 | none =>
   have zJ:p! m us∉Ls:=λhm=>by
    obtain⟨j,hj⟩:=WK.mp hm;have hl:j<E.length:=by rw[c.len];exact(glE hj)
    obtain⟨e,he⟩:∃e,E[j]?=A? e:={_,Wv hl};obtain⟨kids,h1,h2⟩:=c.ent j e he;rw[hj]at h1;injection h1 with h1;injection h1 with h1 h3;subst h3
    have DS:(us.map λu=>(Xh (ixC Ls u):Key))=e.2.map λ(i:Nat)=>(Xh ((i:Nat):Int):Key):=by
     refine YH λs=>?_;rw[Wz,Wz];cases hs:us[s]? with
     | none =>
       have:e.2[s]?=none:=by
        have Aa:=WS h2;rw[List.getElem?_eq_none_iff]at hs |-;lia
       rw[this];rfl
     | some u =>
       obtain⟨id,hid,_,h4⟩:=w! h2 hs;rw[hid];show A? (Xh (ixC Ls u):Key)=A? (Xh ((id:Nat):Int));rw[nK c.nd h4]
    have Jf:(.inr m::us.map λu=>(Xh (ixC Ls u):Key))=dW e:=by
     unfold dW;rw[DS,h1]
    rw[Jf]at hv;exact(iE hv).1 (Ww he)
   rw[qm zJ];rfl
theorem jQ:∀{ts:List Th}{i:Nat}{u:Th},ts[i]?=A? u->au (ts.take i)+u.size<=au ts
 | [],_,_,h=>by simp at h
 | t::ts,0,u,h=>by
   have h:t=u:=WN h;subst h;show 0+t.size<=t.size+au ts;lia
 | t::ts,i+1,u,h=>by
   have:=jQ (ts:=ts) (i:=i) (u:=u) (by simpa using h);rw[List.take_succ_cons];show t.size+au (ts.take i)+u.size<=t.size+au ts;lia
theorem sR(es:CLs)(k:Int×Int)(v:Int)(j:Int×Int):cQ (dS es k v) j=if j=k then A? v else cQ es j:=by
 have h:=kT (dE es) (ky k) (ky j) (.int v);rw[kf,fU,fU]at h;by_cases z:j=k
 .subst z;rw[b! rfl]at h |-;cases hg:cQ (dS es j v) j with
  |none=>rw[hg]at h;cases h
  |some x=>rw[hg]at h;injection h with h;injection h with h;rw[h]
 .have zg:ky j≠ky k:=λy=>z (no y);rw[a! zg]at h;rw[a! z];cases hg:cQ (dS es k v) j <;> cases hh:cQ es j <;> rw[hg,hh]at h
  .cases h
  .cases h
  .injection h with h;injection h with h;rw[h]
noncomputable def noteC(ins:List (W8×Int))(rows:List (List Th))(Ls:List Th)(u:Th):List Int:=(aR ins rows u).map (ixC Ls)
theorem IsNote.noteC{u:Th}{note:List Int}(nd:Ls.Nodup)(h:IsNote Ls (aR ins rows u) note):note=noteC ins rows Ls u:=by
 refine YH λs=>?_;unfold BB.noteC;rw[Wz];cases hs:(aR ins rows u)[s]? with
 | none =>
   have:=h.len;rw[List.getElem?_eq_none_iff]at hs;rw[XJ (by lia)];rfl
 |some x=>rw[tO nd h hs];rfl
def NtC(ins:List (W8×Int))(rows:List (List Th))(Ls:List Th)(H:Hp)(u:Th)(p:Wx):Prop:=H p=A? (.tup ((noteC ins rows Ls u).map o!))
def TabC(ins:List (W8×Int))(rows:List (List Th))(Ls:List Th)(us:List Th)(k j:Nat)(es:CLs):Prop:=es.length<=k * rows.length+j/\∀s' k':Nat,s'<rows.length->k'<us.length->(k'<k\/(k'=k/\s'<j))->cQ es ((s':Int),(k':Int))=A? (ixC Ls (ce ins rows us (s':Int) (k':Int)))
theorem ql{us:List Th}{u:Th}{s k:Nat}(hk:us[k]?=A? u)(hs:s<rows.length)(hu:u.Fit ins)(Ls:List Th):(noteC ins rows Ls u)[s]?=A? (ixC Ls (ce ins rows us (s:Int) (k:Int))):=by
 unfold noteC ce;rw[Wz,WU,WU,W0,W0,Wz,hk];have hl:s<(aR ins rows u).length:=by rw[dA hu];exact hs
 show((aR ins rows u)[s]?).map _=A? (ixC Ls (((aR ins rows u)[s]?).getD bh));rw[Wv hl];rfl
theorem TabC.nil{us:List Th}:TabC ins rows Ls us 0 0 []:={Xo _,λs' k' _ _ h=>by lia}
theorem TabC.next{us:List Th}{k:Nat}(h:TabC ins rows Ls us k rows.length es):TabC ins rows Ls us (k+1) 0 es:=by
 refine{?_,λs' k' hs hk h'=>h.2 s' k' hs hk (by lia)};have:=h.1;rw[Zt];exact this
theorem TabC.put{us:List Th}{k:Nat}(h:TabC ins rows Ls us k j es):TabC ins rows Ls us k (j+1) (dS es ((j:Int),(k:Int)) (ixC Ls (ce ins rows us (j:Int) (k:Int)))):=by
 refine{?_,λs' k' hs hk h'=>?_}
 .have h1:=h.1;have h2:=lf es ((j:Int),(k:Int)) (ixC Ls (ce ins rows us (j:Int) (k:Int)));lia
 rw[sR];by_cases z:(((s':Nat):Int),((k':Nat):Int))=(((j:Nat):Int),((k:Nat):Int))
 .rw[b! z];injection z with z1 z2;rw[z1,z2]
 .rw[a! z];refine h.2 s' k' hs hk ?_;by_cases y:k'<k
  .exact .inl y
  .refine .inr {by lia,?_};refine Classical.byContradiction λx=>z ?_;have e1:s'=j:=by lia
   have e2:k'=k:=by lia
   rw[e1,e2]
def LsR(H:Hp)(xs:List Wx)(p:Wx):Prop:=H p=A? (.lst (xs.map j!))
def RowsIn(ps:List Wx)(m:Nat)(AU:List (List Wx)):Prop:=∀rs∈AU,rs.length=m/\∀x∈rs,x∈ps
theorem jI(xs:List Wx)(n:Nat):cW (xs.map j!) B? (A? (n:Int))=(xs.take n).map j!:=by
 unfold cW;rw[HT.sIx_none,ZR,Nat.sub_zero,x!,List.map_take,Wt];by_cases h:n<=xs.length
 .rw[Nat.min_eq_left h]
 .rw[Nat.min_eq_right (by lia),XF (by rw[Wt];lia),XF (by rw[Wt];lia)]
theorem RowsIn.app{ps:List Wx}{a b:List (List Wx)}(h:RowsIn ps m a)(h':RowsIn ps m b):RowsIn ps m (a++b):=λrs hr=>(WQ.mp hr).elim (h rs) (h' rs)
theorem P2.pick{R:α->β->Prop}{St:List α}{ps:List β}(h:Xb R St ps):∀xs:List β,(∀x∈xs,x∈ps)->∃es:List α,Xb R es xs/\∀e∈es,e∈St
 | [],_=>{[],.nil,λe he=>(List.not_mem_nil he).elim}
 | x::xs,hx=>by
   obtain⟨es,h1,h2⟩:=P2.pick h xs λy hy=>hx y (WR _ hy);obtain⟨i,hi⟩:=WK.mp (hx x WM);obtain⟨e,he,hr⟩:=w! h hi;refine{e::es,.cons hr h1,λy hy=>?_};rcases WW.mp hy with rfl|hy
   .exact Ww he
   .exact h2 y hy
def kN(note:List Int):List Key:=note.map Xh
theorem qV(note:List Int):(kN note).map kV=note.map o!:=by unfold kN;rw[Xg];rfl
theorem xb{a b:List Int}(h:kN a=kN b):a=b:=by
 unfold kN at h;exact List.map_inj_right (λx y z=>Sum.inl.inj z) |>.mp h
def SzC(St:List NtE)(kvs:List (List Key×V)):Prop:=∀f∈St,bC kvs (kN f.note)=A? (.int ((f.t.size:Nat):Int))
theorem SzC.put{A:List NtE}(h:SzC A kvs)(hA:∀f∈A,f∈F)(hF:(F.map (·.note)).Nodup)(he:e∈F):SzC (A++[e]) (putK kvs (kN e.note) (.int ((e.t.size:Nat):Int))):=λf hf=>by
 rw[kT];by_cases z:kN f.note=kN e.note
 .rw[b! z];have hn:=xb z;have SS:f∈F:=(WQ.mp hf).elim (hA f) λh=>by rw[WG.mp h];exact he
  obtain⟨i,hi⟩:=WK.mp SS;obtain⟨j,hj⟩:=WK.mp he;have h1:(F.map (·.note))[i]?=A? f.note:=by rw[Wz,hi];rfl
  have h2:(F.map (·.note))[j]?=A? f.note:=by rw[Wz,hj,hn];rfl
  have:=db hF h1 h2;subst this;rw[hi]at hj;rw[WN hj]
 .rw[a! z];rcases WQ.mp hf with hf|hf
  .exact h f hf
  .rw[WG.mp hf]at z;exact(z rfl).elim
theorem wv(es:List NtE):(es.map λe=>((e.t.size:Nat):Int)).sum=((au (es.map (·.t)):Nat):Int):=by
 rw[<-gQ,Xg];rfl
theorem fits_of{ks:List (W8×Int)}:∀{ts:List Th},(∀t∈ts,t.Fit ks)->Fits ks ts
 | [],_=>by rw[Fits];trivial
 | t::ts,h=>by
   rw[Fits];exact{h t WM,fits_of λu hu=>h u (WR _ hu)}
end BB
namespace LAW
open PySem L2 BB
def top(i:Nat):Stmt:=PySem.Challenge.pw_boughbook_k47_whole_notes_are_closed.main.body.getD i (.Pass {0,0,0,0})
theorem scm{P:List W8}(a:sc.kind=.function:=by rfl)(b:sc.isCoroutine=false:=by rfl)(c:sc.isGenerator=false:=by rfl)(d:N.Nodup:=by decide +kernel)(e:N.take P.length=P:=by rfl)(f:∀x∈P,sc.names.lookup x=A? .local\/sc.names.lookup x=A? .cell:=by decide +kernel)(g:∀y∈sc.names,y.2≠.free:=by decide +kernel):b7 N P sc:=⟨a,b,c,d,e,f,g⟩
abbrev ND(l:List W8):Prop:=l.Nodup
abbrev sC(N:List W8)(k i:Nat):Prop:=b7 N (N.take k) (aE (top i))
theorem pF:sC ["thing"] 1 5:=scm
theorem gL:sC ["thing","met","ahead","part"] 1 6:=scm
theorem pU:sC ["thing"] 1 8:=scm
theorem m4:sC ["call"] 1 9:=scm
theorem r6:sC ["book"] 1 11:=scm
theorem n5:sC ["book"] 1 12:=scm
theorem mW:sC ["book"] 1 13:=scm
theorem fM:sC ["entries","parts","numbers","done","part","kids"] 3 15:=scm
theorem cT:sC ["row","at","fresh","told","ahead","entry","late"] 2 16:=scm
theorem eZ:sC ["tree","entries","at"] 1 17:=scm
theorem dG:sC ["pattern","row","number","needs","ahead","part","wished"] 3 20:=scm
theorem lT:sC ["rows","bits","knots","kids"] 4 21:=scm
theorem d8:sC ["rows","agreeing","sizes","numbers","told","bits","knots","kids","number"] 4 22:=scm
theorem dP:b7 ["self","kind","patterns","row","state","pattern","part"] ["self","kind","patterns","row"] (aE (inClass (top 23) 0)):=scm
theorem cw:b7 ["self","state","part","needs","called","kid","wished","bits"] ["self","state","part","needs"] (aE (inClass (top 23) 1)):=scm
theorem jr:b7 ["self"] ["self"] (aE (inClass (top 23) 2)):=scm
theorem bq:b7 ["self","note","kid","needing","against","state","part","bits"] ["self","note"] (aE (inClass (top 23) 3)):=scm
theorem aJ:b7 ["self","last","sizes","told","first","rows","place","agreeing","low","high","bits","knots","kids"] ["self","last","sizes"] (aE (inClass (top 23) 4)):=scm
theorem cz:b7 ["self","bits","states","note","number","state","part"] ["self","bits","states"] (aE (inClass (top 23) 5)):=scm
theorem ff:b7 ["self","book","row","at","kind"] ["self","book","row"] (aE (inClass (top 24) 0)):=scm
theorem eu:b7 ["self","ways","bits","knots","kids","note","tree"] ["self","ways","bits","knots","kids"] (aE (inClass (top 24) 1)):=scm
theorem cf:b7 ["self","entry","sizes","ways","bits","knots","kids"] ["self","entry"] (aE (inClass (top 24) 2)):=scm
abbrev fL:Stmt:=inClass (top 24) 3
theorem dC:b7 ["self","ways","done","late"] ["self"] (aE (inClass (top 24) 3)):=scm
theorem eW:sC ["book","wish","row","at","table"] 2 25:=scm
theorem j3:sC ["script","k"] 2 27:=scm
theorem bM:sC ["base","n","letters","word","rest","k","size","at","step"] 2 28:=scm
theorem bW:sC ["cell","mixed","many","rest","kinds","k","at"] 1 29:=scm
theorem d9:sC ["script","many","cells","k"] 2 30:=scm
theorem bS:sC ["cell","outs","states","kids","deep","pair","parts","k","part"] 5 31:=scm
theorem bO:sC ["own","outs","states","kids","deep","calls","pick","pair","parts","k"] 5 32:=scm
theorem aU:sC ["script","most","deep","ins","outs","states","cells","digits","rules","state","row","k","cell","head"] 3 33:=scm
theorem nN:sC ["name"] 1 34:=scm
theorem dZ:sC ["name","parts","tree","high","many"] 2 35:=scm
theorem bN:sC ["script","kinds","top","most","leaves","made","k","cell","pair","parts","part"] 4 36:=scm
theorem pf:sC ["pattern","kids"] 2 37:=scm
theorem dD:sC ["book","tree","kids","names","at"] 2 38:=scm
theorem j5:sC ["book","tree"] 2 39:=scm
theorem bT:sC ["script","book","outs","made","wish","trees","tree","most"] 2 40:=scm
theorem jh:sC ["book","tree","counts"] 2 41:=scm
theorem cX:sC ["book","tree","kids","names","at"] 2 42:=scm
theorem oH:sC ["pattern","kids"] 2 43:=scm
theorem dB:sC ["tree","numbers","entry","kid"] 2 44:=scm
theorem jc:sC ["pattern","table","numbers","entry"] 3 45:=scm
theorem cC:sC ["book","at","notes","numbers","table","kid","state"] 4 46:=scm
theorem fR:sC ["book","tree","numbers","notes","names"] 3 47:=scm
theorem cY:sC ["book","wish","found","many"] 2 48:=scm
theorem lL:sC ["tree"] 1 49:=scm
theorem cp:sC ["table","many","rows","one","longer_v","pair"] 2 50:=scm
theorem dO:sC ["script","book","wish","numbers","told","sizes","pair","at","row","note","entry"] 1 51:=scm
structure FX(K:WJ)(mg:W8->Option WA)(n:W8)(i:Nat)(ps:List W8) where
 f:Wx
 d:Zg
 F:Fun K n n (top i) f d
 b:Binds K d ps []
 m:mg n=A? (.ref f)
structure FM(K:WJ)(e:Wx)(n q:W8)(s:Stmt)(ps:List W8) where
 f:Wx
 d:Zg
 F:Fun K n q s f d
 b:Binds K d ps []
 me:Meth K e n f
structure FMT(K:WJ)(e:Wx)(n q:W8)(s:Stmt)(ps:List W8) extends FM K e n q s ps where
 tc:Wx
 tp:Wx
 th:d.code=.ref tc
 t:PySem.W.codeHdIn K tc tp=C?
 u:K.lookup tp=B?
section
open PySem.W
variable{K:Frag}{n q:W8}{e:Wx}{oc kV dc pm cd ct:WA}{od an:Option Wx}{sl:Array (Option WA)}{tk:Tok}
abbrev HB(n q:W8)(st:Stmt)(ps:List W8):Prop:=∀(kV dc pm:WA)(an:Option Wx)(cd ct:WA)(us:List WA),us.length=ps.length->bindArgs (fnOf n q (cD st) (b8 st) (aE st) .none kV dc pm an cd ct) {us,[]}=pure (ps.zip us)
theorem hb1{p0:W8}(h:∀(kV dc pm:WA)(an:Option Wx)(cd ct u0:WA),bindArgs (fnOf n q (cD st) (b8 st) (aE st) .none kV dc pm an cd ct) {[u0],[]}=pure [(p0,u0)]):HB n q st [p0]:=λa b c d e f us hl=>by obtain⟨u0,rfl⟩:=us1 hl;exact h a b c d e f u0
theorem hb2{p0:W8}(h:∀(kV dc pm:WA)(an:Option Wx)(cd ct u0 u1:WA),bindArgs (fnOf n q (cD st) (b8 st) (aE st) .none kV dc pm an cd ct) {[u0,u1],[]}=pure [(p0,u0),(p1,u1)]):HB n q st [p0,p1]:=λa b c d e f us hl=>by obtain⟨u0,u1,rfl⟩:=us2 hl;exact h a b c d e f u0 u1
theorem hb3{p0:W8}(h:∀(kV dc pm:WA)(an:Option Wx)(cd ct u0 u1 u2:WA),bindArgs (fnOf n q (cD st) (b8 st) (aE st) .none kV dc pm an cd ct) {[u0,u1,u2],[]}=pure [(p0,u0),(p1,u1),(p2,u2)]):HB n q st [p0,p1,p2]:=λa b c d e f us hl=>by obtain⟨u0,u1,u2,rfl⟩:=us3 hl;exact h a b c d e f u0 u1 u2
theorem hb4{p0 p3:W8}(h:∀(kV dc pm:WA)(an:Option Wx)(cd ct u0 u1 u2 u3:WA),bindArgs (fnOf n q (cD st) (b8 st) (aE st) .none kV dc pm an cd ct) {[u0,u1,u2,u3],[]}=pure [(p0,u0),(p1,u1),(p2,u2),(p3,u3)]):HB n q st [p0,p1,p2,p3]:=λa b c d e f us hl=>by obtain⟨u0,u1,u2,u3,rfl⟩:=us4 hl;exact h a b c d e f u0 u1 u2 u3
theorem hb5{p0 p3 p4:W8}(h:∀(kV dc pm:WA)(an:Option Wx)(cd ct u0 u1 u2 u3 u4:WA),bindArgs (fnOf n q (cD st) (b8 st) (aE st) .none kV dc pm an cd ct) {[u0,u1,u2,u3,u4],[]}=pure [(p0,u0),(p1,u1),(p2,u2),(p3,u3),(p4,u4)]):HB n q st [p0,p1,p2,p3,p4]:=λa b c d e f us hl=>by obtain⟨u0,u1,u2,u3,u4,rfl⟩:=us5 hl;exact h a b c d e f u0 u1 u2 u3 u4
noncomputable def fm(a:findIn K (.ref e) n=A? (A? (.ref f)):=by k_is)(i:isFn K (.ref f)=true:=by k_is)(l:K.lookup f=A? {oc,od,.func (fnOf n q (cD st) (b8 st) (aE st) .none kV dc pm an cd ct),sl}:=by k_is)(c:codeIn K cd q=true:=by k_is)(k:keepIn K (.ref f)=true:=by k_is)(hb:HB n q (st) ps:=by first|exact LAW.hb1 λ_ _ _ _ _ _ _=>rfl|exact LAW.hb2 λ_ _ _ _ _ _ _ _=>rfl|exact LAW.hb3 λ_ _ _ _ _ _ _ _ _=>rfl|exact LAW.hb4 λ_ _ _ _ _ _ _ _ _ _=>rfl|exact LAW.hb5 λ_ _ _ _ _ _ _ _ _ _ _=>rfl):FM K e n q st ps:={f,_,nO l c k,(nO l c k).binds hb,⟨a,i,k⟩}
noncomputable def fmt{tc tp:Wx}{to:Yw}(a:findIn K (.ref e) n=A? (A? (.ref f)):=by k_is)(i:isFn K (.ref f)=true:=by k_is)(l:K.lookup f=A? {oc,od,.func (fnOf n q (cD st) (b8 st) (aE st) .none kV dc pm an cd ct),sl}:=by k_is)(c:codeIn K cd q=true:=by k_is)(k:keepIn K (.ref f)=true:=by k_is)(hb:HB n q (st) ps:=by first|exact LAW.hb1 λ_ _ _ _ _ _ _=>rfl|exact LAW.hb2 λ_ _ _ _ _ _ _ _=>rfl|exact LAW.hb3 λ_ _ _ _ _ _ _ _ _=>rfl|exact LAW.hb4 λ_ _ _ _ _ _ _ _ _ _=>rfl|exact LAW.hb5 λ_ _ _ _ _ _ _ _ _ _ _=>rfl)(g:cd=.ref tc:=by rfl)(v:K.lookup tc=A? to:=by k_is)(x:tabAt to=A? tp:=by rfl)(t:codeHdIn K tc tp=true:=by kernel_rfl)(u:K.lookup tp=none:=by kernel_rfl):FMT K e n q st ps:={fm a i l c k hb,tc,tp,g,t,u}
theorem na(a:findIn K (.ref e) n=A? none:=by k_is):NoAttr K e n:=a
variable(X:K.In h)(G:h.Ns Yg mg)
noncomputable def fx{i:Nat}(a:nsIn K Yg n=A? (A? (.ref f)):=by k_is)(l:K.lookup f=A? {oc,od,.func (fnOf n n (cD (top i)) (b8 (top i)) (aE (top i)) .none kV dc pm an cd ct),sl}:=by k_is)(c:codeIn K cd n=true:=by k_is)(k:keepIn K (.ref f)=true:=by k_is)(hb:HB n n (top i) ps:=by first|exact LAW.hb1 λ_ _ _ _ _ _ _=>rfl|exact LAW.hb2 λ_ _ _ _ _ _ _ _=>rfl|exact LAW.hb3 λ_ _ _ _ _ _ _ _ _=>rfl|exact LAW.hb4 λ_ _ _ _ _ _ _ _ _ _=>rfl|exact LAW.hb5 λ_ _ _ _ _ _ _ _ _ _ _=>rfl):FX K mg n i ps:={f,_,nO l c k,(nO l c k).binds hb,mg_of X G a}
include X G
theorem bn(a:nsIn K Yg n=A? none:=by k_is):mg n=none:=mg_none_of X G a
theorem gn(a:nsIn K Yg n=A? (A? (.ref f)):=by k_is):mg n=A? (.ref f):=mg_of X G a
theorem cs(a:nsIn K Yg n=A? (A? (.str x tk)):=by k_is):∃tk,mg n=A? (.str x tk):={tk,mg_of X G a}
theorem ci{x:Int}(a:nsIn K Yg n=A? (A? (.int x tk)):=by k_is):∃tk,mg n=A? (.int x tk):={tk,mg_of X G a}
end
theorem pcF{X:Cx}{kk k:Nat}{n:W8}{st:Nat}{e:XD}{es:List XD}{t:TA}{p:ZD}(g:FX X.K X.mg n st ps)(F:bv X.prog X.w X.K X.mg X.base CX0 k g.f g.d ps sp)(hr:Room kk X.A)(ha:PA X (e::es) t)(hle:k<=kk:=by first|decide|lia)(hg:Gl X n:=by rfl)(Dr:(n == ("__debug__":W8))=false:=by decide)(he:Xw (e::es) X.env=(D?,YC e X.env)::Xw es X.env:=by rfl)(Aq:(Zr pos (Xw es X.env)).any (·.1)=false:=by rfl):PE X (.Call (.Name n p) (e::es) [] pos) (gd sp [] E0 t) :=
 da F (hr.mono hle) hg g.m g.F.kp g.b .nil cU ha Dr he Aq
structure TX(K:WJ)(mg:W8->Option WA) where
 c_CALL_SIGN:∃tk,mg "CALL_SIGN"=A? (.str (WE "?") tk)
 c_MOST_NOTES:∃tk,mg "MOST_NOTES"=A? (.int (30) tk)
 e_BookError:Wx
 x_BookError:mg "BookError"=A? (.ref e_BookError)
 e_Many:Wx
 x_Many:mg "Many"=A? (.ref e_Many)
 xe_Many:PySem.W.excIn K e_Many [.type "ValueError",.type "Exception",.type "BaseException",.type "object"] "ValueError.__new__"=C?
 xg_Many:Yv K (.ref e_Many) "__getattribute__"=A? (A? (.builtin "BaseException.__getattribute__"))
 xh_Many:Yv K (.ref e_Many) "__getattr__"=A? B?
 xc_Many:Yv K (.ref e_Many) "__class__"=A? (A? (.builtin "object.__class__"))
 xo_Many:PySem.W.mroIn K e_Many (.type "object")=A? C?
 xb_Many:PySem.W.mroIn K e_Many (.type "BaseException")=A? C?
 hit_Many_Many:PySem.W.exmOne K (.ref e_Many) (.ref e_Many)=A? C?
 g_0:FX K mg "kids_of" 5 ["thing"]
 g_1:FX K mg "walked" 6 ["thing"]
 g_2:FX K mg "is_call" 8 ["thing"]
 g_3:FX K mg "called_by" 9 ["call"]
 g_4:FX K mg "ins_of" 11 ["book"]
 g_5:FX K mg "rules_of" 12 ["book"]
 g_6:FX K mg "states_of" 13 ["book"]
 g_7:FX K mg "entered" 15 ["entries","parts","numbers"]
 g_8:FX K mg "in_order" 16 ["row","at"]
 g_9:FX K mg "shared_row" 17 ["tree"]
 g_10:FX K mg "needs_of" 20 ["pattern","row","number"]
 g_11:FX K mg "keep_least" 21 ["rows","bits","knots","kids"]
 g_12:FX K mg "longer" 22 ["rows","agreeing","sizes","numbers"]
 g_23:FX K mg "notes_of" 25 ["book","wish"]
 g_24:FX K mg "_law_cell_at" 27 ["script","k"]
 g_25:FX K mg "_law_name" 28 ["base","n"]
 g_26:FX K mg "_law_kinds" 29 ["cell"]
 g_27:FX K mg "_law_folded" 30 ["script","many"]
 g_28:FX K mg "_law_pattern" 31 ["cell","outs","states","kids","deep"]
 g_29:FX K mg "_law_digits" 32 ["own","outs","states","kids","deep"]
 g_30:FX K mg "_law_book" 33 ["script","most","deep"]
 g_31:FX K mg "_law_leaf" 34 ["name"]
 g_32:FX K mg "_law_over" 35 ["name","parts"]
 g_33:FX K mg "_law_grown" 36 ["script","kinds","top","most"]
 g_34:FX K mg "_law_put" 37 ["pattern","kids"]
 g_35:FX K mg "_law_mades" 38 ["book","tree"]
 g_36:FX K mg "_law_outcome" 39 ["book","tree"]
 g_37:FX K mg "_law_wish" 40 ["script","book"]
 g_38:FX K mg "_law_size" 41 ["book","tree"]
 g_39:FX K mg "_law_counts" 42 ["book","tree"]
 g_40:FX K mg "_law_sum" 43 ["pattern","kids"]
 g_41:FX K mg "_law_parts" 44 ["tree","numbers"]
 g_42:FX K mg "_law_part" 45 ["pattern","table","numbers"]
 g_43:FX K mg "_law_note_over" 46 ["book","at","notes","numbers"]
 g_44:FX K mg "_law_note" 47 ["book","tree","numbers"]
 g_45:FX K mg "_law_told" 48 ["book","wish"]
 g_46:FX K mg "_law_knots" 49 ["tree"]
 g_47:FX K mg "_law_kid_rows" 50 ["table","many"]
 g_48:FX K mg "law" 51 ["script"]
 e_Ways:Wx
 x_Ways:mg "Ways"=A? (.ref e_Ways)
 cl_Ways:Cls K e_Ways
 g_13:FM K e_Ways "__init__" "Ways.__init__" (inClass (top 23) 0) ["self","kind","patterns","row"]
 g_14:FM K e_Ways "add_way" "Ways.add_way" (inClass (top 23) 1) ["self","state","part","needs"]
 g_15:FM K e_Ways "all_bits" "Ways.all_bits" (inClass (top 23) 2) ["self"]
 g_16:FM K e_Ways "take_note" "Ways.take_note" (inClass (top 23) 3) ["self","note"]
 g_17:FM K e_Ways "rows_with" "Ways.rows_with" (inClass (top 23) 4) ["self","last","sizes"]
 g_18:FM K e_Ways "note_by" "Ways.note_by" (inClass (top 23) 5) ["self","bits","states"]
 mi_Ways:PySem.W.makesIn K e_Ways=C?/\Zm K (.ref e_Ways)=C?
 na_Ways_kind_name:NoAttr K e_Ways "kind_name"
 na_Ways_pairs:NoAttr K e_Ways "pairs"
 na_Ways_needing:NoAttr K e_Ways "needing"
 na_Ways_agreeing:NoAttr K e_Ways "agreeing"
 e_Table:Wx
 x_Table:mg "Table"=A? (.ref e_Table)
 cl_Table:Cls K e_Table
 g_19:FM K e_Table "__init__" "Table.__init__" (inClass (top 24) 0) ["self","book","row"]
 g_20:FM K e_Table "enter" "Table.enter" (inClass (top 24) 1) ["self","ways","bits","knots","kids"]
 g_21:FM K e_Table "settle" "Table.settle" (inClass (top 24) 2) ["self","entry"]
 g_22:FMT K e_Table "fill" "Table.fill" (inClass (top 24) 3) ["self"]
 mi_Table:PySem.W.makesIn K e_Table=C?/\Zm K (.ref e_Table)=C?
 na_Table_states:NoAttr K e_Table "states"
 na_Table_ways:NoAttr K e_Table "ways"
 na_Table_found:NoAttr K e_Table "found"
 na_Table_settled:NoAttr K e_Table "settled"
 n_0:mg "enumerate"=B?
 n_1:mg "len"=B?
 n_2:mg "list"=B?
 n_3:mg "max"=B?
 n_4:mg "min"=B?
 n_5:mg "range"=B?
 n_6:mg "reversed"=B?
 n_7:mg "sum"=B?
 n_8:mg "tuple"=B?
 n_9:mg "zip"=B?
theorem TX.X_Many(T:TX K mg):va K T.e_Many:=⟨T.xe_Many,T.xg_Many,T.xh_Many,T.xc_Many,T.xo_Many,T.xb_Many⟩
theorem yH:ND ["kid","done"]:=by decide +kernel
theorem xM:ND ["kid","fresh"]:=by decide +kernel
theorem wV:ND ["kid"]:=by decide +kernel
theorem yP:ND ["kid","self"]:=by decide +kernel
theorem m7:ND ["knots","note","tree"]:=by decide +kernel
theorem yx:ND ["patterns","at"]:=by decide +kernel
theorem xF:ND ["note","entry","done"]:=by decide +kernel
theorem xG:ND ["one"]:=by decide +kernel
theorem oz:ND ["pair"]:=by decide +kernel
theorem yj:ND ["part","kids"]:=by decide +kernel
theorem vI:ND ["kid","book"]:=by decide +kernel
theorem vT:ND ["row","kids","at"]:=by decide +kernel
theorem lU:ND ["part"]:=by decide +kernel
theorem v8:ND ["entry"]:=by decide +kernel
theorem yc:ND ["part","table","numbers"]:=by decide +kernel
theorem xL:ND ["row","table","numbers","at"]:=by decide +kernel
theorem yf:ND ["kid","book","numbers"]:=by decide +kernel
theorem xK:ND ["two","one"]:=by decide +kernel
theorem yr:ND ["row","pair"]:=by decide +kernel
theorem xP:ND ["pair","sizes"]:=by decide +kernel
section
variable(T:TX K mg)
inductive lj(vs:List V)(H:Hp)(Q:VK)(_E:XK):Prop
 |mk (a:Wx) (t:Th):vs=[.ref a]->At H t a->(∀(r:Wx)(as:List Wx)(H':Hp),k! H H'->H' r=A? (.tup (as.map j!))->Ats H' t.kids as->Q (.ref r) H')->lj  vs H Q _E
theorem pB:bv P w K mg base CX0 1 T.g_0.f T.g_0.d ["thing"] lj:=by
 refine T.g_0.F.okA pF λy9 A outer s H vs Q E hr h=>?_;obtain⟨a,t,rfl,hA,k⟩:=h
 refine{_,(ad (bI (aG cO (aw ax (pv 0) ac (λ_ _=>rfl)) (nQ (v:=.str (WE "?")) rfl T.c_CALL_SIGN.choose_spec {_,E?}) (aO _)) (ak (aD (bg ae))) aW)
  (ak (aD (aN cL (pv 0) (aY ac) bi)))),?_}
 try dsimp only[zu,yX]
 cases t with
 | knot n ks =>
   rw[At]at hA;walk_at"a";obtain⟨hn,as,h1,h2⟩:=hA;refine kZ ?_;refine{_,E?,a,_,0,.str n,E?,E?,i! h1,at0,E?,_,E?,?_};refine fE (λc=>g! (e! c) (λz=>hn (V.str.inj z))) (λ_=>?_);refine{_,E?,1,E?,a,_,E?,i! h1,?_,λr hr=>?_}
   .intro z;have:=z.1;simp[q!]at this
   .rw[cg];exact k r as _ (ao hr _) af (h2.mono (iI hr))
 | call sn kn =>
   rw[At]at hA;refine{_,E?,a,_,0,.str q,E?,E?,i! hA,at0,E?,_,E?,?_};refine fE (λ_=>?_) (λc=>g! (d! rfl) c);refine{by show 0<=W5;decide,λr hr=>?_};exact k r [] _ (ao hr _) af .nil
inductive mh(vs:List V)(H:Hp)(Q:VK)(_E:XK):Prop
 |mk (a:Wx) (t:Th):vs=[.ref a]->At H t a->t.size<=100000->(∀(r:Wx)(as:List Wx)(H':Hp),k! H H'->H r=B?->H' r=A? (.lst (as.map j!))->Ats H' t.walk as->Q (.ref r) H')->mh  vs H Q _E
theorem rK:bv P w K mg base CX0 2 T.g_1.f T.g_1.d ["thing"] mh:=by
 refine T.g_1.F.okA gL λy9 A outer s H vs Q E hr h=>?_;obtain⟨a,t,rfl,hA,hsz,k⟩:=h
 refine{_,(ad (am 1 gL.nd (bE ae))
  (ad (am 2 gL.nd (bE (aa (pv 0) ae)))
  (ad (jd Xd (cP (pv 2) (λ_=>rfl)) (ad (am 3 gL.nd (lb W7 ZF ZE lm (pv 2)))
  (ad (aV (cn W7 Xm Xl br (pv 1) (aa (pv 3) ae)))
  (ak (aV (cn W7 Z1 Z0 qd (pv 2) (aa (uV xp (pcF T.g_0 (pB T) hr (aa (pv 3) ae))) ae)))))))
  (ak (aD (pv 1)))))),?_}
 try dsimp only[zu,yX]
 refine{by show 0<=W5;decide,λmt Jg=>?_};refine{_,E?,by show 1<=W5;decide,λah Ek=>?_};have Lf:H ah=none:=(ao Jg _).free Ek;have zg:ah≠mt:=λz=>by rw[z,af]at Ek;cases Ek
 refine{λm σ H2=>Ex5 λ(ms as:List Wx)(Ms As:List Th)(p:Option V)=>An8 (σ=[A? (.ref a),A? (.ref mt),A? (.ref ah),p]) (k! H H2) (H2 mt=A? (.lst (ms.map j!))) (H2 ah=A? (.lst (as.map j!))) (Ats H2 Ms ms) (Ats H2 As as) (Ms++walks As.reverse=t.walk) (m=au As),{_,[],[a],[],[t],B?,E?,?_,?_,?_,.nil,.cons (hA.mono ?_) .nil,?_,E?},?_}
 .exact aM (ao Jg _) Lf
 .rw[aj zg.symm,af];rfl
 .rw[af];rfl
 .exact n! (aM (ao Jg _) Lf)
 .simp[walks]
 rintro m σ H2 ⟨ms,as,Ms,As,p,rfl,sm,e1,e2,a1,a2,hw,rfl⟩
 have hlen:ms.length+au As<=100000:=by
  have h1:=h! X9 hw;rw[WL,jn,Th.walk_len,<-a1.length]at h1;have h2:=l5 As;lia
 refine{_,E?,_,.inl {_,l! e2,E?},?_};refine fE (λc=>?_) (λc=>?_)
 ·-- a part is taken off
  refine{λi' H'=>∃m',m'<au As/\Ex5 λ(ms as:List Wx)(Ms As:List Th)(p:Option V)=>An8 (i'=[A? (.ref a),A? (.ref mt),A? (.ref ah),p]) (k! H H') (H' mt=A? (.lst (ms.map j!))) (H' ah=A? (.lst (as.map j!))) (Ats H' Ms ms) (Ats H' As as) (Ms++walks As.reverse=t.walk) (m'=au As),λi' H' h=>h,?_};have AV:as≠[]:=by intro z;subst z;simp at c
  obtain⟨zw,b,rfl⟩:∃zw b,as=zw++[b]:={as.dropLast,as.getLast AV,(YS AV).symm};obtain⟨Us,x,rfl,a3,a4⟩:=a2.snoc_inv;have hs:au (Us++[x])=au Us+x.size:=by rw[cq,au,au];lia
  have DQ:=x.size_eq;rw[hs]at hlen;refine{_,E?,.inl {E?,_,l! e2},ah,_,.ref b,E?,E?,e2,by simp,?_};have d1:((zw++[b]).map j!).dropLast=zw.map j!:=by simp
  rw[d1];refine{_,E?,.inl {E?,_,l! (by rw[aj zg.symm];exact e1)},_,E?,mt,_,.ref b,E?,E?,by rw[aj zg.symm];exact e1,lbE (by lia),?_};have k1:KT H2 (upd (upd H2 ah (.lst (zw.map j!))) mt (.lst (ms.map j!++[.ref b]))):=(cK e2).trans (cK (xs:=ms.map j!) (by rw[aj zg.symm];exact e1));refine{_,E?,.inl {E?,_,l! (by rw[aj zg,af])},_,E?,b,x,E?,a4.mono k1,λr ks H3 s3 e3 a5=>?_};refine{r,_,E?,i! e3,λl hl=>?_};have l1:l≠ah:=λz=>by rw[z,s3 ah _ (by rw[aj zg,af])]at hl;cases hl
  have l2:l≠mt:=λz=>by rw[z,s3 mt _ af]at hl;cases hl
  refine{ah,l,_,_,E?,E?,by rw[aj l1.symm];exact s3 ah _ (by rw[aj zg,af]),i! af,Yj (aT ?_),?_}
  .have q1:=a3.length;have q2:=a5.length;have q3:=dj Us;have q4:=dj x.kids;rw[Wt,Zj,Wt];lia
  .have k2:KT H2 (upd (upd H3 l (.tup (ks.map j!).reverse)) ah (.lst (zw.map j!++(ks.map j!).reverse))) :=
    k1.trans ((n! s3).trans ((iI hl).trans (cK (xs:=zw.map j!) (by rw[aj l1.symm];exact s3 ah _ (by rw[aj zg,af])))))
   have k3:KT H3 (upd (upd H3 l (.tup (ks.map j!).reverse)) ah (.lst (zw.map j!++(ks.map j!).reverse))) :=
    (iI hl).trans (cK (xs:=zw.map j!) (by rw[aj l1.symm];exact s3 ah _ (by rw[aj zg,af])))
   refine{au (Us++x.kids.reverse),?_,ms++[b],zw++ks.reverse,Ms++[x],Us++x.kids.reverse,A? (.ref b),E?,?_,?_,?_,?_,?_,?_,E?}
   .rw[cq,l5,hs];lia
   .have s4:k! H (upd (upd H2 ah (.lst (zw.map j!))) mt (.lst (ms.map j!++[.ref b]))):=aM (aM sm Lf) Jg;have nl:H l=none:=s4.free (s3.free hl);exact aM (aM (s4.trans s3) nl) Lf
   .rw[aj zg.symm,aj l2.symm,s3 mt _ af,W3];rfl
   .rw[af,W3,List.map_reverse]
   .exact(a1.mono k2).append (.cons (a4.mono k2) .nil)
   .exact(a3.mono k2).append (a5.mono k3).reverse
   .rw[<-hw,Zf,YX,YX,Ze,ji];show Ms++([x]++(walks x.kids++walks Us.reverse))=Ms++walks (x::Us.reverse);rw[walks,x.walk_eq];rfl
 .have hz:as=[]:=by
   cases as with
   |nil=>rfl
   |cons y ys=>simp at c
  subst hz;have SU:As=[]:=YQ.mp a2.length.symm;subst SU;refine{_,E?,k mt ms H2 sm Jg e1 ?_};have Bh:Ms=t.walk:=by simpa[walks]using hw
  rw[<-Bh];exact a1
inductive lh(vs:List V)(H:Hp)(Q:VK)(_E:XK):Prop
 |mk (a:Wx) (t:Th):vs=[.ref a]->At H t a->Q (.bl t.isCall) H->lh  vs H Q _E
theorem kg:bv P w K mg base CX0 1 T.g_2.f T.g_2.d ["thing"] lh:=by
 refine T.g_2.F.okA pU λy9 A outer s H vs Q E hr h=>?_;obtain⟨a,t,rfl,hA,k⟩:=h;refine{_,(ak (aD (rb cO (aw ax (pv 0) ac (λ_ _=>rfl)) (nQ (v:=.str (WE "?")) rfl T.c_CALL_SIGN.choose_spec {_,E?}) (aO _)))),?_}
 try dsimp only[zu,yX]
 cases t with
 | knot n ks =>
   rw[At]at hA;walk_at"a";obtain⟨hn,as,h1,h2⟩:=hA;refine kZ ?_;refine{_,E?,a,_,0,.str n,E?,E?,i! h1,at0,E?,?_};have e:decide (B! n=B! (WE "?"))=false:=c! (λz=>hn (V.str.inj z));rw[e];exact k
 | call sn kn =>
   rw[At]at hA;refine{_,E?,a,_,0,.str q,E?,E?,i! hA,at0,E?,?_};have e:decide (B! q=B! (WE "?"))=true:=d! rfl;rw[e];exact k
inductive i4(vs:List V)(H:Hp)(Q:VK)(_E:XK):Prop
 |mk (a:Wx) (sn kn:Int):vs=[.ref a]->At H (.call sn kn) a->(∀p,H p=B?->Q (.ref p) (upd H p (.tup [.int sn,.int kn])))->i4  vs H Q _E
theorem iM:bv P w K mg base CX0 1 T.g_3.f T.g_3.d ["call"] i4:=by
 refine T.g_3.F.okA m4 λy9 A outer s H vs Q E hr h=>?_;obtain⟨a,sn,kn,rfl,hA,k⟩:=h;refine{_,(ak (aD (bg (aa (aw ax (pv 0) ac (λ_ _=>rfl)) (aa (aw ax (pv 0) ac (λ_ _=>rfl)) ae))))),?_}
 try dsimp only[zu,yX]
 rw[At]at hA;exact{_,E?,a,_,1,_,E?,E?,i! hA,at1,_,E?,a,_,2,_,E?,E?,i! hA,at2,lnE rfl,λp hp=>k p hp}
inductive mK(vs:List V)(H:Hp)(Q:VK)(_E:XK):Prop
 |mk (b:Wx) (v1 v2 v3 v4:V):vs=[.ref b]->H b=A? (.tup [v1,v2,v3,v4])->Q v1 H->mK  vs H Q _E
inductive jX(vs:List V)(H:Hp)(Q:VK)(_E:XK):Prop
 |mk (b:Wx) (v1 v2 v3 v4:V):vs=[.ref b]->H b=A? (.tup [v1,v2,v3,v4])->Q v4 H->jX  vs H Q _E
theorem rW:bv P w K mg base CX0 1 T.g_4.f T.g_4.d ["book"] mK:=by
 refine T.g_4.F.okA r6 λy9 A outer s H vs Q E hr h=>?_;obtain⟨b,v1,v2,v3,v4,rfl,e,q⟩:=h;refine{_,(ak (aD (aw ax (pv 0) ac (λ_ _=>rfl)))),?_}
 try dsimp only[zu,yX]
 exact{_,E?,b,_,0,v1,E?,E?,i! e,at0,q}
theorem jL:bv P w K mg base CX0 1 T.g_5.f T.g_5.d ["book"] jX:=by
 refine T.g_5.F.okA n5 λy9 A outer s H vs Q E hr h=>?_;obtain⟨b,v1,v2,v3,v4,rfl,e,q⟩:=h;refine{_,(ak (aD (aw ax (pv 0) ac (λ_ _=>rfl)))),?_}
 try dsimp only[zu,yX]
 exact{_,E?,b,_,3,v4,E?,E?,i! e,bp (j:=3) rfl,q}
inductive iQ(vs:List V)(H:Hp)(Q:VK)(_E:XK):Prop
 |mk (b:Wx) (v1 v2 v3:V) (ra:Wx) (xs:List V):vs=[.ref b]->H b=A? (.tup [v1,v2,v3,.ref ra])->H ra=A? (.tup xs)->Q (.int xs.length) H->iQ  vs H Q _E
theorem nM:bv P w K mg base CX0 2 T.g_6.f T.g_6.d ["book"] iQ:=by
 refine T.g_6.F.okA mW λy9 A outer s H vs Q E hr h=>?_;obtain⟨b,v1,v2,v3,ra,xs,rfl,e,e2,q⟩:=h;refine{_,(ak (aD (aB az rfl T.n_1 Xj (aa (pcF T.g_5 (jL T) hr (aa (pv 0) ae)) ae)))),?_}
 try dsimp only[zu,yX]
 exact{_,E?,b,_,_,_,_,E?,e,ra,_,E?,.inr (i! e2),q}
def nV(i:Nat):V:=.int (i:Nat)
theorem lC(n:W8)(ids:List Nat):(dW (n,ids)).map kV=B! n::ids.map nV:=by
 unfold dW;rw[W9,Xg];rfl
theorem iy{F:α->β->Prop}:∀{a:List α}{b:List β},Xb F a b->Xb (λy x=>F x y) b a
 |_,_,.nil=>.nil
 |_,_,.cons h t=>.cons h (iy t)
inductive ll(vs:List V)(H:Hp)(Q:VK)(_E:XK):Prop
 |mk (ea la na:Wx) (as:List Wx) (t:Th) (E0:List (W8×List Nat)) (T0:List Th) (M5:List (List Key×V)) (g:Int->Int->Th) (All:List Th):vs=[.ref ea,.ref la,.ref na]->H ea=A? (.dT (kvsOf E0))->Cl E0 T0->(∀e∈E0,e.2.length<=100000)->H la=A? (.lst (as.map j!))->Ats H t.walk as->H na=A? (.dT M5)->na≠ea->(∀s k,t! s k∈t.walk->∃j:Nat,bC M5 (ky (s,k))=A? (.int (j:Nat))/\T0[j]?=A? (g s k))->t.size<=100000->(∀u∈T0,u∈All)->(∀n ks,p! n ks∈t.walk->(p! n ks).fill g∈All)->All.length<=900000->(∀(E:List (W8×List Nat))(Ts:List Th)(at':Nat)(H':Hp),(∀b o,b≠ea->H b=A? o->H' b=A? o)->H' ea=A? (.dT (kvsOf E))->Cl E Ts->T0 <+: Ts->(∀u∈Ts,u∈All)->Ts[at']?=A? (t.fill g)->(∀e∈E,e.2.length<=100000)->Q (.int (at':Nat)) H')->ll  vs H Q _E
theorem pZ:bv P w K mg base CX0 2 T.g_7.f T.g_7.d ["entries","parts","numbers"] ll:=by
 refine T.g_7.F.okA fM λy9 A outer s H vs Q E hr h=>?_;obtain⟨ea,la,na,as,t,E0,T0,M5,g,All,rfl,ee,Gh,M6,el,hw,Bx,AV,zF,hsz,Jh,M7,SV,q⟩:=h
 refine{_,(ad (am 3 fM.nd (bE ae))
  (ad (bj Xd rfl (xy rfl T.n_6 (pv 1)) (pgN 4 fM.nd) (ak (bI (cP (pcF T.g_2 (kg T) hr (aa (pv 4) ae)) (λ_=>rfl)) (ak (aV (cn W7 Xm Xl br (pv 3) (aa (dF (cm hr) (pv 2) (pcF T.g_3 (iM T) hr (aa (pv 4) ae)) (λ_ _=>rfl)) ae)))) (ad (df (i:=5) (N:=["kid","done"]) (js:=[B?,A? 3]) (g:=(av 0)) (tt:=aI) (te:=(xB K "list" (xE) (bf 1))) fM.nd rfl (Or.inl rfl) rfl (bA rfl (by decide +kernel) (by decide +kernel) rfl rfl rfl) (bU (aN cL (pv 4) (aY ac) bi)) (λ_ _ _ _ _ _=>(pgN 0 yH)) (aC rfl) (λ_ _ _ _ _ _=>aK) (λ_ _ _ _ _ _=>(lb W7 ZF ZE lm (pv 1))))
  (ak (aV (cn W7 Xm Xl br (pv 3) (aa (cn PySem.F.plainAttrs_dict PySem.F.slot_dict_setdefault PySem.F.type_dict_setdefault (io (cm hr)) (pv 0) (aa (ay dR (aN qv (pv 4) bi (aY ac)) (bR aZ rfl T.n_8 XA (aa (pv 5) ae))) (aa (aB gR rfl T.n_1 Xj (aa (pv 0) ae)) ae))) ae))))))))
  (ak (aD (aw aS (pv 3) ac (λ_ _=>rfl)))))),?_}
 try dsimp only[zu,yX]
 have Aj:as.length=t.walk.length:=hw.length;have B2:=t.walk_len;obtain⟨AI,hok⟩:=ux g t;obtain⟨zo,BR⟩:∃zo,zo=t.walk.map (di g):={_,rfl};rw[<-BR]at AI hok;have zl:zo.length=t.walk.length:=by rw[BR,Wt]
 refine{lnE rfl,λdn Ce=>?_};have Hj:dn≠ea:=λz=>by rw[z,ee]at Ce;cases Ce
 have EH:la≠ea:=aF el ee (by intro z;cases z);refine{_,E?,la,_,E?,l! (ao Ce _ _ _ el),?_}
 refine ve (K:=K) (a:=la) (xs:=as.map j!) (λi σ H2=>Ex5 λc4 c5 ds E Ts=>An9 (σ=[A? (.ref ea),A? (.ref la),A? (.ref na),A? (.ref dn),c4,c5]) ((∀b o,b≠ea->H b=A? o->H2 b=A? o)) (H2 ea=A? (.dT (kvsOf E))) (H2 dn=A? (.lst (ds.map nV))) (Cl E Ts) (Xb (λu id=>Ts[id]?=A? u) (bl (zo.drop (zo.length - i))).reverse ds) (T0 <+: Ts) ((∀u∈Ts,u∈All)) (∀e∈E,e.2.length<=100000))
  {B?,B?,[],E0,T0,rfl,λb o hb e=>ao Ce _ _ _ e,by rw[aj Hj.symm];exact ee,af,Gh,by rw[Nat.sub_zero,List.drop_length];exact .nil,List.prefix_rfl,Jh,M6} (λi σ H2 _⟨_,_,_,_,_,_,s2,_,_,_,_,_,_,_⟩=>l! (s2 _ _ EH el)) ?_ ?_
 .rintro i y σ H2 hi hy ⟨c4,c5,ds,E,Ts,rfl,s2,e2,EO,zb,AF,Ag,AA,Gi⟩
  have Lg:E.length<=900000:=by
   rw[zb.len];exact XB (fC zb.nd AA) SV
  rw[Wt,Aj,<-zl]at hi hy;walk_at"a";obtain⟨pa,rfl,Bv⟩:=bw hy;obtain⟨p,hp,M8⟩:=hw.get Bv;have M9:KT H H2:=λb xs e=>s2 b _ (aF e ee (by intro z;cases z)) e;have Dg:=M8.mono M9;have hn:zo.length - 1 - i<zo.length:=by lia
  have hx:zo[zo.length - 1 - i]?=A? (di g p):=by rw[BR,Wz,<-BR,hp];rfl
  have Hk:zo.drop (zo.length - 1 - i)=di g p::zo.drop (zo.length - i):=by
   rw[List.drop_eq_getElem_cons hn,show zo.length - 1 - i+1=zo.length - i by lia];congr 1;rw[Wv hn]at hx;exact WN hx
  have ER:=hok.drop (zo.length - 1 - i);rw[Hk]at ER;have DT:zo.length - (i+1)=zo.length - 1 - i:=by lia
  have Mu:(bl (zo.drop (zo.length - i))).length<=100000:=by
   have:=pM (zo.drop (zo.length - i));rw[XR]at this;lia
  obtain⟨S',Lh⟩:=uW g t (i:=zo.length - 1 - i) hp;refine kZ ?_;rw[<-BR,Hk]at Lh;generalize zo.drop (zo.length - i)=S at Hk AF ER Mu Lh;cases p with
  | call sn kn =>
    obtain⟨j,Fp,Ei⟩:=zF sn kn (Ww hp)
    have SW:Ts[j]?=A? (g sn kn):=by
     obtain⟨r,rfl⟩:=Ag;rw[Xk (glE Ei)];exact Ei
    have M':=s2 _ _ AV Bx;refine{_,E?,pa,.call sn kn,E?,Dg,C?,E?,?_};refine dY ?_;have SX:=EO;refine{_,E?,.inl {E?,_,l! EO},_,E?,_,E?,pa,sn,kn,E?,Dg,λp3 Ae=>?_};refine gU Ae λH3 s3 e3=>?_;have e3:H3 p3=A? (.tup ((ky (sn,kn)).map kV)):=e3;have hg:DGet H3 na (.ref p3) (A? (.int (j:Nat))):=by have:=G! (s3 _ _ M') e3;rw[Fp]at this;exact this
    refine{na,_,E?,hg,dn,_,_,E?,E?,s3 _ _ EO,aT (by rw[Wt];have:=WS AF;rw[Zj]at this;lia),?_};refine{_,_,ds++[j],E,Ts,E?,λb o hb e=>?_,?_,?_,zb,?_,Ag,AA,Gi}
    .rw[aj (aq e Ce)];exact s3 _ _ (s2 b o hb e)
    .rw[aj Hj.symm];exact s3 _ _ e2
    .rw[af,W3];rfl
    .rw[DT,Hk,di,bl,X0];exact v! AF (.cons SW .nil)
  |knot n ts =>
  rw[di,TopsOk]at ER;have Ji:=Dg;rw[At]at Ji;walk_at"a";obtain⟨Jj,CY,Dh,Na⟩:=Ji;have Cf:CY.length=ts.length:=Na.length;obtain⟨m,hm⟩:∃m,m=ts.length:={_,rfl};refine kZ ?_;rw[<-hm]at ER Cf;have Gj:bl (di g (.knot n ts)::S)=.knot n ((bl S).take m)::(bl S).drop m:=by rw[di,bl,<-hm]
  refine{_,E?,pa,.knot n ts,E?,Dg,D?,E?,?_};refine cV ?_;refine{_,E?,1,E?,pa,_,E?,i! Dh,?_,λp2 zt=>?_}
  .rintro⟨z,_⟩;rw[WV,show(1:Int)=((1:Nat):Int)by rfl,x!]at z;lia
  dsimp only;rw[cg];refine gU zt λH3 s3 e3=>?_;have ES:=s3 _ _ EO;have Nb:p2≠dn:=aF e3 ES (by intro z;cases z);refine{p2,E?,{_,i! e3},λD hD=>?_};have Fo:D≠dn:=λz=>by rw[z,ES]at hD;cases hD
  refine{m,λj H4=>An3 (j<=m) ((∀b o,H3 b=A? o->b≠dn->H4 b=A? o)) (Ex2 λ(El ks:List Nat)=>An4 (H4 dn=A? (.lst (El.map nV))) (H4 D=A? (.lst (ks.map nV))) (Xb (λu id=>Ts[id]?=A? u) ((bl S).drop j).reverse El) (Xb (λu id=>Ts[id]?=A? u) ((bl S).take j) ks)),
   {Xo _,λb o e hb=>?_,ds,[],?_,?_,?_,?_},?_}
  .rw[aj (aq e hD)];exact e
  .rw[aj Fo.symm];exact ES
  .rw[af];rfl
  .rw[ZR];exact AF
  .rw[YM];exact .nil
  rintro j H4 ⟨hj,kp,El,ks,ed,eD,Fq,hd2⟩;have DU:=kp _ _ e3 Nb;by_cases M0:j=m
  .left;refine{{_,i! DU,by rw[Wt];lia},?_};subst M0;have Nc:=kp _ _ (s3 _ _ Dh) (aF (s3 _ _ Dh) ES (by intro z;cases z));have P8:=kp _ _ (s3 _ _ e2) Hj.symm;have zP:((bl S).take j).length=ks.length:=WS hd2;have De:((bl S).drop j).reverse.length=El.length:=WS Fq;rw[Xy]at zP;rw[Zj,XR]at De;refine{_,E?,.inl {E?,_,l! ed},_,E?,.inr (.inr (.inl {E?,.inr {_,P8}})),_,E?,1,E?,pa,_,E?,Nc,λp3 H5 s5 e5=>?_};rw[qB]at e5;refine{_,E?,D,_,E?,.inl {l! (s5 _ _ eD),λp4 Fs=>?_}};refine gU Fs λH6 s6 e6=>?_;refine oq (s6 _ _ e5) e6 (by rw[Wt];show 1+ks.length<=1000000;lia) λp5 H7 s7 e7=>?_;have ET:=s5.trans (s6.trans s7);have Nf:=ET _ _ P8;have P9:=ET _ _ ed;have VW:E.length<1000000:=by lia
   have Qa:∀b o,b≠ea->H b=A? o->H7 b=A? o:=λb o hb e=>ET _ _ (kp b o (s3 _ _ (s2 b o hb e)) (aq e Ce));refine{_,E?,ea,_,E?,Nf,ea,p5,_,dW (n,ks),kvsOf E,E?,E?,Nf,by rw[lC];exact e7,aT (by rw[fG];lia),λu hu=>?_,λBf=>?_}
   .obtain⟨i0,rfl,Ng⟩:=lw hu;have Li:=zb.found Ng (iy hd2);refine{dn,_,_,E?,E?,P9,lbE (by lia),?_};refine{_,_,El++[i0],E,Ts,E?,λb o hb e=>?_,?_,?_,zb,?_,Ag,AA,Gi}
    .rw[aj (aq e Ce)];exact Qa b o hb e
    .rw[aj Hj.symm];exact Nf
    .rw[af,W3];rfl
    .rw[DT,Hk,Gj,X0];exact v! Fq (.cons Li .nil)
   .obtain⟨EU,CZ⟩:=iE Bf;rw[fG,CZ];have Nh:=zb.snoc EU (iy hd2)
    have up:∀(u:Th)(id:Nat),Ts[id]?=A? u->(Ts++[p! n ((bl S).take j)])[id]?=A? u:=λu id h=>by
     rw[Xk (glE h)];exact h
    refine{dn,_,_,E?,E?,by rw[aj Hj];exact P9,lbE (by lia),?_}
    refine{_,_,El++[E.length],E++[(n,ks)],Ts++[.knot n ((bl S).take j)],E?,λb o hb e=>?_,?_,?_,Nh,?_,Ag.trans (List.prefix_append _ _),λu hu=>?_,λe he=>by
     rcases WQ.mp he with he|he
     .exact Gi e he
     .rw[WG.mp he];show ks.length<=100000;lia}
    .rw[aj (aq e Ce),aj hb];exact Qa b o hb e
    .rw[aj Hj.symm,af]
    .rw[af,W3];rfl
    .rw[DT,Hk,Gj,X0];refine v! (r! up Fq) (.cons ?_ .nil);rw[zb.len];simp
    .rcases WQ.mp hu with hu|hu
     .exact AA u hu
     .rw[WG.mp hu];rw[Gj]at Lh;rw[(List.cons.inj Lh).1];exact M7 n ts (Ww hp)
  .right;have G':j<m:=by lia
   refine{G',{_,_,i! DU,Wv (by rw[Wt];lia)},?_};rintro x' H5 ⟨e1,_⟩;have B4:H5=H4:=e1;subst B4;have Lj:j<(bl S).length:=by lia
   have SY:(bl S).drop j=(bl S)[j]::(bl S).drop (j+1):=List.drop_eq_getElem_cons Lj;rw[SY,X0]at Fq
   have zg:El≠[]:=by
    intro z;subst z;have:=WS Fq;rw[WL]at this;simp at this
   walk_at"a";obtain⟨Hl,b,rfl⟩:∃Hl b,El=Hl++[b]:={El.dropLast,El.getLast zg,(YS zg).symm};obtain⟨Us,x2,S3,hU,hb2⟩:=P2.snoc_inv Fq;obtain⟨e5,e6⟩:=List.append_inj' S3 rfl;refine kZ ?_;cases e6;subst e5;have zk:((bl S).take j).length=ks.length:=WS hd2;rw[Xy]at zk;refine{_,E?,.inl {E?,_,l! ed},dn,_,nV b,E?,E?,ed,by simp,?_};have d1:((Hl++[b]).map nV).dropLast=Hl.map nV:=by simp
   rw[d1];have S4:(upd H5 dn (.lst (Hl.map nV))) D=A? (.lst (ks.map nV)):=by rw[aj Fo];exact eD
   refine{_,S4,lbE (by lia),G',λb' o e zA=>?_,Hl,ks++[b],?_,?_,hU,?_}
   .rw[aj (aq e hD),aj zA];exact kp b' o e zA
   .rw[aj Fo.symm,af]
   .rw[af,W3];rfl
   .rw[YG,Wv Lj];exact v! hd2 (.cons hb2 .nil)
 .rintro σ H2 ⟨c4,c5,ds,E,Ts,rfl,s2,e2,EO,zb,AF,Ag,AA,Gi⟩;rw[Wt,Aj,<-zl,Zu,ZR,AI]at AF
  obtain⟨at',rfl,zQ⟩:∃at',ds=[at']/\Ts[at']?=A? (t.fill g):=by
   have Ni:Xb (λu id=>Ts[id]?=A? u) [t.fill g] ds:=AF;cases Ni with
   |cons a b=>cases b;exact{_,E?,a}
  refine{_,E?,dn,_,0,.int (at':Nat),E?,E?,l! EO,at0,q E Ts at' H2 s2 e2 zb Ag AA zQ Gi}
def EnA(H:Hp)(e:W8×List Nat)(b:Wx):Prop:=H b=A? (.tup (.str e.1::e.2.map nV))
theorem iu{F:α->β->Prop}{a:List α}{b:List β}(h:Xb F a b){x:α}{y:β}(hx:a[i]?=A? x)(hy:b[i]?=A? y):F x y:=by
 obtain⟨y',h1,h2⟩:=u! h hx;rw[hy]at h1;cases h1;exact h2
theorem qH{F:α->β->Prop}{c:α}{l2:List α}:∀{l1:List α}{ks:List β},Xb F (l1++c::l2) ks->∃k1 kc k2,ks=k1++kc::k2/\Xb F l1 k1/\F c kc/\Xb F l2 k2
 | [],_,.cons h t=>{[],_,_,rfl,.nil,h,t}
 | x::l1,_,.cons h t=>by
   walk_at"a";obtain⟨k1,kc,k2,e,h1,h2,h3⟩:=qH t;refine kZ ?_;exact{_::k1,kc,k2,by rw[e];rfl,.cons h h1,h2,h3}
theorem yb{F:α->β->Prop}:∀{a:List α},(∀x∈a,∃y,F x y)->∃b,Xb F a b
 | [],_=>{[],.nil}
 | x::a,h=>by
   obtain⟨y,hy⟩:=h x (WM ..);obtain⟨b,hb⟩:=yb λz hz=>h z (WR _ hz);exact{y::b,.cons hy hb}
theorem ow{F:α->β->Prop}{a:List α}{b:List β}(h:Xb F a b){y:β}(hy:y∈b):∃x∈a,F x y:=by
 walk_at"a";obtain⟨i,hi⟩:=WK.mp hy;obtain⟨x,hx,hf⟩:=w! h hi;refine kZ ?_;exact{x,Ww hx,hf}
theorem sU{F:α->β->Prop}{a:List α}{b:List β}(h:Xb F a b){x:α}(hx:x∈a):∃y∈b,F x y:=by
 walk_at"a";obtain⟨i,hi⟩:=WK.mp hx;obtain⟨y,hy,hf⟩:=u! h hi;refine kZ ?_;exact{y,Ww hy,hf}
theorem nZ:∀{l:List Nat}{N:Nat},l.Pairwise (· > ·)->(∀a∈l,a<N)->l.length<=N
 | [],_,_,_=>Xo _
 | a::l,N,h,hN=>by
   obtain⟨h1,h2⟩:=List.pairwise_cons.mp h;have:=nZ h2 h1;have:=hN a (WM ..);rw[WV];lia
def pj(as:List Nat):Nat:=match as.getLast? with|none=>0 |some a=>a+1
theorem lX(as:List Nat)(a:Nat):pj (as++[a])=a+1:=by
 unfold pj;rw[List.getLast?_concat]
theorem uy{as:List Nat}{N:Nat}(h:∀a∈as,a<N):pj as<=N:=by
 unfold pj;cases e:as.getLast? with
 |none=>exact Xo _
 |some a=>exact h a (List.mem_of_getLast? e)
inductive jU(vs:List V)(H:Hp)(Q:VK)(_E:XK):Prop
 |mk (ra:Wx) (at':Nat) (bs:List Wx) (E:List (W8×List Nat)) (Ts:List Th) (t:Th):vs=[.ref ra,.int (at':Nat)]->H ra=A? (.lst (bs.map j!))->Xb (EnA H) E bs->Cl E Ts->Ts[at']?=A? t->E.length<=900000->(∀e∈E,e.2.length<=100000)->(∀(r tp:Wx)(cs:List Wx)(To:List (W8×List Nat))(ix:Nat)(H':Hp),k! H H'->H' r=A? (.tup [.ref tp,.int (ix:Nat)])->H' tp=A? (.tup (cs.map j!))->Xb (EnA H') To cs->Cl To (post t [])->(post t [])[ix]?=A? t->Q (.ref r) H')->jU  vs H Q _E
theorem oM:bv P w K mg base CX0 1 T.g_8.f T.g_8.d ["row","at"] jU:=by
 refine T.g_8.F.okA cT λy9 A outer s H vs Q E hr h=>?_;obtain⟨ra,at',bs,E,Ts,t,rfl,era,Lk,zb,zQ,Lg,S5,q⟩:=h
 refine{_,(ad (am 2 cT.nd kO)
  (ad (am 3 cT.nd (bE ae))
  (ad (am 4 cT.nd (bE (aa (pv 1) ae)))
  (ad (jd Xd (cP (pv 4) (λ_=>rfl)) (ad (am 5 cT.nd (aw aS (pv 0) (aw aS (pv 4) (oN nk ac) (λ_ _=>rfl)) (λ_ _=>rfl)))
  (ad (df (i:=6) (N:=["kid","fresh"]) (js:=[B?,A? 2]) (g:=(av 0)) (tt:=(tB (qF (bf 0) (bf 1)))) (te:=(bf 0)) cT.nd rfl (Or.inl rfl) rfl (bA rfl (by decide +kernel) (by decide +kernel) rfl rfl rfl) (bU (aN cL (pv 5) (aY ac) bi)) (λ_ _ _ _ _ _=>(pgN 0 xM)) (aC rfl) (λ_ _ _ _ _ _=>je (iH (dv (cm hr) (pv 0) (pv 1)))) (λ_ _ _ _ _ _=>(pv 0)))
  (ak (bI (cP (pv 6) (λ_=>rfl)) (ak (aV (cn W7 Xm Xl br (pv 4) (aa (aw aS (pv 6) ac (λ_ _=>rfl)) ae)))) (ad (fV (cm hr) (pv 2) (lb W7 ZF ZE lm (pv 4)) (aB az rfl T.n_1 Xj (aa (pv 3) ae)) rfl)
  (ak (aV (cn W7 Xm Xl br (pv 3) (aa (ay dR (aN qv (pv 5) bi (aY ac)) (bR aZ rfl T.n_8 XA (aa (aX (N:=["kid","fresh"]) (js:=[B?,A? 2]) (g:=(av 0)) (tt:=aI) (te:=(sF (bf 1) (bf 0))) rfl (bA rfl (by decide +kernel) (by decide +kernel) rfl rfl rfl) (bU (aN cL (pv 5) (aY ac) bi)) (λ_ _ _ _ _ _=>(pgN 0 xM)) (aC rfl) (λ_ _ _ _ _ _=>aK) (λ_ _ _ _ _ _=>(dF (cm hr) (pv 1) (pv 0) (λ_ _=>rfl)))) ae))) ae))))))))))
  (ak (aD (bg (aa (bR aZ rfl T.n_8 XA (aa (pv 3) ae)) (aa (dF (cm hr) (pv 2) (pv 1) (λ_ _=>rfl)) ae))))))))),?_}
 try dsimp only[zu,yX]
 have AI:E.length=bs.length:=WS Lk;intro fr EK;dsimp only[av];refine gU EK λH1 s1 e1=>?_;have e1:H1 fr=A? (.dK (fkv [])):=e1;refine{lnE rfl,λtl zl=>?_};have s2:k! H1 (upd H1 tl (.lst [])):=ao zl _;have e2:(upd H1 tl (.lst [])) tl=A? (.lst (([]:List Wx).map j!)):=af;have Nj:H tl=none:=s1.free zl;have Qb:fr≠tl:=λz=>by rw[<-z,e1]at zl;cases zl
 generalize(upd H1 tl (.lst []))=H2 at s2 e2 |-;refine{_,E?,lnE rfl,λah Ek=>?_};have s3:k! H2 (upd H2 ah (.lst [.int (at':Nat)])):=ao Ek _;have e3:(upd H2 ah (.lst [.int (at':Nat)])) ah=A? (.lst ([at'].map nV)):=af;have Jk:H ah=none:=(s1.trans s2).free Ek;have Nk:fr≠ah:=λz=>by rw[<-z,s2 _ _ e1]at Ek;cases Ek
 have AM:tl≠ah:=λz=>by rw[<-z,e2]at Ek;cases Ek
 generalize(upd H2 ah (.lst [.int (at':Nat)]))=H3 at s3 e3 |-;have Ac:=s1.trans (s2.trans s3);refine{λm σ H4=>Ex8 λ(as FI:List Nat)(xs L:List Th)(To:List (W8×List Nat))(cs:List Wx)(c5 c6:Option V)=>wk (σ=[A? (.ref ra),A? (.int (at':Nat)),A? (.ref fr),A? (.ref tl),A? (.ref ah),c5,c6]) (k! H H4) (H4 fr=A? (.dK (fkv FI))) (H4 tl=A? (.lst (cs.map j!))) (H4 ah=A? (.lst (as.map nV))) (Xb (EnA H4) To cs) (Cl To L) (Xb (λid u=>Ts[id]?=A? u) FI L) (Xb (λid u=>Ts[id]?=A? u) as xs) (BB.finish xs.reverse L=post t []) (b9 L) ((∀x∈xs,x∉L)) (as.Pairwise (· > ·)) (m=unt E.length FI * (E.length+1)+pj as),{_,[at'],[],[t],[],[],[],B?,B?,E?,Ac,s3 _ _ (s2 _ _ e1),s3 _ _ e2,e3,.nil,{E?,Y4,λi e h=>by simp at h},.nil,.cons zQ .nil,E?,λu hu=>by(cases hu),λu _ hu=>by(cases hu),List.pairwise_singleton ..,rfl},?_};rintro m σ H4 ⟨as,FI,xs,L,To,cs,c5,c6,rfl,s4,Ll,Nl,Nn,Ft,Em,Di,DQ,zS,Lm,zJ,Jl,rfl⟩;have S6:To.length=cs.length:=WS Ft;have S7:FI.length=L.length:=WS Di;have Ln:=Em.len;refine{_,E?,_,.inl {_,l! Nn,E?},?_};refine fE (λcc=>?_) (λcc=>?_)
 .refine {λi' H'=>∃m',m'<unt E.length FI * (E.length+1)+pj as/\Ex8 λ(as FI:List Nat)(xs L:List Th)(To:List (W8×List Nat))(cs:List Wx)(c5 c6:Option V)=>wk (i'=[A? (.ref ra),A? (.int (at':Nat)),A? (.ref fr),A? (.ref tl),A? (.ref ah),c5,c6]) (k! H H') (H' fr=A? (.dK (fkv FI))) (H' tl=A? (.lst (cs.map j!))) (H' ah=A? (.lst (as.map nV))) (Xb (EnA H') To cs) (Cl To L) (Xb (λid u=>Ts[id]?=A? u) FI L) (Xb (λid u=>Ts[id]?=A? u) as xs) (BB.finish xs.reverse L=post t []) (b9 L) ((∀x∈xs,x∉L)) (as.Pairwise (· > ·)) (m'=unt E.length FI * (E.length+1)+pj as),λi' H' h=>h,?_};have AV:as≠[]:=by intro z;subst z;simp at cc
  walk_at"a";obtain⟨zw,a,rfl⟩:∃zw a,as=zw++[a]:={as.dropLast,as.getLast AV,(YS AV).symm}
  obtain⟨Jm,x,rfl,Jn,Jo⟩:∃Jm x,xs=Jm++[x]/\Xb (λid u=>Ts[id]?=A? u) zw Jm/\Ts[a]?=A? x:=by
   obtain⟨us,v,e1,h1,h2⟩:=P2.snoc_inv (iy DQ |> λh=>(show Xb (λu id=>Ts[id]?=A? u) xs (zw++[a])from h));exact{us,v,e1,iy h1,h2}
  rw[YX,Zw,ZG,BB.finish]at zS;have Qc:a<E.length:=by rw[zb.len];exact(glE Jo)
  have Jp:∀p∈zw++[a],p<E.length:=λp hp=>by
   obtain⟨u,_,hu⟩:=sU DQ hp;rw[zb.len];exact(glE hu)
  obtain⟨e,Np⟩:∃e,E[a]?=A? e:={_,Wv Qc};obtain⟨n,ids⟩:=e;obtain⟨kids,Nq,C2⟩:=zb.ent a _ Np;dsimp only at Nq C2;rw[Jo]at Nq;have Lo:x=.knot n kids:=WN Nq;have Gk:=S5 _ (Ww Np);dsimp only at Gk;obtain⟨b,hb,Lp⟩:=u! Lk Np;refine kZ ?_;have eb:H4 b=A? (.tup (.str n::ids.map nV)):=s4 _ _ Lp;have Nr:x∉L:=zJ x (Xc _ (WM ..))
  have zU:∀id u,Ts[id]?=A? u->(id∈FI↔u∈L):=λid u hu=>by
   constructor
   .intro h;obtain⟨y,hy,hf⟩:=sU Di h;rw[hu]at hf;cases hf;exact hy
   .intro h;obtain⟨j,hj,hf⟩:=ow Di h;rw[db zb.nd hu hf];exact hj
  have Fu:atI ((zw++[a]).map nV) (-1)=A? (nV a):=by
   rw[W3];exact sS _ _
  refine{_,E?,_,E?,1,E?,ah,_,_,nV a,E?,E?,l! Nn,Fu,ra,_,_,.ref b,E?,E?,l! (s4 _ _ era),at_nonneg (by lia) (by rw[WU,Wz,hb];rfl),?_};dsimp only[av];refine{_,E?,1,E?,b,_,E?,i! eb,?_,λp2 zt=>?_}
  .rintro⟨z,_⟩;rw[WV,show(1:Int)=((1:Nat):Int)by rfl,x!]at z;lia
  dsimp only;rw[cg];refine gU zt λH5 s5 e5=>?_;have Nt:=s5 _ _ Ll;refine{p2,E?,{_,i! e5},eL ids (λid=>decide (id∉FI)) nV (i! e5) (by rw[Wt]) (by rw[Wt];lia) (λi y z Hx R hy hz sx r=>?_) (λi y z Hx R hy hz _ sx r=>?_) (λD hD=>?_)}
  .rw[Wz,hz]at hy;cases hy;refine{_,E?,_,E?,fr,_,E?,DGet.k (k:=Xh ((z:Nat):Int)) (sx _ _ Nt),_,E?,?_};rw[pk];have:(!decide (z∈FI))=decide (z∉FI):=by by_cases h:z∈FI <;> simp[h]
   rw[this];exact r
  .rw[Wz,hz]at hy;cases hy;exact{_,E?,r}
  refine gU hD λH6 s6 e6=>?_;have AN:=s5.trans s6;have C3:=AN _ _ Nn;refine{_,E?,_,.inl {_,l! e6,E?},?_};refine fE (λc1=>?_) (λc1=>?_)
  .walk_at"a"
   obtain⟨c,Fv,Jq⟩:∃c Fv,(ids.filter λid=>decide (id∉FI))=c::Fv:=by
    cases hf:(ids.filter λid=>decide (id∉FI))with
    |nil=>rw[hf]at c1;cases c1
    |cons c r=>exact⟨c,r,E?⟩
   obtain⟨pre,rest,DS,Ag,S8,_⟩:=List.filter_eq_cons_iff.mp Jq;have Nu:c∉FI:=e! S8;rw[DS]at C2;obtain⟨k1,kc,k2,Jr,AL,⟨Eo,Qd⟩,zk⟩:=qH C2;refine kZ ?_;rw[Jq]at e6;refine{_,E?,.inl {E?,_,l! C3},_,E?,D,_,0,nV c,E?,E?,l! e6,at0,ah,_,_,E?,E?,C3,aT ?_,?_}
   .rw[Wt];have:=nZ Jl Jp;lia
   have Bi:∀u∈k1,u∈L:=λu hu=>by
    obtain⟨id,hid,hf⟩:=ow AL hu;have h1:id∈FI:=Decidable.byContradiction λz=>Ag id hid (d! z);exact(zU id u hf.2).mp h1
   have Nv:kc∉L:=λz=>Nu ((zU c kc Qd).mpr z);have s7:k! H (upd H6 ah (.lst ((zw++[a]).map nV++[nV c]))):=aM (s4.trans AN) Jk;refine{_,?_,zw++[a]++[c],FI,Jm++[x]++[kc],L,To,cs,_,_,E?,s7,by rw[aj Nk];exact AN _ _ Ll,by rw[aj AM];exact AN _ _ Nl,by rw[af,W3 (l₂:=[c])];rfl,r! (λe' b' h'=>?_) Ft,Em,Di,v! DQ (.cons Qd .nil),?_,Lm,?_,?_,E?}
   .rw[lX,lX];lia
   .have G2:H6 b'=A? (.tup (.str e'.1::e'.2.map nV)):=AN _ _ h';show(upd H6 ah _) b'=_;rw[aj (aF G2 C3 (by intro z;cases z))];exact G2
   .rw[YX,Zw,ZG,BB.finish,YX,Zw,ZG,BB.finish];rw[<-zS];congr 1;rw[<-uh Lm Em.nd (t:=x) (c:=kc) (pre:=k1) (rest:=k2) (by rw[Lo];exact Jr) Bi]
   .intro y hy;rcases WQ.mp hy with hy|hy
    .exact zJ y hy
    .rw[WG.mp hy];exact Nv
   .rw[ZQ];refine{Jl,List.pairwise_singleton ..,λp hp r hr=>?_};rw[WG.mp hr];rcases WQ.mp hp with hp|hp
    .have:=(ZQ.mp Jl).2.2 p hp a (WM ..);lia
    .rw[WG.mp hp];exact Eo
  .have yW:∀id∈ids,id∈FI:=λid hid=>Decidable.byContradiction λz=>by
    have hm:id∈ids.filter λid=>decide (id∉FI):=Yx.mpr {hid,d! z};cases hf:(ids.filter λid=>decide (id∉FI))with
    |nil=>rw[hf]at hm;cases hm
    |cons c r=>rw[hf]at c1;exact c1 rfl
   have S9:∀u∈kids,u∈L:=λu hu=>by
    obtain⟨id,hid,hf⟩:=ow C2 hu;exact(zU id u hf.2).mp (yW id hid)
   have Nw:a∉FI:=λz=>Nr ((zU a x Jo).mp z);have CG:post x L=L++[x]:=rD Lm (by rw[Lo];exact S9) Nr;walk_at"a";obtain⟨_,Js,_,_⟩:=gX x Lm Em.nd;rw[CG]at Js zS;obtain⟨js,Ep⟩:∃js,Xb (λid j=>FI[j]?=A? id) ids js:=yb λid hid=>WK.mp (yW id hid);refine kZ ?_;have Dd:ids.length=js.length:=WS Ep
   have VX:FI.length<=900000:=by
    have h1:=fC Em.nd (m:=Ts) λu hu=>by
     obtain⟨id,_,hid⟩:=ow Di hu;exact Ww hid
    have h2:=WS Di;have h3:=zb.len;lia
   have Jt:=AN _ _ Nl;have Nx:=AN _ _ Ll;refine{_,E?,tl,_,E?,.inl (l! Jt),_,E?,_,E?,.inl {E?,_,l! C3},ah,_,nV a,E?,E?,C3,by simp,?_};have d1:((zw++[a]).map nV).dropLast=zw.map nV:=by simp
   rw[d1];have Gm:(upd H6 ah (.lst (zw.map nV))) fr=A? (.dK (fkv FI)):=by rw[aj Nk];exact Nx
   have Ju:(upd H6 ah (.lst (zw.map nV))) ah=A? (.lst (zw.map nV)):=af;have Jv:(upd H6 ah (.lst (zw.map nV))) tl=A? (.lst (cs.map j!)):=by rw[aj AM];exact Jt
   have s7:k! H (upd H6 ah (.lst (zw.map nV))):=aM (s4.trans AN) Jk;have k7:KT H4 (upd H6 ah (.lst (zw.map nV))):=(n! AN).trans (cK C3);generalize(upd H6 ah (.lst (zw.map nV)))=H7 at Gm Ju Jv s7 k7 |-;refine{fr,_,E?,DPut.k (k:=Xh ((a:Nat):Int)) Gm (aT (by rw[uN];lia)),?_};rw[(jj (uA Nw)).2];have hv:o! ((cs.map j!).length:Nat)=o! (FI.length:Nat):=by rw[Wt,<-S6,Ln,S7]
   rw[hv,<-tZ];have Gn:(upd H7 fr (.dK (fkv (FI++[a])))) fr=A? (.dK (fkv (FI++[a]))):=af;have Jw:(upd H7 fr (.dK (fkv (FI++[a])))) ah=A? (.lst (zw.map nV)):=by rw[aj Nk.symm];exact Ju
   have Gp:(upd H7 fr (.dK (fkv (FI++[a])))) tl=A? (.lst (cs.map j!)):=by rw[aj Qb.symm];exact Jv
   have s8:k! H (upd H7 fr (.dK (fkv (FI++[a])))):=aM s7 EK;have k8:KT H7 (upd H7 fr (.dK (fkv (FI++[a])))):=λb' ys e=>by rw[aj (aF e Gm (by intro z;cases z))];exact e
   generalize(upd H7 fr (.dK (fkv (FI++[a]))))=H8 at Gn Jw Gp s8 k8 |-;have Qe:=k7.trans k8;have Qf:=Qe _ _ eb;dsimp only;refine{_,E?,.inl {E?,_,l! Gp},_,E?,1,E?,b,_,E?,Qf,λp3 H9 s9 e9=>?_};rw[qB]at e9;have Ta:=s9 _ _ Qf;refine{_,E?,1,E?,b,_,E?,i! Ta,?_,λp4 Fs=>?_}
   .rintro⟨z,_⟩;rw[WV,show(1:Int)=((1:Nat):Int)by rfl,x!]at z;lia
   dsimp only;rw[cg];refine gU Fs λHA sA eA=>?_;have Ny:=(s9.trans sA) _ _ Gn;refine{p4,E?,{_,i! eA},eL (ids.zip js) (λ_=>C?) (λz=>nV z.2) (i! eA) (by rw[Z6,Wt];lia) (by rw[Wt];lia) (λi y z Hx R hy hz sx r=>r) (λi y z Hx R hy hz _ sx r=>?_) (λD2 Gq=>?_)}
   .obtain⟨h1,h2⟩:=Yq.mp hz;rw[Wz,h1]at hy;cases hy;have hF:=iu Ep h1 h2
    have Gr:bC (fkv (FI++[a])) (Xh ((z.1:Nat):Int):Key)=A? (nV z.2):=by
     cases Jx:bC (fkv (FI++[a])) (Xh ((z.1:Nat):Int):Key)with
     | none =>
       have:=(jj Jx).1;exact g! (WX _ (Ww hF)) this
     | some u =>
       obtain⟨j0,rfl,CH⟩:=i8 Jx
       have Fp:j0<FI.length:=by
        rcases Nat.lt_or_ge j0 FI.length with h|h
        .exact h
        .rw[Xu h]at CH
         have h0:j0 - FI.length=0:=by
          have:=(glE CH);simp at this;lia
         rw[h0]at CH;have e0:a=z.1:=WN CH;exact g! (e0 ▸ Ww hF) Nw
       rw[Xk Fp]at CH;obtain⟨u1,Tc,Td⟩:=u! Di CH;obtain⟨u2,Te,Qg⟩:=u! Di hF;rw[Td]at Qg;cases Qg;rw[db Em.nd Tc Te];rfl
    refine{_,E?,_,E?,fr,_,E?,?_,r};rw[<-Gr];exact DGet.k (k:=Xh ((z.1:Nat):Int)) (sx _ _ Ny)
   rw[filter_tt]
   have Tf:(ids.zip js).map (λz=>nV z.2)=js.map nV:=by
    have:(ids.zip js).map (λz=>nV z.2)=((ids.zip js).map (·.2)).map nV:=by rw[Xg];rfl
    rw[this,List.map_snd_zip (by lia)]
   rw[Tf];refine gU Gq λHB sB eB=>?_;refine{D2,_,E?,.inl {l! eB,λp6 Hm=>?_}};refine gU Hm λHC sC eC=>?_;have Qh:=sA.trans (sB.trans sC);refine oq (Qh _ _ e9) eC (by rw[Wt];show 1+js.length<=1000000;lia) λp7 HD sD eD=>?_;have Jy:=s9.trans (Qh.trans sD);have Jz:=Jy _ _ Gp;refine{tl,_,_,E?,E?,Jz,lbE (by lia),?_};have kE:KT HD (upd HD tl (.lst (cs.map j!++[.ref p7]))):=cK Jz
   have CF:Xb (λj u=>L[j]?=A? u) js kids:=by
    refine dz (by rw[<-Dd];exact WS C2) λi j u hj hu=>?_;obtain⟨id,hid,Nz⟩:=w! C2 hu;obtain⟨u',DH,Df⟩:=u! Di (iu Ep hid hj);rw[Nz.2]at Df;cases Df;exact DH
   have NA:(n,js)∉To:=λz=>by
    obtain⟨i,hi⟩:=WK.mp z;have:=Em.found hi CF;rw[<-Lo]at this;exact Nr (Ww this)
   have B3:=Em.snoc NA CF;rw[<-Lo]at B3;refine{_,?_,zw,FI++[a],Jm,L++[x],To++[(n,js)],cs++[p7],_,_,E?,aM (s8.trans Jy) Nj,by rw[aj Qb];exact Jy _ _ Gn,uAE,by rw[aj AM.symm];exact Jy _ _ Jw,?_,B3,v! Di (.cons Jo .nil),Jn,zS,Js,?_,(ZQ.mp Jl).1,E?}
   .have h1:=xl (N:=E.length) (F:=FI) Qc Nw;have h2:=uy (as:=zw) (N:=E.length) λp hp=>Jp p (WX _ hp);have h3:(unt E.length (FI++[a])+1) * (E.length+1)<=unt E.length FI * (E.length+1):=Zd _ h1;rw[Nat.add_mul,Nat.one_mul]at h3;lia
   .refine v! (r! (λe' b' h'=>?_) Ft) (.cons ?_ .nil)
    .exact(Qe.trans ((n! Jy).trans kE)) _ _ h'
    .exact kE _ _ eD
   .intro y hy Tg;rcases WQ.mp Tg with h|h
    .exact zJ y (WX _ hy) h
    .rw[WG.mp h]at hy;obtain⟨id,hid,hf⟩:=ow Jn hy;have:=db zb.nd hf Jo;have:=(ZQ.mp Jl).2.2 id hid a (WM ..);lia
 .have hz:as=[]:=by
   cases as with
   |nil=>rfl
   |cons y ys=>simp at cc
  subst hz;have NB:xs=[]:=YQ.mp (WS DQ).symm;subst NB;have hL:L=post t []:=zS;subst hL;walk_at"a";obtain⟨_,_,_,Ti⟩:=gX t (L:=[]) (λu hu=>by cases hu) Y4;obtain⟨ix,AS⟩:=WK.mp Ti;obtain⟨id,hid,JA⟩:=w! Di AS;refine kZ ?_;have NC:=db zb.nd JA zQ;subst NC;refine{_,E?,tl,_,E?,.inl {l! Nl,λtp Bq=>?_}};have s5:=ao Bq (.tup (cs.map j!))
  have Gr:bC (fkv FI) (Xh ((id:Nat):Int):Key)=A? (nV ix):=by
   cases Jx:bC (fkv FI) (Xh ((id:Nat):Int):Key)with
   |none=>exact g! (Ww hid) (jj Jx).1
   | some u =>
     obtain⟨j0,rfl,CH⟩:=i8 Jx;obtain⟨u',DH,Df⟩:=u! Di CH;rw[JA]at Df;cases Df;rw[db Em.nd DH AS];rfl
  refine{_,E?,_,E?,fr,nV ix,E?,?_,lnE rfl,λr BO=>?_}
  .rw[<-Gr];exact DGet.k (k:=Xh ((id:Nat):Int)) (s5 _ _ Ll)
  have s6:=s5.trans (ao BO (.tup [.ref tp,nV ix]));exact q r tp cs To ix _ (s4.trans s6) af (ao BO _ _ _ af) (r! (λe' b' h'=>s6 _ _ h') Ft) Em AS
inductive ir(vs:List V)(H:Hp)(Q:VK)(_E:XK):Prop
 |mk (a:Wx) (t:Th):vs=[.ref a]->At H t a->(∀p∈t.walk,p.isCall=D?)->t.size<=100000->(∀(r tp:Wx)(cs:List Wx)(To:List (W8×List Nat))(ix:Nat)(H':Hp),k! H H'->H' r=A? (.tup [.ref tp,.int (ix:Nat)])->H' tp=A? (.tup (cs.map j!))->Xb (EnA H') To cs->Cl To (post t [])->(post t [])[ix]?=A? t->Q (.ref r) H')->ir  vs H Q _E
theorem nn:∀{ts:List Th}{as:List Wx},Xb (At H) ts as->Ats H ts as
 |_,_,.nil=>.nil
 |_,_,.cons h t=>.cons h (nn t)
theorem sG{E:List (W8×List Nat)}{bs:List Wx}(h:Xb (λ(kv:List Key×V)b=>H b=A? (.tup (kv.1.map kV))) (kvsOf E) bs):Xb (EnA H) E bs:=by
 refine dz (by rw[<-fG];exact WS h) λj e b he hb=>?_
 have hk:(kvsOf E)[j]?=A? (dW e,o! (j:Nat)):=by
  unfold kvsOf;rw[Wz,List.getElem?_zipIdx,he];simp
 have:=iu h hk hb;dsimp only at this;rw[show e=(e.1,e.2)from rfl,lC]at this;exact this
theorem lK:bv P w K mg base CX0 3 T.g_9.f T.g_9.d ["tree"] ir:=by
 refine T.g_9.F.okA eZ λy9 A outer s H vs Q E hr h=>?_;obtain⟨a,t,rfl,hA,zJ,hsz,q⟩:=h
 refine{_,(ad (am 1 eZ.nd dI)
  (ad (am 2 eZ.nd (pcF T.g_7 (pZ T) hr (aa (pv 1) (aa (pcF T.g_1 (rK T) hr (aa (pv 0) ae)) (aa dI ae)))))
  (ak (aD (pcF T.g_8 (oM T) hr (aa (bR (lD rfl) rfl T.n_2 PyProof.Rows.boot_list (aa (pv 1) ae)) (aa (pv 2) ae))))))),?_}
 try dsimp only[zu,yX]
 intro en Ej;dsimp only[av];refine gU Ej λH1 s1 e1=>?_;have e1:H1 en=A? (.dT (kvsOf [])):=e1;refine{_,E?,_,E?,a,t,E?,hA.mono (n! s1),hsz,λr as H2 s2 nr er hw=>?_};intro nu NF;dsimp only;refine gU NF λH3 s3 e3=>?_;have Qi:=s2.trans s3;have zg:nu≠en:=λz=>by rw[z,s2 _ _ e1]at NF;cases NF
 refine{en,r,nu,as,t,[],[],[],t!,t.walk.map (·.fill t!),E?,Qi _ _ e1,{E?,Y4,λi e h=>by simp at h},(λe he=>by cases he),s3 _ _ er,hw.mono (n! s3),e3,zg,λs k hm=>(by have:=zJ _ hm;cases this),hsz,(λu hu=>by cases hu),λn ks hm=>WY.mpr {_,hm,rfl},by rw[Wt,t.walk_len];lia,λE Ts at' H4 k4 e4 zb _ AA zQ Gi=>?_};rw[qO]at zQ;have s4:k! H H4:=λb o e=>k4 b o (aq e Ej) (Qi b o (s1 b o e));refine{_,E?,en,_,E?,e4,λl bs hl Lk=>?_};dsimp only;refine gU hl λH5 s5 e5=>?_
 have Lg:E.length<=900000:=by
  rw[zb.len];exact XB (fC zb.nd AA) (by rw[Wt,t.walk_len];lia)
 refine{_,E?,l,at',bs,E,Ts,t,E?,e5,r! (λe' b' h'=>s5 _ _ h') (sG Lk),zb,zQ,Lg,Gi,λr' tp cs To ix H6 s6 h1 h2 h3 h4 h5=>?_};exact q r' tp cs To ix H6 (s4.trans (s5.trans s6)) h1 h2 h3 h4 h5
inductive jN(vs:List V)(H:Hp)(Q:VK)(_E:XK):Prop
 |mk (pa rt:Wx) (n:Nat) (p u:Th) (cs:List Wx) (To:List (W8×List Nat)) (Ls:List Th) (ar:W8->Nat):vs=[.ref pa,.ref rt,.int (n:Nat)]->At H p pa->H rt=A? (.tup (cs.map j!))->Xb (EnA H) To cs->Cl To Ls->Ls[n]?=A? u->Ars ar p->(∀t∈Ls,Ars ar t)->p.size<=10000->(∀H',k! H H'->(∀g,p.fill g≠u)->Q .non H')->(∀(d:Wx)(es:CLs)(H':Hp),k! H H'->H d=B?->H' d=A? (.dT (dE es))->mP Ls p u es->Q (.ref d) H')->jN  vs H Q _E
theorem oF:bv P w K mg base CX0 2 T.g_10.f T.g_10.d ["pattern","row","number"] jN:=by
 refine T.g_10.F.okA dG λy9 A outer s H vs Q E hr h=>?_;obtain⟨pa,rt,n,p,u,cs,To,Ls,ar,rfl,hA,NG,Ft,zb,hn,Tj,Tn,hsz,q1,q2⟩:=h
 refine{_,(ad (am 3 dG.nd dI)
  (ad (am 4 dG.nd (bE (aa (bg (aa (pv 0) (aa (pv 2) ae))) ae)))
  (ad (jd Xd (cP (pv 4) (λ_=>rfl)) (ad (jm (lb W7 ZF ZE lm (pv 4)) (cb rfl (aA (pgN 5 dG.nd) (aA (pgN 6 dG.nd) bK))))
  (ak (bI (cP (pcF T.g_2 (kg T) hr (aa (pv 5) ae)) (λ_=>rfl)) (ak (bI (aG uj (cn PySem.F.plainAttrs_dict PySem.F.slot_dict_setdefault PySem.F.type_dict_setdefault (io (cm hr)) (pv 3) (aa (pcF T.g_3 (iM T) hr (aa (pv 5) ae)) (aa (pv 6) ae))) (pv 6) (aO _)) (ak (aD m8)) aW)) (ak (bI (aG uj (aw ax (pv 5) ac (λ_ _=>rfl)) (aw ax (aw ax (pv 1) (pv 6) (λ_ _=>rfl)) ac (λ_ _=>rfl)) (aO _)) (ak (aD m8)) (ak (aV (cn W7 Z1 Z0 jo (pv 4) (aa (pX rfl rfl T.n_2 rfl T.n_9 (aa (aN cL (pv 5) (aY ac) bi) (aa (aN cL (aw ax (pv 1) (pv 6) (λ_ _=>rfl)) (aY ac) bi) ae))) ae))))))))))
  (ak (aD (pv 3)))))),?_}
 try dsimp only[zu,yX]
 intro d hd;dsimp only[av];refine gU hd λH1 s1 e1=>?_;have e1:H1 d=A? (.dT (dE [])):=e1;refine{_,E?,_,E?,lnE rfl,λt0 Er=>{lnE rfl,λal Aj=>?_}};have Cd:d≠al:=λz=>by rw[<-z,(ao Er _) _ _ e1]at Aj;cases Aj
 have s2:k! H (upd (upd H1 t0 (.tup [.ref pa,.int (n:Nat)])) al (.lst [.ref t0])):=s1.trans ((ao Er _).trans (ao Aj _));have Qj:(upd (upd H1 t0 (.tup [.ref pa,.int (n:Nat)])) al (.lst [.ref t0])) d=A? (.dT (dE [])):=(ao Aj _) _ _ ((ao Er _) _ _ e1);have Hn:(upd (upd H1 t0 (.tup [.ref pa,.int (n:Nat)])) al (.lst [.ref t0])) t0=A? (.tup [.ref pa,.int (n:Nat)]):=(ao Aj _) _ _ af;have Qk:(upd (upd H1 t0 (.tup [.ref pa,.int (n:Nat)])) al (.lst [.ref t0])) al=A? (.lst (([t0]:List Wx).map j!)):=af
 have JB:H al=none:=by
  cases z:H al with
  |none=>rfl
  |some o=>rw[(ao Er _) _ _ (s1 _ _ z)]at Aj;cases Aj
 generalize(upd (upd H1 t0 (.tup [.ref pa,.int (n:Nat)])) al (.lst [.ref t0]))=H2 at s2 Qj Hn Qk |-
 refine{λm σ H3=>Ex5 λ(as:List Wx)(As:List (Th×Nat))(es:CLs)(c5 c6:Option V)=>An8 (σ=[A? (.ref pa),A? (.ref rt),A? (.int (n:Nat)),A? (.ref d),A? (.ref al),c5,c6]) (k! H H3) (H3 al=A? (.lst (as.map j!))) (H3 d=A? (.dT (dE es))) (Xb (NdAt H3) As as) (NeedI Ls p u es As) (es.length+au (As.map (·.1))<=10000) (m=au (As.map (·.1))),
  {_,[t0],[(p,n)],[],B?,B?,E?,s2,Qk,Qj,.cons {pa,Hn,hA.mono (n! s2)} .nil,NeedI.start hn,?_,E?},?_}
 .show 0+au [p]<=10000;rw[au,au];lia
 rintro m σ H3 ⟨as,As,es,c5,c6,rfl,s3,ea,ed,Lq,hN,JC,rfl⟩;have hlen:As.length=as.length:=WS Lq;have NH:=iF (As.map (·.1));rw[Wt]at NH;refine{_,E?,_,.inl {_,l! ea,E?},?_};refine fE (λc=>?_) (λc=>?_)
 .refine{_,λi' H' h=>h,?_};have AV:as≠[]:=by intro z;subst z;simp at c
  walk_at"a";obtain⟨zw,b,rfl⟩:∃zw b,as=zw++[b]:={as.dropLast,as.getLast AV,(YS AV).symm};obtain⟨JD,⟨part,w⟩,rfl,NI,pb,eb,Ql⟩:=P2.snoc_inv Lq;refine kZ ?_;dsimp only at eb Ql;rw[W3,cq]at JC |-;have JE:au ((([(part,w)]:List (Th×Nat))).map (·.1))=part.size:=by show au [part]=_;rw[au,au];lia
  rw[JE]at JC |-;have AW:=part.size_eq;refine{_,E?,.inl {E?,_,l! ea},al,_,.ref b,E?,E?,ea,by simp,b,_,E?,i! ((aj (aF eb ea (λz=>nomatch z))).trans eb),E?,_,_,E?,_,_,E?,E?,?_};dsimp only[av];have Fq:((zw++[b]).map j!).dropLast=zw.map j!:=by simp
  rw[Fq];have k4:KT H3 (upd H3 al (.lst (zw.map j!))):=cK ea;have s4:k! H (upd H3 al (.lst (zw.map j!))):=aM s3 JB;have DV:(upd H3 al (.lst (zw.map j!))) d=A? (.dT (dE es)):=(aj Cd).trans ed;have Ho:(upd H3 al (.lst (zw.map j!))) al=A? (.lst (zw.map j!)):=af;have VY:∀b,H b=B?->b≠al->b≠d->True:=λ_ _ _ _=>trivial;generalize(upd H3 al (.lst (zw.map j!)))=H4 at k4 s4 DV Ho |-;have Fs:=Ql.mono k4;have NJ:=r! (λa' b' h'=>NdAt.mono k4 h') NI;refine{_,E?,pb,part,E?,Fs,_,E?,?_};cases part with
  | call sn kn =>
    rw[show(t! sn kn).isCall=C? from rfl];refine dY ?_;refine{_,E?,.inr (.inr (.inl {E?,.inr {_,DV}})),_,E?,pb,sn,kn,E?,Fs,λcc Ez=>{_,E?,?_}};refine gU Ez λH5 s5 NK=>?_;have NK:H5 cc=A? (.tup ((ky (sn,kn)).map kV)):=NK;have Qm:=r! (λa' b' h'=>NdAt.mono (n! s5) h') NJ;have BX:(dE es).length=es.length:=by unfold dE;rw[Wt]
    refine{d,cc,.int (w:Nat),ky (sn,kn),dE es,E?,E?,s5 _ _ DV,NK,aT (by lia),λu' hu=>?_,λhu=>?_}
    .rw[fU]at hu;obtain⟨v,hv,rfl⟩:=W4.mp hu;refine{_,E?,E?,_,E?,?_};by_cases z:v=(w:Int)
     .subst z;rw[d! rfl];refine cV {_,?_,zw,JD,es,_,_,rfl,s4.trans s5,s5 _ _ Ho,s5 _ _ DV,Qm,hN.same hv,by lia,rfl};lia
     .rw[c! (λy=>z (V.int.inj y))];refine dY ?_;exact q1 _ (s4.trans s5) (hN.clash zb.nd hv z)
    .rw[fU]at hu
     have hv:cQ es (sn,kn)=none:=by
      cases z:cQ es (sn,kn)with
      |none=>rfl
      |some v=>rw[z]at hu;cases hu
     refine{_,E?,E?,_,E?,?_};rw[d! rfl,kf];have k6:KT H5 (upd H5 d (.dT (dE (dS es (sn,kn) (w:Int))))):=λb xs e=>by rw[aj (aF e (s5 _ _ DV) (λz=>nomatch z))];exact e
     have Qn:=lf es (sn,kn) (w:Int);refine cV {_,?_,zw,JD,dS es (sn,kn) (w:Int),_,_,rfl,aM (s4.trans s5) hd,(aj Cd.symm).trans (s5 _ _ Ho),af,r! (λa' b' h'=>NdAt.mono k6 h') Qm,hN.put hv,by lia,rfl};lia
  | knot nm ks =>
    rw[show(p! nm ks).isCall=D? from rfl];refine cV ?_;have hw:=hN.ix (.knot nm ks,w) (by simp);dsimp only at hw;walk_at"a";obtain⟨e0,G3⟩:∃e0,To[w]?=A? e0:={_,Wv (by rw[zb.len];exact hw)};obtain⟨NL,ids⟩:=e0;obtain⟨kids,Lr,JF⟩:=zb.ent w _ G3;dsimp only at Lr JF;have C2:Xb (λid u=>Ls[id]?=A? u) ids kids:=r! (λ_ _ h'=>h'.2) JF;obtain⟨ca,Eo,F1⟩:=u! Ft G3;have Tp:H ca=A? (.tup (.str NL::ids.map nV)):=F1;have JG:=s4 _ _ Tp;have JH:=s4 _ _ NG;rw[At]at Fs;obtain⟨Jj,z8,Qo,JI⟩:=Fs;refine kZ ?_;refine{_,E?,pb,_,0,.str nm,E?,E?,i! Qo,at0,_,E?,_,E?,rt,_,(w:Int),.ref ca,E?,E?,i! JH,bp (j:=w) (gmE Eo),ca,_,0,.str NL,E?,E?,i! JG,at0,E?,_,E?,?_};by_cases Cg:nm=NL
    .subst Cg;rw[d! rfl];refine cV ?_
     have zP:ks.length=kids.length:=by
      have AR:=hN.sub (.knot nm ks,w) (by simp);have h1:=Tj nm ks (AR _ (by show _∈(p! nm ks).walk;rw[E!];exact WM ..));have h2:=(Tn _ (Ww Lr)).len;lia
     refine{_,E?,.inl {E?,_,l! Ho},?_}
     have hx:∀(x:V)(l:List V),¬(q! (x::l).length 0 (A? 1)=0/\q! (x::l).length (x::l).length B?=(x::l).length):=λx l z=>by
      have:=z.1;simp[q!]at this
     refine{_,E?,1,E?,pb,_,E?,i! Qo,hx _ _,λr1 JJ=>?_};rw[cg];refine gU JJ λH5 s5 NM=>?_;refine{_,E?,_,E?,rt,_,(w:Int),.ref ca,E?,E?,i! (s5 _ _ JH),bp (j:=w) (gmE Eo),1,E?,ca,_,E?,i! (s5 _ _ JG),hx _ _,λr2 Tq=>?_};rw[cg];refine gU Tq λH6 s6 Hq=>?_;refine{r1,r2,_,_,E?,i! (s6 _ _ NM),i! Hq,λl ts H7 s7 nl el AX=>?_};have ET:=s5.trans (s6.trans s7);have Qp:=ET _ _ Ho;have VZ:al≠l:=λz=>by rw[<-z,s6 _ _ (s5 _ _ Ho)]at nl;cases nl
     have zl:=WS AX;have Qq:=JI.length;have Gk:ids.length=kids.length:=WS C2;rw[Z6,Wt,Wt]at zl;have V0:=iF ks;refine{al,l,_,_,E?,E?,Qp,el,Yj (aT ?_),?_}
     .have h1:=iF (JD.map (·.1));rw[Wt]at h1;have h2:JD.length=zw.length:=WS NJ;have h3:(p! nm ks).size=au ks+1:=by rw[L!]
      rw[Wt,Wt];lia
     have k8:KT H7 (upd H7 al (.lst (zw.map j!++ts.map j!))):=cK Qp;have hz:au ((ks.zip ids).map (·.1))=au ks:=mz ks ids (by lia);have h3:(p! nm ks).size=au ks+1:=by rw[L!]
     refine{_,?_,zw++ts,JD++ks.zip ids,es,_,_,E?,aM (s4.trans ET) JB,by rw[af,W3],(aj Cd).trans (ET _ _ DV),v! (r! (λa' b' h'=>NdAt.mono ((n! ET).trans k8) h') NJ) (dz (by rw[Z6];lia) λj a b ha hb=>?_),hN.knot Lr C2 zP,?_,E?}
     .rw[W3,cq,hz];lia
     .walk_at"a";obtain⟨t1,i1⟩:=a;obtain⟨h4,h5⟩:=Yq.mp ha;obtain⟨ka,zZ,Tr⟩:=JI.at h4;refine kZ ?_;refine{ka,k8 _ _ ?_,Tr.mono ((n! ET).trans k8)};exact iu AX (x:=(j! ka,nV i1)) (Yq.mpr {by rw[Wz,zZ];rfl,by rw[Wz,h5];rfl}) hb
     .rw[W3,cq,hz];lia
    .rw[c! (λy=>Cg (V.str.inj y))];refine dY ?_;exact q1 _ s4 (hN.other Lr Cg)
 .have has:as=[]:=by
   cases as with
   |nil=>rfl
   |cons b as=>simp at c
  subst has
  have Tt:As=[]:=by
   cases As with
   |nil=>rfl
   |cons a As=>simp at hlen
  subst Tt;exact{_,E?,q2 d es H3 s3 hd ed hN.done}
inductive fb(vs:List V)(H:Hp)(Q:VK)(_E:XK):Prop
 |mk (d ka:Wx) (b n:Int) (ks:List Nat) (D:List Cand):vs=[.ref d,.int b,.int n,.ref ka]->dN H d D->(D.map (·.b)).Nodup->H ka=A? (.tup (ks.map nW))->D.length<1000000->(∀(H':Hp)(D':List Cand),SameB d H H'->dN H' d D'->Kept D ⟨b,n,ks⟩ D'->Q .non H')->fb  vs H Q _E
theorem hV:bv P w K mg base CX0 1 T.g_11.f T.g_11.d ["rows","bits","knots","kids"] fb:=by
 refine T.g_11.F.okA lT λy9 A outer s H vs Q E hr h=>?_;obtain⟨d,ka,b,n,ks,D,rfl,⟨kvs,ed,hD⟩,Bu,zE,hl,q⟩:=h;refine{_,(ak (bI (PW.pt (oY (iH (dv (cm hr) (pv 1) (pv 0))) (li (aG fZ (pv 2) (aw ax (dF (cm hr) (pv 0) (pv 1) (λ_ _=>rfl)) ac (λ_ _=>rfl)) (aO _))))) (ak (fV (cm hr) (pv 0) (pv 1) (bg (aa (pv 2) (aa (pv 3) ae))) rfl)) aW)),?_}
 try dsimp only[zu,yX]
 have zP:D.length=kvs.length:=WS hD;have zO:=lY hD
 have Lu:(kvs.map (·.1)).Nodup:=by
  rw[zO];have:=mr Bu;rw[Xg]at this;exact this
 have put:∀D',(∀p,H p=B?->Xb (RowE (upd (upd H p (.tup [.int n,.ref ka])) d (.dK (putK kvs (Xh b) (.ref p))))) D' (putK kvs (Xh b) (.ref p)))->Kept D ⟨b,n,ks⟩ D'->∀p,H p=B?->Q .non (upd (upd H p (.tup [.int n,.ref ka])) d (.dK (putK kvs (Xh b) (.ref p)))):=λD' h1 h2 p hp =>
  q _ D' (λc u hc e=>by rw[aj hc,aj (aq e hp)];exact e) {_,af,h1 p hp} h2
 have kt:∀p,H p=B?->KT H (upd (upd H p (.tup [.int n,.ref ka])) d (.dK (putK kvs (Xh b) (.ref p)))):=λp hp c xs e=>by
  rw[aj (aF e ed (λz=>nomatch z)),aj (aq e hp)];exact e
 have ent:∀p,H p=B?->RowE (upd (upd H p (.tup [.int n,.ref ka])) d (.dK (putK kvs (Xh b) (.ref p)))) ⟨b,n,ks⟩ (Xh b,.ref p):=λp hp=>by
  have Le:p≠d:=λz=>by rw[z,ed]at hp;cases hp
  exact{E?,p,ka,E?,(aj Le).trans af,kt p hp _ _ zE}
 have pd:∀p,H p=B?->(upd H p (.tup [.int n,.ref ka])) d=A? (.dK kvs):=λp hp=>by rw[aj (aq ed hp)];exact ed
 have zU:∀v,bC kvs (Xh b)=A? v->∃(i:Nat)(e:Cand),kvs[i]?=A? (Xh b,v)/\D[i]?=A? e/\e.b=b/\∃a Lw,v=.ref a/\H a=A? (.tup [.int e.n,.ref Lw]):=λv hv=>by
  obtain⟨i,hi⟩:=WK.mp (nw hv);obtain⟨e,he,h1,a,Lw,h2,h3,_⟩:=w! hD hi;exact{i,e,hi,he,(Sum.inl.inj h1).symm,a,Lw,h2,h3}
 have CZ:(bC kvs (Xh b)=B?\/∃(i:Nat)(e:Cand)(v:V),kvs[i]?=A? (Xh b,v)/\D[i]?=A? e/\e.b=b/\n<=e.n)->∀p,H p=B?->Q .non (upd (upd H p (.tup [.int n,.ref ka])) d (.dK (putK kvs (Xh b) (.ref p)))):=λh p hp=>by
  rcases h with h|⟨i,e,v,h1,h2,h3,h4⟩
  .have hk:=lz h
   have hb:b∉D.map (·.b):=λz=>hk (by
    rw[zO];obtain⟨c,hc,e⟩:=WY.mp z;exact WY.mpr {c,hc,by rw[e]})
   refine put (D++[⟨b,n,ks⟩]) (λp hp=>?_) {by rw[WL];exact WD _,λS hS=>hS.add hb} p hp;have:=ent p hp;have k1:=kt p hp;rw[oC hk]at this k1 |-;exact v! (r! (λ_ _ h=>h.mono k1) hD) (.cons this .nil)
  .refine put (D.set i ⟨b,n,ks⟩) (λp hp=>?_) {by rw[YR];lia,λS hS=>hS.set h2 h3 h4} p hp;have:=ent p hp;have k1:=kt p hp;rw[oW Lu h1]at this k1 |-;exact vW (r! (λ_ _ h=>h.mono k1) hD) i this
 have done:(bC kvs (Xh b)=B?\/∃(i:Nat)(e:Cand)(v:V),kvs[i]?=A? (Xh b,v)/\D[i]?=A? e/\e.b=b/\n<=e.n)->∀p,H p=B?->∃a H4,j! d=.ref a/\DPut (upd H p (.tup [.int n,.ref ka])) a (.int b) (.ref p) H4/\Q .non H4:=λh p hp=>{d,_,rfl,DPut.k (k:=Xh b) (pd p hp) (aT (by lia)),CZ h p hp};refine{_,E?,_,E?,d,_,E?,DGet.k (k:=Xh b) ed,_,E?,?_};cases hv:bC kvs (Xh b)with
 |none=>exact dY (dY {_,rfl,_,rfl,lnE rfl,λp hp=>{_,rfl,_,rfl,done (.inl hv) p hp}})
 | some v =>
   refine cV ?_;walk_at"a";obtain⟨i,e,h1,h2,h3,a,Lw,rfl,h4⟩:=zU v hv;refine kZ ?_;refine{_,E?,_,E?,_,E?,d,_,E?,by rw[<-hv];exact DGet.k (k:=Xh b) ed,a,_,0,.int e.n,E?,E?,i! h4,at0,_,_,E?,E?,_,E?,?_};by_cases yY:n<e.n
   .rw[d! yY];exact dY {_,rfl,_,rfl,lnE rfl,λp hp=>{_,rfl,_,rfl,done (.inr {i,e,_,h1,h2,h3,by lia}) p hp}}
   .rw[c! yY];refine cV (q H D M! ⟨kvs,ed,hD⟩ {by lia,λS hS=>hS.keep (Ww h2) h3 (by show e.n<=n;lia)})
inductive jx(vs:List V)(H:Hp)(Q:VK)(_E:XK):Prop
 |mk (d ag sz nl:Wx) (A Z:List Int) (ns:List Nat) (D:List Cand):vs=[.ref d,.ref ag,.ref sz,.ref nl]->dN H d D->H ag=A? (.lst (A.map o!))->H sz=A? (.lst (Z.map o!))->H nl=A? (.lst (ns.map nW))->(∀n∈ns,n<A.length/\n<Z.length)->D.length * ns.length<=900000->(∀e∈D,e.ks.length<=10)->(∀(r:Wx)(H':Hp)(D':List Cand),k! H H'->H r=B?->dN H' r D'->D'.length<=D.length * ns.length->Least (λx=>∃e∈D,∃n∈ns,x=e.ext A Z n) D'->Q (.ref r) H')->jx  vs H Q _E
theorem rR:bv P w K mg base CX0 2 T.g_12.f T.g_12.d ["rows","agreeing","sizes","numbers"] jx:=by
 refine T.g_12.F.okA d8 λy9 A outer s H vs Q E hr h=>?_;obtain⟨d,ag,sz,nl,A,Z,ns,D,rfl,⟨kvs,ed,hD⟩,Qr,Hr,Br,Ah,hlen,zO,q⟩:=h
 refine{_,(ad (am 4 d8.nd kO)
  (ad (gW (bj Xd rfl (kU (pv 0)) (cb rfl (aA (pgN 5 d8.nd) (aA (cb rfl (aA (pgN 6 d8.nd) (aA (pgN 7 d8.nd) bK))) bK))) (ak (bj Xd rfl (bz (pv 3)) (pgN 8 d8.nd) (ak (aV (pcF T.g_11 (hV T) hr (aa (pv 4) (aa (ay p8 (pv 5) (aw aS (pv 1) (pv 8) (λ_ _=>rfl))) (aa (ay bG (pv 6) (aw aS (pv 2) (pv 8) (λ_ _=>rfl))) (aa (ay dR (pv 7) (bg (aa (pv 8) ae))) ae)))))))))))
  (ak (aD (pv 4))))),?_}
 try dsimp only[zu,yX]
 intro td EV;dsimp only[av];refine gU EV λH1 s1 e1=>?_;have Fn:td≠d:=λz=>by rw[z,ed]at EV;cases EV
 have De:D.length=kvs.length:=WS hD;have Qs:∀{H3:Hp},SameB d H H3->KT H H3:=λ{H3}s b xs e=>s b _ (aF e ed (λz=>nomatch z)) e;refine{_,E?,d,kvs,E?,s1 _ _ ed,λo=>?_}
 refine jv (a:=d) (o:=o) (kvs:=kvs) (λi σ H3=>Ex5 λ(c5 c6 c7 c8:Option V)(Dt:List Cand)=>An6 (σ=[A? (.ref d),A? (.ref ag),A? (.ref sz),A? (.ref nl),A? (.ref td),c5,c6,c7,c8]) (SameB d H H3) (H3 d=A? (.frz o (.dK kvs))) (dN H3 td Dt) (Dt.length<=i * ns.length) (Least (λx=>∃e∈D.take i,∃n∈ns,x=e.ext A Z n) Dt))
  {B?,B?,B?,B?,[],rfl,λb u hb e=>by rw[aj hb];exact s1 _ _ e,af,{[],(aj Fn).trans e1,.nil},Xo _,?_} (λi σ H3 _⟨_,_,_,_,_,_,_,e,_,_,_⟩=>e) ?_ ?_
 .refine Least.nil.congr λc=>{λz=>z.elim,λ⟨e,he,_⟩=>?_};rw[YM]at he;cases he
 .rintro i kv p σ H3 An hp ⟨c5,c6,c7,c8,Dt,rfl,s3,AY,⟨kt,NN,Gs⟩,C4,hle⟩;walk_at"a";obtain⟨e,he,AL,a,ka,zk,ea,zE⟩:=w! hD An;have V1:i<kvs.length:=(glE An);obtain⟨k,v⟩:=kv;refine kZ ?_;dsimp only at AL zk;subst AL zk;refine gU hp λH4 s4 ep=>?_;have ep:H4 p=A? (.tup [.int e.b,.ref a]):=ep;have Es:SameB d H H4:=λb u hb z=>s4 _ _ (s3 b u hb z);refine{p,_,E?,i! ep,E?,_,_,E?,_,_,E?,{a,_,E?,i! (Qs Es _ _ ea),E?,_,_,E?,_,_,E?,E?,E?,?_}};dsimp only[av];have EW:∀{b:Wx}{xs:List V},H b=A? (.lst xs)->b≠d:=λe=>aF e ed (λz=>nomatch z)
  have hmul:i * ns.length+ns.length<=D.length * ns.length:=by
   rw[<-Zt];exact Zd _ (by lia)
  refine{_,E?,nl,E?,{_,l! (Es _ _ (EW Br) Br)},?_}
  refine dh (K:=K) (a:=nl) (xs:=ns.map nW) (λj σ H5=>Ex2 λ(c8:Option V)(Dt:List Cand)=>An6 (σ=[A? (.ref d),A? (.ref ag),A? (.ref sz),A? (.ref nl),A? (.ref td),A? (.int e.b),A? (.int e.n),A? (.ref ka),c8]) (SameB d H H5) (H5 d=A? (.frz o (.dK kvs))) (dN H5 td Dt) (Dt.length<=i * ns.length+j) (Least (λx=>(∃e∈D.take i,∃n∈ns,x=e.ext A Z n)\/∃n∈ns.take j,x=e.ext A Z n) Dt))
   {c8,Dt,rfl,Es,s4 _ _ AY,{kt,s4 _ _ NN,r! (λ_ _ h=>h.mono (n! s4)) Gs},C4,hle.congr λc=>{.inl,λz=>z.elim id λ⟨n,hn,_⟩=>?_}} (λj σ H5 _⟨_,_,_,z,_,_,_,_⟩=>l! (z _ _ (EW Br) Br)) ?_ ?_
  .rw[YM]at hn;cases hn
  .rintro j x σ H5 hx ⟨c8,Dt,rfl,s5,NO,Gu,Hs,EX⟩
   obtain⟨n,hn,rfl⟩:∃n,ns[j]?=A? n/\nW n=x:=by
    rw[Wz]at hx;exact W4.mp hx
   have hj:j<ns.length:=(glE hn);obtain⟨Tu,Tv⟩:=Ah n (Ww hn);have gA:A[n]?=A? (A.getD n 0):=by rw[W0,Wv Tu];rfl
   have gZ:Z[n]?=A? (Z.getD n 0):=by rw[W0,Wv Tv];rfl
   refine{_,E?,_,E?,_,E?,_,E?,ag,_,(n:Int),.int (A.getD n 0),E?,E?,l! (s5 _ _ (EW Qr) Qr),bp (j:=n) (gmE gA),_,_,E?,E?,?_};refine{_,E?,_,E?,_,E?,sz,_,(n:Int),.int (Z.getD n 0),E?,E?,l! (s5 _ _ (EW Hr) Hr),bp (j:=n) (gmE gZ),_,_,E?,E?,?_};have NP:=Qs s5 _ _ zE
   have go:∀(r:Wx)(H6:Hp),k! H5 H6->H6 r=A? (.tup ((e.ks++[n]).map nW))->fb [.ref td,.int (XO e.b (A.getD n 0)),.int (e.n+Z.getD n 0),.ref r] H6 (λv H7=>Ex2 λ(c8:Option V)(Dt:List Cand)=>An6 ([A? (j! d),A? (.ref ag),A? (.ref sz),A? (.ref nl),A? (.ref td),A? (.int e.b),A? (.int e.n),A? (.ref ka),A? (nW n)]=[A? (.ref d),A? (.ref ag),A? (.ref sz),A? (.ref nl),A? (.ref td),A? (.int e.b),A? (.int e.n),A? (.ref ka),c8]) (SameB d H H7) (H7 d=A? (.frz o (.dK kvs))) (dN H7 td Dt) (Dt.length<=i * ns.length+(j+1)) (Least (λx=>(∃e∈D.take i,∃n∈ns,x=e.ext A Z n)\/∃n∈ns.take (j+1),x=e.ext A Z n) Dt)) E0:=λr H6 s6 er=>by
    obtain⟨Fw,Tw,JK⟩:=Gu;refine{td,r,_,_,e.ks++[n],Dt,E?,{Fw,s6 _ _ Tw,r! (λ_ _ h=>h.mono (n! s6)) JK},EX.nd,er,by lia,λH7 D7 s7 EY hK=>{_,D7,E?,λb u hb z=>?_,s7 _ _ Fn.symm (s6 _ _ NO),EY,by have:=hK.len;lia,(hK.least _ EX).congr λc=>?_}}
    .by_cases La:b=td
     .rw[La,EV]at z;cases z
     .exact s7 _ _ La (s6 _ _ (s5 _ _ hb z))
    .rw[take_snoc hn];constructor
     .rintro((h|⟨m,hm,h⟩)|h)
      .exact .inl h
      .exact .inr {m,WX _ hm,h}
      .exact .inr {n,by simp,h}
     .rintro(h|⟨m,hm,h⟩)
      .exact .inl (.inl h)
      .rcases WQ.mp hm with hm|hm
       .exact .inl (.inr ⟨m,hm,h⟩)
       .rw[WG.mp hm]at h;exact .inr h
   refine{_,E?,_,E?,lnE rfl,λp2 zt=>?_};have s6:k! H5 (upd H5 p2 (.tup [nW n])):=ao zt _;have DU:(upd H5 p2 (.tup [nW n])) p2=A? (.tup [nW n]):=af;have zP:=zO e (Ww he);refine{ka,p2,_,_,E?,E?,i! (s6 _ _ NP),i! DU,Yj (aT (by rw[Wt];show e.ks.length+1<=1000000;lia)),λGv=>go p2 _ s6 ?_,λ_ h=>(by cases h),λ_ _ p3 Ae=>?_}
   .have hz:e.ks=[]:=List.map_eq_nil_iff.mp Gv;rw[hz];exact DU
   .refine go p3 _ (s6.trans (ao Ae _)) ?_;rw[af,W3];rfl
  .rintro σ H5 ⟨c8,Dt,rfl,s5,NO,Gu,Hs,EX⟩;refine{_,_,_,_,Dt,E?,s5,NO,Gu,?_,EX.congr λc=>?_}
   .rw[Wt]at Hs;rw[Zt];exact Hs
   .rw[show ns.take (ns.map nW).length=ns from XF (by rw[Wt];exact WD _),take_snoc he];constructor
    .rintro(⟨e',zN,h⟩|h)
     .exact{e',WX _ zN,h}
     .exact{e,by simp,h}
    .rintro⟨e',zN,h⟩;rcases WQ.mp zN with zN|zN
     .exact .inl ⟨e',zN,h⟩
     .rw[WG.mp zN]at h;exact .inr h
 .rintro σ H3 ⟨c5,c6,c7,c8,Dt,rfl,s3,AY,⟨kt,NN,Gs⟩,C4,hle⟩;rw[XF (by lia)]at hle;rw[<-De]at C4;have k4:KT H3 (upd H3 d (.dK kvs)):=λb xs e=>by rw[aj (aF e AY (λz=>nomatch z))];exact e
  refine{upd H3 d (.dK kvs),λb=>?_,_,E?,q td _ Dt (λb u e=>?_) EV {kt,(aj Fn).trans NN,r! (λ_ _ h=>h.mono k4) Gs} C4 hle}
  .by_cases hb:b=d
   .rw[hb];exact .inr {o,_,AY,s1 _ _ ed,af}
   .exact .inl (aj hb)
  .by_cases hb:b=d
   .rw[hb,ed]at e;rw[hb,af];exact e
   .rw[aj hb];exact s3 b u hb e
inductive fq(C:Wx)(vs:List V)(H:Hp)(Q:VK)(_E:XK):Prop
 |mk (w:Wy):vs=[.ref w.x]->WyAt C H w->w.ps.length<=1000000->Q (.int (ones w.ps.length)) H->fq C vs H Q _E
inductive f6(C:Wx)(vs:List V)(H:Hp)(Q:VK)(_E:XK):Prop
 |mk (w:Wy) (b:Int) (S:Nat):vs=[.ref w.x,.int b,.int (S:Nat)]->WyAt C H w->w.ps.length<=1000000->S<=100000->0<=b->(∀q∈w.ps,∃s:Nat,q.1=(s:Int)/\s<S)->(∀(r:Wx)(note:List Int)(H':Hp),k! H H'->H' r=A? (.tup (note.map o!))->NoteBy w.ps b S w.ps.length note->Q (.ref r) H')->f6 C vs H Q _E
theorem dk:bv P w K mg base CX0 1 T.g_15.f T.g_15.d ["self"] (fq T.e_Ways):=by
 refine T.g_15.F.okA jr λy9 A outer s H vs Q E hr h=>?_;obtain⟨w,rfl,hw,hl,q⟩:=h;refine{_,(ak (aD (ay iC (ay uk ac (aB az rfl T.n_1 Xj (aa (bF (pv 0) rfl) ae))) ac))),?_}
 try dsimp only[zu,yX]
 refine{_,E?,w.x,T.e_Ways,w.dx,_,_,E?,hw.ins,T.cl_Ways,T.na_Ways_pairs,qN,w.pl,_,E?,.inl (l! hw.pl),_,_,E?,E?,{by lia,by rw[Wt];lia,by decide},_,_,E?,E?,?_};rw[Wt,Int.one_mul,WU];exact q
theorem j4:bv P w K mg base CX0 1 T.g_18.f T.g_18.d ["self","bits","states"] (f6 T.e_Ways):=by
 refine T.g_18.F.okA cz λy9 A outer s H vs Q E hr h=>?_;obtain⟨w,b,S,rfl,hw,hl,hS,hb,zG,q⟩:=h
 refine{_,(ad (am 3 cz.nd (ay sI (bE (aa (oN nk ac) ae)) (pv 2)))
  (ad (bj Xd rfl (i9 rfl T.n_0 (bF (pv 0) rfl)) (cb rfl (aA (pgN 4 cz.nd) (aA (cb rfl (aA (pgN 5 cz.nd) (aA (pgN 6 cz.nd) bK))) bK))) (ak (bI (aG cO (ay p8 (ay wD (pv 1) (pv 4)) ac) ac (aO _)) (ak (jm (pv 6) (nD (pv 3) (pv 5) set_list))) aW)))
  (ak (aD (bR aZ rfl T.n_8 XA (aa (pv 3) ae)))))),?_}
 try dsimp only[zu,yX]
 refine{_,E?,lnE rfl,λl0 Ih=>?_};refine gU Ih λH0 s0 e0=>?_;refine{_,E?,l0,_,_,E?,E?,e0,by lia,by lia,Yj (aT (by rw[WU];show 1 * S<=1000000;lia)),λnl Ci=>?_};dsimp only[av]
 have NQ:(Xx ((S:Nat):Int).toNat [o! (-1)]).flatten=(Xx S (-1:Int)).map o!:=by
  rw[WU,List.map_replicate];generalize S=n;induction n with
  |zero=>rfl
  |succ n ih=>rw[Yt,Yt,ZJ,ih];rfl
 rw[NQ];have s1:k! H (upd H0 nl (.lst ((Xx S (-1:Int)).map o!))):=s0.trans (ao Ci _)
 have NR:H nl=none:=by
  cases z:H nl with
  |none=>rfl
  |some o=>rw[s0 _ _ z]at Ci;cases Ci
 have e1:(upd H0 nl (.lst ((Xx S (-1:Int)).map o!))) nl=A? (.lst ((Xx S (-1:Int)).map o!)):=af;generalize(upd H0 nl (.lst ((Xx S (-1:Int)).map o!)))=H1 at s1 e1 |-;refine{_,E?,w.x,T.e_Ways,w.dx,_,_,E?,s1 _ _ hw.ins,T.cl_Ways,T.na_Ways_pairs,qN,w.pl,E?,{_,l! (s1 _ _ hw.pl)},?_}
 refine gM (K:=K) (a:=w.pl) (xs:=w.ps.map λq=>j! q.2.2) (λj σ H2=>Ex4 λ(c4 c5 c6:Option V)(note:List Int)=>An4 (σ=[A? (.ref w.x),A? (.int b),A? (.int (S:Nat)),A? (.ref nl),c4,c5,c6]) (k! H H2) (H2 nl=A? (.lst (note.map o!))) (NoteBy w.ps b S j note))
  {B?,B?,B?,_,rfl,s1,e1,NoteBy.zero _ _ _} (λj σ H2 _⟨_,_,_,_,_,s,_,_⟩=>l! (s _ _ hw.pl)) ?_ ?_
 .rintro j x p σ H2 hx hp ⟨c4,c5,c6,note,rfl,s2,en,hN⟩;rw[Wz]at hx;obtain⟨q',hq,rfl⟩:=W4.mp hx;refine gU hp λH3 s3 ep=>?_;have Qt:=Ww hq;have Tx:=s3 _ _ (s2 _ _ (hw.pr q' Qt));have hj:=(glE hq);refine{p,_,E?,i! ep,E?,_,_,E?,_,_,E?,{q'.2.2,_,E?,i! Tx,E?,_,_,E?,_,_,E?,E?,E?,?_}};dsimp only[av];refine{_,E?,_,E?,_,_,E?,E?,by lia,_,_,E?,E?,E?,_,E?,?_};rw[nU,show(XO (b / 2 ^ ((j:Nat):Int).toNat) 1 == 1)=bt b j from by rw[<-wd hb j];exact(Bool.beq_eq_decide_eq ..)];have hlen:=hN.len;obtain⟨s0,Gf,KZ⟩:=zG q' Qt;refine fE (λc=>?_) (λc=>?_)
  .refine{_,E?,_,E?,_,E?,nl,_,q'.1,s0,E?,E?,s3 _ _ en,?_,?_}
   .rw[Gf,Wt,hlen];unfold ixN;rw[b! (by lia),b! (by lia),WU]
   .refine{_,_,_,note.set s0 q'.2.1,E?,aM (s2.trans s3) NR,?_,hN.set hq c Gf};rw[af,List.map_set]
  .exact{_,_,_,note,E?,s2.trans s3,s3 _ _ en,hN.skip hq (by cases z:bt b j with|false=>rfl|true=>exact g! z c)}
 .rintro σ H2 ⟨c4,c5,c6,note,rfl,s2,en,hN⟩;rw[Wt]at hN;refine{_,E?,nl,_,E?,.inl {l! en,λr hr=>?_}};exact q r note _ (s2.trans (ao hr _)) af hN
inductive eY(C:Wx)(vs:List V)(H:Hp)(Q:VK)(_E:XK):Prop
 |mk (w:Wy) (na:Wx) (note:List Int) (Ws:List cA):vs=[.ref w.x,.ref na]->WyAt C H w->H na=A? (.tup (note.map o!))->w.ps.length=Ws.length->Ws.length<=1000000->(∀(k:Nat)(kd:Kd),w.ks[k]?=A? kd->NeedT Ws k kd.es)->(∀kd∈w.ks,(∀e∈kd.es,∃c:Nat,e.1.1=(c:Int)/\c<note.length)/\kd.ag.length<1000000)->(∀(H':Hp)(yZ:List Kd),FrB (w.ks.map (·.a)) H H'->WyAt C H' {w with ks:=yZ}->Took Ws note w.ks w.ks.length yZ->Q .non H')->eY C vs H Q _E
theorem jf:bv P w K mg base CX0 2 T.g_16.f T.g_16.d ["self","note"] (eY T.e_Ways):=by
 refine T.g_16.F.okA bq λy9 A outer s H vs Q E hr h=>?_;obtain⟨w,na,note,Ws,rfl,hw,Bx,AW,IY,hN,BX,q⟩:=h
 refine{_,(ak (bj Xd rfl (i9 rfl T.n_0 (bF (pv 0) rfl)) (cb rfl (aA (pgN 2 bq.nd) (aA (pgN 3 bq.nd) bK))) (ad (am 4 bq.nd ac)
  (ad (gW (bj Xd rfl (jz (pv 3)) (cb rfl (aA (cb rfl (aA (pgN 5 bq.nd) (aA (pgN 6 bq.nd) bK))) (aA (pgN 7 bq.nd) bK))) (ak (bI (aG uj (aw ax (pv 1) (pv 5) (λ_ _=>rfl)) (pv 6) (aO _)) (ak (wO (i:=4) bq.nd rfl (Or.inl rfl) (pv 7) xU)) aW))))
  (ak (aV (cn W7 Xm Xl br (aw aS (bF (pv 0) rfl) (pv 2) (λ_ _=>rfl)) (aa (ay p8 (iP (pv 0) T.cl_Ways T.g_15.me (dk T) (hr.mono (by first|decide|lia)) T.g_15.b .nil cU ) (oN w8 (pv 4))) ae)))))))),?_}
 try dsimp only[zu,yX]
 refine{_,E?,w.x,T.e_Ways,w.dx,_,_,E?,hw.ins,T.cl_Ways,T.na_Ways_needing,sH,w.nl,E?,{_,l! hw.nl},?_}
 refine gM (K:=K) (a:=w.nl) (xs:=w.ks.map λk=>j! k.d) (λk σ H2=>Ex7 λ(c2 c3 c4 c5 c6 c7:Option V)(yZ:List Kd)=>An4 (σ=[A? (.ref w.x),A? (.ref na),c2,c3,c4,c5,c6,c7]) (FrB (w.ks.map (·.a)) H H2) (WyAt T.e_Ways H2 {w with ks:=yZ}) (Took Ws note w.ks k yZ))
  {B?,B?,B?,B?,B?,B?,w.ks,rfl,FrB.refl,hw,Took.zero _ _ _} (λk σ H2 _⟨_,_,_,_,_,_,yZ,_,_,h,ht⟩=>?_) ?_ ?_
 .have:=h.nl;dsimp only at this
  rw[show(yZ.map λk=>j! k.d)=(w.ks.map λk=>j! k.d)from by
   have:=h! (List.map j!) ht.map.2;rw[Xg,Xg]at this;exact this]at this
  exact l! this
 .rintro k x p σ H2 hx hp ⟨c2,c3,c4,c5,c6,c7,yZ,rfl,f2,NS,ht⟩;rw[Wz]at hx;obtain⟨kd,Ab,rfl⟩:=W4.mp hx;have zm:=ht.hi k kd (WD _) Ab;have JL:=Ww zm;have AJ:=Ww Ab;have Lx:=hN k kd Ab;obtain⟨Tz,Aj⟩:=BX kd AJ;refine gU hp λH3 s3 ep=>?_;have f3:=f2.trans (K! s3);have BS:=NS.same s3
  have Et:∀{b:Wx}{o:HO},H b=A? o->(∀xs,o≠.lst xs)->b∉w.ks.map (·.a):=λe zJ z=>by
   obtain⟨AD,hm,e'⟩:=WY.mp z;have:=hw.ag AD hm;rw[e',e]at this;exact zJ _ (WN this)
  have Qu:∀{H3:Hp},FrB (w.ks.map (·.a)) H H3->KT H H3:=λf b xs e=>f b _ (Et e λxs z=>by cases z) e;have AY:H3 kd.d=A? (.dT (dE kd.es)):=BS.nd kd JL;refine{p,_,E?,i! ep,E?,_,_,E?,_,_,E?,E?,?_};dsimp only[av];refine{_,E?,kd.d,_,E?,AY,λo=>?_}
  refine kh (a:=kd.d) (o:=o) (es:=kd.es) (λj σ H4=>Ex4 λ(c5 c6 c7:Option V)(x:Int)=>An4 (σ=[A? (.ref w.x),A? (.ref na),A? (.int (k:Nat)),A? (.ref kd.d),A? (.int x),c5,c6,c7]) (SameB kd.d H3 H4) (H4 kd.d=A? (.frz o (.dT (dE kd.es)))) (Agst kd.es note Ws.length j x))
   {_,_,_,0,rfl,z!,af,Agst.zero _ _ _} (λj σ H4 _⟨_,_,_,_,_,_,e,_⟩=>e) ?_ ?_
  .rintro j e p2 b σ H4 he zt eb ⟨c5,c6,c7,x,rfl,s4,DV,hA⟩;refine gU zt λH5 s5 DU=>?_;have BY:=Ww he;walk_at"a";obtain⟨c,hc,Gw⟩:=Tz e BY;have NT:=s5 _ _ (s4 _ _ (aF (Qu f3 _ _ Bx) AY (λz=>nomatch z)) (Qu f3 _ _ Bx));obtain⟨Qv,Qw⟩:=hA.step he (Lx.rng e BY);obtain⟨v,hv⟩:∃v,note[c]?=A? v:={_,Wv Gw};refine kZ ?_;refine{p2,_,E?,i! DU,E?,.ref b,_,E?,{b,_,E?,i! (s5 _ _ eb),E?,_,_,E?,_,_,E?,E?,_,_,E?,E?,?_}};dsimp only[av];refine{_,E?,_,E?,na,_,e.1.1,.int v,E?,E?,i! NT,?_,_,E?,E?,_,E?,?_}
   .rw[hc];exact bp (j:=c) (gmE hv)
   rw[hc,WU,hv]at Qv Qw;have Qx:SameB kd.d H3 H5:=λb u hb z=>s5 _ _ (s4 b u hb z);by_cases z:v=e.1.2
   .rw[z,d! rfl];exact cV {_,_,_,x,rfl,Qx,s5 _ _ DV,Qv (by rw[z])}
   .rw[c! (λy=>z (V.int.inj y))];exact dY {_,rfl,_,rfl,_,_,rfl,rfl,_,_,_,_,rfl,Qx,s5 _ _ DV,Qw (λy=>z (WN y))}
  .rintro σ H4 ⟨c5,c6,c7,x,rfl,s4,DV,hA⟩;obtain⟨b0,bb⟩:=hA.done Lx
   have s5:k! H3 (upd H4 kd.d (.dT (dE kd.es))):=λb u z=>by
    by_cases hb:b=kd.d
    .rw[hb,AY]at z;rw[hb,af];exact z
    .rw[aj hb];exact s4 b u hb z
   refine{upd H4 kd.d (.dT (dE kd.es)),λb=>?_,?_}
   .by_cases hb:b=kd.d
    .rw[hb];exact .inr {o,_,DV,AY,af}
    .exact .inl (aj hb)
   generalize(upd H4 kd.d (.dT (dE kd.es)))=H5 at s5 |-;have BZ:=BS.same s5;have Qy:H5 kd.a=_:=BZ.ag kd JL;refine{_,E?,w.x,T.e_Ways,w.dx,_,_,E?,BZ.ins,T.cl_Ways,T.na_Ways_agreeing,rc,_,E?,w.al,_,(k:Int),.ref kd.a,E?,E?,l! BZ.al,bp (j:=k) (by rw[Wz];show(yZ[k]?).map _=_;rw[zm];rfl),.inl {E?,_,l! Qy},?_};refine{_,E?,w.x,w.dx,_,E?,BZ.ins,gy,{w with ks:=yZ},E?,BZ,(by show w.ps.length<=1000000;lia),?_};refine{_,E?,_,E?,_,_,E?,E?,kd.a,_,_,E?,E?,Qy,lbE (by lia),?_};rw[show(ones ({w with ks:=yZ}:Wy).ps.length)=ones Ws.length from by rw[<-AW]];have EZ:=BZ.setAg (l:=kd.ag++[XO (ones Ws.length) (X8 x)]) zm;rw[W3]at EZ;exact{_,_,_,_,_,_,_,E?,f3.trans ((K! s5).trans (N! (WY.mpr ⟨kd,AJ,E?⟩))),EZ,ht.step Ab b0 bb}
 .rintro σ H2 ⟨c2,c3,c4,c5,c6,c7,yZ,rfl,f2,NS,ht⟩;rw[Wt]at ht;exact q H2 yZ f2 NS ht
inductive eO(C:Wx)(vs:List V)(H:Hp)(Q:VK)(_E:XK):Prop
 |mk (w:Wy) (sz:Wx) (last:Nat) (Z:List Int):vs=[.ref w.x,.int (last:Nat),.ref sz]->WyAt C H w->w.ps.length<=1000000->H sz=A? (.lst (Z.map o!))->last<Z.length->last<=30->w.ks.length<=3->(∀k∈w.ks,last<k.ag.length)->(∀(r:Wx)(H':Hp)(D:List Cand),k! H H'->H r=B?->dN H' r D->D.length<=100000->Least (λc=>∃ks:List Nat,ks.length=w.ks.length/\((∀n∈ks,n<=last)/\last∈ks)/\c=cnd (w.ks.map (·.ag)) Z (ones w.ps.length) ks) D->Q (.ref r) H')->eO C vs H Q _E
theorem iO:bv P w K mg base CX0 3 T.g_17.f T.g_17.d ["self","last","sizes"] (eO T.e_Ways):=by
 refine T.g_17.F.okA aJ λy9 A outer s H vs Q E hr h=>?_;obtain⟨w,sz,last,Z,rfl,hw,AW,Hr,V2,TB,Ht,TC,q⟩:=h
 refine{_,(ad (am 3 aJ.nd kO)
  (ad (bj Xd rfl (bL rfl T.n_5 (aa (aB az rfl T.n_1 Xj (aa (bF (pv 0) rfl) ae)) ae)) (pgN 4 aJ.nd) (ad (am 5 aJ.nd (uH (tz (iP (pv 0) T.cl_Ways T.g_15.me (dk T) (hr.mono (by first|decide|lia)) T.g_15.b .nil cU ) (bg (aa ac (aa (bg ae) ae))) uv) rfl rfl (by decide) (by decide)))
  (ad (bj Xd rfl (i9 rfl T.n_0 (bF (pv 0) rfl)) (cb rfl (aA (pgN 6 aJ.nd) (aA (pgN 7 aJ.nd) bK))) (ad (am 8 aJ.nd (oG (aG cO (pv 6) (pv 4) (aO _)) (pv 1) ac))
  (ad (am 9 aJ.nd (oG (aG fZ (pv 6) (pv 4) (aO _)) (pv 1) (ay bG (pv 1) ac)))
  (ak (am 5 aJ.nd (pcF T.g_12 (rR T) hr (aa (pv 5) (aa (pv 7) (aa (pv 2) (aa (tm rfl rfl T.n_2 rfl T.n_5 (aa (pv 8) (aa (pv 9) ae))) ae))))))))))
  (ak (gW (bj Xd rfl (kU (pv 5)) (cb rfl (aA (pgN 10 aJ.nd) (aA (cb rfl (aA (pgN 11 aJ.nd) (aA (pgN 12 aJ.nd) bK))) bK))) (ak (aV (pcF T.g_11 (hV T) hr (aa (pv 3) (aa (pv 10) (aa (pv 11) (aa (pv 12) ae)))))))))))))
  (ak (aD (pv 3))))),?_}
 try dsimp only[zu,yX]
 intro td EV;dsimp only[av];refine gU EV λH1 s1 e1=>?_;have pw:∀p,p<=3->31 ^ p<=29791:=λp hp=>XB (YA (by decide) hp) (by decide);refine{_,E?,w.x,T.e_Ways,w.dx,_,_,E?,s1 _ _ hw.ins,T.cl_Ways,T.na_Ways_agreeing,rc,w.al,_,E?,.inl (l! (s1 _ _ hw.al)),_,E?,by lia,by rw[Wt];lia,?_};rw[Wt,WU]
 refine bX (lo:=0) (n:=w.ks.length) (λf σ H2=>xI λ(c4 c5 c6 c7 c8 c9 By CI CJ:Option V)(Dt:List Cand)=>An5 (σ=[A? (.ref w.x),A? (.int (last:Nat)),A? (.ref sz),A? (.ref td),c4,c5,c6,c7,c8,c9,By,CI,CJ]) (k! H H2) (dN H2 td Dt) (Dt.length<=f * 29791) (Least (λc=>∃f',f'<f/\SrcP (w.ks.map (·.ag)) Z (ones w.ps.length) (loF last f') (hiF last f') w.ks.length c) Dt))
  {B?,B?,B?,B?,B?,B?,B?,B?,B?,[],rfl,s1,{[],e1,.nil},Xo _,Least.nil.congr λc=>{λz=>z.elim,λ⟨f',h,_⟩=>g! h (Z4 _)}} ?_ ?_
 .rintro f σ H2 hf ⟨c4,c5,c6,c7,c8,c9,By,CI,CJ,Dt,rfl,s2,⟨kt,Hn,Gs⟩,Aa,Gx⟩;rw[Int.zero_add];dsimp only[av];intro rd G0
  have Bz:∀{b:Wx},H2 b=B?->H b=none:=λ{b}z=>by
   cases y:H b with
   |none=>rfl
   |some o=>rw[s2 _ _ y]at z;cases z
  have s3:k! H2 (upd H2 rd (.dK [])):=ao G0 _;have e3:(upd H2 rd (.dK [])) rd=A? (.dK []):=af;have TF:rd≠td:=λz=>by rw[z,Hn]at G0;cases G0
  generalize(upd H2 rd (.dK []))=H3 at s3 e3 |-;have BS:=hw.same (s2.trans s3);refine{_,E?,w.x,w.dx,_,E?,BS.ins,gy,w,E?,BS,AW,?_};refine{lnE rfl,λt0 Er=>{lnE rfl,λt1 Ak=>?_}};have s4:k! H3 (upd (upd H3 t0 (.tup [])) t1 (.tup [.int 0,.ref t0])):=(ao Er _).trans (ao Ak _);have Qz:(upd (upd H3 t0 (.tup [])) t1 (.tup [.int 0,.ref t0])) t0=A? (.tup []):=(ao Ak _) _ _ af;have QA:(upd (upd H3 t0 (.tup [])) t1 (.tup [.int 0,.ref t0])) t1=A? (.tup [.int 0,.ref t0]):=af;generalize(upd (upd H3 t0 (.tup [])) t1 (.tup [.int 0,.ref t0]))=H4 at s4 Qz QA |-;refine{s4 _ _ e3,[(Xh (ones w.ps.length),.ref t1)],E?,(by show 1<=15;decide),?_};have Ig:jK [] [((Xh (ones w.ps.length):Key),j! t1)]=[(Xh (ones w.ps.length),.ref t1)]:=rfl;rw[Ig];have TH:=s4 _ _ e3;have s5:k! H2 (upd H4 rd (.dK [((Xh (ones w.ps.length):Key),j! t1)])):=aM (s3.trans s4) G0;have k5:KT H4 (upd H4 rd (.dK [((Xh (ones w.ps.length):Key),j! t1)])):=λb xs z=>by rw[aj (aF z TH (λy=>nomatch y))];exact z
  have Gy:dN (upd H4 rd (.dK [((Xh (ones w.ps.length):Key),j! t1)])) rd [{ones w.ps.length,0,[]}]:={_,af,.cons {rfl,t1,t0,rfl,k5 _ _ QA,k5 _ _ Qz} .nil};generalize(upd H4 rd (.dK [((Xh (ones w.ps.length):Key),j! t1)]))=H5 at s5 Gy |-;dsimp only[av];refine{_,E?,w.x,T.e_Ways,w.dx,_,_,E?,s5 _ _ (s2 _ _ hw.ins),T.cl_Ways,T.na_Ways_agreeing,rc,w.al,E?,{_,l! (s5 _ _ (s2 _ _ hw.al))},?_}
  refine gM (K:=K) (a:=w.al) (xs:=w.ks.map λk=>j! k.a) (λp σ H6=>Ex9 λ(r:Wx)(c6 c7 c8 c9 By CI CJ:Option V)(D:List Cand)=>An6 (σ=[A? (.ref w.x),A? (.int (last:Nat)),A? (.ref sz),A? (.ref td),A? (.int (f:Nat)),A? (.ref r),c6,c7,c8,c9,By,CI,CJ]) (k! H2 H6) ((r≠td/\H r=B?)) (dN H6 r D) (D.length<=31 ^ p) (Least (SrcP (w.ks.map (·.ag)) Z (ones w.ps.length) (loF last f) (hiF last f) p) D))
   {rd,_,_,_,_,_,_,_,_,rfl,s5,{TF,Bz G0},Gy,WD 1,(Least.one _).congr λc=>SrcP.zero ..} (λp σ H6 _⟨_,_,_,_,_,_,_,_,_,_,s,_,_,_,_⟩=>l! (s _ _ (s2 _ _ hw.al))) ?_ ?_
  .rintro p x p0 σ H6 hx JM ⟨r,c6,c7,c8,c9,By,CI,CJ,D,rfl,s6,E2,⟨kr,JN,Ly⟩,JO,hle⟩;rw[Wz]at hx;obtain⟨kd,Ab,rfl⟩:=W4.mp hx;have AJ:=Ww Ab;have Aq:=(glE Ab);refine gU JM λH7 s7 ep=>?_;refine{p0,_,E?,i! ep,E?,_,_,E?,_,_,E?,E?,?_};dsimp only[av];refine bc (λi' H'=>An2 (H'=H7) (i'=[A? (.ref w.x),A? (.int (last:Nat)),A? (.ref sz),A? (.ref td),A? (.int (f:Nat)),A? (.ref r),A? (.int (p:Nat)),A? (.ref kd.a),A? (.int (loF last f p:Nat)),c9,By,CI,CJ])) (λkk hk=>?_) ?_
   .refine{_,E?,_,E?,E?,_,E?,?_};by_cases z:p=f
    .rw[d! (show o! ((p:Nat):Int)=o! ((f:Nat):Int)by rw[z])];refine dY {_,rfl,hk _ _ {rfl,?_}};unfold loF;rw[b! z];rfl
    .rw[c! (show¬o! ((p:Nat):Int)=o! ((f:Nat):Int)fromλy=>z (by injection y with y;lia))];refine cV (hk _ _ {rfl,?_});unfold loF;rw[a! z];rfl
   rintro i' H' ⟨rfl,rfl⟩;refine bc (λi' C5=>C5=H'/\i'=[A? (.ref w.x),A? (.int (last:Nat)),A? (.ref sz),A? (.ref td),A? (.int (f:Nat)),A? (.ref r),A? (.int (p:Nat)),A? (.ref kd.a),A? (.int (loF last f p:Nat)),A? (.int (hiF last f p:Nat)),By,CI,CJ]) (λkk hk=>?_) ?_
   .refine{_,E?,_,E?,_,_,E?,E?,_,E?,?_};by_cases z:p<f
    .rw[d! (show(p:Int)<(f:Int)by lia)];refine dY {_,rfl,hk _ _ {rfl,?_}};unfold hiF;rw[b! z];rfl
    .rw[c! (show¬(p:Int)<(f:Int)by lia)];refine cV {_,rfl,_,_,rfl,rfl,hk _ _ {rfl,?_}};unfold hiF;rw[a! z];rfl
   rintro i' C5 ⟨rfl,rfl⟩;have RD:loF last f p<=last:=by unfold loF;split <;> lia
   have V3:hiF last f p<=last+1:=by unfold hiF;split <;> lia
   refine{_,E?,_,E?,_,E?,_,E?,_,E?,loF last f p,hiF last f p,E?,by lia,by lia,λnl Ci=>?_};have s8:k! C5 (upd C5 nl (.lst ((ZP (loF last f p) (hiF last f p - loF last f p)).map nW))):=ao Ci _;have Br:(upd C5 nl (.lst ((ZP (loF last f p) (hiF last f p - loF last f p)).map nW))) nl=A? (.lst ((ZP (loF last f p) (hiF last f p - loF last f p)).map nW)):=af;show jx _ (upd C5 nl (.lst ((ZP (loF last f p) (hiF last f p - loF last f p)).map nW))) _ _;generalize(upd C5 nl (.lst ((ZP (loF last f p) (hiF last f p - loF last f p)).map nW)))=H8 at s8 Br |-;have Lz:k! H2 H8:=s6.trans (s7.trans s8);have QB:=s7.trans s8;have zt:p<=2:=by lia
   have TJ:31 ^ p<=961:=XB (YA (by decide) zt) (by decide);have Ah:(ZP (loF last f p) (hiF last f p - loF last f p)).length<=31:=by rw[List.length_range'];lia
   have hmul:D.length * (ZP (loF last f p) (hiF last f p - loF last f p)).length<=31 ^ p * 31:=Nat.mul_le_mul JO Ah;have hA:(w.ks.map (·.ag)).getD p []=kd.ag:=by rw[W0,Wz,Ab];rfl
   refine{r,kd.a,sz,nl,kd.ag,Z,_,D,E?,{kr,QB _ _ JN,r! (λ_ _ h=>h.mono (n! QB)) Ly},Lz _ _ (s2 _ _ (hw.ag kd AJ)),Lz _ _ (s2 _ _ Hr),Br,λn hn=>?_,by lia,λe he=>?_,λr' H9 D9 s9 nr NU V4 NV=>?_}
   .have:=(List.mem_range'_1.mp hn).2;have:=TC kd AJ;lia
   .walk_at"a";obtain⟨ks,h1,_,h3⟩:=hle.sub e he;refine kZ ?_;rw[h3,xi];lia
   .have BO:H2 r'=none:=by
     cases y:H2 r' with
     |none=>rfl
     |some o=>rw[Lz _ _ y]at nr;cases nr
    refine{r',_,_,_,_,_,_,_,D9,E?,Lz.trans s9,{λz=>(by rw[z,Hn]at BO;cases BO),Bz BO},NU,by rw[Nat.pow_succ];lia,?_};have:=hle.trans NV;rw[<-hA]at this;exact this.congr λc=>SrcP.succ _ _ _ _ _ _ _ (λn=>by rw[List.mem_range'_1];lia) c
  .rintro σ H6 ⟨r,c6,c7,c8,c9,By,CI,CJ,D,rfl,s6,⟨E2,QC⟩,⟨kvs,JN,Ly⟩,JO,hle⟩;rw[Wt]at JO hle;have V5:=XB JO (pw _ Ht);have TL:D.length=kvs.length:=WS Ly;refine{_,E?,r,kvs,E?,JN,λo=>?_};have k0:KT H6 (upd H6 r (.frz o (.dK kvs))):=λb xs z=>by rw[aj (aF z JN (λy=>nomatch y))];exact z
   have NW:=s2.trans s6
   refine jv (a:=r) (o:=o) (kvs:=kvs) (λj σ H7=>Ex4 λ(By CI CJ:Option V)(Gz:List Cand)=>An7 (σ=[A? (.ref w.x),A? (.int (last:Nat)),A? (.ref sz),A? (.ref td),A? (.int (f:Nat)),A? (.ref r),c6,c7,c8,c9,By,CI,CJ]) (k! H H7) (H7 r=A? (.frz o (.dK kvs))) (Xb (RowE H7) D kvs) (dN H7 td Gz) (Gz.length<=f * 29791+j) (Least (λc=>(∃f',f'<f/\SrcP (w.ks.map (·.ag)) Z (ones w.ps.length) (loF last f') (hiF last f') w.ks.length c)\/∃e∈D.take j,c=e) Gz))
    {By,CI,CJ,Dt,rfl,λb u z=>by rw[aj (λy=>by rw[y,QC]at z;cases z)];exact NW _ _ z,af,r! (λ_ _ h=>h.mono k0) Ly,{kt,(aj E2.symm).trans (s6 _ _ Hn),r! (λ_ _ h=>(h.mono (n! s6)).mono k0) Gs},Aa,Gx.congr λc=>{.inl,λz=>z.elim id λ⟨e,he,_⟩=>by rw[YM]at he;cases he}} (λj σ H7 _⟨_,_,_,_,_,_,e,_,_,_,_⟩=>e) ?_ ?_
   .rintro j kv p0 σ H7 An JM ⟨By,CI,CJ,Gz,rfl,s7,Cj,EY,⟨NX,LA,GA⟩,TM,DW⟩;walk_at"a";obtain⟨e,he,AL,a,ka,zk,ea,zE⟩:=w! EY An;have Dd:=(glE An);obtain⟨k,v⟩:=kv;refine kZ ?_;dsimp only at AL zk;subst AL zk;refine gU JM λH8 s8 ep=>?_;have ep:H8 p0=A? (.tup [.int e.b,.ref a]):=ep;refine{p0,_,E?,i! ep,E?,_,_,E?,_,_,E?,{a,_,E?,i! (s8 _ _ ea),E?,_,_,E?,_,_,E?,E?,E?,?_}};dsimp only[av];refine{_,E?,_,E?,_,E?,_,E?,td,ka,e.b,e.n,e.ks,Gz,E?,{NX,s8 _ _ LA,r! (λ_ _ h=>h.mono (n! s8)) GA},DW.nd,s8 _ _ zE,by lia,λH9 D9 s9 NU hK=>?_};have k9:KT H8 H9:=λb xs z=>s9 _ _ (aF z (s8 _ _ LA) (λy=>nomatch y)) z;refine{_,_,_,D9,E?,λb u z=>s9 _ _ (λy=>by rw[y,EV]at z;cases z) (s8 _ _ (s7 _ _ z)),s9 _ _ E2 (s8 _ _ Cj),r! (λ_ _ h=>(h.mono (n! s8)).mono k9) EY,NU,by have:=hK.len;lia,(hK.least _ DW).congr λc=>?_};rw[take_snoc he];constructor
    .rintro((h|⟨e',zN,h⟩)|h)
     .exact .inl h
     .exact .inr {e',WX _ zN,h}
     .exact .inr {e,by simp,h}
    .rintro(h|⟨e',zN,h⟩)
     .exact .inl (.inl h)
     .rcases WQ.mp zN with zN|zN
      .exact .inl (.inr ⟨e',zN,h⟩)
      .rw[WG.mp zN]at h;exact .inr h
   .rintro σ H7 ⟨By,CI,CJ,Gz,rfl,s7,Cj,EY,⟨NX,LA,GA⟩,TM,DW⟩;rw[XF (by lia)]at DW;have k8:KT H7 (upd H7 r (.dK kvs)):=λb xs z=>by rw[aj (aF z Cj (λy=>nomatch y))];exact z
    refine{upd H7 r (.dK kvs),λb=>?_,_,_,_,_,_,_,_,_,_,Gz,E?,λb u z=>by rw[aj (λy=>by rw[y,QC]at z;cases z)];exact s7 _ _ z,{NX,(aj E2.symm).trans LA,r! (λ_ _ h=>h.mono k8) GA},?_,(DW.join hle).congr λc=>?_}
    .by_cases hb:b=r
     .rw[hb];exact .inr {o,_,Cj,JN,af}
     .exact .inl (aj hb)
    .rw[Zt];lia
    .constructor
     .rintro(⟨f',h1,h2⟩|h)
      .exact{f',by lia,h2}
      .exact{f,by lia,h}
     .rintro⟨f',h1,h2⟩;by_cases z:f'=f
      .rw[z]at h2;exact .inr h2
      .exact .inl {f',by lia,h2}
 .rintro σ H2 ⟨c4,c5,c6,c7,c8,c9,By,CI,CJ,Dt,rfl,s2,Gs,Aa,Gx⟩;refine{_,E?,q td H2 Dt s2 EV Gs (by lia) (Gx.congr λc=>?_)};constructor
  .rintro⟨f',Df,ks,h1,h2,h3⟩;exact{ks,h1,(kC h1).mp ⟨f',Df,h2⟩,h3}
  .rintro⟨ks,h1,h2,h3⟩;obtain⟨f',Df,h4⟩:=(kC h1).mpr h2;exact⟨f',Df,ks,h1,h4,h3⟩
def yv(C:Wx)(w:Wy)(s p:Int)(Ws:List cA)(nv:V)(H:Hp)(Q:VK):Prop:=(nv=.non/\Q .non H)\/∃(d:Wx)(L:CLs),nv=.ref d/\H d=A? (.dT (dE L))/\d∉w.ks.map (·.d)/\L.length<=100/\(∀e∈L,∃k:Nat,e.1.2=(k:Int)/\k<w.ks.length)/\∀(H':Hp)(a:Wx)(yZ:List Kd),FrB (w.pl::w.ks.map (·.d)) H H'->WyAt C H' {w with ps:=w.ps++[(s,p,a)],ks:=yZ}->(∀(k:Nat)(kd:Kd),yZ[k]?=A? kd->NeedT (Ws++[(s,p,L)]) k kd.es/\kd.es.length<=100 * (Ws.length+1))->yZ.map Kd.sh=w.ks.map Kd.sh->Q .non H'
inductive gj(C:Wx)(vs:List V)(H:Hp)(Q:VK)(_E:XK):Prop
 |mk (w:Wy) (s p:Int) (nv:V) (Ws:List cA):vs=[.ref w.x,.int s,.int p,nv]->WyAt C H w->w.ps.length=Ws.length->Ws.length<=5000->(∀(k:Nat)(kd:Kd),w.ks[k]?=A? kd->NeedT Ws k kd.es/\kd.es.length<=100 * Ws.length)->yv C w s p Ws nv H Q->gj C vs H Q _E
theorem j1:bv P w K mg base CX0 1 T.g_14.f T.g_14.d ["self","state","part","needs"] (gj T.e_Ways):=by
 refine T.g_14.F.okA cw λy9 A outer s H vs Q E hr h=>?_;obtain⟨w,st,pt,nv,Ws,rfl,hw,AW,IY,hN,TN⟩:=h
 refine{_,(ak (bI (aG uB (pv 3) m8 (aO _)) (ad (gW (bj Xd rfl (jz (pv 3)) (cb rfl (aA (cb rfl (aA (pgN 4 cw.nd) (aA (pgN 5 cw.nd) bK))) (aA (pgN 6 cw.nd) bK))) (ad (am 7 cw.nd (oR (cm hr) (aw aS (bF (pv 0) rfl) (pv 5) (λ_ _=>rfl)) (bg (aa (pv 4) (aa (pv 6) ae))) ac ⟨E?,E?,E?,E?⟩))
  (ak (fV (cm hr) (aw aS (bF (pv 0) rfl) (pv 5) (λ_ _=>rfl)) (bg (aa (pv 4) (aa (pv 6) ae))) (ay xW (pv 7) (ay uk ac (aB az rfl T.n_1 Xj (aa (bF (pv 0) rfl) ae)))) rfl)))))
  (ak (aV (cn W7 Xm Xl br (bF (pv 0) rfl) (aa (bg (aa (pv 1) (aa (pv 2) ae))) ae))))) aW)),?_}
 try dsimp only[zu,yX]
 rcases TN with⟨rfl,q⟩|⟨d,L,rfl,ed,Ce,Ln,TQ,q⟩
 .exact{_,E?,E?,_,E?,cV q}
 refine{_,E?,E?,_,E?,dY ?_};refine{_,E?,d,_,E?,ed,λo=>?_};have TR:∀k∈w.ks,k.d≠d:=λk hk z=>Ce (WY.mpr ⟨k,hk,z⟩);have k0:KT H (upd H d (.frz o (.dT (dE L)))):=λb xs z=>by rw[aj (aF z ed (λy=>nomatch y))];exact z
 have Hu:WyAt T.e_Ways (upd H d (.frz o (.dT (dE L)))) w:=hw.keep k0 λb hb u e=>by
  refine(aj ?_).trans e;rintro rfl;rw[ed]at e;unfold Wy.own at hb;simp only[WW,WQ]at hb;rcases hb with rfl|rfl|rfl|rfl|hb|hb
  .rw[hw.ins]at ed;cases ed
  .rw[hw.pl]at ed;cases ed
  .rw[hw.nl]at ed;cases ed
  .rw[hw.al]at ed;cases ed
  .exact Ce hb
  .obtain⟨kd,hm,e'⟩:=WY.mp hb;have:=hw.ag kd hm;rw[e',ed]at this;cases this
 refine kh (a:=d) (o:=o) (es:=L) (λj σ H3=>Ex5 λ(c4 c5 c6 c7:Option V)(yZ:List Kd)=>An6 (σ=[A? (.ref w.x),A? (.int st),A? (.int pt),A? (.ref d),c4,c5,c6,c7]) (FrB (d::w.ks.map (·.d)) H H3) (H3 d=A? (.frz o (.dT (dE L)))) (WyAt T.e_Ways H3 {w with ks:=yZ}) ((∀(k:Nat)(kd:Kd),yZ[k]?=A? kd->NeedT (Ws++[(st,pt,L.take j)]) k kd.es/\kd.es.length<=100 * Ws.length+j)) (yZ.map Kd.sh=w.ks.map Kd.sh))
  {B?,B?,B?,B?,w.ks,rfl,N! (WM ..),af,Hu,λk kd hk=>{by rw[YM];exact(hN k kd hk).1.more st pt,(hN k kd hk).2},rfl} (λj σ H3 _⟨_,_,_,_,_,_,_,e,_,_,_⟩=>e) ?_ ?_
 .rintro j e p2 b σ H3 he zt eb ⟨c4,c5,c6,c7,yZ,rfl,f3,AY,BS,JP,EE⟩;refine gU zt λH4 s4 DU=>?_;walk_at"a";obtain⟨k,hk,zP⟩:=TQ e (Ww he)
  have hlen:yZ.length=w.ks.length:=by
   have:=h! X9 EE;rw[Wt,Wt]at this;exact this
  obtain⟨kd,Ab⟩:∃kd,yZ[k]?=A? kd:={_,Wv (by lia)};have AJ:=Ww Ab;obtain⟨Lx,B9⟩:=JP k kd Ab;refine kZ ?_;have V6:=(glE he)
  have TU:yZ.map (·.d)=w.ks.map (·.d):=by
   have:=h! (List.map (·.1)) EE;rw[Xg,Xg]at this;exact this
  have JQ:kd.d∈w.ks.map (·.d):=by rw[<-TU];exact WY.mpr ⟨kd,AJ,rfl⟩
  have Lu:kd.d≠d:=λz=>Ce (z ▸ JQ);have Ck:=BS.same s4;refine{p2,_,E?,i! DU,E?,.ref b,_,E?,{b,_,E?,i! (s4 _ _ eb),E?,_,_,E?,_,_,E?,E?,_,_,E?,E?,?_}};dsimp only[av];refine{_,E?,w.x,T.e_Ways,w.dx,_,_,E?,Ck.ins,T.cl_Ways,T.na_Ways_needing,sH,_,E?,w.nl,_,e.1.2,.ref kd.d,E?,E?,l! Ck.nl,?_,kd.d,E?,.inr {_,.inl (Ck.nd kd AJ)},_,E?,_,E?,lnE rfl,λc1 TV=>?_}
  .rw[hk];exact bp (j:=k) (by rw[Wz];show(yZ[k]?).map _=_;rw[Ab];rfl)
  refine gU TV λH5 s5 NY=>?_;have NY:H5 c1=A? (.tup ((ky (e.1.1,e.2)).map kV)):=NY;have BZ:=Ck.same s5;refine{_,G! (BZ.nd kd AJ) NY,?_};rw[fU];have hg:((cQ kd.es (e.1.1,e.2)).map o!).getD (.int 0)=.int ((cQ kd.es (e.1.1,e.2)).getD 0):=by cases cQ kd.es (e.1.1,e.2) <;> rfl
  rw[hg];dsimp only[av];refine{_,E?,_,E?,w.x,T.e_Ways,w.dx,_,_,E?,BZ.ins,T.cl_Ways,T.na_Ways_pairs,qN,w.pl,_,E?,.inl (l! BZ.pl),_,_,E?,E?,{by lia,by rw[Wt];show((w.ps.length:Nat):Int)<=_;lia,by decide},_,_,E?,E?,?_};refine{_,E?,w.x,T.e_Ways,w.dx,_,_,E?,BZ.ins,T.cl_Ways,T.na_Ways_needing,sH,_,E?,w.nl,_,e.1.2,.ref kd.d,E?,E?,l! BZ.nl,?_,_,E?,_,E?,lnE rfl,λc2 Be=>?_}
  .rw[hk];exact bp (j:=k) (by rw[Wz];show(yZ[k]?).map _=_;rw[Ab];rfl)
  refine gU Be λH6 s6 NZ=>?_;have NZ:H6 c2=A? (.tup ((ky (e.1.1,e.2)).map kV)):=NZ;have QD:=BZ.same s6;refine{kd.d,_,E?,DPut.t (QD.nd kd AJ) NZ (aT (by unfold dE;rw[Wt];lia)),?_};rw[kf,Wt,show(({w with ks:=yZ}:Wy).ps.length)=Ws.length from AW];have EZ:=QD.setEs (es:=dS kd.es (e.1.1,e.2) (YT ((cQ kd.es (e.1.1,e.2)).getD 0) (1 * 2 ^ ((Ws.length:Nat):Int).toNat))) Ab;have QE:=s4.trans (s5.trans s6);refine{_,_,_,_,_,E?,f3.trans ((K! QE).trans (N! (WR _ JQ))),(aj Lu.symm).trans (QE _ _ AY),EZ,λk' AD zm=>?_,?_}
  .rw[YG,he];show NeedT (Ws++[(st,pt,L.take j++[e])]) k' AD.es/\_;by_cases z:k=k'
   .subst z;rw[X5 (show k<yZ.length by lia)]at zm;cases zm;have h1:=Lx.put (c:=e.1.1) (w:=e.2);rw[<-hk]at h1;have h2:=lf kd.es (e.1.1,e.2) (YT ((cQ kd.es (e.1.1,e.2)).getD 0) (1 * 2 ^ ((Ws.length:Nat):Int).toNat));exact{h1,XB h2 (by lia)}
   .rw[X6 z]at zm;obtain⟨h1,h2⟩:=JP k' AD zm;exact{h1.other (by rw[hk];lia),by lia}
  .rw[<-EE];exact map_set _ Ab rfl
 .rintro σ H3 ⟨c4,c5,c6,c7,yZ,rfl,f3,AY,BS,JP,EE⟩;rw[YJ]at JP;have k4:KT H3 (upd H3 d (.dT (dE L))):=λb xs z=>by rw[aj (aF z AY (λy=>nomatch y))];exact z
  have Ck:=BS.keep (H':=upd H3 d (.dT (dE L))) k4 λb hb u e=>by
   refine(aj ?_).trans e;rintro rfl;rw[AY]at e;unfold Wy.own at hb;simp only[WW,WQ]at hb;rcases hb with rfl|rfl|rfl|rfl|hb|hb
   .have:=BS.ins;rw[AY]at this;cases this
   .have:=BS.pl;rw[AY]at this;cases this
   .have:=BS.nl;rw[AY]at this;cases this
   .have:=BS.al;rw[AY]at this;cases this
   .obtain⟨kd,hm,e'⟩:=WY.mp hb;have:=BS.nd kd hm;rw[e',AY]at this;cases this
   .obtain⟨kd,hm,e'⟩:=WY.mp hb;have:=BS.ag kd hm;rw[e',AY]at this;cases this
  have f4:FrB (w.pl::w.ks.map (·.d)) H (upd H3 d (.dT (dE L))):=λb u hb z=>by
   by_cases LB:b=d
   .rw[LB,ed]at z;rw[LB,af];exact z
   .rw[aj LB];exact f3 b u (λy=>(WW.mp y).elim LB λy=>hb (WR _ y)) z
  refine{upd H3 d (.dT (dE L)),λb=>?_,?_}
  .by_cases hb:b=d
   .rw[hb];exact .inr {o,_,AY,ed,af}
   .exact .inl (aj hb)
  generalize(upd H3 d (.dT (dE L)))=H4 at Ck f4 |-;refine{_,E?,w.x,T.e_Ways,w.dx,_,_,E?,Ck.ins,T.cl_Ways,T.na_Ways_pairs,qN,.inl {E?,_,l! Ck.pl},_,E?,_,E?,lnE rfl,λa ha=>?_};refine gU ha λH5 s5 ea=>?_;have BZ:=Ck.same s5;refine{w.pl,_,_,E?,E?,BZ.pl,aT (by rw[Wt];show w.ps.length<=1000000;lia),?_}
  exact q _ a yZ (f4.trans ((K! s5).trans (N! (WM ..)))) (BZ.addP ea) (λk kd hk=>by
   obtain⟨h1,h2⟩:=JP k kd hk;exact{h1,by lia}) EE
structure WIn(H:Hp)(rt:Wx)(cs:List Wx)(To:List (W8×List Nat))(Ls:List Th)(ar:W8->Nat)(m S:Nat)(pats:List Th):Prop where
 rt:H rt=A? (.tup (cs.map j!))
 to:Xb (EnA H) To cs
 cl:Cl To Ls
 aL:∀t∈Ls,Ars ar t
 ap:∀p∈pats,Ars ar p/\p.size<=100/\∀s k:Int,t! s k∈p.walk->(∃k':Nat,k=(k':Int)/\k'<m)/\∃s':Nat,s=(s':Int)/\s'<S
 hS:pats.length=S
 big:S * Ls.length<=4000
theorem WIn.mono{rt:Wx}{cs:List Wx}{To:List (W8×List Nat)}{S:Nat}(h:WIn H rt cs To Ls ar m S pats)(k:KT H H'):WIn H' rt cs To Ls ar m S pats :=
 {k _ _ h.rt,r! (λ_ _ z=>k _ _ z) h.to,h.cl,h.aL,h.ap,h.hS,h.big}
structure WOk(Ls pats:List Th)(w:Wy)(Ws:List cA):Prop where
 sp:WSp Ls pats (λ_ _=>True) Ws
 ps:w.ps.map (λq=>(q.1,q.2.1))=Ws.map (λq=>(q.1,q.2.1))
 nt:∀(k:Nat)(kd:Kd),w.ks[k]?=A? kd->NeedT Ws k kd.es/\kd.es.length<=100 * Ws.length
 len:Ws.length<=4000
structure WI(C:Wx)(H:Hp)(w0:Wy)(Ls pats:List Th)(H7:Hp)(w:Wy)(Ws:List cA)(d:Nat->Nat->Prop)(n:Nat):Prop where
 sb:SameB w0.x H H7
 wa:WyAt C H7 w
 eq:w.x=w0.x/\w.nm=w0.nm/\w.pl=w0.pl/\w.nl=w0.nl/\w.al=w0.al
 sh:w.ks.map Kd.sh=w0.ks.map Kd.sh
 sp:WSp Ls pats d Ws
 ps:w.ps.map (λq=>(q.1,q.2.1))=Ws.map (λq=>(q.1,q.2.1))
 nt:∀(k:Nat)(kd:Kd),w.ks[k]?=A? kd->NeedT Ws k kd.es/\kd.es.length<=100 * Ws.length
 len:Ws.length<=n
theorem WI.same{w0:Wy}{w:Wy}{d d':Nat->Nat->Prop}{n':Nat}(h:WI C H w0 Ls pats H7 w Ws d n)(s:k! H7 H8)(e:∀st pt,(∃p,pats[st]?=A? p)->(∃u,Ls[pt]?=A? u)->d' st pt->d st pt)(hn:n<=n'):WI C H w0 Ls pats H8 w Ws d' n' :=
 {h.sb.trans (A! s),h.wa.same s,h.eq,h.sh,h.sp.congr e,h.ps,h.nt,XB h.len hn}
theorem WI.psl{w0:Wy}{w:Wy}{d:Nat->Nat->Prop}(h:WI C H w0 Ls pats H7 w Ws d n):w.ps.length=Ws.length:=by
 have:=h! X9 h.ps;rw[Wt,Wt]at this;exact this
inductive i3(C:Wx)(vs:List V)(H:Hp)(Q:VK)(_E:XK):Prop
 |mk (x dx ka pa rt:Wx) (nm:W8) (m S:Nat) (pats:List Th) (GB cs:List Wx) (To:List (W8×List Nat)) (Ls:List Th) (ar:W8->Nat):vs=[.ref x,.ref ka,.ref pa,.ref rt]->H x=A? (.ins C dx [])->H ka=A? (.tup [.str nm,.int (m:Nat)])->m<=3->H pa=A? (.lst (GB.map j!))->Ats H pats GB->WIn H rt cs To Ls ar m S pats->(∀(w:Wy)(H':Hp)(Ws:List cA),w.x=x->w.nm=nm->SameB x H H'->WyAt C H' w->w.ks.length=m->(∀k∈w.ks,k.ag=[])->WOk Ls pats w Ws->(∀b∈w.pl::w.nl::w.al::(w.ks.map (·.d)++w.ks.map (·.a)),H b=B?)->Q .non H')->i3 C vs H Q _E
theorem nF:bv P w K mg base CX0 3 T.g_13.f T.g_13.d ["self","kind","patterns","row"] (i3 T.e_Ways):=by
 refine T.g_13.F.okA dP λy9 A outer s H vs Q E hr h=>?_;obtain⟨x,dx,ka,pa,rt,nm,m,S,pats,GB,cs,To,Ls,ar,rfl,ex,zE,hm,Dh,AW,zU,q⟩:=h
 refine{_,(ad (gH (pv 0) (aw ax (pv 1) ac (λ_ _=>rfl)) rfl)
  (ad (gH (pv 0) (bE ae) rfl)
  (ad (gH (pv 0) (aX (N:=["kid"]) (js:=[B?]) (g:=(av 0)) (tt:=aI) (te:=tM) rfl (bA rfl (by decide +kernel) (by decide +kernel) rfl rfl rfl) (bL rfl T.n_5 (aa (aw ax (pv 1) ac (λ_ _=>rfl)) ae)) (λ_ _ _ _ _ _=>(pgN 0 wV)) (aC rfl) (λ_ _ _ _ _ _=>aK) (λ_ _ _ _ _ _=>dI)) rfl)
  (ad (gH (pv 0) (aX (N:=["kid"]) (js:=[B?]) (g:=(av 0)) (tt:=aI) (te:=(sV gm)) rfl (bA rfl (by decide +kernel) (by decide +kernel) rfl rfl rfl) (bL rfl T.n_5 (aa (aw ax (pv 1) ac (λ_ _=>rfl)) ae)) (λ_ _ _ _ _ _=>(pgN 0 wV)) (aC rfl) (λ_ _ _ _ _ _=>aK) (λ_ _ _ _ _ _=>(bE ae))) rfl)
  (ak (bj Xd rfl (i9 rfl T.n_0 (pv 2)) (cb rfl (aA (pgN 4 dP.nd) (aA (pgN 5 dP.nd) bK))) (ak (bj Xd rfl (bL rfl T.n_5 (aa (aB az rfl T.n_1 Xj (aa (pv 3) ae)) ae)) (pgN 6 dP.nd) (ak (aV (fK (pv 0) T.cl_Ways T.g_14.me (j1 T) (hr.mono (by first|decide|lia)) T.g_14.b .nil cU (aa (pv 4) (aa (pv 6) (aa (pcF T.g_10 (oF T) hr (aa (pv 5) (aa (pv 3) (aa (pv 6) ae)))) ae)))))))))))))),?_}
 try dsimp only[zu,yX]
 refine{_,E?,ka,_,0,.str nm,E?,E?,i! zE,at0,_,E?,x,T.e_Ways,dx,_,E?,ex,T.cl_Ways,T.na_Ways_kind_name,(by show 0<1000;decide),?_};have b1:SameB x H (upd H x (.ins T.e_Ways dx (aP (WE "kind_name") (.str nm) []))):=z!;have x1:(upd H x (.ins T.e_Ways dx (aP (WE "kind_name") (.str nm) []))) x=A? (.ins T.e_Ways dx (aP (WE "kind_name") (.str nm) [])):=af
 have fr:∀{H1:Hp}{o:HO},SameB x H H1->H1 x=A? o->∀b,H1 b=B?->H b=B?/\b≠x:=λ{H1 o}s e b z=>by
  have hb:b≠x:=λy=>by rw[y,e]at z;cases z
  refine{?_,hb};cases y:H b with
  |none=>rfl
  |some u=>rw[s b u hb y]at z;cases z
 generalize(upd H x (.ins T.e_Ways dx (aP (WE "kind_name") (.str nm) [])))=H1 at b1 x1 |-;refine{lnE rfl,λpl Aq=>?_};obtain⟨QF,LC⟩:=fr b1 x1 pl Aq;refine{_,E?,x,T.e_Ways,dx,_,E?,(aj LC.symm).trans x1,T.cl_Ways,T.na_Ways_pairs,(by show 1<1000;decide),?_};have b2:SameB x H (upd (upd H1 pl (.lst [])) x (.ins T.e_Ways dx (aP (WE "pairs") (.ref pl) (aP (WE "kind_name") (.str nm) [])))):=b1.trans ((A! (ao Aq _)).trans z!);have x2:(upd (upd H1 pl (.lst [])) x (.ins T.e_Ways dx (aP (WE "pairs") (.ref pl) (aP (WE "kind_name") (.str nm) [])))) x=A? (.ins T.e_Ways dx (aP (WE "pairs") (.ref pl) (aP (WE "kind_name") (.str nm) []))):=af;have p2:(upd (upd H1 pl (.lst [])) x (.ins T.e_Ways dx (aP (WE "pairs") (.ref pl) (aP (WE "kind_name") (.str nm) [])))) pl=A? (.lst []):=(aj LC).trans af;generalize(upd (upd H1 pl (.lst [])) x (.ins T.e_Ways dx (aP (WE "pairs") (.ref pl) (aP (WE "kind_name") (.str nm) []))))=H2 at b2 x2 p2 |-;have kx:ka≠x:=aF zE ex (λz=>nomatch z);refine{_,E?,ka,_,1,.int (m:Nat),E?,E?,i! (b2 _ _ kx zE),at1,(m:Nat),E?,by lia,by lia,?_};rw[WU];refine oK (n:=m) (o:=.dT []) (by lia) (λi H3 R _ hR=>λd hd=>hR d hd) λnl H3 ds Ci s3 e3 dl TY AF=>?_;obtain⟨TZ,QG⟩:=fr b2 x2 nl Ci;refine{_,E?,x,T.e_Ways,dx,_,E?,s3 _ _ x2,T.cl_Ways,T.na_Ways_needing,(by show 2<1000;decide),?_};have b3:=b2.trans (A! s3)
 have LD:∀d∈ds,d≠x/\H d=none:=λd hd=>by
  obtain⟨h1,h2,h3⟩:=AF d hd;obtain⟨h4,h5⟩:=fr b2 x2 d h2;exact⟨h5,h4⟩
 have b4:SameB x H (upd H3 x (.ins T.e_Ways dx (aP (WE "needing") (.ref nl) (aP (WE "pairs") (.ref pl) (aP (WE "kind_name") (.str nm) []))))):=b3.trans z!;have x4:(upd H3 x (.ins T.e_Ways dx (aP (WE "needing") (.ref nl) (aP (WE "pairs") (.ref pl) (aP (WE "kind_name") (.str nm) []))))) x=A? (.ins T.e_Ways dx (aP (WE "needing") (.ref nl) (aP (WE "pairs") (.ref pl) (aP (WE "kind_name") (.str nm) [])))):=af;have p4:(upd H3 x (.ins T.e_Ways dx (aP (WE "needing") (.ref nl) (aP (WE "pairs") (.ref pl) (aP (WE "kind_name") (.str nm) []))))) pl=A? (.lst []):=(aj LC).trans (s3 _ _ p2);have n4:(upd H3 x (.ins T.e_Ways dx (aP (WE "needing") (.ref nl) (aP (WE "pairs") (.ref pl) (aP (WE "kind_name") (.str nm) []))))) nl=A? (.lst (ds.map j!)):=(aj QG).trans e3;have d4:∀d∈ds,(upd H3 x (.ins T.e_Ways dx (aP (WE "needing") (.ref nl) (aP (WE "pairs") (.ref pl) (aP (WE "kind_name") (.str nm) []))))) d=A? (.dT (dE [])):=λd hd=>(aj (LD d hd).1).trans (AF d hd).1;generalize(upd H3 x (.ins T.e_Ways dx (aP (WE "needing") (.ref nl) (aP (WE "pairs") (.ref pl) (aP (WE "kind_name") (.str nm) [])))))=H4 at b4 x4 p4 n4 d4 |-;refine{_,E?,ka,_,1,.int (m:Nat),E?,E?,i! (b4 _ _ kx zE),at1,(m:Nat),E?,by lia,by lia,?_};rw[WU];refine oK (n:=m) (o:=.lst []) (by lia) (λi H5 R _ hR=>{lnE rfl,λd hd=>hR d hd}) λal H5 as Aj s5 e5 T1 and' has=>?_;obtain⟨T2,T3⟩:=fr b4 x4 al Aj;refine{_,E?,x,T.e_Ways,dx,_,E?,s5 _ _ x4,T.cl_Ways,T.na_Ways_agreeing,(by show 3<1000;decide),?_}
 have QH:∀a∈as,a≠x/\H a=none:=λa ha=>by
  obtain⟨h1,h2,h3⟩:=has a ha;obtain⟨h4,h5⟩:=fr b4 x4 a h2;exact⟨h5,h4⟩
 rw[uU nm pl nl al];have T4:pl≠nl:=λz=>by rw[z,Ci]at p2;cases p2
 have T5:pl≠al:=λz=>by rw[z,Aj]at p4;cases p4
 have T6:nl≠al:=λz=>by rw[z,Aj]at n4;cases n4
 obtain⟨md,ma,me⟩:=tP (ds:=ds) (as:=as) (dl.trans T1.symm);have Ab:∀k∈iB ds as,k.d∈ds/\k.a∈as:=λk hk=>{by rw[<-md];exact WY.mpr ⟨k,hk,rfl⟩,by rw[<-ma];exact WY.mpr ⟨k,hk,rfl⟩}
 have zP:(iB ds as).length=m:=by
  have:=h! X9 md;rw[Wt]at this;exact this.trans dl
 have b6:SameB x H (upd H5 x (.ins T.e_Ways dx (wyF nm pl nl al))):=b4.trans ((A! s5).trans z!)
 have Hu:WyAt T.e_Ways (upd H5 x (.ins T.e_Ways dx (wyF nm pl nl al))) {x,dx,nm,pl,nl,al,[],iB ds as}:=by
  refine{af,(aj LC).trans (s5 _ _ p4),(by intro q hq;cases hq),?_,?_,λk hk=>?_,λk hk=>?_,T4,T5,T6,λk hk=>?_,?_,?_}
  .have:=h! (List.map j!) md;rw[Xg]at this;exact((aj QG).trans (s5 _ _ n4)).trans (h! (λz=>A? (HO.lst z)) this.symm)
  .have:=h! (List.map j!) ma;rw[Xg]at this;exact((aj T3).trans e5).trans (h! (λz=>A? (HO.lst z)) this.symm)
  .have h1:=(Ab k hk).1;rw[(me k hk).1];exact(aj (LD _ h1).1).trans (s5 _ _ (d4 _ h1))
  .have h1:=(Ab k hk).2;rw[(me k hk).2];exact(aj (QH _ h1).1).trans (has _ h1).1
  .obtain⟨_,h2,h3⟩:=has _ (Ab k hk).2;exact{λz=>(by rw[z,p4]at h2;cases h2),λz=>(by rw[z,n4]at h2;cases h2),h3}
  .exact(h! List.Nodup ma).mpr and'
  .exact(h! List.Nodup md).mpr TY
 have GC:∀b∈pl::ds,H b=none:=λb hb=>by
  rcases WW.mp hb with rfl|hb
  .exact QF
  .exact(LD b hb).2
 have Hv:WI T.e_Ways H {x,dx,nm,pl,nl,al,[],iB ds as} Ls pats (upd H5 x (.ins T.e_Ways dx (wyF nm pl nl al))) {x,dx,nm,pl,nl,al,[],iB ds as} [] (λ_ _=>False) 0 :=
  {b6,Hu,⟨rfl,rfl,rfl,rfl,rfl⟩,rfl,WSp.nil _ _,rfl,λk kd hk=>by
   have:=(me kd (Ww hk)).1;rw[this];exact{NeedT.nil k,Xo _},Xo _}
 generalize(upd H5 x (.ins T.e_Ways dx (wyF nm pl nl al)))=H6 at Hv |-
 have QI:∀w:Wy,w.ks.map Kd.sh=(iB ds as).map Kd.sh->w.ks.map (·.d)=ds/\w.ks.map (·.a)=as/\(∀k∈w.ks,k.ag=[])/\w.ks.length=m:=λw h=>by
  have h1:=h! (List.map (·.1)) h;have h2:=h! (List.map (·.2.1)) h;have h3:=h! X9 h;rw[Xg,Xg]at h1 h2;rw[Wt,Wt]at h3;refine{(show w.ks.map (·.d)=(iB ds as).map (·.d)from h1).trans md,(show w.ks.map (·.a)=(iB ds as).map (·.a)from h2).trans ma,λk hk=>?_,h3.trans zP};obtain⟨k',zm,e⟩:=WY.mp (h ▸ WY.mpr ⟨k,hk,rfl⟩);have e2:k'.ag=k.ag:=h! (λz:Wx×Wx×List Int=>z.2.2) e;rw[<-e2];exact(me k' zm).2
 clear Hu b6 b4 x4 p4 n4 d4 b3 s3 s5 AF has;have QJ:pa≠x:=aF Dh ex (λz=>nomatch z);refine{_,E?,pa,E?,{_,l! (Hv.sb _ _ QJ Dh)},?_}
 refine gM (K:=K) (a:=pa) (xs:=GB.map j!) (λi σ H7=>Ex5 λ(c4 c5 c6:Option V)(w:Wy)(Ws:List cA)=>An2 (σ=[A? (.ref x),A? (.ref ka),A? (.ref pa),A? (.ref rt),c4,c5,c6]) (WI T.e_Ways H {x,dx,nm,pl,nl,al,[],iB ds as} Ls pats H7 w Ws (λs _=>s<i) (i * Ls.length)))
  {B?,B?,B?,_,[],rfl,Hv.same (λ_ _ e=>e) (λs _ _ _ h=>by lia) (Xo _)} (λi σ H7 _⟨_,_,_,_,_,_,h⟩=>l! (h.sb _ _ QJ Dh)) ?_ ?_
 .rintro i x' p σ H7 hx hp ⟨c4,c5,c6,w,Ws,rfl,hI⟩;rw[Wz]at hx;walk_at"a";obtain⟨pi,N0,rfl⟩:=W4.mp hx;obtain⟨pat,BP,Dg⟩:=AW.get N0;have Lc:=Ww BP;have zV:=(glE BP);obtain⟨T7,hsz,Bs⟩:=zU.ap pat Lc;refine kZ ?_;refine gU hp λH8 s8 ep=>?_;have N1:∀{H9:Hp},SameB x H H9->KT H H9:=λ{H9}s b xs e=>s b _ (aF e ex (λz=>nomatch z)) e
  have N2:cs.length=Ls.length:=by
   have h1:To.length=cs.length:=WS zU.to;rw[<-h1,zU.cl.len]
  refine{p,_,E?,i! ep,E?,_,_,E?,_,_,E?,E?,?_};dsimp only[av];have N3:SameB x H H8:=hI.sb.trans (A! s8)
  have V7:Ls.length<=4000:=by
   have h1:=zU.hS;have h2:=zU.big;have:1 * Ls.length<=S * Ls.length:=Zd _ (by lia);lia
  refine{_,E?,rt,_,E?,.inr (i! (N1 N3 _ _ zU.rt)),_,E?,by lia,by rw[Wt];lia,?_};rw[Wt,WU,N2]
  refine bX (lo:=0) (n:=Ls.length) (λj σ H9=>Ex3 λ(c6:Option V)(w:Wy)(Ws:List cA)=>An2 (σ=[A? (.ref x),A? (.ref ka),A? (.ref pa),A? (.ref rt),A? (.int (i:Nat)),A? (.ref pi),c6]) (WI T.e_Ways H {x,dx,nm,pl,nl,al,[],iB ds as} Ls pats H9 w Ws (λs pt=>s<i\/(s=i/\pt<j)) (i * Ls.length+j)))
   {c6,w,Ws,rfl,hI.same s8 (λs pt _ _ h=>by lia) (WD _)} ?_ ?_
  .rintro j σ H9 hj ⟨c6,w,Ws,rfl,Ao⟩;rw[Int.zero_add];walk_at"a";obtain⟨u,hu⟩:∃u,Ls[j]?=A? u:={_,Wv hj};have JR:=zU.mono (N1 Ao.sb);have T8:=Dg.mono (N1 Ao.sb);obtain⟨g1,g2,g3,g4,g5⟩:=Ao.eq;obtain⟨h1,h2,h3,h4⟩:=QI w Ao.sh;refine kZ ?_
   have B2:Ws.length<=5000:=by
    have q1:=Ao.len;have q2:(i+1) * Ls.length<=S * Ls.length:=Zd _ (by have:=zU.hS;lia);have q3:=zU.big;rw[Zt]at q2;lia
   have N4:∀{Ee:Hp},k! H9 Ee->WyAt T.e_Ways Ee w:=λs=>Ao.wa.same s;refine{_,E?,x,w.dx,_,E?,by rw[<-(show w.x=x from g1)];exact Ao.wa.ins,gy,_,E?,_,E?,_,E?,_,E?,_,E?,pi,rt,j,pat,u,cs,To,Ls,ar,E?,T8,JR.rt,JR.to,zU.cl,hu,T7,zU.aL,by lia,λEe B7 zJ=>?_,λd L Ee B7 Ce ed hL=>?_}
   .refine{w,_,_,_,Ws,by rw[g1];rfl,N4 B7,Ao.psl,B2,Ao.nt,.inl {E?,?_}};refine{_,w,Ws,E?,{Ao.sb.trans (A! B7),N4 B7,Ao.eq,Ao.sh,(Ao.sp.none BP hu zJ).congr λs pt _ _ h=>?_,Ao.ps,Ao.nt,by have:=Ao.len;lia}};lia
   .have EF:d∉w.ks.map (·.d):=λz=>by
     obtain⟨kd,hm,e⟩:=WY.mp z;have:=Ao.wa.nd kd hm;rw[e,Ce]at this;cases this
    refine{w,_,_,_,Ws,by rw[g1];rfl,N4 B7,Ao.psl,B2,Ao.nt,.inr {d,L,E?,ed,EF,by have:=rT hL;lia,λe he=>?_,λMg a yZ T9 N5 Ua EE=>?_}}
    .obtain⟨k',e1,e2⟩:=(Bs _ _ (hL.ok e he).2).1;exact{k',e1,by lia}
    .refine{_,_,Ws++[(_,_,L)],E?,{?_,N5,⟨g1,g2,g3,g4,g5⟩,EE.trans Ao.sh,(Ao.sp.add BP hu hL).congr λs pt _ _ h=>?_,?_,?_,?_}}
     .intro b o hb e;refine T9 b o (λz=>?_) (B7 _ _ (Ao.sb b o hb e));rw[h1,g3]at z;rw[GC b z]at e;cases e
     .lia
     .rw[W3,W3,Ao.ps];rfl
     .intro k kd hk;rw[WL,Xe];exact Ua k kd hk
     .rw[WL,Xe];have:=Ao.len;lia
  .rintro σ H9 ⟨c6,w,Ws,rfl,Ao⟩;refine{_,_,_,w,Ws,E?,Ao.same (λ_ _ e=>e) (λs pt _ Bw h=>?_) (by rw[Zt];exact WD _)};obtain⟨u,hu⟩:=Bw;have:=(glE hu);lia
 .rintro σ H7 ⟨c4,c5,c6,w,Ws,rfl,hI⟩;walk_at"a";obtain⟨h1,h2,h3,h4⟩:=QI w hI.sh;obtain⟨g1,g2,g3,g4,g5⟩:=hI.eq;refine kZ ?_;have Aq:pats.length=GB.length:=AW.length.symm;refine q w H7 Ws g1 g2 hI.sb hI.wa h4 h3 {hI.sp.congr λs pt hs _ _=>?_,hI.ps,hI.nt,?_} λb hb=>?_
  .obtain⟨p,hp⟩:=hs;have:=(glE hp);rw[Wt];lia
  .have:=hI.len;rw[Wt,<-Aq,zU.hS]at this;exact XB this zU.big
  .rw[h1,h2,g3,g4,g5]at hb;simp only[WW,WQ]at hb;rcases hb with rfl|rfl|rfl|hb|hb
   .exact QF
   .exact TZ
   .exact T2
   .exact(LD b hb).2
   .exact(QH b hb).2
inductive gB(CT CW CM:Wx)(vs:List V)(H:Hp)(Q:VK)(E:XK):Prop
 |mk (tb:Tb) (w:Wy) (b:Int) (n:Nat) (ka:Wx) (ks:List Nat):vs=[.ref tb.x,.ref w.x,.int b,.int (n:Nat),.ref ka]->TbAt CT CW H tb->w∈tb.ws->H ka=A? (.tup (ks.map nW))->(∀k∈ks,k<tb.settled.length)->ks.length<=3->0<=b->(∀q∈w.ps,∃s:Nat,q.1=(s:Int)/\s<tb.S)->w.ps.length<=1000000->tb.S<=100000->(tb.found.map (·.note)).Nodup->tb.found.length<=30->w.nm≠q->(∀(note:List Int)(H':Hp),NoteBy w.ps b tb.S w.ps.length note->note∉tb.found.map (·.note)->tb.found.length=30->k! H H'->E (.ref CM) B? H')->(∀(c:NtE)(H':Hp)(F':List NtE),NoteBy w.ps b tb.S w.ps.length c.note->c.n=n+1->c.t=.knot w.nm (aH tb.settled ks)->Entd tb.found c F'->SameB tb.fd H H'->TbAt CT CW H' {tb with found:=F'}->Q .non H')->gB CT CW CM vs H Q E
theorem gb:bv P w K mg base (CX1 P w) 2 T.g_20.f T.g_20.d ["self","ways","bits","knots","kids"] (gB T.e_Table T.e_Ways T.e_Many):=by
 refine T.g_20.F.ok1 eu (λvs H Q E h=>?_) (λy9 A outer s H vs Q E hr h=>?_)
 .obtain⟨tb,w,b,n,ka,ks,rfl,_⟩:=h;rfl
 obtain⟨tb,w,b,n,ka,ks,rfl,ht,E5,zE,zO,zP,hb,zG,AW,hS,Bu,V8,Jj,qE,q⟩:=h
 refine{_,(ad (am 5 eu.nd (fK (pv 1) T.cl_Ways T.g_18.me (j4 T) (hr.mono (by first|decide|lia)) T.g_18.b .nil cU (aa (pv 2) (aa (bF (pv 0) rfl) ae))))
  (ad (bI (PW.pt (iD (iH (dv (cm hr) (pv 5) (bF (pv 0) rfl))) (gY (aG cO (aB gR rfl T.n_1 Xj (aa (bF (pv 0) rfl) ae)) (nQ (v:=.int (30)) rfl T.c_MOST_NOTES.choose_spec {_,E?}) (aO _))))) (ak (uq T.X_Many T.x_Many gJ)) aW)
  (ak (bI (PW.pt (oY (iH (dv (cm hr) (pv 5) (bF (pv 0) rfl))) (li (aG fZ (ay bG (pv 3) ac) (aw ax (dF (cm hr) (bF (pv 0) rfl) (pv 5) (λ_ _=>rfl)) ac (λ_ _=>rfl)) (aO _))))) (ad (am 6 eu.nd (ay ny (bg (aa (bF (pv 1) rfl) ae)) (bR aZ rfl T.n_8 XA (aa (aX (N:=["kid","self"]) (js:=[B?,A? 0]) (g:=(av 0)) (tt:=aI) (te:=(tOp (dL K) (tOp (xH K) (xT K (bf 1) "settled") (bf 0)) (tC (.int 2)))) rfl (bA rfl (by decide +kernel) (by decide +kernel) rfl rfl rfl) (bU (pv 4)) (λ_ _ _ _ _ _=>(pgN 0 yP)) (aC rfl) (λ_ _ _ _ _ _=>aK) (λ_ _ _ _ _ _=>(aw ax (aw aS (bF (pv 1) rfl) (pv 0) (λ_ _=>rfl)) ac (λ_ _=>rfl)))) ae))))
  (ak (fV (cm hr) (bF (pv 0) rfl) (pv 5) (bg (aa (ay bG (pv 3) ac) (aa (pv 5) (aa (pv 6) ae)))) rfl))) aW)))),?_}
 try dsimp only[zu,yX]
 have AK:=ht.wa w E5;refine{_,E?,w.x,w.dx,_,E?,AK.ins,gy,_,E?,_,E?,tb.x,T.e_Table,tb.dx,_,_,E?,ht.ins,T.cl_Table,T.na_Table_states,yd,w,b,tb.S,E?,AK,AW,hS,hb,zG,λr note H1 s1 er hN=>?_};dsimp only[av];have Ak:=ht.same s1;have ek:H1 r=A? (.tup ((gp note).map kV)):=by rw[ut];exact er
 refine bc (λi' H'=>i'=[A? (.ref tb.x),A? (.ref w.x),A? (.int b),A? (.int (n:Nat)),A? (.ref ka),A? (.ref r),B?]/\H'=H1/\(note∉tb.found.map (·.note)->tb.found.length≠30)) (λkk hk=>?_) ?_
 .refine{_,E?,_,E?,tb.x,T.e_Table,tb.dx,_,_,E?,Ak.ins,T.cl_Table,T.na_Table_found,kL,tb.fd,_,E?,G! Ak.fd ek,_,E?,?_};cases hv:bC (nfv tb.found) (gp note)with
  | some v =>
    walk_at"a";obtain⟨i,e,h1,h2,_⟩:=qK hv;refine kZ ?_;exact cV (cV (hk _ _ {rfl,rfl,λz=>g! (WY.mpr {e,Ww h1,h2}) z}))
  | none =>
    refine dY {_,rfl,tb.x,T.e_Table,tb.dx,_,_,rfl,Ak.ins,T.cl_Table,T.na_Table_found,kL,tb.fd,_,rfl,Ak.fd,rfl,_,rfl,?_};rw[j7];by_cases z:tb.found.length=30
    .rw[d! (show o! ((tb.found.length:Nat):Int)=o! 30 by rw[z];rfl)];exact dY (qE note H1 hN (kR hv) z s1)
    .rw[c! (show¬o! ((tb.found.length:Nat):Int)=o! 30 fromλy=>z (by injection y with y;lia))];exact cV (hk _ _ {rfl,rfl,λ_=>z})
 rintro i' H' ⟨rfl,rfl,Hi⟩;refine cF (λb' C5=>C5=H'/\(b'=C?->∃F':NtE->List NtE,∀c:NtE,c.note=note->c.n=n+1->putK (nfv tb.found) (gp c.note) (.ref c.a)=nfv (F' c)/\Entd tb.found c (F' c))/\(b'=D?->∃e∈tb.found,e.note=note/\e.n<=n+1)) (λk2 zk=>?_) ?_ ?_
 .refine{_,E?,_,E?,tb.x,T.e_Table,tb.dx,_,_,E?,Ak.ins,T.cl_Table,T.na_Table_found,kL,tb.fd,_,E?,G! Ak.fd ek,_,E?,?_};cases hv:bC (nfv tb.found) (gp note)with
  | none =>
    refine dY (zk _ _ {rfl,λ_=>{λc=>tb.found++[c],λc hc _=>?_},λz=>(nomatch z)});subst hc;exact{vf hv,.add (kR hv) (Hi (kR hv))}
  | some v =>
    obtain⟨i,e,h1,h2,rfl⟩:=qK hv;have BY:=Ww h1;have N6:=Ak.fe e BY;refine cV {_,rfl,_,_,rfl,rfl,_,rfl,tb.x,T.e_Table,tb.dx,_,_,rfl,Ak.ins,T.cl_Table,T.na_Table_found,kL,_,rfl,tb.fd,_,rfl,by rw[<-hv];exact G! Ak.fd ek,e.a,_,0,.int (e.n:Nat),rfl,rfl,i! N6.a,at0,_,_,rfl,rfl,_,rfl,?_};by_cases z:n+1<e.n
    .rw[d! (show(n:Int)+1<(e.n:Int)by lia)];refine zk _ _ {rfl,λ_=>{λc=>tb.found.set i c,λc hc Gw=>?_},λz=>(nomatch z)};subst hc;exact{u8 Bu h1 h2,.set i e h1 h2 (by lia)}
    .rw[c! (show¬(n:Int)+1<(e.n:Int)by lia)];exact zk _ _ {rfl,λz=>(nomatch z),λ_=>{e,BY,h2,by lia}}
 .rintro C5 ⟨rfl,hF,_⟩;obtain⟨F',Ub⟩:=hF rfl;refine bc (λQK H5=>Ex1 λtr=>An3 (QK=[A? (.ref tb.x),A? (.ref w.x),A? (.int b),A? (.int (n:Nat)),A? (.ref ka),A? (.ref r),A? (.ref tr)]) (k! C5 H5) (At H5 (.knot w.nm (aH tb.settled ks)) tr)) (λkk hk=>?_) ?_
  .refine{_,E?,w.x,T.e_Ways,w.dx,_,_,E?,(Ak.wa w E5).ins,T.cl_Ways,T.na_Ways_kind_name,xA,lnE rfl,λp1 Am=>?_};refine gU Am λH2 s2 QL=>?_;have E6:=Ak.same s2;have JS:=s2 _ _ (s1 _ _ zE);refine{_,E?,ka,E?,{_,i! JS},bP ks (λk=>j! (((tb.settled[k]?).map (·.ta)).getD 0)) (i! JS) (by rw[Wt]) (by rw[Wt];lia) (λi x z H3 R W' hx hz s3 hR=>?_) (λD H3 hD s3 e3=>?_)}
   .rw[Wz,hz]at hx;cases hx;have LF:=zO z (Ww hz);have ez:=Wv LF;have GD:=E6.same s3;have Uc:=GD.se _ (XS LF);refine{_,E?,tb.x,T.e_Table,tb.dx,_,_,E?,GD.ins,T.cl_Table,T.na_Table_settled,lZ,_,E?,tb.st,_,(z:Int),.ref (tb.settled[z]).a,E?,E?,l! GD.st,bp (j:=z) (gmE ez),_,_,2,.ref (tb.settled[z]).ta,E?,E?,i! Uc.a,at2,?_};have:=hR H3 (λ_ _ e=>e);rw[ez]at this;exact this
   .have Lq:=qY (H:=H3) zO λe he=>((E6.same s3).se e he);refine{D,_,E?,.inl {l! e3,λp2 zt=>?_}};refine gU zt λH4 s4 DU=>?_;have LG:(ks.map λk=>j! (((tb.settled[k]?).map (·.ta)).getD 0))=(ks.map λk=>((tb.settled[k]?).map (·.ta)).getD 0).map j!:=by rw[Xg];rfl
    have Dj:=s2.trans (s3.trans s4)
    have mk:∀(tr:Wx)(H5:Hp),k! H4 H5->H5 tr=A? (.tup (.str w.nm::(ks.map λk=>j! (((tb.settled[k]?).map (·.ta)).getD 0))))->At H5 (.knot w.nm (aH tb.settled ks)) tr:=λtr H5 s5 e5=>by
     rw[LG]at e5;rw[At];exact{Jj,_,e5,Lq.mono (n! (s4.trans s5))}
    refine{p1,p2,_,_,E?,E?,i! (s4 _ _ (s3 _ _ QL)),i! DU,by simp,Yj (aT (by rw[Wt];show 1+_<=1000000;lia)),λGv=>?_,λ_ p3 Ae=>?_}
    .refine hk _ _ {p1,rfl,Dj,mk p1 H4 (λ_ _ e=>e) ?_};rw[Gv];exact s4 _ _ (s3 _ _ QL)
    .exact hk _ _ {p3,rfl,Dj.trans (ao Ae _),mk p3 _ (ao Ae _) af}
  rintro QK H5 ⟨tr,rfl,s5,N7⟩;refine{_,E?,_,_,E?,E?,_,E?,_,E?,lnE rfl,λpe Ud=>?_};refine gU Ud λH6 s6 Ue=>?_;have Fx:=s5.trans s6;have LH:=Ak.same Fx;refine{_,E?,tb.x,T.e_Table,tb.dx,_,_,E?,LH.ins,T.cl_Table,T.na_Table_found,kL,_,E?,tb.fd,_,E?,DPut.t LH.fd (Fx _ _ ek) (aT (by rw[j7];lia)),?_};have hc:=Ub {n+1,note,.knot w.nm (aH tb.settled ks),pe,r,tr} rfl rfl;have h1:=hc.1;dsimp only at h1;rw[h1];refine q {n+1,note,.knot w.nm (aH tb.settled ks),pe,r,tr} _ _ hN rfl rfl hc.2 ((A! (s1.trans Fx)).trans z!) (LH.setFound λe he=>?_);rcases hc.2.mem e he with he|rfl
  .exact LH.fe e he
  .exact{Ue,Fx _ _ er,N7.mono (n! s6)}
 .rintro C5 ⟨rfl,_,hF⟩;walk_at"a";obtain⟨e,he,h1,h2⟩:=hF rfl;refine kZ ?_;exact q {n+1,note,.knot w.nm (aH tb.settled ks),0,0,0} C5 tb.found hN rfl rfl (.keep e he h1 h2) (A! s1) Ak
inductive f9(CT CW CM:Wx)(vs:List V)(H:Hp)(Q:VK)(E:XK):Prop
 |mk (tb:Tb) (e:NtE) (ins:List (W8×Int)) (rows:List (List Th)) (Ls:List Th) (old:List NtE) (cl:W8->List Nat->Prop):vs=[.ref tb.x,.ref e.a]->TbAt CT CW H tb->TInv ins rows Ls old tb.ws.length cl tb->GoodN ins->Ls.Nodup->tb.S<=100000->e∈tb.found->e∉tb.settled->(∀y∈tb.found,y∉tb.settled->keyLt y.key e.key=D?)->(∀H',FrB tb.mut H H'->Over ins rows Ls->E (.ref CM) B? H')->(∀(zj:Tb)(H':Hp),FrB tb.mut H H'->TbAt CT CW H' zj->zj.x=tb.x->zj.settled=tb.settled++[e]->zj.mut=tb.mut->zj.ws.length=tb.ws.length->TInv ins rows Ls tb.settled zj.ws.length (λnm ks=>(cl nm ks/\∀k∈ks,k<tb.settled.length)\/((∃m:Nat,ins[m]?=A? (nm,((ks.length:Nat):Int)))/\(∀n∈ks,n<=tb.settled.length)/\tb.settled.length∈ks)) zj->Q .non H')->f9 CT CW CM vs H Q E
theorem jw:bv P w K mg base (CX1 P w) 4 T.g_21.f T.g_21.d ["self","entry"] (f9 T.e_Table T.e_Ways T.e_Many):=by
 refine T.g_21.F.ok1 cf (λvs H Q E h=>?_) (λy9 A outer s H vs Q E hr h=>?_)
 .obtain⟨tb,e,ins,rows,Ls,old,cl,rfl,_⟩:=h;rfl
 obtain⟨tb,e,ins,rows,Ls,old,cl,rfl,ht,hI,hg,Bu,hS,LI,BX,Cc,qE,q⟩:=h
 refine{_,(ad (aV (cn W7 Xm Xl br (bF (pv 0) rfl) (aa (pv 1) ae)))
  (ad (df (i:=2) (N:=["knots","note","tree"]) (js:=[B?,B?,B?]) (g:=(rE K 3 (fo (av 0) (fo (av 1) (fo (av 2) sr))))) (tt:=aI) (te:=(bf 0)) cf.nd rfl (Or.inl rfl) rfl (bA rfl (by decide +kernel) (by decide +kernel) rfl rfl rfl) (bz (bF (pv 0) rfl)) (λ_ _ _ _ _ _=>(cb rfl (aA (pgN 0 m7) (aA (pgN 1 m7) (aA (pgN 2 m7) bK))))) (nB (cZ bY (aC rfl) (cZ bY (aC rfl) (cZ bY (aC rfl) nj)))) (λ_ _ _ _ _ _=>aK) (λ_ _ _ _ _ _=>(pv 0)))
  (ak (bj PassesOwn.leaving rfl (bz (bF (pv 0) rfl)) (pgN 3 cf.nd) (ad (aV (fK (pv 3) T.cl_Ways T.g_16.me (jf T) (hr.mono (by first|decide|lia)) T.g_16.b .nil cU (aa (aw ax (pv 1) ac (λ_ _=>rfl)) ae)))
  (ak (gW (bj PassesOwn.leaving rfl (kU (fK (pv 3) T.cl_Ways T.g_17.me (iO T) (hr.mono (by first|decide|lia)) T.g_17.b .nil cU (aa (ay iC (aB az rfl T.n_1 Xj (aa (pv 2) ae)) ac) (aa (pv 2) ae)))) (cb rfl (aA (pgN 4 cf.nd) (aA (cb rfl (aA (pgN 5 cf.nd) (aA (pgN 6 cf.nd) bK))) bK))) (ak (aV (fK (pv 0) T.cl_Table T.g_20.me (gb T) (hr.mono (by first|decide|lia)) T.g_20.b .nil qP (aa (pv 3) (aa (pv 4) (aa (pv 5) (aa (pv 6) ae))))))))))))))),?_}
 try dsimp only[zu,yX]
 obtain⟨Hv,N8⟩:=hI.settle LI BX Cc;have N6:=ht.fe e LI;have Hi:(tb.settled++[e]).length<=30:=Hv.p.s30;rw[WL,Xe]at Hi;refine{_,E?,tb.x,T.e_Table,tb.dx,_,_,E?,ht.ins,T.cl_Table,T.na_Table_settled,lZ,.inl {E?,_,l! ht.st},_,E?,tb.st,_,_,E?,E?,ht.st,lbE (by lia),?_};have f1:FrB tb.mut H (upd H tb.st (.lst ((tb.settled.map λe=>j! e.a)++[.ref e.a]))):=N! (by unfold Tb.mut;simp);have Ak:=ht.push N6;generalize(upd H tb.st (.lst ((tb.settled.map λe=>j! e.a)++[.ref e.a])))=H1 at f1 Ak |-;refine{_,E?,tb.x,T.e_Table,tb.dx,_,_,E?,Ak.ins,T.cl_Table,T.na_Table_settled,lZ,tb.st,E?,{_,l! Ak.st},fW (tb.settled++[e]) (λy=>o! (y.n:Nat)) (l! Ak.st) (by rw[Wt]) (by rw[Wt,WL,Xe];lia) (λi x z H2 R W' hx hz s2 hR=>?_) (λsz H2 hsz s2 Hr=>?_)}
 .rw[Wz,hz]at hx;cases hx;have JT:=(Ak.same s2).se z (Ww hz);refine{z.a,_,E?,i! JT.a,E?,_,_,E?,_,_,E?,_,_,E?,E?,?_};exact{_,E?,hR H2 (λ_ _ e=>e)}
 dsimp only[av];have E6:=Ak.same s2
 have N9:sz∉tb.mut:=λz=>by
  have DX:∀{b:Wx}{o:HO},H1 b=A? o->b≠sz:=λe z=>by rw[z,hsz]at e;cases e
  unfold Tb.mut at z;rcases WW.mp z with z|z
  .exact DX Ak.fd z.symm
  .rcases WW.mp z with z|z
   .exact DX Ak.st z.symm
   .obtain⟨v,hv,z⟩:=Zn.mp z;obtain⟨kd,Ab,z⟩:=WY.mp z;exact DX ((Ak.wa v hv).ag kd Ab) z
 refine{_,E?,tb.x,T.e_Table,tb.dx,_,_,E?,E6.ins,T.cl_Table,T.na_Table_ways,vK,tb.wl,E?,{_,l! E6.wl},?_}
 refine dh (K:=K) (a:=tb.wl) (xs:=tb.ws.map λw=>j! w.x) (λi σ H3=>Ex5 λ(c3 c4 c5 c6:Option V)(zj:Tb)=>An5 (σ=[A? (.ref tb.x),A? (.ref e.a),A? (.ref sz),c3,c4,c5,c6]) (FrB tb.mut H2 H3) (TbAt T.e_Table T.e_Ways H3 zj) ((zj.x=tb.x/\zj.settled=tb.settled++[e]/\zj.mut=tb.mut/\zj.ws.map (·.x)=tb.ws.map (·.x)/\zj.wl=tb.wl)) (TInv ins rows Ls tb.settled i (λnm ks=>(cl nm ks/\∀k∈ks,k<tb.settled.length)\/((∃m:Nat,m<i/\ins[m]?=A? (nm,((ks.length:Nat):Int)))/\(∀n∈ks,n<=tb.settled.length)/\tb.settled.length∈ks)) zj))
  {B?,B?,B?,B?,{tb with settled:=tb.settled++[e]},rfl,FrB.refl,E6,⟨rfl,rfl,rfl,rfl,rfl⟩,Hv.congr λnm ks z=>z.elim id λz=>?_} (λi σ H3 _⟨_,_,_,_,zj,_,_,h3,⟨_,_,_,hx,hw⟩,_⟩=>?_) ?_ ?_
 .walk_at"a";obtain⟨⟨m,hm,_⟩,_⟩:=z;refine kZ ?_;exact g! hm (Z4 _)
 .have:=h3.wl;have e3:=h! (List.map j!) hx;rw[Xg,Xg]at e3;rw[hw,show(zj.ws.map λw=>j! w.x)=(tb.ws.map λw=>j! w.x)from e3]at this;exact l! this
 .rintro i x σ H3 hx ⟨c3,c4,c5,c6,zj,rfl,f3,h3,⟨x1,x2,x3,x4,x5⟩,GF⟩
  have Gg:∃w',zj.ws[i]?=A? w'/\x=.ref w'.x:=by
   have BF:(tb.ws.map (·.x))[i]?.map j!=A? x:=by rw[<-Wz,Xg];exact hx
   rw[<-x4,Wz,Option.map_map]at BF;obtain⟨w',h1,h2⟩:=W4.mp BF;exact⟨w',h1,h2.symm⟩
  obtain⟨w',Bh,rfl⟩:=Gg;have E5:=Ww Bh;have AK:=h3.wa w' E5;have QM:e∈zj.settled:=by rw[x2];simp
  have JU:=h3.se e QM;obtain⟨Ws,hk⟩:=GF.k i w' Bh;rw[a! (X1 _)]at hk;have Cy:=GF.p.f1 e (GF.p.s1 e QM);dsimp only[av];refine{_,E?,w'.x,w'.dx,_,E?,AK.ins,gy,_,E?,e.a,_,1,.ref e.na,E?,E?,i! JU.a,at1,w',e.na,e.note,Ws,E?,AK,JU.na,hk.psl,(by have:=hk.len;lia),hk.nt,λkd Ab=>{λy hy=>?_,by have:=hk.ag.len kd Ab;lia},λH4 yZ f4 Ck Fy=>?_}
  .rw[Cy.note.len,gu Cy];exact hk.nc kd Ab y hy
  have V9:yZ.length=w'.ks.length:=Fy.len;have Aw:=hk.take Fy;have hi:=(YI.mp Bh).1
  have AA:∀b∈w'.ks.map (·.a),b∈tb.mut:=λb hb=>by
   rw[<-x3];unfold Tb.mut;exact WR _ (WR _ (Zn.mpr ⟨w',E5,hb⟩))
  walk_at"a"
  obtain⟨t3,h4,⟨y1,y2,y3,y4,y5⟩,Oa,BS⟩:∃t3:Tb,TbAt T.e_Table T.e_Ways H4 t3/\(t3.x=tb.x/\t3.settled=tb.settled++[e]/\t3.mut=tb.mut/\t3.ws.map (·.x)=tb.ws.map (·.x)/\t3.wl=tb.wl)/\TInv ins rows Ls tb.settled (i+1) (λnm ks=>(cl nm ks/\∀k∈ks,k<tb.settled.length)\/((∃m:Nat,m<i/\ins[m]?=A? (nm,((ks.length:Nat):Int)))/\(∀n∈ks,n<=tb.settled.length)/\tb.settled.length∈ks)) t3/\t3.ws[i]?=A? {w' with ks:=yZ}:=by
   refine{{zj with ws:=zj.ws.set i {w' with ks:=yZ}},h3.setWy Bh f4 Ck rfl ?_,{x1,x2,?_,?_,x5},GF.take x2 Bh hk Fy,X5 hi}
   .unfold Wy.bs;show w'.pl::w'.nl::w'.al::(yZ.map (·.d)++yZ.map (·.a))=_;rw[Fy.map.1,Fy.map.2]
   .rw[<-x3];unfold Tb.mut;show zj.fd::zj.st::(zj.ws.set i _).flatMap _=_;rw[List.flatMap_def,List.flatMap_def,map_set _ Bh (by show yZ.map (·.a)=_;exact Fy.map.1)]
   .rw[<-x4];exact map_set (λw:Wy=>w.x) Bh rfl
  refine kZ ?_;have Ob:FrB tb.mut H2 H4:=f3.trans (f4.more AA)
  have JV:H4 sz=A? (.lst (((tb.settled++[e]).map λy=>((y.n:Nat):Int)).map o!)):=by
   rw[Xg];exact Ob _ _ N9 Hr
  have Oc:∀k∈yZ,k.ag.length=tb.settled.length+1:=λk hk=>by
   have:=Aw.ag.len k hk;rw[WL,Xe]at this;exact this
  refine{_,E?,w'.x,w'.dx,_,E?,Ck.ins,gy,_,E?,sz,_,E?,.inl (l! JV),_,_,E?,E?,_,E?,{w' with ks:=yZ},sz,tb.settled.length,(tb.settled++[e]).map λy=>((y.n:Nat):Int),?_,Ck,?_,JV,?_,?_,?_,λk hk=>?_,λr H5 D s5 hr Gy JO hle=>?_}
  .rw[Wt,Wt,WL,Xe];refine h! (λz:Int=>[j! w'.x,.int z,.ref sz]) ?_;lia
  .have:=Aw.len;have h':=Aw.psl;lia
  .rw[Wt,WL,Xe];lia
  .lia
  .exact Aw.m3
  .rw[Oc k hk];lia
  obtain⟨kvs,Fz,Gy⟩:=Gy;refine{r,kvs,E?,Fz,λo=>?_};have k0:KT H5 (upd H5 r (.frz o (.dK kvs))):=λb xs z=>by rw[aj (aF z Fz (λy=>nomatch y))];exact z
  have EK:∀{Ha:Hp}{u:HO},FrB tb.mut H4 Ha->FrB tb.mut H4 (upd Ha r u):=λf b u hb z=>by rw[aj (λy=>by rw[y,hr]at z;cases z)];exact f b u hb z
  have De:D.length=kvs.length:=WS Gy;have zG:∀y∈tb.settled++[e],Told ins rows Ls y:=λy hy=>Oa.p.f1 y (Oa.p.s1 y (by rw[y2];exact hy))
  refine jv (a:=r) (o:=o) (kvs:=kvs) (λj σ H7=>Ex4 λ(c4 c5 c6:Option V)(t:Tb)=>An8 (σ=[A? (.ref tb.x),A? (.ref e.a),A? (.ref sz),A? (.ref w'.x),c4,c5,c6]) (FrB tb.mut H4 H7) (H7 r=A? (.frz o (.dK kvs))) (Xb (RowE H7) D kvs) (TbAt T.e_Table T.e_Ways H7 t) ((t.x=tb.x/\t.settled=tb.settled++[e]/\t.mut=tb.mut/\t.ws.map (·.x)=tb.ws.map (·.x)/\t.wl=tb.wl/\t.ws[i]?=A? {w' with ks:=yZ})) ((∀c∈D.take j,∃note,NoteBy w'.ps c.b rows.length w'.ps.length note)) (TInv ins rows Ls tb.settled (i+1) (λnm ks=>((cl nm ks/\∀k∈ks,k<tb.settled.length)\/((∃m:Nat,m<i/\ins[m]?=A? (nm,((ks.length:Nat):Int)))/\(∀n∈ks,n<=tb.settled.length)/\tb.settled.length∈ks))\/(nm=w'.nm/\∃c∈D.take j,ks=c.ks)) t))
   {c4,c5,c6,t3,rfl,EK (K! s5),af,r! (λ_ _ h=>h.mono k0) Gy,(h4.same s5).beside Fz (λ_ z=>nomatch z) (λ_ z=>nomatch z) (λ_ z=>nomatch z) (λ_ _ _ z=>nomatch z),⟨y1,y2,y3,y4,y5,BS⟩,?_,Oa.congr λnm ks z=>z.elim id λ⟨_,c,hc,_⟩=>?_} (λj σ H7 _⟨_,_,_,_,_,_,e7,_,_,_,_,_⟩=>e7) ?_ ?_
  .intro c hc;rw[YM]at hc;cases hc
  .rw[YM]at hc;cases hc
  .rintro j kv p0 σ H7 An JM ⟨d4,d5,d6,t,rfl,f7,Cj,EY,h7,⟨z1,z2,z3,z4,z5,z6⟩,LJ,Cm⟩;walk_at"a";obtain⟨c,hc,AL,a,ka,zk,ea,zE⟩:=w! EY An;have Ug:=Ww hc;obtain⟨k,v⟩:=kv;refine kZ ?_;dsimp only at AL zk;subst AL zk;refine gU JM λH8 s8 ep=>?_;have ep:H8 p0=A? (.tup [.int c.b,.ref a]):=ep;walk_at"a";obtain⟨js,Dd,⟨Fp,Ei⟩,Od⟩:=hle.sub c Ug;have C4:js.length=yZ.length:=Dd
   have Ep:∀n∈js,n<(tb.settled++[e]).length:=λn hn=>by
    rw[WL,Xe];have:=Fp n hn;lia
   obtain⟨Gw,JW⟩:=lA (AG:=yZ.map (·.ag)) (all:=ones w'.ps.length) js Ep (λy hy=>(zG y hy).n);refine kZ ?_;have Cn:c=cnd (yZ.map (·.ag)) ((tb.settled++[e]).map λy=>((y.n:Nat):Int)) (ones w'.ps.length) js:=Od;rw[<-Cn]at Gw JW
   have Uh:0<=c.b:=by
    have:=(Aw.ag.bits (Z:=(tb.settled++[e]).map λy=>((y.n:Nat):Int)) C4 Ep).1;rw[<-Aw.psl]at this;rw[Cn];exact this
   have h8:=h7.same s8;refine{p0,_,E?,i! ep,E?,_,_,E?,_,_,E?,{a,_,E?,i! (s8 _ _ ea),E?,_,_,E?,_,_,E?,E?,E?,?_}};dsimp only[av];have JX:H8 tb.x=A? (.ins T.e_Table t.dx (tbF t.S t.wl t.fd t.st)):=by rw[<-z1];exact h8.ins
   have Am:=Cm.p;refine{_,E?,tb.x,t.dx,_,E?,JX,nG,_,E?,_,E?,_,E?,_,E?,t,{w' with ks:=yZ},c.b,au (aH (tb.settled++[e]) js),ka,c.ks,?_,h8,Ww z6,s8 _ _ zE,?_,?_,Uh,?_,?_,?_,Am.f2,Am.f3,Aw.nq,λnote H9 hN zJ hF s9=>?_,λx H9 F' hN QN Hh hE AR h9=>?_}
   .rw[z1,Gw];rfl
   .rw[JW,z2];exact Ep
   .rw[JW,C4];exact Aw.m3
   .rw[Cm.S];exact Aw.pz
   .have:=Aw.len;have h':=Aw.psl;lia
   .rw[Cm.S,<-hI.S];exact hS
   .rw[Cm.S,Cn]at hN;have:=Aw.told (c:={(p! w'.nm (aH (tb.settled++[e]) js)).size,note,.knot w'.nm (aH (tb.settled++[e]) js),0,0,0}) hg Bu zG C4 Ep hN rfl rfl;exact qE H9 ((f1.trans (K! s2)).trans (Ob.trans (f7.trans (K! (s8.trans s9))))) (Am.over hF zJ this.fit this.note)
   .have Oe:=hN;rw[Cm.S]at Oe;rw[Cm.S,Cn]at hN;rw[JW,z2]at Hh;have hx:=Aw.told hg Bu zG C4 Ep hN Hh QN;have k9:KT H8 H9:=λb xs z=>AR _ _ (aF z h8.fd (λy=>nomatch y)) z;refine{_,_,_,{t with found:=F'},E?,f7.trans ((K! s8).trans λb u hb z=>AR b u (λy=>hb (by rw[y,<-z3];unfold Tb.mut;simp)) z),AR _ _ (aF (s8 _ _ Cj) h8.fd (λy=>nomatch y)) (s8 _ _ Cj),r! (λ_ _ h=>(h.mono (n! s8)).mono k9) EY,h9,⟨z1,z2,z3,z4,z5,z6⟩,λc' zT=>?_,?_}
    .rw[take_snoc hc]at zT;rcases WQ.mp zT with zT|zT
     .exact LJ c' zT
     .rw[WG.mp zT];exact{_,Oe}
    .refine(Cm.enter (nm:=w'.nm) (js:=js) hE hx (by rw[z2];exact Hh) (λy hy=>?_) (by rw[z2];exact Ep)).congr λnm ks z=>?_
     .rw[z2]at hy;have h1:=N8 y hy;have h2:=(zG e (by simp)).n;have h3:e.t∈aH (tb.settled++[e]) js:=WY.mpr {_,Ei,by rw[Xu (WD _),Zu];rfl};have h4:=tW h3;have h5:x.n=au (aH (tb.settled++[e]) js)+1:=QN;lia
     .rcases z with z|⟨rfl,c',zT,rfl⟩
      .exact .inl (.inl z)
      .rw[take_snoc hc]at zT;rcases WQ.mp zT with zT|zT
       .exact .inl (.inr ⟨rfl,c',zT,rfl⟩)
       .rw[WG.mp zT];exact .inr ⟨rfl,JW⟩
  .rintro σ H7 ⟨d4,d5,d6,t,rfl,f7,Cj,EY,h7,⟨z1,z2,z3,z4,z5,z6⟩,LJ,Cm⟩;rw[XF (by lia)]at LJ Cm;refine{H7,Thaws.refl _ _,_,_,_,_,t,E?,Ob.trans f7,h7,⟨z1,z2,z3,z4,z5⟩,Cm.more λnm ks z=>?_}
   .rcases z with z|⟨⟨m,hm,FA⟩,AL,zk⟩
    .exact .inl (.inl (.inl z))
    .by_cases y:m=i
     .subst y;right;have Cg:=Aw.nm;rw[FA]at Cg;injection Cg with Cg;have e1:nm=w'.nm:=h! Prod.fst Cg;have e2:((ks.length:Nat):Int)=((yZ.length:Nat):Int):=h! Prod.snd Cg;have zP:ks.length=yZ.length:=by lia
      subst e1
      have CK:∀{l:List Nat},(∀n∈l,n<=tb.settled.length)->∀n∈l,n<(tb.settled++[e]).length:=λh n hn=>by
       rw[WL,Xe];have:=h n hn;lia
      walk_at"a";obtain⟨c0,JY,Of,KR⟩:=hle.le _ {ks,zP,⟨AL,zk⟩,rfl};obtain⟨js,Dd,⟨Fp,Ei⟩,Od⟩:=hle.sub c0 JY;obtain⟨a1,a2⟩:=lA (AG:=yZ.map (·.ag)) (all:=ones w'.ps.length) js (CK Fp) (λy hy=>(zG y hy).n);obtain⟨b1,b2⟩:=lA (AG:=yZ.map (·.ag)) (all:=ones w'.ps.length) ks (CK AL) (λy hy=>(zG y hy).n);have Cn:c0=cnd (yZ.map (·.ag)) ((tb.settled++[e]).map λy=>((y.n:Nat):Int)) (ones w'.ps.length) js:=Od;rw[<-Cn]at a1 a2;obtain⟨y,hy,g1,g2⟩:=Cm.p.cl w'.nm c0.ks (.inr ⟨rfl,c0,JY,rfl⟩);rw[z2,a2]at g1 g2;obtain⟨note,hN⟩:=LJ c0 JY;refine kZ ?_;have n1:=Aw.ag.note (nm:=w'.nm) (js:=js) (Z:=(tb.settled++[e]).map λy=>((y.n:Nat):Int)) Bu (Aw.ix hg) rfl Aw.sp Aw.ps Dd (CK Fp) zG (λy hy=>gu (zG y hy)) Aw.call (by rw[Cn]at hN;exact hN);have n2:=Aw.ag.note (nm:=w'.nm) (js:=ks) (Z:=(tb.settled++[e]).map λy=>((y.n:Nat):Int)) Bu (Aw.ix hg) rfl Aw.sp Aw.ps zP (CK AL) zG (λy hy=>gu (zG y hy)) Aw.call (by rw[Of]at hN;exact hN);refine{y,hy,by rw[z2,g1.uniq Bu n1];exact n2,?_};have Ui:c0.n<=((au (aH (tb.settled++[e]) ks):Nat):Int):=by rw[<-b1];exact KR
      rw[z2];have q1:(p! w'.nm (aH (tb.settled++[e]) js)).size=au (aH (tb.settled++[e]) js)+1:=rfl;have q2:(p! w'.nm (aH (tb.settled++[e]) ks)).size=au (aH (tb.settled++[e]) ks)+1:=rfl;lia
     .exact .inl (.inl (.inr {{m,by lia,FA},AL,zk}))
 .rintro σ H3 ⟨c3,c4,c5,c6,zj,rfl,f3,h3,⟨x1,x2,x3,x4,x5⟩,GF⟩;have hl:=h! X9 x4;rw[Wt,Wt]at hl;rw[Wt]at GF;refine q zj H3 ((f1.trans (K! s2)).trans f3) h3 x1 x2 x3 hl ?_;rw[hl];refine GF.congr λnm ks z=>z.imp id λ⟨⟨m,hm⟩,z⟩=>{{m,?_,hm},z};rw[hI.n];exact(glE hm)
def bd:XD:=match b8 fL with
 | [_,.While _ [_,_,.Expr (.Call _ [.Call _ _ [⟨_,l,_⟩] _] _ _) _] _ _]=>l
 |_=>.Name "" {0,0,0,0}
def xu:XD->Arguments
 |.Lambda p _ _ _=>p
 |_=>cD fL
def wI:XD->XD
 |.Lambda _ b _ _=>b
 |e=>e
def vq:XD->Zs
 |.Lambda _ _ s _=>s
 |_=>aE fL
def de:XD->ZD
 |.Lambda _ _ _ p=>p
 |_=>{0,0,0,0}
def g7:W8:="Table.fill.<locals>."++"<lambda>"
def ug(f c':Wx):Sp:=λvs H Q _=>∃e:NtE,vs=[.ref e.a]/\LamAt H f c' "<lambda>" g7 (xu bd) (wI bd) (vq bd) []/\CodeAt H c' g7/\NtA H e/\∀(κ:Wx)(H':Hp),k! H H'->lN H' κ e.key->Q (.ref κ) H'
theorem w9:oQ ["entry"] ["entry"] [] (vq bd):=by
 refine{E?,E?,E?,by decide +kernel,by decide +kernel,E?,by decide +kernel,by decide +kernel,λx h=>?_,λx y c1 h1 h2=>?_}
 .exfalso;have hm:=Ys h;have yW:∀z∈(vq bd).names,z.2≠.free:=by decide +kernel
  exact yW _ hm rfl
 .exact g! (Ys h1) (by simp)
include T in
theorem wQ(f c':Wx):sk P w K mg base CX0 2 f (ug f c'):=by
 refine wX (k:=1) (c':=c') (name:="<lambda>") (qual:=g7) (params:=xu bd) (body:=wI bd) w9 (λpm BK us hl=>?_) (λvs H Q E h=>?_) λA outer s H vs Q E hr h=>?_
 .obtain⟨u,rfl⟩:=us1 hl;rfl
 .obtain⟨e,rfl,hl,hc,_,_⟩:=h;exact{E?,hl,hc,λb' hb=>(nomatch hb),λx c1 hx=>(nomatch hx)}
 .obtain⟨e,rfl,hl,hc,he,q⟩:=h;refine{_,[],.nil,aN cL (pv 0) bi (aY ac),?_};have e0:fgt (([]:List (W8×Wx)).map (·.2)) H=H:=funext λb=>eV (λz=>nomatch z);rw[e0];refine{_,E?,_,E?,e.a,_,E?,i! he.a,?_,λp hp=>?_}
  .show¬(q! 3 0 B?=0/\q! 3 3 (A? 2)=3);decide
  have e1:rst (([]:List (W8×Wx)).map (·.2)) H (upd H p (.tup (cW [.int (e.n:Nat),.ref e.na,.ref e.ta] B? (A? 2))))=upd H p (.tup [.int (e.n:Nat),.ref e.na]):=funext λb=>a! (λz=>nomatch z);refine Eq.subst (motive:=λh=>Q (.ref p) h) e1.symm (q p _ (ao hp _) {e.na,af,?_});exact ao hp _ _ _ he.na
theorem WOk.kok{a:Nat}{w:Wy}(h:WOk Ls (rows.map λrow=>row.getD a bh) w Ws)(hi:ins[a]?=A? (nm,((m:Nat):Int)))(hn:w.nm=nm)(hm:w.ks.length=m)(m3:m<=3)(ha:∀k∈w.ks,k.ag=[])
 (hc:∀p∈rows.map (λrow=>row.getD a bh),∀s k:Int,t! s k∈p.walk->(∃k':Nat,k=(k':Int)/\k'<m)/\∃s':Nat,s=(s':Int)/\s'<rows.length) (nq:nm≠q):KOk ins rows Ls [] a w Ws :=
 {by rw[hn,hm];exact hi,by lia,h.sp,h.ps,λk kd hk=>(h.nt k kd hk).1,h.len,by rw[hm];exact hc,KAg.nil ha,by rw[hn];exact nq}
inductive im(C CW:Wx)(vs:List V)(H:Hp)(Q:VK)(_E:XK):Prop
 |mk (x dx ba ia ra rt:Wx) (v2 v3:V) (zi zd:List Wx) (ins:List (W8×Int)) (rows:List (List Th)) (cs:List Wx) (To:List (W8×List Nat)) (Ls:List Th) (ar:W8->Nat):vs=[.ref x,.ref ba,.ref rt]->H x=A? (.ins C dx [])->H ba=A? (.tup [.ref ia,v2,v3,.ref ra])->H ia=A? (.tup (zi.map j!))->KsAt H ins zi->H ra=A? (.tup (zd.map j!))->Xb (RowAt H) rows zd->ins.length<=1000->rows.length<=1000->(∀row∈rows,row.length=ins.length)->(∀(a:Nat)(nm:W8)(c:Int),ins[a]?=A? (nm,c)->nm≠q/\∃m:Nat,c=(m:Int)/\m<=3/\WIn H rt cs To Ls ar m rows.length (rows.map λrow=>row.getD a bh))->(∀(tb:Tb)(H':Hp),tb.x=x->tb.settled=[]->tb.S=rows.length->SameB x H H'->TbAt C CW H' tb->TInv ins rows Ls [] tb.ws.length (λ_ _=>False) tb->(∀b∈tb.mut,H b=B?)->Q .non H')->im C CW vs H Q _E
theorem lS:bv P w K mg base CX0 5 T.g_19.f T.g_19.d ["self","book","row"] (im T.e_Table T.e_Ways):=by
 refine T.g_19.F.okA ff λy9 A outer s H vs Q E hr h=>?_;obtain⟨x,dx,ba,ia,ra,rt,v2,v3,zi,zd,ins,rows,cs,To,Ls,ar,rfl,ex,JZ,LK,zO,era,GG,zV,Dk,zC,zU,q⟩:=h
 refine{_,(ad (gH (pv 0) (pcF T.g_6 (nM T) hr (aa (pv 1) ae)) rfl)
  (ad (gH (pv 0) (bE ae) rfl)
  (ad (bj Xd rfl (uS rfl T.n_0 (pcF T.g_4 (rW T) hr (aa (pv 1) ae))) (cb rfl (aA (pgN 3 ff.nd) (aA (pgN 4 ff.nd) bK))) (ak (aV (cn W7 Xm Xl br (bF (pv 0) rfl) (aa (qA ⟨T.mi_Ways.1,T.g_13.me.1,T.g_13.me.2,T.mi_Ways.2⟩ (nF T) (hr.mono (by first|decide|lia)) rfl T.x_Ways T.g_13.b .nil cU (aa (pv 4) (aa (aX (N:=["patterns","at"]) (js:=[B?,A? 3]) (g:=(av 0)) (tt:=aI) (te:=(tOp (dL K) (bf 0) (bf 1))) rfl (bA rfl (by decide +kernel) (by decide +kernel) rfl rfl rfl) (bU (pcF T.g_5 (jL T) hr (aa (pv 1) ae))) (λ_ _ _ _ _ _=>(pgN 0 yx)) (aC rfl) (λ_ _ _ _ _ _=>aK) (λ_ _ _ _ _ _=>(aw ax (pv 0) (pv 1) (λ_ _=>rfl)))) (aa (pv 2) ae)))) ae)))))
  (ad (gH (pv 0) dI rfl)
  (ak (gH (pv 0) (bE ae) rfl)))))),?_}
 try dsimp only[zu,yX]
 have QO:rows.length=zd.length:=WS GG;have Hw:ins.length=zi.length:=WS zO;have nx:∀{b:Wx}{xs:List V},H b=A? (.tup xs)->b≠x:=λe=>aF e ex (λz=>nomatch z);refine{_,E?,ba,_,_,_,ra,_,E?,JZ,era,_,E?,x,T.e_Table,dx,_,E?,ex,T.cl_Table,T.na_Table_states,(by show 0<1000;decide),?_};rw[Wt,<-QO];have b1:SameB x H (upd H x (.ins T.e_Table dx (aP (WE "states") (.int (rows.length:Nat)) []))):=z!;have x1:(upd H x (.ins T.e_Table dx (aP (WE "states") (.int (rows.length:Nat)) []))) x=A? (.ins T.e_Table dx (aP (WE "states") (.int (rows.length:Nat)) [])):=af;generalize(upd H x (.ins T.e_Table dx (aP (WE "states") (.int (rows.length:Nat)) [])))=H1 at b1 x1 |-;refine{lnE rfl,λwl B2=>?_};have Gg:wl≠x:=λz=>by rw[z,x1]at B2;cases B2
 have Uj:H wl=none:=by
  cases z:H wl with
  |none=>rfl
  |some o=>rw[b1 wl o Gg z]at B2;cases B2
 refine{_,E?,x,T.e_Table,dx,_,E?,(aj Gg.symm).trans x1,T.cl_Table,T.na_Table_ways,(by show 1<1000;decide),?_}
 have I0:TiI T.e_Table T.e_Ways H x dx wl ins rows Ls 0 rows.length (upd (upd H1 wl (.lst [])) x (.ins T.e_Table dx (aP (WE "ways") (.ref wl) (aP (WE "states") (.int (rows.length:Nat)) [])))) [] :=
  {b1.trans ((A! (ao B2 _)).trans z!),af,(aj Gg).trans af,Uj,(by intro w hw;cases hw),(by intro b hb;cases hb),Y4,rfl,λa w hw=>by simp at hw}
 generalize(upd (upd H1 wl (.lst [])) x (.ins T.e_Table dx (aP (WE "ways") (.ref wl) (aP (WE "states") (.int (rows.length:Nat)) []))))=H2 at I0 |-;refine{_,E?,ba,_,_,_,_,E?,I0.sb _ _ (nx JZ) JZ,ia,E?,{_,i! (I0.sb _ _ (nx LK) LK)},?_}
 refine tq (K:=K) (a:=ia) (xs:=zi.map j!) (λi σ H3=>Ex3 λ(c3 c4:Option V)(ws:List Wy)=>An2 (σ=[A? (.ref x),A? (.ref ba),A? (.ref rt),c3,c4]) (TiI T.e_Table T.e_Ways H x dx wl ins rows Ls i rows.length H3 ws))
  {B?,B?,[],rfl,I0} (λi σ H3 _⟨_,_,_,_,h⟩=>i! (h.sb _ _ (nx LK) LK)) ?_ ?_
 .rintro i x' p σ H3 hx hp ⟨c3,c4,ws,rfl,I3⟩;rw[Wz]at hx;walk_at"a";obtain⟨ka,zZ,rfl⟩:=W4.mp hx;obtain⟨⟨nm,c⟩,hi,zE⟩:=w! zO zZ;obtain⟨Jj,m,rfl,Ht,hW⟩:=zU i nm c hi;refine kZ ?_;have Uk:=(glE hi);have I4:=I3.same (ao (p:=p) hp (.tup [.int (i:Nat),.ref ka]));have ep:(upd H3 p (.tup [.int (i:Nat),.ref ka])) p=A? (.tup [.int (i:Nat),.ref ka]):=af;generalize(upd H3 p (.tup [.int (i:Nat),.ref ka]))=H4 at I4 ep |-;refine{p,_,E?,i! ep,E?,_,_,E?,_,_,E?,E?,?_};dsimp only[av];refine{_,E?,x,T.e_Table,dx,_,_,E?,I4.self,T.cl_Table,T.na_Table_ways,sL,.inl {E?,_,l! I4.wll},?_};have kt:∀{H9:Hp},SameB x H H9->KT H H9:=λ{H9}s b xs e=>s b _ (nx e) e;have E7:=kt I4.sb _ _ era;have Og:=r! (λ_ _ e=>RowAt.mono (kt I4.sb) e) GG;refine{_,E?,_,E?,ba,_,_,_,_,E?,I4.sb _ _ (nx JZ) JZ,ra,E?,{_,i! E7},eK (F:=λH(row:List Th)a=>At H (row.getD i bh) a) (xs:=zd.map j!) rows (λH1 H2 z p kt h=>h.mono kt) (by rw[Wt];exact QO) (by rw[Wt];lia) (λj Hx sx hj=>{_,_,i! (sx _ _ E7),Wv hj}) (λHx sx=>{_,i! (sx _ _ E7),WD _}) (λj Hx y Hy sx hj hy=>{hy.1,hy.2 _ (i! (sx _ _ E7))}) (λj y row Hx R W' hy FC sx hR=>?_) (λpa H5 GB Bv s5 Dh M4=>?_)}
  .rw[Wz]at hy;walk_at"a";obtain⟨rj,Oh,rfl⟩:=W4.mp hy;obtain⟨as,Ul,has⟩:=(iu Og FC Oh).mono (n! sx);have Um:=zC row (Ww FC)
   have Eu:row[i]?=A? (row.getD i bh):=by
    rw[W0,Wv (by lia)];rfl
   obtain⟨ai,EG,Uo⟩:=has.get' Eu;refine kZ ?_;refine{_,E?,_,E?,rj,_,(i:Nat),.ref ai,E?,E?,i! Ul,?_,hR Hx ai (λ_ _ e=>e) Uo};exact bp (gmE EG)
  have I5:=I4.same s5;refine{_,E?,λy dy hy Ld zg=>?_};have Up:=hW.mono (kt I5.sb);have V':wl≠y:=aq I5.wll hy;have BM:∀{b:Wx}{o:HO},H5 b=A? o->(upd (upd H5 dy (.own y)) y (.ins T.e_Ways dy [])) b=A? o:=λe=>by rw[aj (aq e hy),aj (aq e Ld)];exact e
  have k5:KT H5 (upd (upd H5 dy (.own y)) y (.ins T.e_Ways dy [])):=λb xs e=>BM e;refine{y,dy,ka,pa,rt,nm,m,rows.length,_,GB,cs,To,Ls,ar,E?,af,BM (kt I5.sb _ _ zE),Ht,BM Dh,nn (P2.mapl (R:=At (upd (upd H5 dy (.own y)) y (.ins T.e_Ways dy []))) (f:=λrow:List Th=>row.getD i bh) (r! (λ_ _ e=>At.mono k5 e) M4)),Up.mono k5,λw H8 Ws wx wn N3 Uq wm Ur Ut Uu=>?_};have Ew:k! H5 H8:=mT hy Ld N3;have I8:=I5.same Ew
  have GH:∀b∈w.bs,H5 b=none:=λb hb=>by
   have:=Uu b hb;cases z:H5 b with
   |none=>rfl
   |some o=>rw[BM z]at this;cases this
  have I9:=I8.add Uq (λb hb=>{(I5.null (GH b hb)).1,(I5.null (GH b hb)).2.2}) (λb hb z=>by
   obtain⟨v,hv,Uv⟩:=Zn.mp z;obtain⟨o,e,_⟩:=(I5.wa v hv).some_bs b Uv;rw[GH b hb]at e;cases e) {Ws,Ut.kok hi wn wm Ht Ur (λp hp=>(hW.ap p hp).2.2) Jj}
  refine{E?,wl,_,_,E?,E?,I8.wll,aT (by rw[Wt,I8.len];lia),?_};exact{_,_,_,E?,wx ▸ I9}
 .rintro σ H3 ⟨c3,c4,ws,rfl,I3⟩;rw[Wt,<-Hw]at I3;refineλfd J0=>?_;have e3:(upd H3 fd (.dT [])) x=A? (.ins T.e_Table dx (lR rows.length wl)):=(aj (I3.null J0).2.1.symm).trans I3.self;refine{_,E?,x,T.e_Table,dx,_,E?,e3,T.cl_Table,T.na_Table_found,(by show 2<1000;decide),?_};have b4:SameB x H3 (upd (upd H3 fd (.dT [])) x (.ins T.e_Table dx (aP (WE "found") (.ref fd) (lR rows.length wl)))):=(A! (ao J0 _)).trans z!;have x4:(upd (upd H3 fd (.dT [])) x (.ins T.e_Table dx (aP (WE "found") (.ref fd) (lR rows.length wl)))) x=A? (.ins T.e_Table dx (aP (WE "found") (.ref fd) (lR rows.length wl))):=af;have f4:(upd (upd H3 fd (.dT [])) x (.ins T.e_Table dx (aP (WE "found") (.ref fd) (lR rows.length wl)))) fd=A? (.dT []):=(aj (I3.null J0).2.1).trans af;generalize(upd (upd H3 fd (.dT [])) x (.ins T.e_Table dx (aP (WE "found") (.ref fd) (lR rows.length wl))))=H4 at b4 x4 f4 |-;refine{lnE rfl,λst zG=>?_};have Oi:st≠x:=λz=>by rw[z,x4]at zG;cases zG
  have Uw:st≠fd:=λz=>by rw[z,f4]at zG;cases zG
  have KS:H3 st=none:=by
   cases z:H3 st with
   |none=>rfl
   |some o=>rw[b4 st o Oi z]at zG;cases zG
  refine{_,E?,x,T.e_Table,dx,_,E?,(aj Oi.symm).trans x4,T.cl_Table,T.na_Table_settled,(by show 3<1000;decide),?_};rw[tQ];walk_at"a";obtain⟨h1,h2,h3,h4⟩:=I3.done (fd:=fd) (st:=st) (Hd:=H4) (He:=upd (upd H4 st (.lst [])) x (.ins T.e_Table dx (tbF rows.length wl fd st))) rfl rfl (b4.trans ((A! (ao zG _)).trans z!)) af ((aj (I3.null J0).2.1).trans ((aj Uw.symm).trans f4)) ((aj Oi).trans af) J0 KS;refine kZ ?_;exact q _ _ rfl rfl rfl h3 h1 h2 h4
inductive il(CT CW CM tp:Wx)(vs:List V)(H:Hp)(Q:VK)(E:XK):Prop
 |mk (tb:Tb) (ins:List (W8×Int)) (rows:List (List Th)) (Ls:List Th):vs=[.ref tb.x]->TbAt CT CW H tb->TInv ins rows Ls [] tb.ws.length (λ_ _=>False) tb->GoodN ins->Ls.Nodup->tb.S<=100000->tb.settled=[]->TabSt H tp (de bd) g7->(∀H',FrB (tp::tb.mut) H H'->TabSt H' tp (de bd) g7->Over ins rows Ls->E (.ref CM) B? H')->(∀(zj:Tb)(H':Hp),FrB (tp::tb.mut) H H'->TabSt H' tp (de bd) g7->TbAt CT CW H' zj->zj.x=tb.x->PInv ins rows Ls zj.found zj.settled (ClAll ins zj.settled.length)->(∀e∈zj.found,e∈zj.settled)->Q .non H')->il CT CW CM tp vs H Q E
theorem lE(L:Lam mg base T.g_22.tc T.g_22.tp):bv P w K mg base (CX1 P w) 6 T.g_22.f T.g_22.d ["self"] (il T.e_Table T.e_Ways T.e_Many T.g_22.tp):=by
 refine T.g_22.F.okT1 T.g_22.th dC (λvs H Q E h=>?_) (λA outer s H vs Q E hr h=>?_)
 .obtain⟨tb,ins,rows,Ls,rfl,_⟩:=h;rfl
 obtain⟨tb,ins,rows,Ls,rfl,ht,hI,hg,Bu,hS,Gf,BU,qE,q⟩:=h
 refine{_,(ad (bj PassesOwn.leaving rfl (bz (bF (pv 0) rfl)) (pgN 1 dC.nd) (ak (bI (wo (cP (bF (pv 1) rfl) (λ_=>rfl))) (ak (aV (fK (pv 0) T.cl_Table T.g_20.me (gb T) (hr.mono (by first|decide|lia)) T.g_20.b .nil qP (aa (pv 1) (aa (iP (pv 1) T.cl_Ways T.g_15.me (dk T) (hr.mono (by first|decide|lia)) T.g_15.b .nil cU ) (aa ac (aa (bg ae) ae))))))) aW)))
  (ak (jd PassesOwn.leaving (aG fZ (aB az rfl T.n_1 Xj (aa (bF (pv 0) rfl) ae)) (aB gR rfl T.n_1 Xj (aa (bF (pv 0) rfl) ae)) (aO _)) (ad (am 2 dC.nd (aX (N:=["knots","note","tree"]) (js:=[B?,B?,B?]) (g:=(rE K 3 (fo (av 0) (fo (av 1) (fo (av 2) sr))))) (tt:=aI) (te:=(bf 1)) rfl (bA rfl (by decide +kernel) (by decide +kernel) rfl rfl rfl) (bz (bF (pv 0) rfl)) (λ_ _ _ _ _ _=>(cb rfl (aA (pgN 0 m7) (aA (pgN 1 m7) (aA (pgN 2 m7) bK))))) (nB (cZ bY (aC rfl) (cZ bY (aC rfl) (cZ bY (aC rfl) nj)))) (λ_ _ _ _ _ _=>aK) (λ_ _ _ _ _ _=>(pv 1))))
  (ad (gW (df (i:=3) (N:=["note","entry","done"]) (js:=[B?,B?,A? 2]) (g:=(rE K 2 (fo (av 0) (fo (av 1) sr)))) (tt:=(mV (tOp (qT K 150) (bf 0) (bf 2)))) (te:=(bf 1)) dC.nd rfl (Or.inl rfl) rfl (bA rfl (by decide +kernel) (by decide +kernel) rfl rfl rfl) (jz (bF (pv 0) rfl)) (λ_ _ _ _ _ _=>(cb rfl (aA (pgN 0 xF) (aA (pgN 1 xF) bK)))) (nB (cZ bY (aC rfl) (cZ bY (aC rfl) nj))) (λ_ _ _ _ _ _=>je (aG (rV (B:=150) (sW hr)) (pv 0) (pv 2) (by with_unfolding_all rfl))) (λ_ _ _ _ _ _=>(pv 1))))
  (ak (aV (fK (pv 0) T.cl_Table T.g_21.me (jw T) (hr.mono (by first|decide|lia)) T.g_21.b .nil qP (aa (vt (k:=2) rfl (hr.mono (by first|decide|lia)) rfl T.n_4 (aa (pv 3) ae) (xn (pos:=de bd) (params:=xu bd) (body:=wI bd) (scope:=vq bd) (cl:=[]) L rfl rfl)) ae))))))))),?_}
 try dsimp only[zu,yX]
 refine{_,E?,tb.x,T.e_Table,tb.dx,_,_,E?,ht.ins,T.cl_Table,T.na_Table_ways,vK,tb.wl,E?,{_,l! ht.wl},?_}
 refine dh (K:=K) (a:=tb.wl) (xs:=tb.ws.map λw=>j! w.x) (λi σ H1=>Ex4 λ(c1 c2 c3:Option V)(zj:Tb)=>An5 (σ=[A? (.ref tb.x),c1,B?,B?]) (FrB tb.mut H H1) (TbAt T.e_Table T.e_Ways H1 zj) ((zj.x=tb.x/\zj.settled=[]/\zj.mut=tb.mut/\zj.ws=tb.ws/\zj.wl=tb.wl/\zj.S=tb.S)) (TInv ins rows Ls [] zj.ws.length (λnm ks=>(∃m:Nat,m<i/\ins[m]?=A? (nm,0))/\ks=[]) zj))
  {B?,B?,B?,tb,rfl,FrB.refl,ht,⟨rfl,Gf,rfl,rfl,rfl,rfl⟩,hI.congr λnm ks z=>?_} (λi σ H1 _⟨_,_,_,zj,_,_,h1,⟨_,_,_,hw,hl,_⟩,_⟩=>?_) ?_ ?_
 .walk_at"a";obtain⟨⟨m,hm,_⟩,_⟩:=z;refine kZ ?_;exact g! hm (Z4 _)
 .have:=h1.wl;rw[hw,hl]at this;exact l! this
 .rintro i x σ H1 hx ⟨c1,c2,c3,zj,rfl,f1,h1,⟨x1,x2,x3,x4,x5,x6⟩,DY⟩;rw[Wz]at hx;obtain⟨w',Bh,rfl⟩:=W4.mp hx;have Oj:zj.ws[i]?=A? w':=by rw[x4];exact Bh
  have E5:=Ww Oj;have AK:=h1.wa w' E5;have zV:=(glE Oj);obtain⟨Ws,hk⟩:=DY.k i w' Oj;rw[b! zV]at hk;dsimp only[av];refine{_,E?,w'.x,T.e_Ways,w'.dx,_,_,E?,AK.ins,T.cl_Ways,T.na_Ways_agreeing,rc,!w'.ks.isEmpty,.inl {_,l! AK.al,by cases w'.ks <;> rfl},?_};cases Jf:w'.ks.isEmpty with
  | true =>
    have zO:w'.ks=[]:=List.isEmpty_iff.mp Jf;refine dY {_,rfl,tb.x,zj.dx,_,rfl,by rw[<-x1];exact h1.ins,nG,_,rfl,_,rfl,w'.x,w'.dx,_,rfl,AK.ins,gy,w',rfl,AK,(by have:=hk.len;have h':=hk.psl;lia),lnE rfl,λka zZ=>?_};refine gU zZ λH2 s2 zE=>?_;have h2:=h1.same s2;have Am:=DY.p;have Ol:([]:List Nat).length=w'.ks.length:=by rw[zO];rfl
    have CH:∀n∈([]:List Nat),n<zj.settled.length:=by intro n hn;cases hn
    have J1:∀e∈zj.settled,Told ins rows Ls e:=λe he=>by rw[x2]at he;cases he
    have GI:ones w'.ps.length=(cnd (w'.ks.map (·.ag)) [] (ones w'.ps.length) []).b:=rfl;refine{zj,w',ones w'.ps.length,0,ka,[],?_,h2,E5,zE,CH,by simp,?_,by rw[DY.S];exact hk.pz,(by have:=hk.len;have h':=hk.psl;lia),by rw[x6];exact hS,Am.f2,Am.f3,hk.nq,λnote H3 hN zJ hF s3=>?_,λc H3 F' hN Gw QP hE AR h3=>?_}
    .rw[x1];rfl
    .rw[GI,hk.psl];exact(hk.ag.bits (Z:=[]) Ol CH).1
    .rw[DY.S,GI]at hN;have:=hk.told (c:={(p! w'.nm (aH zj.settled [])).size,note,.knot w'.nm (aH zj.settled []),0,0,0}) hg Bu J1 Ol CH hN rfl rfl;refine qE H3 (((f1.trans (K! (s2.trans s3))).more λb hb=>WR _ hb)) ?_ (Am.over hF zJ this.fit this.note);exact BU.frb ht.mutOk (f1.trans (K! (s2.trans s3)))
    .have Oe:=hN;rw[DY.S,GI]at hN;have hx:=hk.told hg Bu J1 Ol CH hN QP (by rw[Gw];rfl);refine{_,B?,B?,{zj with found:=F'},E?,f1.trans (((K! s2).trans λb u hb z=>AR b u (λy=>hb (by rw[y,<-x3];unfold Tb.mut;simp)) z)),h3,⟨x1,x2,x3,x4,x5,x6⟩,?_};refine(DY.enter (nm:=w'.nm) (js:=[]) hE hx QP (λy hy=>?_) CH).congr λnm ks z=>?_
     .rw[x2]at hy;cases hy
     .obtain⟨⟨m,hm,FA⟩,rfl⟩:=z;by_cases y:m=i
      .subst y;have Cg:=hk.nm;rw[FA]at Cg;exact .inr {h! Prod.fst (WN Cg),rfl}
      .exact .inl {{m,by lia,FA},rfl}
  | false =>
    have zO:w'.ks≠[]:=λz=>by rw[z]at Jf;cases Jf
    refine cV {_,B?,B?,zj,rfl,f1,h1,⟨x1,x2,x3,x4,x5,x6⟩,DY.congr λnm ks z=>?_};obtain⟨⟨m,hm,FA⟩,rfl⟩:=z;by_cases y:m=i
    .subst y;have Cg:=hk.nm;rw[FA]at Cg;have:=h! Prod.snd (WN Cg);have h0:(0:Int)=((w'.ks.length:Nat):Int):=this;exact g! (YQ.mp (by lia)) zO
    .exact{{m,by lia,FA},E?}
 rintro σ H1 ⟨c1,c2,c3,Ux,rfl,f1,h1,⟨x1,x2,x3,x4,x5,x6⟩,DY⟩;rw[Wt]at DY;have J2:=BU.frb ht.mutOk f1
 refine{λm σ H2=>Ex4 λ(d1 d2 d3:Option V)(t:Tb)=>An9 (σ=[A? (.ref tb.x),d1,d2,d3]) (FrB (T.g_22.tp::tb.mut) H H2) (TabSt H2 T.g_22.tp (de bd) g7) (TbAt T.e_Table T.e_Ways H2 t) (t.x=tb.x) (t.mut=tb.mut) (t.S=tb.S) ((∃old,TInv ins rows Ls old t.ws.length (ClAll ins t.settled.length) t)) (m=30 - t.settled.length),
  {_,_,_,_,Ux,E?,f1.more (λb hb=>WR _ hb),J2,h1,x1,x3,x6,{[],DY.congr λnm ks z=>?_},E?},?_}
 .obtain⟨⟨m,hm⟩,hk⟩:=z;rw[x2]at hk
  have:ks=[]:=by
   cases ks with
   |nil=>rfl
   |cons k ks=>exact g! (hk k (WM ..)) (Z4 _)
  subst this;refine{{m,?_,hm},E?};have:=(glE hm);have h':=DY.n;rw[x4]at h';lia
 rintro m σ H2 ⟨d1,d2,d3,t,rfl,f2,CL,h2,y1,y3,y6,⟨old,J3⟩,rfl⟩;have zt:=J3.p;have BV:H2 tb.x=A? (.ins T.e_Table t.dx (tbF t.S t.wl t.fd t.st)):=by rw[<-y1];exact h2.ins
 refine{_,E?,tb.x,T.e_Table,t.dx,_,_,E?,BV,T.cl_Table,T.na_Table_settled,lZ,t.st,_,E?,.inl (l! h2.st),_,E?,tb.x,T.e_Table,t.dx,_,_,E?,BV,T.cl_Table,T.na_Table_found,kL,t.fd,_,E?,h2.fd,_,_,E?,E?,_,E?,?_};rw[Wt,j7];by_cases yY:t.settled.length<t.found.length
 .rw[d! (show((t.settled.length:Nat):Int)<((t.found.length:Nat):Int)by lia)];refine dY {_,λi' H' h=>h,?_};obtain⟨e0,G3,KR⟩:=zt.some_late yY;have Wa:=zt.s30;have Wb:=zt.f3;refine{_,E?,tb.x,T.e_Table,t.dx,_,_,E?,BV,T.cl_Table,T.na_Table_settled,lZ,t.st,E?,{_,l! h2.st},fW t.settled (λe=>j! e.na) (l! h2.st) (by rw[Wt]) (by rw[Wt];lia) (λi x z H3 R W' hx hz s3 hR=>?_) (λdn H3 Ce s3 EO=>?_)}
  .rw[Wz,hz]at hx;cases hx;have JT:=(h2.same s3).se z (Ww hz);refine{z.a,_,E?,i! JT.a,E?,_,_,E?,_,_,E?,_,_,E?,E?,?_};exact{_,E?,hR H3 (λ_ _ e=>e)}
  have h3:=h2.same s3;have J4:=CL.mono s3;dsimp only[av];change sP _ _ _ _;refine oZ (d:=t.fd) (kvs:=nfv t.found) (p:=λkv=>!decide (qo kv.1∈t.settled.map (·.note))) (λR hR=>{_,rfl,tb.x,T.e_Table,t.dx,_,_,rfl,s3 _ _ BV,T.cl_Table,T.na_Table_found,kL,hR}) h3.fd (by rw[j7];lia) (λi kv pa b H4 R W' An DO Dh eb Om Oo=>?_) (λla H4 s4 EH Hz=>?_)
  .obtain⟨e,he,rfl⟩:∃e,t.found[i]?=A? e/\(gp e.note,j! e.a)=kv:=by
    unfold nfv at An;rw[Wz]at An;exact W4.mp An
   dsimp only at Dh eb Om Oo;rw[ut]at eb;have EF:dn≠t.fd:=aF EO h3.fd (λz=>nomatch z);have k4:KT H3 H4:=λc xs ec=>DO c _ (aF ec h3.fd (λz=>nomatch z)) ec;refine{pa,_,E?,i! Dh,E?,_,_,E?,_,_,E?,E?,?_};dsimp only[av];refine{_,E?,_,E?,dn,_,nDv e.note,t.settled.map λe=>nDv e.note,E?,l! (DO _ _ EF EO),ui eb,qz λy hy=>(h3.se y hy).mono k4,XB l8 (by decide),λr hr=>{r,E?,?_}};have LG:r=C?↔e.note∉t.settled.map (·.note):=hr.trans (not_congr uQ);rw[gv]at Om Oo;by_cases z:e.note∈t.settled.map (·.note)
   .have:r=false:=by
     cases r with
     |false=>rfl
     |true=>exact g! z (LG.mp rfl)
    subst this;refine Oo ?_;rw[d! z];rfl
   .rw[LG.mpr z];refine{_,E?,Om ?_};rw[c! z];rfl
  rw[rQ]at Hz;have h4:=h3.same s4;have Bj:=J4.mono s4;have Dj:=s3.trans s4;dsimp only[av]
  refine{_,E?,tb.x,t.dx,_,E?,Dj _ _ BV,nG,_,E?,Bj,λf c' H5 s5 et AO J5 hf=>?_};have HE:=Bj.sameO s5;have h5:=h4.sameO HE;have J6:=HE _ _ Hz (λ_ z=>nomatch z);have J7:TabSt H5 T.g_22.tp (de bd) g7:=.inr ⟨c',et,AO⟩;have Uy:FrB (T.g_22.tp::tb.mut) H2 H5:=λb o hb e=>s5 b o (λz=>hb (by rw[z];exact WM ..)) (Dj b o e)
  have QQ:(nfv (ie t.found t.settled)).map (·.2)=(ie t.found t.settled).map λe=>j! e.a:=by
   unfold nfv;rw[Xg];rfl
  rw[QQ]at J6;have zY:0<(ie t.found t.settled).length:=List.length_pos_of_mem ((gP zt).mpr ⟨G3,KR⟩)
  have QR:∀{i:Nat}{x:V},((ie t.found t.settled).map λe=>j! e.a)[i]?=A? x->∃e,(ie t.found t.settled)[i]?=A? e/\x=.ref e.a:=λh=>by
   rw[Wz]at h;obtain⟨e,h1,h2⟩:=W4.mp h;exact⟨e,h1,h2.symm⟩
  refine{la,f,_,λi=>(((ie t.found t.settled)[i]?).map NtE.key).getD (0,[]),ug f c',E?,E?,J6,by rw[Wt];exact zY,wQ T f c',λi x H6 hx s6=>?_,λi x H6 hx s6 Cc=>?_}
  .obtain⟨e,he,rfl⟩:=QR hx;have BY:=((gP zt).mp (Ww he)).1;refine{e,E?,J5.mono s6,AO.mono s6,(h5.same s6).fe e BY,λκ H7 s7 hk=>{κ,E?,s7,?_}};rw[he];exact hk
  obtain⟨e,he,rfl⟩:=QR hx;obtain⟨LI,BX⟩:=(gP zt).mp (Ww he);have h6:=h5.same s6;have QS:FrB (T.g_22.tp::tb.mut) H2 H6:=Uy.trans (K! s6);have FD:=J7.mono s6;have sub:∀b∈t.mut,b∈T.g_22.tp::tb.mut:=λb hb=>by rw[y3]at hb;exact WR _ hb
  refine{t,e,ins,rows,Ls,old,_,by rw[y1];rfl,h6,J3,hg,Bu,by rw[y6];exact hS,LI,BX,λy hy Cw=>?_,λH7 f7 ho=>qE H7 (f2.trans (QS.trans (f7.more sub))) (FD.frb h6.mutOk f7) ho,λt' H7 f7 h7 z1 z2 z3 z4 Cm=>?_}
  .obtain⟨j,hj⟩:=WK.mp ((gP zt).mpr ⟨hy,Cw⟩);have:=Cc j (by rw[Wt];exact(glE hj));rw[hj,he]at this;exact this
  have KZ:=Cm.p.s30;rw[z2,WL,Xe]at KZ;refine{30 - t'.settled.length,?_,_,_,_,t',E?,f2.trans (QS.trans (f7.more sub)),FD.frb h6.mutOk f7,h7,z1.trans y1,z3.trans y3,?_,{_,Cm.congr λnm ks z=>?_},E?}
  .rw[z2,WL,Xe];lia
  .have g1:=Cm.S;have g2:=J3.S;lia
  .rw[z2,WL,Xe]at z;rcases z.succ with z|z
   .exact .inl z
   .exact .inr z
 .rw[c! (show¬((t.settled.length:Nat):Int)<((t.found.length:Nat):Int)by lia)];refine cV ?_;exact q t H2 f2 CL h2 y1 zt (zt.all (by lia))
inductive gG(CT CW CM tp:Wx)(vs:List V)(H:Hp)(Q:VK)(E:XK):Prop
 |mk (ba wa:Wx) (ins:List (W8×Int)) (head:Th) (rows:List (List Th)) (t:Th) (ar:W8->Nat):vs=[.ref ba,.ref wa]->WBk H ins head rows ba->At H t wa->WCd ins rows t ar->TabSt H tp (de bd) g7->(∀H',SameT tp H H'->TabSt H' tp (de bd) g7->Over ins rows (post t [])->E (.ref CM) B? H')->(∀(l:Wx)(ps:List Wx)(F St:List NtE)(H':Hp),SameT tp H H'->TabSt H' tp (de bd) g7->H' l=A? (.lst (ps.map j!))->Xb (λ(e:NtE)p=>H' p=A? (.tup [.ref e.na,.ref e.ta])) St ps->(∀e∈St,NtA H' e)->PInv ins rows (post t []) F St (ClAll ins St.length)->(∀e∈F,e∈St)->Q (.ref l) H')->gG CT CW CM tp vs H Q E
theorem nL(L:Lam mg base T.g_22.tc T.g_22.tp):bv P w K mg base (CX1 P w) 8 T.g_23.f T.g_23.d ["book","wish"] (gG T.e_Table T.e_Ways T.e_Many T.g_22.tp):=by
 refine T.g_23.F.ok1 eW (λvs H Q E h=>?_) (λy9 A outer s H vs Q E hr h=>?_)
 .obtain⟨ba,wa,ins,head,rows,t,ar,rfl,_⟩:=h;rfl
 obtain⟨ba,wa,ins,head,rows,t,ar,rfl,hb,hA,hc,BU,qE,q⟩:=h
 refine{_,(ad (jm (pcF T.g_9 (lK T) hr (aa (pv 1) ae)) (cb rfl (aA (pgN 2 eW.nd) (aA (pgN 3 eW.nd) bK))))
  (ad (am 4 eW.nd (qA ⟨T.mi_Table.1,T.g_19.me.1,T.g_19.me.2,T.mi_Table.2⟩ (lS T) (hr.mono (by first|decide|lia)) rfl T.x_Table T.g_19.b .nil cU (aa (pv 0) (aa (pv 2) ae))))
  (ad (aV (iP (pv 4) T.cl_Table T.g_22.me (lE T L) (hr.mono (by first|decide|lia)) T.g_22.b .nil qP ))
  (ak (aD (aX (N:=["knots","note","tree"]) (js:=[B?,B?,B?]) (g:=(rE K 3 (fo (av 0) (fo (av 1) (fo (av 2) sr))))) (tt:=aI) (te:=(xQ (bZ (bf 1) (bZ (bf 2) gm)))) rfl (bA rfl (by decide +kernel) (by decide +kernel) rfl rfl rfl) (bz (bF (pv 4) rfl)) (λ_ _ _ _ _ _=>(cb rfl (aA (pgN 0 m7) (aA (pgN 1 m7) (aA (pgN 2 m7) bK))))) (nB (cZ bY (aC rfl) (cZ bY (aC rfl) (cZ bY (aC rfl) nj)))) (λ_ _ _ _ _ _=>aK) (λ_ _ _ _ _ _=>(bg (aa (pv 1) (aa (pv 2) ae)))))))))),?_}
 try dsimp only[zu,yX]
 refine{_,E?,wa,t,E?,hA,hc.tc,hc.ts,λr rt cs To ix H1 s1 er NG Ft zb AS=>?_};refine{r,_,E?,i! er,E?,_,_,E?,_,_,E?,E?,?_};dsimp only[av];refine{_,E?,_,E?,λx dx hx QT zg=>?_};have LL:∀{b:Wx}{o:HO},H1 b=A? o->(upd (upd H1 dx (.own x)) x (.ins T.e_Table dx [])) b=A? o:=λe=>by rw[aj (aq e hx),aj (aq e QT)];exact e
 have k1:KT H (upd (upd H1 dx (.own x)) x (.ins T.e_Table dx [])):=λb xs e=>LL (s1 _ _ e);walk_at"a";obtain⟨ia,ha,ra,v2,zi,zd,e1,e2,e3,e4,e5,e6⟩:=(hb.mono k1).ex;refine kZ ?_
 have Ln:(post t []).length<=t.size:=by
  have:=(sO t []).2;rw[ZC]at this;lia
 refine{x,dx,ba,ia,ra,rt,v2,.ref ha,zi,zd,ins,rows,cs,To,post t [],ar,E?,af,e1,e2,e3,e4,e5,(by have:=hc.gi.le;lia),hc.rl,hc.row,λa nm c hi=>{hc.nq _ (Ww hi),?_},λtb H2 z1 z2 z3 Dw h2 J3 EK=>?_}
 .have zF:=hc.gi.num _ (Ww hi);obtain⟨m,rfl⟩:=Zo zF.1;refine{m,E?,by have:=zF.2;dsimp only at this;lia,LL NG,r! (λ_ _ e=>LL e) Ft,zb,wN (λu hu v hv=>Ars.kids hu hv) hc.ta,λp hp=>?_,Wt _,XB (Nat.mul_le_mul_left _ Ln) hc.big};obtain⟨h1,h3,h4⟩:=hc.pt a nm _ hi p hp;refine{h1,h3,λs k hm=>?_};walk_at"a";obtain⟨⟨k',h5,h6⟩,h7⟩:=h4 s k hm;refine kZ ?_;exact{{k',h5,by lia},h7}
 have s2:k! H1 H2:=mT hx QT Dw;have Af:=s1.trans s2;have CL:=BU.mono Af
 have nul:∀b∈tb.mut,H b=none:=λb zA=>by
  have:=EK b zA;cases z:H b with
  |none=>rfl
  |some o=>rw[LL (s1 _ _ z)]at this;cases this
 have toT:∀{H3:Hp},FrB (T.g_22.tp::tb.mut) H2 H3->SameT T.g_22.tp H H3:=λf b o zA e=>f b o (λz=>by
  rcases WW.mp z with z|z
  .exact zA z
  .rw[nul b z]at e;cases e) (Af b o e)
 refine{E?,?_};refine{_,E?,x,tb.dx,_,E?,by rw[<-z1];exact h2.ins,nG,tb,ins,rows,post t [],by rw[z1];rfl,h2,J3,hc.gi,j8 t,by rw[z3];have:=hc.rl;lia,z2,CL,λH3 f3 t3 ho=>qE H3 (toT f3) t3 ho,λt' H3 f3 t3 h3 y1 Ae yW=>?_};have Uz:=Ae.s30;refine{_,E?,x,T.e_Table,t'.dx,_,_,E?,by rw[<-z1,<-y1];exact h3.ins,T.cl_Table,T.na_Table_settled,lZ,t'.st,E?,{_,l! h3.st},eK (F:=λH(e:NtE)p=>H p=A? (.tup [.ref e.na,.ref e.ta])) (xs:=t'.settled.map λe=>j! e.a) t'.settled (λHa Hb z p kt h=>kt _ _ h) (by rw[Wt]) (by rw[Wt];lia) (λi Hx sx hi=>{_,_,l! (sx _ _ h3.st),Wv hi}) (λHx sx=>{_,l! (sx _ _ h3.st),WD _}) (λi Hx y Hy sx hi hy=>{hy.1,hy.2 _ (l! (sx _ _ h3.st))}) (λi y z Hx R W' hy hz sx hR=>?_) (λl H4 ps hl s4 el AW=>?_)}
 .rw[Wz,hz]at hy;cases hy;have JT:=(h3.same sx).se z (Ww hz);refine{z.a,_,E?,i! JT.a,E?,_,_,E?,_,_,E?,_,_,E?,E?,?_};dsimp only[av];exact{_,E?,_,E?,lnE rfl,λp hp=>hR _ p (ao hp _) af}
 .refine q l ps t'.found t'.settled H4 ((toT f3).trans (s4.t _)) (t3.mono s4) el AW (λe he=>(h3.se e he).mono (n! s4)) Ae yW
inductive f8(K:WJ)(vs:List V)(H:Hp)(Q:VK)(_E:XK):Prop
 |mk (a:Wx) (ns:List Int) (k:Int):vs=[.ref a,.int k]->SqL K H a (ns.map o!)->0<=k->Q (.int (cellAt ns k)) H->f8 K vs H Q _E
theorem bH:bv P w K mg base CX0 1 T.g_24.f T.g_24.d ["script","k"] (f8 K):=by
 refine T.g_24.F.okA j3 λy9 A outer s H vs Q E hr h=>?_;obtain⟨a,ns,k,rfl,hS,h0,q⟩:=h
 refine{_,(ad (bI (aG fZ (pv 1) (aB az rfl T.n_1 Xj (aa (pv 0) ae)) (aO _)) (ak (aD (ay bu (aw aS (pv 0) (pv 1) (λ_ _=>rfl)) (ay pC ac ac)))) aW)
  (ak (aD ac))),?_}
 try dsimp only[zu,yX]
 refine{_,E?,_,E?,a,_,E?,.inl hS,_,_,E?,E?,_,E?,?_};refine fE (λc=>?_) (λc=>?_)
 .have c':k<(((ns.map o!).length:Nat):Int):=e! c;rw[Wt]at c';refine{_,E?,_,E?,a,_,k,_,E?,E?,hS,int_at h0 c',_,_,E?,E?,{by decide,by decide,by decide},_,_,E?,E?,?_,?_}
  .show(0:Int)<10 ^ 60;decide
  .have e:cellAt ns k=ns.getD k.toNat 0%10 ^ 60:=by unfold cellAt;rw[b! c']
   rw[e]at q;exact q
 .have c':¬k<(((ns.map o!).length:Nat):Int):=of_decide_eq_false (Bool.eq_false_iff.mpr c);rw[Wt]at c';have e:cellAt ns k=0:=by unfold cellAt;rw[a! c']
  rw[e]at q;exact q
inductive iS(vs:List V)(H:Hp)(Q:VK)(_E:XK):Prop
 |mk (base n:Int):vs=[.int base,.int n]->0<=base->0<=n->Q (.str (nameOf base n)) H->iS  vs H Q _E
theorem nA:bv P w K mg base CX0 1 T.g_25.f T.g_25.d ["base","n"] iS:=by
 refine T.g_25.F.okA bM λy9 A outer s H vs Q E hr h=>?_;obtain⟨b,n,rfl,h0,hn,q⟩:=h
 refine{_,(ad (am 2 bM.nd gJ)
  (ad (am 3 bM.nd gJ)
  (ad (am 4 bM.nd (ay bQ (pv 0) ac))
  (ad (bj Xd rfl (bL rfl T.n_5 (aa ac ae)) (pgN 5 bM.nd) (ad (am 3 bM.nd (ay iJ (pv 3) (aw qk (pv 2) (ay bu (pv 4) ac) (λ_ _=>rfl))))
  (ak (am 4 bM.nd (ay bQ (pv 4) ac)))))
  (ad (bI (aG cO (ay bu (pv 0) ac) ac (aO _)) (ak (aD (aN pA (pv 3) bi (aY (ay bG (pv 1) ac))))) aW)
  (ad (am 6 bM.nd (ay bG ac (ay bu (ay bQ (pv 0) ac) ac)))
  (ad (am 7 bM.nd (ay bu (ay bu (ay bQ (pv 0) ac) ac) (pv 6)))
  (ad (am 8 bM.nd (aw qk (pv 2) (ay bu (ay bG (cn PySem.F.plainAttrs_str PySem.F.slot_str_index PySem.F.type_str_index sN (pv 2) (aa (aw qk (pv 3) (pv 7) (λ_ _=>rfl)) ae)) (pv 1)) ac) (λ_ _=>rfl)))
  (ak (aD (ay iJ (ay iJ (aN pA (pv 3) bi (aY (pv 7))) (pv 8)) (aN pA (pv 3) (aY (ay bG (pv 7) ac)) (aY (pv 6)))))))))))))),?_}
 try dsimp only[zu,yX]
 refine{_,E?,_,_,E?,E?,{by decide,by decide},?_};refine{8,E?,by decide,by decide,?_};refine bX (n:=8) (λi σ H2=>Ex1 λkv=>An2 (H2=H) (σ=[A? (.int b),A? (.int n),A? (.str dU),A? (.str (cR (b / 112) i)),A? (.int (b / 112 / 26 ^ i)),kv,B?,B?,B?])) {B?,rfl,?_} ?_ ?_
 .have e1:cR (b / 112) 0=WE "":=by
   show({([]:List Nat).toArray}:W8)=WE "";decide +kernel
  have e2:b / 112 / 26 ^ 0=b / 112:=by rw[Int.pow_zero,Int.ediv_one]
  rw[e1,e2];rfl
 .rintro i σ H2 hi ⟨kv,rfl,rfl⟩;have h1:=Xr (b / 112 / 26 ^ i) (by decide:(26:Int)≠0);have h2:=Xp (b / 112 / 26 ^ i) (by decide:(0:Int)<26);refine{_,E?,_,E?,_,E?,_,_,E?,E?,(by show(0:Int)<26;decide),dU,_,_,E?,E?,cH (by rw[jW];decide),mv h1 h2,_,_,E?,E?,cH ?_,?_}
  .rw[d7];show i+1<=1000000;lia
  .refine{_,E?,_,_,E?,E?,{by decide,by decide},A? (.int (0+i)),E?,?_}
   have e1:b / 112 / 26 ^ (i+1)=b / 112 / 26 ^ i / 26:=by
    rw[Int.pow_succ,Int.ediv_ediv_of_nonneg (Int.le_of_lt (Int.pow_pos (by decide)))]
   rw[pN,e1];rfl
 .rintro σ H2 ⟨kv,rfl,rfl⟩;have hw:=d7 (b / 112) 8;refine{_,E?,_,_,E?,E?,(by show(0:Int)<2;decide),E?,_,E?,?_};refine fE (λc=>?_) (λc=>?_)
  .have c':b%2=1:=V.int.inj (e! c);refine{_,E?,_,E?,_,_,E?,E?,_,E?,_,E?,cH (by rw[hw];decide),?_};have e:nameOf b n=fO (cR (b / 112) 8) B? (A? (n+1)):=by unfold nameOf;rw[b! c']
   rw[e]at q;exact q
  .have c':¬b%2=1:=λz=>c (d! (h! o! z));have hs:=ju b;have ha:=tX b;refine{_,E?,_,_,E?,E?,{by decide,by decide},_,_,E?,E?,(by show(0:Int)<8;decide),_,_,E?,E?,?_};refine{_,E?,_,_,E?,E?,{by decide,by decide},_,_,E?,E?,(by show(0:Int)<7;decide),_,E?,_,_,E?,E?,(by show(0:Int)<eJ b;lia),?_};have hk:(nAt b).toNat<8:=by lia
   have AK:atI (cR (b / 112) 8).cps.toList (nAt b)=A? (97+((b / 112 / 26 ^ (nAt b).toNat)%26).toNat):=by
    refine at_nonneg ha.1 ?_;show(fY (b / 112) 8)[(nAt b).toNat]?=_;unfold fY;rw[Wz,List.getElem?_range hk];rfl
   have h1:=Xr (b / 112 / 26 ^ (nAt b).toNat) (by decide:(26:Int)≠0);have h2:=Xp (b / 112 / 26 ^ (nAt b).toNat) (by decide:(0:Int)<26);have h3:=Xr ((((b / 112 / 26 ^ (nAt b).toNat)%26).toNat:Int)+n) (by decide:(26:Int)≠0);have h4:=Xp ((((b / 112 / 26 ^ (nAt b).toNat)%26).toNat:Int)+n) (by decide:(0:Int)<26);refine{_,E?,_,E?,E?,_,E?,_,E?,_,nAt b,_,E?,E?,cH (by rw[hw];decide),AK,dU,_,_,[],E?,E?,rm _ (by lia),_,E?,_,_,E?,E?,_,_,E?,E?,(by show(0:Int)<26;decide),dU,_,_,E?,E?,cH (by rw[jW];decide),mv h3 h4,?_};have l1:=eS (cR (b / 112) 8) B? (A? (nAt b));have l2:=eS (cR (b / 112) 8) (A? (nAt b+1)) (A? (eJ b));rw[hw]at l1 l2;refine{_,E?,_,E?,_,E?,_,E?,cH (by rw[hw];decide),_,E?,_,_,E?,E?,cH ?_,_,E?,_,E?,_,_,E?,E?,_,E?,_,E?,_,E?,_,E?,cH (by rw[hw];decide),_,_,E?,E?,cH ?_,?_}
   .show(fO (cR (b / 112) 8) B? (A? (nAt b))).length+1<=1000000;lia
   .rw[strLen_append];show(fO (cR (b / 112) 8) B? (A? (nAt b))).length+1+(fO (cR (b / 112) 8) (A? (nAt b+1)) (A? (eJ b))).length<=1000000;lia
   .have e:nameOf b n=fO (cR (b / 112) 8) B? (A? (nAt b))++{#[kQ b n]}++fO (cR (b / 112) 8) (A? (nAt b+1)) (A? (eJ b)):=by unfold nameOf;rw[a! c']
    rw[e]at q;exact q
inductive ik(vs:List V)(H:Hp)(Q:VK)(_E:XK):Prop
 |mk (cell:Int):vs=[.int cell]->0<=cell->(∀(r:Wx)(as:List Wx)(H':Hp),k! H H'->H' r=A? (.tup (as.map j!))->KsAt H' (dJ cell) as->Q (.ref r) H')->ik  vs H Q _E
theorem hZ:bv P w K mg base CX0 2 T.g_26.f T.g_26.d ["cell"] ik:=by
 refine T.g_26.F.okA bW λy9 A outer s H vs Q E hr h=>?_;obtain⟨cell,rfl,h0,q⟩:=h
 refine{_,(ad (am 1 bW.nd (ay bG (ay fQ (pv 0) ac) ac))
  (ad (am 2 bW.nd (ay bG ac (ay bu (pv 1) ac)))
  (ad (am 3 bW.nd (ay bQ (pv 1) ac))
  (ad (am 4 bW.nd (bE ae))
  (ad (bj Xd rfl (bL rfl T.n_5 (aa (pv 2) ae)) (pgN 5 bW.nd) (ad (aV (cn W7 Xm Xl br (pv 4) (aa (bg (aa (pcF T.g_25 (nA T) hr (aa (ay bQ (pv 1) ac) (aa (pv 5) ae))) (aa (aw aS (bE (aa ac (aa ac (aa ac (aa ac (aa ac (aa ac ae))))))) (ay bu (pv 3) ac) (λ_ _=>rfl)) ae))) ae)))
  (ak (am 3 bW.nd (ay bG (ay bQ (pv 3) ac) (pv 5))))))
  (ad (am 6 bW.nd (ay bu (ay bQ (pv 1) ac) (pv 2)))
  (ad (jm (bg (aa (aw ax (aw aS (pv 4) (pv 6) (λ_ _=>rfl)) ac (λ_ _=>rfl)) (aa ac ae))) (nD (pv 4) (pv 6) set_list))
  (ak (aD (bR aZ rfl T.n_8 XA (aa (pv 4) ae))))))))))),?_}
 try dsimp only[zu,yX]
 have hM:=u6 h0;have hm:=jG cell;have ha:=mY cell;refine{_,E?,_,_,E?,E?,.inr {by decide,by decide},_,_,E?,E?,?_};refine{_,E?,_,_,E?,E?,(by show(0:Int)<4;decide),_,_,E?,E?,?_};refine{_,E?,_,_,E?,E?,{by decide,by decide},?_};refine{lnE rfl,λkl zP=>?_};refine{_,E?,cB cell,E?,by lia,by lia,?_}
 refine bX (n:=(cB cell).toNat) (λi σ H2=>Ex2 λkv as=>An4 (σ=[A? (.int cell),A? (.int (fg cell)),A? (.int (cB cell)),A? (.int (gr (fg cell / 7) i)),A? (.ref kl),kv,B?]) (k! H H2) (H2 kl=A? (.lst (as.map j!))) (KsAt H2 ((jR cell).take i) as))
  {B?,[],rfl,ao zP _,af,.nil} ?_ ?_
 .rintro i σ H2 hi ⟨kv,as,rfl,sm,e,hp⟩;have hb:0<=fg cell / 36:=Int.ediv_nonneg hM (by decide)
  have hl:as.length=i:=by
   have:=WS hp;rw[Xy,fA]at this;lia
  refine{_,E?,.inl {E?,_,l! e},_,E?,_,_,E?,E?,{by decide,by decide},_,E?,fg cell / 36,0+(i:Int),E?,hb,by lia,lnE rfl,λvl HF=>?_};refine cu HF λH3 s3 e3=>?_;have sm:=sm.trans s3;have e:=s3 _ _ e;have hp:=hp.mono (n! s3);refine{_,E?,_,_,E?,E?,(by show(0:Int)<6;decide),vl,_,_,_,E?,E?,l! e3,u7 _,lnE rfl,λp AH=>?_};have Bi:kl≠p:=aq e AH;refine{kl,_,_,E?,E?,by rw[aj Bi];exact e,lbE (by lia),?_};refine{_,E?,_,_,E?,E?,{by decide,by decide},_,E?,_,_,E?,E?,A? (.int (0+(i:Int))),as++[p],?_,aM (aM sm (sm.free AH)) zP,?_,?_}
  .have e1:gr (fg cell / 7) (i+1)=gr (fg cell / 7) i / 6+(0+(i:Int)):=by rw[gr];lia
   rw[e1];rfl
  .rw[af,W3];rfl
  .have MH:i<(cB cell).toNat:=hi;rw[YG,jq MH];have kt:KT H3 (upd (upd H3 p (.tup [.str (nameOf (fg cell / 36) (0+(i:Int))),.int (oy (gr (fg cell / 7) i))])) kl (.lst (as.map j!++[.ref p]))):=(iI AH).trans (cK (xs:=as.map j!) (by rw[aj Bi];exact e));refine v! (hp.mono kt) (.cons ?_ .nil);show(upd (upd H3 p _) kl _) p=_;rw[aj Bi.symm,af,Int.zero_add]
 .rintro σ H2 ⟨kv,as,rfl,sm,e,hp⟩;have hk:(jR cell).take (cB cell).toNat=jR cell:=by rw[<-fA,YJ]
  rw[hk]at hp
  have hl:as.length=(cB cell).toNat:=by
   have:=WS hp;rw[fA]at this;lia
  obtain⟨pa,Bv,QU⟩:=u! hp (jq (cell:=cell) (i:=(fF cell).toNat) (by lia));have zQ:atI (as.map j!) (fF cell)=A? (.ref pa):=at_nonneg ha.1 (gmE Bv);have J8:(((fF cell).toNat:Nat):Int)=fF cell:=by lia
  rw[J8]at QU;refine{_,E?,_,_,E?,E?,{by decide,by decide},_,E?,_,_,E?,E?,(by show(0:Int)<cB cell;lia),?_};refine{_,E?,_,E?,kl,_,fF cell,.ref pa,E?,E?,l! e,zQ,pa,_,0,_,E?,E?,i! QU,at0,lnE rfl,λp AH=>?_};have Bi:kl≠p:=aq e AH;refine{_,E?,_,E?,kl,_,fF cell,(fF cell).toNat,E?,E?,by rw[aj Bi];exact e,?_,?_}
  .unfold ixN;rw[b! ha.1,b! (by rw[Wt,hl];lia)]
  .refine{_,E?,kl,_,E?,.inl {l! af,λl C8=>?_}};have kt:KT H2 (upd (upd H2 p (.tup [.str (nameOf (fg cell / 36) (fF cell)),.int 0])) kl (.lst ((as.map j!).set (fF cell).toNat (.ref p)))):=(iI AH).trans (cK (xs:=as.map j!) (by rw[aj Bi];exact e));refine q l (as.set (fF cell).toNat p) _ (aM (aM (aM sm (sm.free AH)) zP) ?_) ?_ ?_
   .exact(aM (aM sm (sm.free AH)) zP).free C8
   .rw[af,List.map_set]
   .have M9:=kt.trans (iI (o:=.tup ((as.map j!).set (fF cell).toNat (.ref p))) C8);refine P2.set ?_ _ (hp.mono M9)
    have Oq:p≠l:=by
     intro z;rw[<-z,aj Bi.symm,af]at C8;cases C8
    show(upd _ l _) p=_;rw[aj Oq,aj Bi.symm,af]
theorem uZ(n:Nat)(z:Int):(Xx n [o! z]).flatten=(Xx n z).map o!:=by
 induction n with
 |zero=>rfl
 |succ n ih=>rw[Yt,ZJ,ih,Yt];rfl
inductive gq(K:WJ)(vs:List V)(H:Hp)(Q:VK)(_E:XK):Prop
 |mk (a:Wx) (xs:List V) (many:Int):vs=[.ref a,.int many]->H a=A? (.lst xs)->(∀v∈xs,∃z,v=.int z)->xs.length<=1000->1<=many->many<=1000->(∀(r:Wx)(cs:List Int)(H':Hp),k! H H'->H' r=A? (.lst (cs.map o!))->cs.length=many.toNat->Q (.ref r) H')->gq K vs H Q _E
theorem ls:bv P w K mg base CX0 1 T.g_27.f T.g_27.d ["script","many"] (gq K):=by
 refine T.g_27.F.okA d9 λy9 A outer s H vs Q E hr h=>?_;obtain⟨a,xs,many,rfl,ea,hint,QV,m1,m2,q⟩:=h
 refine{_,(ad (am 2 d9.nd (ay sI (bE (aa ac ae)) (pv 1)))
  (ad (bj Xd rfl (bL rfl T.n_5 (aa (aB az rfl T.n_1 Xj (aa (pv 0) ae)) ae)) (pgN 3 d9.nd) (ak (jm (ay bu (ay bG (ay fQ (aw aS (pv 2) (ay bu (pv 3) (pv 1)) (λ_ _=>rfl)) ac) (aw aS (pv 0) (pv 3) (λ_ _=>rfl))) (ay pC ac ac)) (nD (pv 2) (ay bu (pv 3) (pv 1)) set_list))))
  (ak (aD (pv 2))))),?_}
 try dsimp only[zu,yX]
 refine{lnE rfl,λl1 Bn=>?_};refine gU Bn λH1 s1 e1=>?_;refine{_,E?,l1,_,_,E?,E?,e1,by lia,by lia,cH (by show 1 * many.toNat<=1000000;lia),λkl zP=>?_};dsimp only;rw[uZ];have s2:k! H (upd H1 kl (.lst ((Xx many.toNat (0:Int)).map o!))):=s1.trans (ao zP _);have e2:(upd H1 kl (.lst ((Xx many.toNat (0:Int)).map o!))) kl=A? (.lst ((Xx many.toNat (0:Int)).map o!)):=af;have UA:H kl=none:=s1.free zP;generalize(upd H1 kl (.lst ((Xx many.toNat (0:Int)).map o!)))=H2 at s2 e2 |-;refine{_,E?,a,_,E?,.inl (l! (s2 _ _ ea)),_,E?,by lia,by lia,?_}
 refine bX (n:=((xs.length:Nat):Int).toNat) (λi σ H3=>Ex2 λ(kv:Option V)(cs:List Int)=>An4 (σ=[A? (.ref a),A? (.int many),A? (.ref kl),kv]) (k! H H3) (H3 kl=A? (.lst (cs.map o!))) (cs.length=many.toNat))
  {B?,_,rfl,s2,e2,List.length_replicate} ?_ ?_
 .rintro i σ H3 hi ⟨kv,cs,rfl,s3,e3,zb⟩
  have BG:i<xs.length:=by
   have:i<((xs.length:Nat):Int).toNat:=hi;lia
  have y0:=Xr (0+(i:Int)) (show many≠0 by lia);have y1:=Xp (0+(i:Int)) (show 0<many by lia);obtain⟨ix,AS⟩:∃ix:Nat,(0+(i:Int))%many=(ix:Int):={_,(Int.toNat_of_nonneg y0).symm};obtain⟨c,hc⟩:∃c,cs[ix]?=A? c:={_,Wv (by lia)};obtain⟨x,hx⟩:∃x,xs[i]?=A? x:={_,Wv BG};obtain⟨z,rfl⟩:=hint x (Ww hx);refine{_,E?,_,E?,_,E?,_,_,E?,E?,(by show 0<many;lia),kl,_,_,.int c,E?,E?,l! e3,at_nonneg y0 (by rw[AS,WU,Wz,hc];rfl),_,_,E?,E?,.inr {by decide,by decide},?_};refine{_,E?,_,E?,a,_,_,.int z,E?,E?,l! (s3 _ _ ea),at_nonneg (by lia) (by rw[show(0+(i:Int)).toNat=i by lia];exact hx),_,_,E?,E?,_,_,E?,E?,{by decide,by decide,by decide},_,_,E?,E?,(by show(0:Int)<10 ^ 60;decide),?_};refine{_,E?,_,E?,_,E?,_,_,E?,E?,(by show 0<many;lia),kl,_,_,ix,E?,E?,e3,?_,?_}
  .rw[AS];unfold ixN;rw[b! (by lia),b! (by rw[Wt];lia)];simp
  .refine{_,cs.set ix ((c * 31+z)%10 ^ 60),E?,aM s3 UA,?_,by rw[YR];exact zb};rw[af,List.map_set];rfl
 .rintro σ H3 ⟨kv,cs,rfl,s3,e3,zb⟩;exact{_,E?,q kl cs H3 s3 e3 zb}
theorem jF:∀{ks:List (W8×Int)}{as:List Wx},KsAt H ks as->∀z∈ks.zip as,z.1∈ks/\KAt H z.1 z.2
 |_,_,.nil,z,hz=>by simp at hz
 | _,_,.cons (a:=k) (b:=a) r t,z,hz=>by
   rw[List.zip_cons_cons]at hz;rcases WW.mp hz with rfl|hz
   .exact{WM ..,r}
   .obtain⟨h1,h2⟩:=jF t z hz;exact{WR _ h1,h2}
theorem lH{te:TE}{kr:Wx}{z8:List Wx}{ks:List (W8×Int)}(e:H kr=A? (.tup (z8.map j!)))(zO:KsAt H ks z8)(g:g8 ks)
 (CQ:∀(z:W8×Int)(ka:Wx)(H2:Hp)(R:Bool->Hp->Prop),k! H H2->KAt H2 z ka->R (decide (o! z.2=o! 0)) H2->tt ((cσ js σ).set 0 (A? (.ref ka))) H2 R)
 (Cy:∀(ka:Wx)(H2:Hp)(R:VK),R (.ref ka) H2->te ((cσ js σ).set 0 (A? (.ref ka))) H2 R)
 (q:∀(D:Wx)(k0:W8×Int)(ka:Wx)(rs:List V)(H':Hp),H D=B?->k! H H'->H' D=A? (.lst (.ref ka::rs))->k0∈ks->k0.2=0->KAt H' k0 ka->fin D H') :
 ∀D,H D=B?->∃(n:Nat)(W:Nat->Hp->Prop),W 0 (upd H D (.lst []))/\gf js (av 0) tt te σ (Itt K kr) D n W λH'=>fin D H':=by
 have zP:ks.length=z8.length:=WS zO;have Ot:=g.le;have LF:(ks.zip z8).length=ks.length:=by rw[Z6];lia
 have Mv:∀(i:Nat)(x:V)(z:(W8×Int)×Wx),(z8.map j!)[i]?=A? x->(ks.zip z8)[i]?=A? z->x=.ref z.2:=λi x z hx hz=>by
  obtain⟨ka,rfl,zZ⟩:=bw hx;obtain⟨h1,h2⟩:=Yq.mp hz;rw[zZ]at h2;cases h2;rfl
 refine eL (ks.zip z8) (λz=>decide (o! z.1.2=o! 0)) (λz=>.ref z.2) (i! e) (by rw[LF,Wt];exact zP) (by rw[Wt];lia) (λi x z H2 R hx hz sm r=>?_) (λi x z H2 R hx hz _ sm r=>?_) (λD hD=>?_)
 .rw[Mv i x z hx hz];have:=(jF zO z (Ww hz)).2;exact CQ z.1 z.2 H2 R sm (sm _ _ this) r
 .rw[Mv i x z hx hz];exact Cy z.2 H2 R r
 .obtain⟨k,hk,B0⟩:=g.zero;obtain⟨i,hi,rfl⟩:=List.getElem_of_mem hk;have hz:(ks.zip z8)[i]'(by lia)∈(ks.zip z8).filter λz=>decide (o! z.1.2=o! 0):=Yx.mpr {XS _,by rw[List.getElem_zip];exact d! (h! o! B0)}
  have yW:∀z∈(ks.zip z8).filter λz=>decide (o! z.1.2=o! 0),z.1∈ks/\z.1.2=0/\KAt H z.1 z.2:=λz hz=>by
   obtain⟨h1,h2⟩:=Yx.mp hz;obtain⟨h3,h4⟩:=jF zO z h1;exact{h3,V.int.inj (e! h2),h4}
  generalize((ks.zip z8).filter λz=>decide (o! z.1.2=o! 0))=bs at hz yW |-;cases bs with
  |nil=>cases hz
  | cons z0 bs =>
    obtain⟨h1,h2,h3⟩:=yW z0 (WM ..);exact q D z0.1 z0.2 _ _ hD (ao hD _) af h1 h2 (ao hD _ _ _ h3)
inductive gg(n:Nat)(vs:List V)(H:Hp)(Q:VK)(_E:XK):Prop
 |mk (cell:Int) (oa:Wx) (zB:List Wx) (outs:List (W8×Int)) (S C deep:Int):vs=[.int cell,.ref oa,.int S,.int C,.int deep]->H oa=A? (.tup (zB.map j!))->KsAt H outs zB->g8 outs->0<=S->S<=20->0<=C->C<=3->0<=deep->deep<(n:Int)->(∀(t:Th)(r:Wx)(H':Hp),k! H H'->At H' t r->t.FitS outs S C->t.tall<=deep.toNat+1->Q (.ref r) H')->gg n vs H Q _E
theorem dM:∀n:Nat,bv P w K mg base CX0 (n+2) T.g_28.f T.g_28.d ["cell","outs","states","kids","deep"] (gg n)
 |0=>{λ_ _ _ _ h=>by obtain⟨_,_,_,_,_,_,_,_,_,_,_,_,_,_,_,h1,h2,_⟩:=h;lia,λ_ _ _ _ _ _ _ _ _ _ _ _ _ h=>by obtain⟨_,_,_,_,_,_,_,_,_,_,_,_,_,_,_,h1,h2,_⟩:=h;lia}
 | n+1=>by
   have ih:=dM n;refine T.g_28.F.okA bS λy9 A outer s H vs Q E hr h=>?_;obtain⟨cell,oa,zB,outs,S,C,deep,rfl,eo,zO,g,S0,S1,C0,C1,d0,d1,q⟩:=h
   refine{_,(ad (bI (PW.pt (iD (aG oi (ay fQ (pv 2) (pv 3)) ac (aO _)) (gY (PW.pt (oY (aG fZ (ay bu (pv 0) ac) ac (aO _)) (li (PW.pt (iD (aG cO (pv 4) ac (aO _)) (gY (aG fZ (ay bu (pv 0) ac) ac (aO _))))))))))) (ak (aD (bg (aa gJ (aa (ay bu (ay bQ (pv 0) ac) (pv 2)) (aa (ay bu (ay bQ (ay bQ (pv 0) ac) (pv 2)) (pv 3)) ae)))))) aW)
    (ad (am 5 bS.nd (aw ax (pv 1) (ay bu (ay bQ (pv 0) ac) (aB az rfl T.n_1 Xj (aa (pv 1) ae))) (λ_ _=>rfl)))
    (ad (bI (aG cO (pv 4) ac (aO _)) (ak (am 5 bS.nd (aw aS (aX (N:=["one"]) (js:=[B?]) (g:=(av 0)) (tt:=(mV (tOp (rEq) (tOp (dL K) (bf 0) (tC (.int 1))) (tC (.int 0))))) (te:=(bf 0)) rfl (bA rfl (by decide +kernel) (by decide +kernel) rfl rfl rfl) (bU (pv 1)) (λ_ _ _ _ _ _=>(pgN 0 xG)) (aC rfl) (λ_ _ _ _ _ _=>je (aG cO (aw ax (pv 0) ac (λ_ _=>rfl)) ac (aO _))) (λ_ _ _ _ _ _=>(pv 0))) ac (λ_ _=>rfl)))) aW)
    (ad (am 6 bS.nd (bg ae))
    (ad (bj Xd rfl (bL rfl T.n_5 (aa (aw ax (pv 5) ac (λ_ _=>rfl)) ae)) (pgN 7 bS.nd) (ad (am 8 bS.nd (da (ih) (hr.mono (WD _)) rfl T.g_28.m T.g_28.F.kp T.g_28.b .nil cU (aa (ay bu (ay fQ (ay bG (ay bG (ay bQ (pv 0) ac) (pv 7)) ac) ac) ac) (aa (pv 1) (aa (pv 2) (aa (pv 3) (aa (ay iC (pv 4) ac) ae)))))))
    (ak (am 6 bS.nd (ay dR (pv 6) (bg (aa (pv 8) ae)))))))
    (ak (aD (ay dR (bg (aa (aw ax (pv 5) ac (λ_ _=>rfl)) ae)) (pv 6))))))))),?_}
   try dsimp only[zu,yX]
   have zP:outs.length=zB.length:=WS zO;have Ot:=g.le;have AL:=g.ne;refine bc (λi' H'=>An2 (H=H') (i'=[A? (.int cell),A? (.ref oa),A? (.int S),A? (.int C),A? (.int deep),B?,B?,B?,B?])) (λkk hk=>?_) ?_
   .refine cF (λb H'=>An2 (H=H') ((b=C?->0<S/\0<C))) (λk2 zk=>?_) (λH' hb=>?_) (λH' hb=>?_)
    .refine{_,E?,_,E?,_,_,E?,E?,.inl {by lia,by lia},_,_,E?,E?,_,E?,?_};refine fE (λc1=>?_) (λc1=>zk _ _ {rfl,λz=>g! z W2})
     have J9:0<S/\0<C:=by
      have LM:0<S * C:=e! c1;refine{?_,?_}
      .rcases Int.lt_or_eq_of_le S0 with h|h
       .exact h
       .rw[<-h]at LM;simp at LM
      .rcases Int.lt_or_eq_of_le C0 with h|h
       .exact h
       .rw[<-h]at LM;simp at LM
     refine{_,E?,_,_,E?,E?,(by show(0:Int)<5;decide),_,_,E?,E?,_,E?,?_};refine fE (λc2=>zk _ _ {rfl,λ_=>J9}) (λc2=>?_);refine{_,E?,E?,_,E?,?_};refine fE (λc3=>?_) (λc3=>zk _ _ {rfl,λ_=>J9});exact{_,E?,_,_,E?,E?,(by show(0:Int)<5;decide),_,_,E?,E?,_,E?,zk _ _ {E?,λ_=>J9}}
    .obtain⟨rfl,hb⟩:=hb;obtain⟨hS,hC⟩:=hb rfl;refine{_,E?,_,_,E?,E?,{by decide,by decide},_,E?,_,_,E?,E?,hS,_,E?,_,_,E?,E?,{by decide,by decide},_,E?,_,_,E?,E?,{hS,by lia},_,E?,_,_,E?,E?,hC,lnE rfl,λca Eo=>?_};have y0:=Xr (cell / 5) (show S≠0 by lia);have y1:=Xp (cell / 5) hS;have y2:=Xr (cell / 5 / S) (show C≠0 by lia);have y3:=Xp (cell / 5 / S) hC;refine q (.call (cell / 5%S) (cell / 5 / S%C)) ca _ (ao Eo _) ?_ ?_ ?_
     .rw[At];exact af
     .rw[I!];exact{y0,by lia,y2,by lia}
     .rw[y!];lia
    .obtain⟨rfl,_⟩:=hb;exact hk _ _ ⟨rfl,rfl⟩
   rintro i' H' ⟨rfl,rfl⟩;have m0:=Xr (cell / 5) (show((zB.map j!).length:Int)≠0 by rw[Wt];lia);have m1:=Xp (cell / 5) (show(0:Int)<((zB.map j!).length:Int)by rw[Wt];lia);walk_at"a";obtain⟨k0,B0⟩:∃k0,outs[(cell / 5%((zB.map j!).length:Int)).toNat]?=A? k0:={_,Wv (by rw[Wt]at m0 m1 |-;lia)};obtain⟨ka,zZ,zE⟩:=u! zO B0;refine kZ ?_;refine{_,E?,_,E?,_,_,E?,E?,{by decide,by decide},_,E?,oa,_,E?,.inr (i! eo),_,_,E?,E?,(by show(0:Int)<((zB.map j!).length:Int);rw[Wt];lia),oa,_,_,.ref ka,E?,E?,i! eo,at_nonneg m0 (gmE zZ),?_};dsimp only[av];refine bc (λi' H'=>Ex2 λ(k0:W8×Int)(ka:Wx)=>An5 (k0∈outs) (KAt H' k0 ka) ((deep=0->k0.2=0)) (k! H H') (i'=[A? (.int cell),A? (.ref oa),A? (.int S),A? (.int C),A? (.int deep),A? (.ref ka),B?,B?,B?])) (λkk hk=>?_) ?_
   .refine cF (λb H'=>An2 (H=H') ((b=D?->deep≠0))) (λk2 zk=>?_) (λH' hb=>?_) (λH' hb=>?_)
    .exact{_,E?,E?,_,E?,zk _ _ {E?,λz z2=>of_decide_eq_false z (h! o! z2)}}
    .obtain⟨rfl,_⟩:=hb;refine{_,E?,oa,E?,{_,i! eo},lH (K:=K) eo zO g (λz ka H2 R sm hz r=>{_,E?,ka,_,1,_,E?,E?,i! hz,at1,E?,_,E?,r}) (λka H2 R r=>{_,E?,r}) (λD k1 J' rs H1 hD s1 eD Ou JE e1=>?_)};exact{D,_,0,.ref J',E?,E?,l! eD,at0,hk _ _ {k1,J',Ou,e1,λ_=>JE,s1,E?}}
    .obtain⟨rfl,hb⟩:=hb;exact hk _ _ {k0,ka,Ww B0,zE,λz=>g! z (hb rfl),.refl _,rfl}
   rintro i' H1 ⟨k0,ka,Co,zE,hz,s1,rfl⟩;have zF:=g.num k0 Co;refine{lnE rfl,λpl Aq=>?_};refine gU Aq λH2 s2 e2=>?_;have e2:H2 pl=A? (.tup (([]:List Wx).map j!)):=e2;have Ka:=s1.trans s2;refine{_,E?,ka,_,1,_,E?,E?,i! (s2 _ _ zE),at1,k0.2,E?,by lia,by lia,?_}
   refine bX (n:=k0.2.toNat) (λi σ H3=>Ex5 λ(c7 c8:Option V)(pl:Wx)(bs:List Wx)(ts:List Th)=>An6 (σ=[A? (.int cell),A? (.ref oa),A? (.int S),A? (.int C),A? (.int deep),A? (.ref ka),A? (.ref pl),c7,c8]) (k! H1 H3) (H3 pl=A? (.tup (bs.map j!))) (Ats H3 ts bs) (ts.length=i) (∀t∈ts,t.FitS outs S C/\t.tall<=(deep - 1).toNat+1))
    {B?,B?,pl,[],[],rfl,s2,e2,.nil,rfl,λt ht=>by cases ht} ?_ ?_
   .rintro i σ H3 hi ⟨c7,c8,pl,bs,ts,rfl,s3,e3,AX,zl,yW⟩;have QW:i<k0.2.toNat:=hi;have sB:k! H H3:=s1.trans s3
    have Kb:1<=deep:=by
     by_cases z:deep=0
     .have:=hz z;lia
     .lia
    refine{_,E?,_,_,E?,E?,{by decide,by decide},_,E?,_,_,E?,E?,_,_,E?,E?,_,_,E?,E?,.inr {by decide,by decide},_,_,E?,E?,(by show(0:Int)<2147483647;decide),?_};refine{_,E?,_,E?,_,E?,_,E?,_,_,E?,E?,_,oa,zB,outs,S,C,deep - 1,E?,sB _ _ eo,zO.mono (n! sB),g,S0,S1,C0,C1,by lia,by lia,λt r H4 s4 zQ zK zy=>?_};have AI:bs.length=ts.length:=AX.length;refine{_,E?,_,E?,lnE rfl,λp1 Am=>?_};dsimp only;refine gU Am λH5 s5 e5=>?_;refine oq (s5 _ _ (s4 _ _ e3)) e5 (by rw[Wt];show bs.length+1<=1000000;lia) λp H6 s6 e6=>?_;have AN:=s4.trans (s5.trans s6);refine{_,_,p,bs++[r],ts++[t],E?,s3.trans AN,by rw[e6,W3];rfl,(AX.mono (n! AN)).append (.cons (zQ.mono (n! (s5.trans s6))) .nil),by rw[WL,zl];rfl,λu hu=>?_};rcases WQ.mp hu with hu|hu
    .exact yW u hu
    .rw[WG.mp hu];exact⟨zK,zy⟩
   .rintro σ H3 ⟨c7,c8,pl,bs,ts,rfl,s3,e3,AX,zl,yW⟩;have AI:bs.length=ts.length:=AX.length;refine{_,E?,ka,_,0,.str k0.1,E?,E?,i! (s3 _ _ zE),at0,lnE rfl,λp1 Am=>?_};dsimp only;refine gU Am λH4 s4 e4=>?_;refine{_,E?,?_};refine oq e4 (s4 _ _ e3) (by rw[Wt];show 1+bs.length<=1000000;lia) λp H6 s6 e6=>?_;have GJ:=(g.low k0 Co).1;refine q (.knot k0.1 ts) p H6 (s1.trans (s3.trans (s4.trans s6))) ?_ ?_ ?_
    .rw[At];exact{oO GJ,bs,e6,AX.mono (n! (s4.trans s6))}
    .rw[I!];refine{?_,FitSs.of λt ht=>(yW t ht).1}
     have:(k0.1,(ts.length:Int))=k0:=by
      rw[zl];exact Prod.ext rfl (by show((k0.2.toNat:Nat):Int)=k0.2;lia)
     rw[this];exact Co
    .rw[y!];by_cases z:deep=0
     .have zk:=hz z;have:ts=[]:=YQ.mp (by lia);subst this;rw[bJ];lia
     .have:=lV (n:=(deep - 1).toNat+1) λt ht=>(yW t ht).2;lia
inductive gC(n:Nat)(vs:List V)(H:Hp)(Q:VK)(_E:XK):Prop
 |mk (l:Wx) (x:Int) (oa:Wx) (zB:List Wx) (outs:List (W8×Int)) (S C deep:Int):vs=[.ref l,.ref oa,.int S,.int C,.int deep]->H l=A? (.lst [.int x])->H oa=A? (.tup (zB.map j!))->KsAt H outs zB->g8 outs->0<=S->S<=20->0<=C->C<=3->0<=deep->deep<(n:Int)->(∀(t:Th)(r:Wx)(x':Int)(H':Hp),SameB l H H'->H' l=A? (.lst [.int x'])->At H' t r->t.FitS outs S C->t.tall<=deep.toNat+1->Q (.ref r) H')->gC n vs H Q _E
theorem eG:∀n:Nat,bv P w K mg base CX0 (n+2) T.g_29.f T.g_29.d ["own","outs","states","kids","deep"] (gC n)
 |0=>{λ_ _ _ _ h=>by obtain⟨_,_,_,_,_,_,_,_,_,_,_,_,_,_,_,_,_,h1,h2,_⟩:=h;lia,λ_ _ _ _ _ _ _ _ _ _ _ _ _ h=>by obtain⟨_,_,_,_,_,_,_,_,_,_,_,_,_,_,_,_,_,h1,h2,_⟩:=h;lia}
 | n+1=>by
   have ih:=eG n;refine T.g_29.F.okA bO λy9 A outer s H vs Q E hr h=>?_;obtain⟨l,x,oa,zB,outs,S,C,deep,rfl,el,eo,zO,g,S0,S1,C0,C1,d0,d1,q⟩:=h
   refine{_,(ad (am 5 bO.nd (ay fQ (pv 2) (pv 3)))
    (ad (am 6 bO.nd (ay bu (aw aS (pv 0) ac (λ_ _=>rfl)) (ay bG (pv 5) (aB az rfl T.n_1 Xj (aa (pv 1) ae)))))
    (ad (jm (ay bQ (aw aS (pv 0) ac (λ_ _=>rfl)) (ay bG (pv 5) (aB az rfl T.n_1 Xj (aa (pv 1) ae)))) (nD (pv 0) ac set_list))
    (ad (bI (aG fZ (pv 6) (pv 5) (aO _)) (ak (aD (bg (aa gJ (aa (ay bu (pv 6) (pv 2)) (aa (ay bQ (pv 6) (pv 2)) ae)))))) aW)
    (ad (am 7 bO.nd (aw ax (pv 1) (ay iC (pv 6) (pv 5)) (λ_ _=>rfl)))
    (ad (bI (aG cO (pv 4) ac (aO _)) (ak (am 7 bO.nd (aw aS (aX (N:=["one"]) (js:=[B?]) (g:=(av 0)) (tt:=(mV (tOp (rEq) (tOp (dL K) (bf 0) (tC (.int 1))) (tC (.int 0))))) (te:=(bf 0)) rfl (bA rfl (by decide +kernel) (by decide +kernel) rfl rfl rfl) (bU (pv 1)) (λ_ _ _ _ _ _=>(pgN 0 xG)) (aC rfl) (λ_ _ _ _ _ _=>je (aG cO (aw ax (pv 0) ac (λ_ _=>rfl)) ac (aO _))) (λ_ _ _ _ _ _=>(pv 0))) ac (λ_ _=>rfl)))) aW)
    (ad (am 8 bO.nd (bg ae))
    (ad (bj Xd rfl (bL rfl T.n_5 (aa (aw ax (pv 7) ac (λ_ _=>rfl)) ae)) (pgN 9 bO.nd) (ak (am 8 bO.nd (ay dR (pv 8) (bg (aa (da (ih) (hr.mono (WD _)) rfl T.g_29.m T.g_29.F.kp T.g_29.b .nil cU (aa (pv 0) (aa (pv 1) (aa (pv 2) (aa (pv 3) (aa (ay iC (pv 4) ac) ae)))))) ae))))))
    (ak (aD (ay dR (bg (aa (aw ax (pv 7) ac (λ_ _=>rfl)) ae)) (pv 8)))))))))))),?_}
   try dsimp only[zu,yX]
   have zP:outs.length=zB.length:=WS zO;have Ot:=g.le;have AL:=g.ne;have LN:((zB.map j!).length:Int)=(outs.length:Int):=by rw[Wt,zP]
   have J9:0<=S * C:=Int.mul_nonneg S0 C0
   have Ov:S * C<=60:=by
    have:S * C<=20 * 3:=Int.mul_le_mul S1 C1 C0 (by decide);lia
   refine{_,E?,_,E?,_,_,E?,E?,.inl {by lia,by lia},?_};dsimp only[av];have zY:0<S * C+((zB.map j!).length:Int):=by lia
   refine{_,E?,l,_,0,.int x,E?,E?,l! el,at0,_,E?,_,E?,oa,_,E?,.inr (i! eo),_,_,E?,E?,_,_,E?,E?,zY,?_};refine{_,E?,l,_,0,.int x,E?,E?,l! el,at0,_,E?,_,E?,oa,_,E?,.inr (i! eo),_,_,E?,E?,_,_,E?,E?,{zY,by show S * C+((zB.map j!).length:Int)<1073741824;lia},?_};refine{_,E?,l,_,0,0,E?,E?,el,E?,?_};dsimp only;have p0:=Xr x (show S * C+((zB.map j!).length:Int)≠0 by lia);have p1:=Xp x zY;generalize x%(S * C+((zB.map j!).length:Int))=pick at p0 p1 |-;generalize x / (S * C+((zB.map j!).length:Int))=x1;have e1:(upd H l (.lst ([o! x].set 0 (.int x1)))) l=A? (.lst [.int x1]):=by rw[af];rfl
   have s1:SameB l H (upd H l (.lst ([o! x].set 0 (.int x1)))):=.set;generalize(upd H l (.lst ([o! x].set 0 (.int x1))))=H1 at e1 s1 |-;have LO:H1 oa=A? (.tup (zB.map j!)):=s1 _ _ (aF eo el (by intro z;cases z)) eo;have UB:KT H H1:=s1.kt el;have GK:=zO.mono UB;generalize Bs:S * C=calls at J9 Ov p1 zY |-;refine bc (λi' H'=>An3 (H1=H') (¬pick<calls) (i'=[A? (.ref l),A? (.ref oa),A? (.int S),A? (.int C),A? (.int deep),A? (.int calls),A? (.int pick),B?,B?,B?])) (λkk hk=>?_) ?_
   .refine cF (λb H'=>An2 (H1=H') (b=decide (pick<calls))) (λk2 zk=>?_) (λH' hb=>?_) (λH' hb=>?_)
    .exact{_,E?,_,E?,_,_,E?,E?,_,E?,zk _ _ ⟨E?,E?⟩}
    .obtain⟨rfl,hb⟩:=hb;have yY:=e! hb.symm
     have hS:0<S:=by
      rcases Int.lt_or_eq_of_le S0 with h|h
      .exact h
      .rw[<-h,Int.zero_mul]at Bs;lia
     have y0:=Xr pick (show S≠0 by lia);have y1:=Xp pick hS;have y2:0<=pick / S:=Int.ediv_nonneg p0 (by lia);have y3:pick / S<C:=Int.ediv_lt_of_lt_mul hS (by rw[Int.mul_comm,Bs];exact yY);refine{_,E?,_,E?,_,_,E?,E?,hS,_,E?,_,E?,_,_,E?,E?,{hS,by lia},lnE rfl,λca Eo=>?_};have zb:l≠ca:=λz=>by rw[<-z,e1]at Eo;cases Eo
     refine q (.call (pick%S) (pick / S)) ca x1 _ (s1.trans (.of (ao Eo _))) (by rw[aj zb];exact e1) ?_ ?_ ?_
     .rw[At];exact af
     .rw[I!];exact{y0,by lia,y2,by lia}
     .rw[y!];lia
    .obtain⟨rfl,hb⟩:=hb;exact hk _ _ {rfl,of_decide_eq_false hb.symm,rfl}
   rintro i' H' ⟨rfl,G8,rfl⟩;walk_at"a";obtain⟨k0,B0⟩:∃k0,outs[(pick - calls).toNat]?=A? k0:={_,Wv (by lia)};obtain⟨ka,zZ,zE⟩:=u! GK B0;refine kZ ?_;refine{_,E?,_,E?,_,E?,_,_,E?,E?,oa,_,_,.ref ka,E?,E?,i! LO,at_nonneg (by lia) (gmE zZ),?_};dsimp only[av];refine bc (λi' H'=>Ex2 λ(k0:W8×Int)(ka:Wx)=>An5 (k0∈outs) (KAt H' k0 ka) ((deep=0->k0.2=0)) (k! H1 H') (i'=[A? (.ref l),A? (.ref oa),A? (.int S),A? (.int C),A? (.int deep),A? (.int calls),A? (.int pick),A? (.ref ka),B?,B?])) (λkk hk=>?_) ?_
   .refine cF (λb H'=>An2 (H1=H') ((b=D?->deep≠0))) (λk2 zk=>?_) (λH' hb=>?_) (λH' hb=>?_)
    .exact{_,E?,E?,_,E?,zk _ _ {E?,λz z2=>of_decide_eq_false z (h! o! z2)}}
    .obtain⟨rfl,_⟩:=hb;refine{_,E?,oa,E?,{_,i! LO},lH (K:=K) LO GK g (λz ka H2 R sm hz r=>{_,E?,ka,_,1,_,E?,E?,i! hz,at1,E?,_,E?,r}) (λka H2 R r=>{_,E?,r}) (λD k1 J' rs H2 hD s2 eD Ou JE e2=>?_)};exact{D,_,0,.ref J',E?,E?,l! eD,at0,hk _ _ {k1,J',Ou,e2,λ_=>JE,s2,E?}}
    .obtain⟨rfl,hb⟩:=hb;exact hk _ _ {k0,ka,Ww B0,zE,λz=>g! z (hb rfl),.refl _,rfl}
   clear B0 zZ zE;rintro i' H2 ⟨k0,ka,Co,zE,hz,s2,rfl⟩;have zF:=g.num k0 Co;have GL:=s2 _ _ e1;refine{lnE rfl,λpl Aq=>?_};refine gU Aq λH3 s3 e3=>?_;have e3:H3 pl=A? (.tup (([]:List Wx).map j!)):=e3;refine{_,E?,ka,_,1,_,E?,E?,i! (s3 _ _ zE),at1,k0.2,E?,by lia,by lia,?_}
   refine bX (n:=k0.2.toNat) (λi σ H4=>Ex5 λ(c9:Option V)(pl:Wx)(bs:List Wx)(ts:List Th)(x':Int)=>An7 (σ=[A? (.ref l),A? (.ref oa),A? (.int S),A? (.int C),A? (.int deep),A? (.int calls),A? (.int pick),A? (.ref ka),A? (.ref pl),c9]) (SameB l H2 H4) (H4 l=A? (.lst [.int x'])) (H4 pl=A? (.tup (bs.map j!))) (Ats H4 ts bs) (ts.length=i) (∀t∈ts,t.FitS outs S C/\t.tall<=(deep - 1).toNat+1))
    {B?,pl,[],[],x1,rfl,.of s3,s3 _ _ GL,e3,.nil,rfl,λt ht=>by cases ht} ?_ ?_
   .rintro i σ H4 hi ⟨c9,pl,bs,ts,x',rfl,s4,LP,e4,AX,zl,yW⟩;have QW:i<k0.2.toNat:=hi;have LQ:KT H2 H4:=s4.kt GL
    have Kb:1<=deep:=by
     by_cases z:deep=0
     .have:=hz z;lia
     .lia
    refine{_,E?,_,E?,_,E?,_,E?,_,E?,_,E?,_,_,E?,E?,l,x',oa,zB,outs,S,C,deep - 1,E?,LP,LQ _ _ (s2 _ _ LO),GK.mono ((n! s2).trans LQ),g,S0,S1,C0,C1,by lia,by lia,λt r x5 H5 s5 UC zQ zK zy=>?_};have AI:bs.length=ts.length:=AX.length;have Fw:KT H4 H5:=s5.kt LP;refine{lnE rfl,λUD Am=>?_};dsimp only;refine gU Am λH6 s6 e6=>?_;refine oq (s6 _ _ (Fw _ _ e4)) e6 (by rw[Wt];show bs.length+1<=1000000;lia) λp H7 s7 e7=>?_;have Dl:=s6.trans s7;refine{_,p,bs++[r],ts++[t],x5,E?,s4.trans (s5.trans (.of Dl)),Dl _ _ UC,by rw[e7,W3];rfl,(AX.mono (Fw.trans (n! Dl))).append (.cons (zQ.mono (n! Dl)) .nil),by rw[WL,zl];rfl,λu hu=>?_};rcases WQ.mp hu with hu|hu
    .exact yW u hu
    .rw[WG.mp hu];exact⟨zK,zy⟩
   .rintro σ H4 ⟨c9,pl,bs,ts,x',rfl,s4,LP,e4,AX,zl,yW⟩;have AI:bs.length=ts.length:=AX.length;have LQ:KT H2 H4:=s4.kt GL;refine{_,E?,ka,_,0,.str k0.1,E?,E?,i! (LQ _ _ zE),at0,lnE rfl,λUD Am=>?_};dsimp only;refine gU Am λH5 s5 e5=>?_;refine{_,E?,?_};refine oq e5 (s5 _ _ e4) (by rw[Wt];show 1+bs.length<=1000000;lia) λp H6 s6 e6=>?_;have Fx:=s5.trans s6;have GJ:=(g.low k0 Co).1;refine q (.knot k0.1 ts) p x' H6 (s1.trans ((A! s2).trans (s4.trans (.of Fx)))) (Fx _ _ LP) ?_ ?_ ?_
    .rw[At];exact{oO GJ,bs,e6,AX.mono (n! Fx)}
    .rw[I!];refine{?_,FitSs.of λt ht=>(yW t ht).1}
     have:(k0.1,(ts.length:Int))=k0:=by
      rw[zl];exact Prod.ext rfl (by show((k0.2.toNat:Nat):Int)=k0.2;lia)
     rw[this];exact Co
    .rw[y!];by_cases z:deep=0
     .have zk:=hz z;have:ts=[]:=YQ.mp (by lia);subst this;rw[bJ];lia
     .have:=lV (n:=(deep - 1).toNat+1) λt ht=>(yW t ht).2;lia
theorem uI(h:v∈cW xs lo hi):v∈xs:=by
 unfold cW at h;exact List.mem_of_mem_drop (Yl h)
theorem wg(xs:List V)(lo hi:Option Int):(cW xs lo hi).length<=xs.length:=by
 unfold cW;rw[Xy,XR];lia
theorem SameB.fresh(hl:H l=B?)(s:k! H H1)(b:SameB l H1 H'):k! H H':=λa o e=>b a o (λz=>by rw[z,hl]at e;cases e) (s a o e)
def G4(ks:List (W8×Int)):Prop:=GoodN ks/\ks.length<=4
theorem G4.g{ks:List (W8×Int)}(h:G4 ks):g8 ks:=h.1.goodK h.2
def TsF(ins outs:List (W8×Int))(S:Int)(ts:List Th):Prop:=∀(j:Nat)(t:Th)(k:W8×Int),ts[j]?=A? t->ins[j]?=A? k->t.FitS outs S k.2/\t.tall<=3
def RwF(ins outs:List (W8×Int))(S:Int)(row:List Th):Prop:=row.length=ins.length/\TsF ins outs S row
theorem TsF.snoc{S:Int}{ts:List Th}{t:Th}{k:W8×Int}(h:TsF ins outs S ts)(hk:ins[ts.length]?=A? k)(hf:t.FitS outs S k.2)(ht:t.tall<=3):TsF ins outs S (ts++[t]):=λj u k' hu zm=>by
 by_cases hj:j<ts.length
 .rw[Xk hj]at hu;exact h j u k' hu zm
 .have Ei:=(glE hu);rw[WL,Xe]at Ei;obtain rfl:j=ts.length:=by lia
  rw[Xu (WD _),Zu]at hu;cases hu;rw[hk]at zm;cases zm;exact⟨hf,ht⟩
structure Bk48(ins outs:List (W8×Int))(head:Th)(rows:List (List Th)):Prop where
 gi:G4 ins
 go:G4 outs
 few:rows.length<=6
 row:∀row∈rows,RwF ins outs (rows.length:Nat) row
 hd:head.FitS outs (rows.length:Nat) 1/\head.tall<=3
inductive jb(K:WJ)(vs:List V)(H:Hp)(Q:VK)(_E:XK):Prop
 |mk (a:Wx) (ns:List Int):vs=[.ref a,.int 3,.int 2]->SqL K H a (ns.map o!)->ns.length<=63->(∀(r:Wx)(ins outs:List (W8×Int))(head:Th)(rows:List (List Th))(H':Hp),k! H H'->Bk H' ins outs head rows r->Bk48 ins outs head rows->Q (.ref r) H')->jb K vs H Q _E
theorem nT:bv P w K mg base CX0 9 T.g_30.f T.g_30.d ["script","most","deep"] (jb K):=by
 refine T.g_30.F.okA aU λy9 A outer s H vs Q E hr h=>?_;obtain⟨a,ns,rfl,hS,Ah,q⟩:=h
 refine{_,(ad (am 3 aU.nd (pcF T.g_26 (hZ T) hr (aa (pcF T.g_24 (bH T) hr (aa (pv 0) (aa ac ae))) ae)))
  (ad (am 4 aU.nd (pcF T.g_26 (hZ T) hr (aa (pcF T.g_24 (bH T) hr (aa (pv 0) (aa ac ae))) ae)))
  (ad (bI (aG cO (ay bu (ay bQ (pcF T.g_24 (bH T) hr (aa (pv 0) (aa ac ae))) ac) ac) ac (aO _)) (ak (am 4 aU.nd (pv 3))) aW)
  (ad (am 5 aU.nd (ay bu (pcF T.g_24 (bH T) hr (aa (pv 0) (aa ac ae))) (ay bG (pv 1) ac)))
  (ad (bI (aG mM ac (aX (N:=["pair"]) (js:=[B?]) (g:=(av 0)) (tt:=aI) (te:=(tOp (dL K) (bf 0) (tC (.int 1)))) rfl (bA rfl (by decide +kernel) (by decide +kernel) rfl rfl rfl) (bU (pv 3)) (λ_ _ _ _ _ _=>(pgN 0 oz)) (aC rfl) (λ_ _ _ _ _ _=>aK) (λ_ _ _ _ _ _=>(aw ax (pv 0) ac (λ_ _=>rfl)))) (by with_unfolding_all rfl)) (ak (am 5 aU.nd (aB (ss rfl) rfl T.n_4 PyProof.Rows.boot_min (aa (pv 5) (aa ac ae))))) aW)
  (ad (am 6 aU.nd (pcF T.g_27 (ls T) hr (aa (aN eR (pv 0) (aY ac) bi) (aa (ay bG (ay fQ (pv 5) (aB az rfl T.n_1 Xj (aa (pv 3) ae))) ac) ae))))
  (ad (am 7 aU.nd (rb cO (ay bu (ay bQ (pcF T.g_24 (bH T) hr (aa (pv 0) (aa ac ae))) ac) ac) ac (aO _)))
  (ad (am 8 aU.nd (bE ae))
  (ad (bj Xd rfl (bL rfl T.n_5 (aa (pv 5) ae)) (pgN 9 aU.nd) (ad (am 10 aU.nd (bE ae))
  (ad (bj Xd rfl (bL rfl T.n_5 (aa (aB az rfl T.n_1 Xj (aa (pv 3) ae)) ae)) (pgN 11 aU.nd) (ad (am 12 aU.nd (ay bG (ay bG (aw aS (pv 6) (ay bG (ay bG ac (ay fQ (pv 9) (aB az rfl T.n_1 Xj (aa (pv 3) ae)))) (pv 11)) (λ_ _=>rfl)) (ay fQ ac (pv 11))) (pv 9)))
  (ak (bI (cP (pv 7) (λ_=>rfl)) (ak (aV (cn W7 Xm Xl br (pv 10) (aa (pcF T.g_29 (eG T 5) hr (aa (bE (aa (pv 12) ae)) (aa (pv 4) (aa (pv 5) (aa (aw ax (aw ax (pv 3) (pv 11) (λ_ _=>rfl)) ac (λ_ _=>rfl)) (aa (pv 2) ae)))))) ae)))) (ak (aV (cn W7 Xm Xl br (pv 10) (aa (pcF T.g_28 (dM T 5) hr (aa (pv 12) (aa (pv 4) (aa (pv 5) (aa (aw ax (aw ax (pv 3) (pv 11) (λ_ _=>rfl)) ac (λ_ _=>rfl)) (aa (ay bu (ay bQ (pv 12) ac) (ay bG (pv 2) ac)) ae)))))) ae))))))))
  (ak (aV (cn W7 Xm Xl br (pv 8) (aa (bR aZ rfl T.n_8 XA (aa (pv 10) ae)) ae)))))))
  (ad (am 13 aU.nd (pcF T.g_28 (dM T 5) hr (aa (aw aS (pv 6) ac (λ_ _=>rfl)) (aa (pv 4) (aa (pv 5) (aa ac (aa (pv 2) ae)))))))
  (ad (bI (cP (pv 7) (λ_=>rfl)) (ak (am 13 aU.nd (pcF T.g_29 (eG T 5) hr (aa (bE (aa (aw aS (pv 6) ac (λ_ _=>rfl)) ae)) (aa (pv 4) (aa (pv 5) (aa ac (aa (pv 2) ae)))))))) aW)
  (ak (aD (bg (aa (pv 3) (aa (pv 4) (aa (pv 13) (aa (bR aZ rfl T.n_8 XA (aa (pv 8) ae)) ae)))))))))))))))))),?_}
 try dsimp only[zu,yX]
 refine{_,E?,a,ns,0,E?,hS,by decide,cellAt ns 0,E?,ml ns 0,λia zi H1 s1 ei Dm=>?_};refine{_,E?,a,ns,1,E?,s1.seq hS,by decide,cellAt ns 1,E?,ml ns 1,λUE Ow H2 s2 QX GN=>?_};have gI:G4 (dJ (cellAt ns 0)):=jV _;have Ox:G4 (dJ (cellAt ns 1)):=jV _;generalize dJ (cellAt ns 0)=ins at Dm gI;generalize dJ (cellAt ns 1)=Kc at GN Ox;have gi:=gI.g;have Dm:=Dm.mono (n! s2);have ei:=s2 _ _ ei;have Ka:=s1.trans s2;have hS:=Ka.seq hS;dsimp only[av];refine bc (λi' H'=>Ex3 λ(oa:Wx)(zB:List Wx)(outs:List (W8×Int))=>An5 (H2=H') (H2 oa=A? (.tup (zB.map j!))) (KsAt H2 outs zB) (G4 outs) (i'=[A? (.ref a),A? (.int 3),A? (.int 2),A? (.ref ia),A? (.ref oa),B?,B?,B?,B?,B?,B?,B?,B?,B?])) (λkk hk=>?_) ?_
 .refine cF (λb H'=>H2=H') (λk2 zk=>?_) (λH' hb=>?_) (λH' hb=>?_)
  .exact{_,E?,a,ns,1,E?,hS,by decide,_,_,E?,E?,{by decide,by decide},_,_,E?,E?,(by show(0:Int)<3;decide),E?,_,E?,zk _ _ rfl}
  .subst hb;exact{_,E?,hk _ _ ⟨ia,zi,ins,E?,ei,Dm,gI,E?⟩}
  .subst hb;exact hk _ _ ⟨UE,Ow,Kc,rfl,QX,GN,Ox,rfl⟩
 clear QX GN Ox;rintro i' H' ⟨oa,zB,outs,rfl,eo,E8,gO,rfl⟩;have go:=gO.g;have zV:ins.length=zi.length:=WS Dm;have R4:=gi.le;have Dk:((zi.map j!).length:Int)=(ins.length:Int):=by rw[Wt,zV]
 refine{_,E?,a,ns,2,E?,hS,by decide,_,E?,_,_,E?,E?,_,_,E?,E?,(by show(0:Int)<3+1;decide),?_};have QY:=Xr (cellAt ns 2) (show(3+1:Int)≠0 by decide);have QZ:=Xp (cellAt ns 2) (show(0:Int)<3+1 by decide);dsimp only[av];have UG:=gI.2;generalize cellAt ns 2%(3+1)=Sx at QY QZ |-;refine bc (λi' H'=>Ex1 λ(S:Int)=>An4 (k! H2 H') (0<=S) (S<=6) (i'=[A? (.ref a),A? (.int 3),A? (.int 2),A? (.ref ia),A? (.ref oa),A? (.int S),B?,B?,B?,B?,B?,B?,B?,B?])) (λkk hk=>?_) ?_
 .refine{_,E?,ia,E?,{_,i! ei},bP (zs:=ins) (f:=λk=>o! k.2) (i! ei) (by rw[Wt];exact zV) (by rw[Wt];lia) (λi x z Hx R W' hx hz sx hR=>?_) (λl Hx hl sx el=>?_)}
  .obtain⟨ka,zZ,zE⟩:=u! Dm hz;rw[Wz,zZ]at hx;cases hx;exact{_,E?,ka,_,1,_,E?,E?,i! (sx _ _ zE),at1,hR Hx (λ_ _ e=>e)}
  refine{l,_,E?,.inl (l! el),E?,?_,_,E?,?_}
  .rw[List.all_map,List.all_eq_true];intro x _;rfl
  dsimp only;refine fE (λ_=>?_) (λ_=>?_)
  .refine{_,E?,_,_,E?,hk _ _ {_,sx,?_,?_,E?}}
   .split <;> lia
   .split <;> lia
  .exact hk _ _ {Sx,sx,by lia,by lia,rfl}
 rintro i' Wc ⟨S,HG,S0,S1,rfl⟩;have Dm:=Dm.mono (n! HG);have ei:=HG _ _ ei;have eo:=HG _ _ eo;have E8:=E8.mono (n! HG);have Ka:=Ka.trans HG;have hS:=HG.seq hS;clear QY QZ;have UH:0<=S * (ins.length:Int):=Int.mul_nonneg S0 (by lia)
 have Oy:S * (ins.length:Int)<=24:=by
  have:S * (ins.length:Int)<=6 * 4:=Int.mul_le_mul (by lia) (by lia) (by lia) (by decide);lia
 rw[<-Dk]at UH Oy;refine{_,E?,3,E?,a,_,E?,hS,λp hp=>?_};dsimp only[av];refine gU hp λH3 s3 e3=>?_;have Gh:=wg (ns.map o!) (A? 3) B?;rw[Wt]at Gh;refine{_,E?,_,E?,ia,_,E?,.inr (i! (s3 _ _ ei)),_,_,E?,E?,.inl {by lia,by lia},_,_,E?,E?,p,_,_,E?,e3,(λv hv=>(WY.mp (uI hv)).elim λz hz=>⟨z,hz.2.symm⟩),by lia,by lia,by lia,λca cs H4 s4 ec zb=>?_};have Es:=s3.trans s4;have hS:=Es.seq hS;have UI:=Ka.trans Es;have ei:=Es _ _ ei;have Dm:=Dm.mono (n! Es);have eo:=Es _ _ eo;have E8:=E8.mono (n! Es);refine{_,E?,a,ns,2,E?,hS,by decide,_,_,E?,E?,{by decide,by decide},_,_,E?,E?,(by show(0:Int)<2;decide),E?,?_};dsimp only[av];generalize decide (o! (cellAt ns 2 / 7%2)=o! 1)=dg;refine{lnE rfl,λrl Ke=>?_};refine gU Ke λH5 UJ NM=>?_;refine{_,E?,S,E?,by lia,by lia,?_}
 refine bX (n:=S.toNat) (λi σ H3=>Ex6 λ(sv rv kv cv:Option V)(zd:List Wx)(rows:List (List Th))=>An6 (σ=[A? (.ref a),A? (.int 3),A? (.int 2),A? (.ref ia),A? (.ref oa),A? (.int S),A? (.ref ca),A? (.bl dg),A? (.ref rl),sv,rv,kv,cv,B?]) (k! H4 H3) (H3 rl=A? (.lst (zd.map j!))) (Xb (RowAt H3) rows zd) (rows.length=i) (∀row∈rows,RwF ins outs S row))
  {B?,B?,B?,B?,[],[],rfl,UJ,NM,.nil,rfl,λt ht=>by cases ht} ?_ ?_
 .rintro i σ H3 hi ⟨sv,rv,kv,cv,zd,rows,rfl,s3,LR,BW,Oz,yW⟩;have QW:i<S.toNat:=hi;have Kf:rows.length=zd.length:=WS BW;refine{lnE rfl,λrw GG=>?_};have OA:H4 rw=none:=s3.free GG;have OB:rw≠rl:=λz=>by rw[z,LR]at GG;cases GG
  refine gU GG λH6 s6 UK=>?_;refine{_,E?,ia,_,E?,.inr (i! (s6 _ _ (s3 _ _ ei))),_,E?,by lia,by lia,?_}
  refine bX (n:=((zi.map j!).length:Int).toNat) (λj σ H5=>Ex4 λ(kv cv:Option V)(bs:List Wx)(ts:List Th)=>An8 (σ=[A? (.ref a),A? (.int 3),A? (.int 2),A? (.ref ia),A? (.ref oa),A? (.int S),A? (.ref ca),A? (.bl dg),A? (.ref rl),A? (.int (0+(i:Int))),A? (.ref rw),kv,cv,B?]) (k! H4 H5) (H5 rl=A? (.lst (zd.map j!))) (KT H6 H5) (H5 rw=A? (.lst (bs.map j!))) (Ats H5 ts bs) (ts.length=j) (TsF ins outs S ts))
   {kv,cv,[],[],rfl,s3.trans s6,s6 _ _ LR,λ_ _ e=>e,UK,.nil,rfl,λj t k h=>by simp at h} ?_ ?_
  .rintro j σ H5 hj ⟨kv,cv,bs,ts,rfl,s5,Fz,Fw,Kg,AX,zl,DZ⟩
   have UL:j<ins.length:=by
    have:j<((zi.map j!).length:Int).toNat:=hj;lia
   walk_at"a";obtain⟨k0,B0⟩:∃k0,ins[j]?=A? k0:={_,Wv UL};obtain⟨ka,zZ,zE⟩:=u! Dm B0;have zF:=gi.num k0 (Ww B0);have zQ:atI (zi.map j!) (0+(j:Int))=A? (.ref ka):=at_nonneg (by lia) (by rw[show(0+(j:Int)).toNat=j by lia,Wz,zZ];rfl);have hmul:0<=(0+(i:Int)) * ((zi.map j!).length:Int):=Int.mul_nonneg (by lia) (by lia)
   have Q0:(0+(i:Int)) * ((zi.map j!).length:Int)+((zi.map j!).length:Int)<=S * ((zi.map j!).length:Int):=by
    have h1:(0+(i:Int)+1) * ((zi.map j!).length:Int)<=S * ((zi.map j!).length:Int):=Int.mul_le_mul_of_nonneg_right (by lia) (by lia);rw[Int.add_mul (0+(i:Int)) 1,Int.one_mul]at h1;exact h1
   obtain⟨c,hc⟩:∃c,cs[(1+(0+(i:Int)) * ((zi.map j!).length:Int)+(0+(j:Int))).toNat]?=A? c:={_,Wv (by lia)};refine kZ ?_;refine{_,E?,_,E?,_,E?,ia,_,E?,.inr (i! (s5 _ _ ei)),_,_,E?,E?,.inl {by lia,by lia},_,_,E?,E?,_,E?,_,_,E?,E?,ca,_,_,.int c,E?,E?,l! (s5 _ _ ec),at_nonneg (by lia) (gmE hc),?_};refine{_,E?,_,_,E?,E?,.inl {by decide,by decide},_,_,E?,E?,_,E?,_,_,E?,E?,?_};dsimp only[av];generalize c+7 * (0+(j:Int))+(0+(i:Int))=cell
   have fin:∀(t:Th)(r:Wx)(H7:Hp),k! H5 H7->At H7 t r->t.FitS outs S k0.2->t.tall<=3->(rf (j! rw) [j! r] H7 λ_ H8=>Ex4 λ(kv cv:Option V)(bs:List Wx)(ts:List Th)=>An8 ([A? (j! a),A? (.int 3),A? (.int 2),A? (.ref ia),A? (.ref oa),A? (.int S),A? (.ref ca),A? (.bl dg),A? (.ref rl),A? (.int (0+(i:Int))),A? (.ref rw),A? (.int (0+(j:Int))),A? (.int cell),B?]=[A? (.ref a),A? (.int 3),A? (.int 2),A? (.ref ia),A? (.ref oa),A? (.int S),A? (.ref ca),A? (.bl dg),A? (.ref rl),A? (.int (0+(i:Int))),A? (.ref rw),kv,cv,B?]) (k! H4 H8) (H8 rl=A? (.lst (zd.map j!))) (KT H6 H8) (H8 rw=A? (.lst (bs.map j!))) (Ats H8 ts bs) (ts.length=j+1) (TsF ins outs S ts)):=by
    intro t r H7 s7 zQ zK zy;have Q1:=s7 _ _ Kg;have Cj:=s7 _ _ Fz;have AI:bs.length=ts.length:=AX.length;refine{rw,_,_,E?,E?,Q1,lbE (by lia),?_};have kt:KT H7 (upd H7 rw (.lst (bs.map j!++[.ref r]))):=cK Q1;refine{_,_,bs++[r],ts++[t],E?,aM (s5.trans s7) OA,by rw[aj OB.symm];exact Cj,Fw.trans ((n! s7).trans kt),?_,?_,?_,?_}
    .rw[af,W3];rfl
    .exact(AX.mono ((n! s7).trans kt)).append (.cons (zQ.mono kt) .nil)
    .rw[WL,zl];rfl
    .exact DZ.snoc (by rw[zl];exact B0) zK zy
   refine cF (λb H'=>H5=H') (λk2 zk=>?_) (λH' hb=>?_) (λH' hb=>?_)
   .exact{_,E?,_,E?,zk _ _ rfl}
   .subst hb;refine{_,E?,.inl {E?,_,l! Kg},_,E?,lnE rfl,λol Ge=>?_};dsimp only;refine gU Ge λH7 s7 e7=>?_;have Dl:=s5.trans s7;refine{_,E?,_,E?,_,E?,_,E?,ia,_,_,.ref ka,E?,E?,i! (Dl _ _ ei),zQ,ka,_,1,_,E?,E?,i! (Dl _ _ zE),at1,_,E?,ol,cell,oa,zB,outs,S,k0.2,2,E?,e7,Dl _ _ eo,E8.mono (n! Dl),go,S0,by lia,zF.1,zF.2,by decide,by decide,λt r x' H8 s8 _ zQ zK zy=>?_};exact fin t r H8 (SameB.fresh Ge s7 s8) zQ zK zy
   .subst hb;have y0:=Xr (cell / 3) (show(2+1:Int)≠0 by decide);have y1:=Xp (cell / 3) (show(0:Int)<2+1 by decide);refine{_,E?,.inl {E?,_,l! Kg},_,E?,_,E?,_,E?,_,E?,_,E?,ia,_,_,.ref ka,E?,E?,i! (s5 _ _ ei),zQ,ka,_,1,_,E?,E?,i! (s5 _ _ zE),at1,_,E?,_,_,E?,E?,{by decide,by decide},_,E?,_,_,E?,E?,_,_,E?,E?,(by show(0:Int)<2+1;decide),cell,oa,zB,outs,S,k0.2,_,E?,s5 _ _ eo,E8.mono (n! s5),go,S0,by lia,zF.1,zF.2,y0,by show cell / 3%(2+1)<((5:Nat):Int);lia,λt r H8 s8 zQ zK zy=>?_};exact fin t r H8 s8 zQ zK (by lia)
  .rintro σ H5 ⟨kv,cv,bs,ts,rfl,s5,Fz,Fw,Kg,AX,zl,DZ⟩;refine{_,E?,.inl {E?,_,l! Fz},_,E?,rw,_,E?,.inl {l! Kg,λtp Bq=>?_}};refine gU Bq λH7 s7 e7=>?_;have Cj:=s7 _ _ Fz;refine{rl,_,_,E?,E?,Cj,lbE (by lia),?_};have kt:KT H7 (upd H7 rl (.lst (zd.map j!++[.ref tp]))):=cK Cj;have UM:KT H3 (upd H7 rl (.lst (zd.map j!++[.ref tp]))):=(n! s6).trans (Fw.trans ((n! s7).trans kt));refine{_,_,_,_,zd++[tp],rows++[ts],E?,aM (s5.trans s7) Ke,?_,?_,?_,?_}
   .rw[af,W3];rfl
   .exact v! (r! (λ_ _ e=>RowAt.mono UM e) BW) (.cons {bs,kt _ _ e7,AX.mono ((n! s7).trans kt)} .nil)
   .rw[WL,Oz];rfl
   .intro row zC;rcases WQ.mp zC with zC|zC
    .exact yW row zC
    .rw[WG.mp zC];exact{by rw[zl];lia,DZ}
 .rintro σ H3 ⟨sv,rv,kv,cv,zd,rows,rfl,s3,LR,BW,Oz,yW⟩;have Kf:rows.length=zd.length:=WS BW;obtain⟨c,hc⟩:∃c,cs[0]?=A? c:={_,Wv (by lia)};have Kh:atI (cs.map o!) 0=A? (.int c):=at_nonneg (by decide) (by rw[Wz];show(cs[0]?).map o!=_;rw[hc];rfl);refine{_,E?,ca,_,0,.int c,E?,E?,l! (s3 _ _ ec),Kh,_,E?,_,E?,_,E?,c,oa,zB,outs,S,1,2,E?,s3 _ _ eo,E8.mono (n! s3),go,S0,by lia,by decide,by decide,by decide,by decide,λt ha H6 s6 zQ zK zy=>?_};dsimp only[av];have Q2:k! H4 H6:=s3.trans s6;refine bc (λi' H7=>Ex2 λ(t:Th)(ha:Wx)=>An5 (k! H6 H7) (At H7 t ha) (t.FitS outs S 1) (t.tall<=3) (i'=[A? (.ref a),A? (.int 3),A? (.int 2),A? (.ref ia),A? (.ref oa),A? (.int S),A? (.ref ca),A? (.bl dg),A? (.ref rl),sv,rv,kv,cv,A? (.ref ha)])) (λkk hk=>?_) ?_
  .refine cF (λb H'=>H6=H') (λk2 zk=>?_) (λH' hb=>?_) (λH' hb=>?_)
   .exact{_,E?,_,E?,zk _ _ rfl}
   .subst hb;refine{_,E?,ca,_,0,.int c,E?,E?,l! (Q2 _ _ ec),Kh,lnE rfl,λol Ge=>?_};dsimp only;refine gU Ge λH7 s7 e7=>?_;have Dl:=Q2.trans s7;exact{_,E?,_,E?,_,E?,ol,c,oa,zB,outs,S,1,2,E?,e7,Dl _ _ eo,E8.mono (n! Dl),go,S0,by lia,by decide,by decide,by decide,by decide,λt r x' H8 s8 _ zQ zK zy=>hk _ _ {t,r,SameB.fresh Ge s7 s8,zQ,zK,zy,E?}}
   .subst hb;exact hk _ _ {t,ha,.refl _,zQ,zK,zy,rfl}
  clear zQ zK zy;rintro i' H7 ⟨t,ha,s7,zQ,zK,zy,rfl⟩;have Cj:=s7 _ _ (s6 _ _ LR);refine{_,E?,_,E?,_,E?,_,E?,rl,_,E?,.inl {l! Cj,λra UN=>?_}};refine gU UN λH8 s8 e8=>?_;refine{lnE rfl,λr BO=>?_};have s9:k! H8 (upd H8 r (.tup [.ref ia,.ref oa,.ref ha,.ref ra])):=ao BO _;have sA:=s6.trans (s7.trans (s8.trans s9));have sB:=s3.trans sA;have Q3:((rows.length:Nat):Int)=S:=by rw[Oz];lia
  exact q r ins outs t rows _ (UI.trans sB) {ia,oa,ha,ra,zi,zB,zd,af,sB _ _ ei,Dm.mono (n! sB),sB _ _ eo,E8.mono (n! sB),zQ.mono (n! (s8.trans s9)),s9 _ _ e8,r! (λ_ _ e=>RowAt.mono (n! sA) e) BW} {gI,gO,by lia,by rw[Q3];exact yW,by rw[Q3];exact zK,zy}
inductive eT(n:Nat)(vs:List V)(H:Hp)(Q:VK)(_E:XK):Prop
 |mk (pa kl:Wx) (Cp:List Wx) (p:Th) (Ar:List (List Th)):vs=[.ref pa,.ref kl]->At H p pa->H kl=A? (.lst (Cp.map j!))->Xb (LsT H) Ar Cp->InK Ar p->p.tall<=n->au p.kids<=1000->(∀(r:Wx)(H':Hp),k! H H'->At H' (p.fill (pickK Ar)) r->Q (.ref r) H')->eT n vs H Q _E
theorem dq(g:Int->Int->Th):∀ts:List Th,fills g ts=ts.map (·.fill g)
 | []=>rfl
 |t::ts=>by rw[fills,dq g ts,W9]
theorem gD:∀n:Nat,bv P w K mg base CX0 (n+1) T.g_34.f T.g_34.d ["pattern","kids"] (eT n)
 |0=>{λ_ _ _ _ h=>by obtain⟨_,_,_,p,_,_,_,_,_,_,h1,_⟩:=h;have:=p.tall_eq;lia,λ_ _ _ _ _ _ _ _ _ _ _ _ _ h=>by obtain⟨_,_,_,p,_,_,_,_,_,_,h1,_⟩:=h;have:=p.tall_eq;lia}
 | n+1=>by
   have ih:=gD n;refine T.g_34.F.okA pf λy9 A outer s H vs Q E hr h=>?_;obtain⟨pa,kl,Cp,p,Ar,rfl,hA,D0,zO,zU,zl,hsz,q⟩:=h
   refine{_,(ad (bI (aG cO (aw ax (pv 0) ac (λ_ _=>rfl)) gJ (aO _)) (ak (aD (aw aS (aw aS (pv 1) (aw ax (pv 0) ac (λ_ _=>rfl)) (λ_ _=>rfl)) (aw ax (pv 0) ac (λ_ _=>rfl)) (λ_ _=>rfl)))) aW)
    (ak (aD (ay dR (bg (aa (aw ax (pv 0) ac (λ_ _=>rfl)) ae)) (bR aZ rfl T.n_8 XA (aa (aX (N:=["part","kids"]) (js:=[B?,A? 1]) (g:=(av 0)) (tt:=aI) (te:=(gd (eT _) [] E0 (bZ (bf 0) (bZ (bf 1) gm)))) rfl (bA rfl (by decide +kernel) (by decide +kernel) rfl rfl rfl) (bU (aN cL (pv 0) (aY ac) bi)) (λ_ _ _ _ _ _=>(pgN 0 yj)) (aC rfl) (λ_ _ _ _ _ _=>aK) (λ_ _ _ _ _ _=>(da (ih) (hr.mono (WD _)) rfl T.g_34.m T.g_34.F.kp T.g_34.b .nil cU (aa (pv 0) (aa (pv 1) ae))))) ae)))))),?_}
   try dsimp only[zu,yX]
   cases p with
   | call s0 k0 =>
     walk_at"a";obtain⟨k',s',ts,t,rfl,rfl,hk,hs⟩:=zU s0 k0 (by rw[E!];exact WM ..);obtain⟨la,EH,as,Hz,has⟩:=u! zO hk;obtain⟨ta,AM,UO⟩:=has.get' hs;refine kZ ?_;rw[At]at hA;refine{_,E?,pa,_,0,.str (WE "?"),E?,E?,i! hA,at0,E?,_,E?,?_};rw[d! (show B! (WE "?")=B! (WE "?")from rfl)];refine dY {_,rfl,_,rfl,pa,_,2,_,rfl,rfl,i! hA,at2,kl,_,(k':Int),.ref la,rfl,rfl,l! D0,bp (gmE EH),_,rfl,pa,_,1,_,rfl,rfl,i! hA,at1,la,_,(s':Int),.ref ta,rfl,rfl,l! Hz,bp (gmE AM),?_};refine q ta H (λ_ _ e=>e) ?_;rw[D!];unfold pickK;rw[WU,WU,W0,W0,hk];show At H ((ts[s']?).getD bh) ta;rw[hs];exact UO
   | knot m ts =>
     rw[y!]at zl;rw[At]at hA;walk_at"a";obtain⟨D1,CY,ea,AM⟩:=hA;refine kZ ?_;have hsz:au ts<=1000:=hsz;have Q4:=dj ts;have Cf:CY.length=ts.length:=AM.length;refine{_,E?,pa,_,0,.str m,E?,E?,i! ea,at0,E?,_,E?,?_};rw[c! (show¬B! m=B! (WE "?")fromλz=>D1 (V.str.inj z))];refine cV {_,rfl,pa,_,0,.str m,rfl,rfl,i! ea,at0,lnE rfl,λp1 Am=>?_};refine cu Am λH1 s1 e1=>?_;refine{_,E?,1,E?,pa,_,E?,i! (s1 _ _ ea),?_,λp2 zt=>?_}
     .rintro⟨z,_⟩;rw[WV,show(1:Int)=((1:Nat):Int)by rfl,x!]at z;lia
     dsimp only;rw[cg];refine cu zt λH2 s2 e2=>?_;have Af:=s1.trans s2;refine{p2,E?,{_,i! e2},eK (F:=λH o a=>At H o a) (xs:=CY.map j!) (ts.map (·.fill (pickK Ar))) (λH1 H2 z p kt h=>h.mono kt) (by rw[Wt,Wt];lia) (by rw[Wt];lia) (λi Hx sx hi=>{_,_,i! (sx _ _ e2),Wv hi}) (λHx sx=>{_,i! (sx _ _ e2),WD _}) (λi Hx x Hy sx hi hy=>{hy.1,hy.2 _ (i! (sx _ _ e2))}) (λi x z Hx R W' hx zp sx hR=>?_) (λD H3 as hD s3 eD CB=>?_)}
     .obtain⟨ua,rfl,Cq⟩:=bw hx;obtain⟨u,hu,Cr⟩:=AM.get Cq;rw[Wz,hu]at zp;cases zp;have Ap:=Ww hu;have zW:=Af.trans sx;have GO:=cN Ap;have Q5:=dm Ap;have FT:=u.size_eq;refine{_,E?,_,E?,ua,kl,Cp,u,Ar,E?,Cr.mono (n! zW),zW _ _ D0,r! (λ_ _ h=>h.same zW) zO,zU.kid Ap,by lia,by lia,λr H4 s4 Ki=>hR H4 r s4 Ki}
     have Aj:ts.length=as.length:=by
      have:(ts.map (·.fill (pickK Ar))).length=as.length:=WS CB;rw[Wt]at this;exact this
     refine{D,_,E?,.inl {l! eD,λtp Bq=>?_}};refine cu Bq λH4 s4 e4=>?_;refine oq (s4 _ _ (s3 _ _ (s2 _ _ e1))) e4 (by rw[Wt];show 1+as.length<=1000000;lia) λp H5 s5 e5=>?_;refine q p H5 (Af.trans (s3.trans (s4.trans s5))) ?_;rw[D!,dq,At];exact{D1,as,e5,nn (r! (λ_ _ e=>e.mono (n! (s4.trans s5))) CB)}
inductive fh(n:Nat)(vs:List V)(H:Hp)(Q:VK)(_E:XK):Prop
 |mk (ba ta:Wx) (ins:List (W8×Int)) (head:Th) (rows:List (List Th)) (t:Th):vs=[.ref ba,.ref ta]->WBk H ins head rows ba->At H t ta->BkC ins rows->t.Fit ins->t.tall<=n->(∀(r:Wx)(H':Hp),k! H H'->H r=B?->LsT H' (aR ins rows t) r->Q (.ref r) H')->fh n vs H Q _E
theorem hX:∀n:Nat,bv P w K mg base CX0 (n+5) T.g_35.f T.g_35.d ["book","tree"] (fh n)
 |0=>{λ_ _ _ _ h=>by obtain⟨_,_,_,_,_,t,_,_,_,_,_,h1,_⟩:=h;have:=t.tall_eq;lia,λ_ _ _ _ _ _ _ _ _ _ _ _ _ h=>by obtain⟨_,_,_,_,_,t,_,_,_,_,_,h1,_⟩:=h;have:=t.tall_eq;lia}
 | n+1=>by
   have ih:=hX n;refine T.g_35.F.okA dD λy9 A outer s H vs Q E hr h=>?_;obtain⟨ba,ta,ins,head,rows,t,rfl,hB,hA,hC,hF,zl,q⟩:=h
   refine{_,(ad (am 2 dD.nd (aX (N:=["kid","book"]) (js:=[B?,A? 0]) (g:=(av 0)) (tt:=aI) (te:=(gd (fh _) [] E0 (bZ (bf 1) (bZ (bf 0) gm)))) rfl (bA rfl (by decide +kernel) (by decide +kernel) rfl rfl rfl) (bU (aN cL (pv 1) (aY ac) bi)) (λ_ _ _ _ _ _=>(pgN 0 vI)) (aC rfl) (λ_ _ _ _ _ _=>aK) (λ_ _ _ _ _ _=>(da (ih) (hr.mono (WD _)) rfl T.g_35.m T.g_35.F.kp T.g_35.b .nil cU (aa (pv 1) (aa (pv 0) ae))))))
    (ad (df (i:=3) (N:=["pair"]) (js:=[B?]) (g:=(av 0)) (tt:=aI) (te:=(tOp (dL K) (bf 0) (tC (.int 0)))) dD.nd rfl (Or.inl rfl) rfl (bA rfl (by decide +kernel) (by decide +kernel) rfl rfl rfl) (bU (aw ax (pv 0) ac (λ_ _=>rfl))) (λ_ _ _ _ _ _=>(pgN 0 oz)) (aC rfl) (λ_ _ _ _ _ _=>aK) (λ_ _ _ _ _ _=>(aw ax (pv 0) ac (λ_ _=>rfl))))
    (ad (am 4 dD.nd (cn W7 PySem.F.slot_list_index PySem.F.type_list_index jC (pv 3) (aa (aw ax (pv 1) ac (λ_ _=>rfl)) ae)))
    (ak (aD (aX (N:=["row","kids","at"]) (js:=[B?,A? 2,A? 4]) (g:=(av 0)) (tt:=aI) (te:=(gd (eT _) [] E0 (bZ (tOp (dL K) (bf 0) (bf 2)) (bZ (bf 1) gm)))) rfl (bA rfl (by decide +kernel) (by decide +kernel) rfl rfl rfl) (bU (aw ax (pv 0) ac (λ_ _=>rfl))) (λ_ _ _ _ _ _=>(pgN 0 vT)) (aC rfl) (λ_ _ _ _ _ _=>aK) (λ_ _ _ _ _ _=>(pcF T.g_34 (gD T 3) hr (aa (aw ax (pv 0) (pv 2) (λ_ _=>rfl)) (aa (pv 1) ae)))))))))),?_}
   try dsimp only[zu,yX]
   cases t with
   |call s0 k0=>rw[F!]at hF;exact hF.elim
   | knot m ks =>
     rw[y!]at zl;rw[F!]at hF;walk_at"a";obtain⟨hm,hK⟩:=hF;obtain⟨a,ha⟩:=WK.mp hm;have zF:=(hC.gi.num _ hm).2;dsimp only at zF;rw[At]at hA;obtain⟨D1,z8,ea,zZ⟩:=hA;have zP:z8.length=ks.length:=zZ.length;obtain⟨ia,Cd,ra,v2,zi,zd,b1,b2,b3,b4,b5,b6⟩:=hB.ex;refine kZ ?_;have zV:ins.length=zi.length:=WS b3;have Dk:rows.length=zd.length:=WS b5;have LS:=hC.gi.le;have JJ:=hC.rl;refine{_,E?,1,E?,ta,_,E?,i! ea,?_,λp2 zt=>?_}
     .rintro⟨z,_⟩;rw[WV,show(1:Int)=((1:Nat):Int)by rfl,x!]at z;lia
     dsimp only;rw[cg];refine cu zt λH2 s2 e2=>?_;refine{p2,E?,{_,i! e2},iV (F:=LsT) (xs:=z8.map j!) (ks.map (aR ins rows)) (λH1 H2 z p kt o h=>h.up kt o) (by rw[Wt,Wt];lia) (by rw[Wt];lia) (λi Hx sx hi=>{_,_,i! (sx _ _ e2),Wv hi}) (λHx sx=>{_,i! (sx _ _ e2),WD _}) (λi Hx x Hy sx hi hy=>{hy.1,hy.2 _ (i! (sx _ _ e2))}) (λi x z Hx R W' hx zp sx hR=>?_) (λkl H3 Cp Kj s3 D0 Bi=>?_)}
     .obtain⟨ua,rfl,Cq⟩:=bw hx;obtain⟨u,hu,Cr⟩:=zZ.get Cq;rw[Wz,hu]at zp;cases zp;have Ap:=Ww hu;have zW:=s2.trans sx;have GO:=cN Ap;exact{_,E?,_,E?,ba,ua,ins,head,rows,u,E?,hB.mono (n! zW),Cr.mono (n! zW),hC,dH hK u Ap,by lia,λr H4 s4 Ki h4=>hR H4 r s4 Ki h4}
     dsimp only[av];have Ac:=s2.trans s3;refine{_,E?,ba,_,0,.ref ia,E?,E?,i! (Ac _ _ b1),at0,ia,E?,{_,i! (Ac _ _ b2)},bP (zs:=ins) (f:=λk=>B! k.1) (i! (Ac _ _ b2)) (by rw[Wt];exact zV) (by rw[Wt];lia) (λi x z Hx R W' hx hz sx hR=>?_) (λnl H4 Ci s4 Br=>?_)}
     .obtain⟨ka,D3,zE⟩:=u! b3 hz;rw[Wz,D3]at hx;cases hx;exact{_,E?,ka,_,0,_,E?,E?,i! (sx _ _ (Ac _ _ zE)),at0,hR Hx (λ_ _ e=>e)}
     dsimp only[av];have Au:=Ac.trans s4;have AS:=iA hC.gi ha;have AZ:H4 nl=A? (.lst ((ins.map (·.1)).map B!)):=by rw[Xg];exact Br
     refine{_,E?,.inl {E?,_,l! AZ},_,E?,ta,_,0,.str m,E?,E?,i! (Au _ _ ea),at0,nl,ins.map (·.1),m,a,E?,E?,l! AZ,by rw[Wz,ha];rfl,λi hi e=>?_,by rw[Wt];lia,?_}
     .rw[Wz]at e;obtain⟨k2,zk,e⟩:=W4.mp e;have:=hC.gi.nd _ _ _ _ zk ha e;lia
     dsimp only[av];refine{_,E?,ba,_,3,.ref ra,E?,E?,i! (Au _ _ b1),at3,ra,E?,{_,i! (Au _ _ b4)},eK (F:=λH o a=>At H o a) (xs:=zd.map j!) (rows.map λrow=>(row.getD a bh).fill (pickK (ks.map (aR ins rows)))) (λH1 H2 z p kt h=>h.mono kt) (by rw[Wt,Wt];lia) (by rw[Wt];lia) (λi Hx sx hi=>{_,_,i! (sx _ _ (Au _ _ b4)),Wv hi}) (λHx sx=>{_,i! (sx _ _ (Au _ _ b4)),WD _}) (λi Hx x Hy sx hi hy=>{hy.1,hy.2 _ (i! (sx _ _ (Au _ _ b4)))}) (λi x z Hx R W' hx zp sx hR=>?_) (λD H5 as hD s5 eD CB=>?_)}
     .walk_at"a";obtain⟨rj,rfl,FC⟩:=bw hx;obtain⟨row,zC,Kk,D4,D5⟩:=w! b5 FC;rw[Wz,zC]at zp;cases zp;have D6:=Ww zC;have Aj:a<row.length:=by rw[hC.row row D6];exact(glE ha)
      have Eu:row[a]?=A? (row.getD a bh):=by
       rw[W0,Wv Aj];rfl
      obtain⟨pa,Bv,Dg⟩:=D5.get' Eu;refine kZ ?_;have zW:=Au.trans sx;have Bq:=hC.tl row D6 _ (Ww Eu);refine{_,E?,_,E?,rj,_,(a:Nat),.ref pa,E?,E?,i! (zW _ _ D4),bp (gmE Bv),_,E?,pa,kl,Cp,_,_,E?,Dg.mono (n! zW),(s4.trans sx) _ _ D0,r! (λ_ _ h=>h.same (s4.trans sx)) Bi,hC.inK ha hK D6,Bq.1,by have:=(row.getD a bh).size_eq;lia,λr H6 s6 UP=>hR H6 r s6 UP}
     refine q D H5 (Au.trans s5) (Au.free hD) ?_;rw[cE,AS];exact{as,eD,nn CB}
inductive gh(vs:List V)(H:Hp)(Q:VK)(_E:XK):Prop
 |mk (ba ta:Wx) (ins:List (W8×Int)) (head:Th) (rows:List (List Th)) (t:Th):vs=[.ref ba,.ref ta]->WBk H ins head rows ba->At H t ta->BkC ins rows->t.Fit ins->t.tall<=40->head.tall<=3->head.size<=100->(∀s k:Int,t! s k∈head.walk->k=0/\∃s':Nat,s=(s':Int)/\s'<rows.length)->(∀(r:Wx)(H':Hp),k! H H'->At H' (vh ins rows head t) r->Q (.ref r) H')->gh  vs H Q _E
theorem j6:bv P w K mg base CX0 46 T.g_36.f T.g_36.d ["book","tree"] gh:=by
 refine T.g_36.F.okA j5 λy9 A outer s H vs Q E hr h=>?_;obtain⟨ba,ta,ins,head,rows,t,rfl,hB,hA,hC,hF,zl,OC,UQ,OD,q⟩:=h;refine{_,(ak (aD (pcF T.g_34 (gD T 3) hr (aa (aw ax (pv 0) ac (λ_ _=>rfl)) (aa (bE (aa (pcF T.g_35 (hX T 40) hr (aa (pv 0) (aa (pv 1) ae))) ae)) ae))))),?_}
 try dsimp only[zu,yX]
 walk_at"a";obtain⟨ia,Cd,ra,v2,zi,zd,b1,b2,b3,b4,b5,b6⟩:=hB.ex;refine kZ ?_;refine{_,E?,ba,_,2,.ref Cd,E?,E?,i! b1,at2,_,E?,_,E?,ba,ta,ins,head,rows,t,E?,hB,hA,hC,hF,zl,λla H1 s1 EH h1=>{lnE rfl,λkl zP=>?_}};refine cu zP λH2 s2 e2=>?_;have Af:=s1.trans s2;refine{Cd,kl,[la],head,[aR ins rows t],E?,b6.mono (n! Af),e2,.cons (h1.same s2) .nil,λs k hm=>?_,OC,by have:=head.size_eq;lia,λr H3 s3 h3=>q r H3 (Af.trans s3) h3};obtain⟨rfl,s',rfl,Bg⟩:=OD s k hm;have hl:s'<(aR ins rows t).length:=by rw[dA hF];exact Bg
 exact{0,s',_,_,E?,E?,E?,Wv hl}
inductive eI(n:Nat)(vs:List V)(H:Hp)(Q:VK)(_E:XK):Prop
 |mk (pa kl:Wx) (Cp:List Wx) (p:Th) (Ar:List (List Th)):vs=[.ref pa,.ref kl]->At H p pa->H kl=A? (.lst (Cp.map j!))->Xb (LsN H) Ar Cp->InK Ar p->p.tall<=n->au p.kids<=1000->(∀H':Hp,k! H H'->Q (.int (((p.fill (pickK Ar)).size:Nat):Int)) H')->eI n vs H Q _E
theorem gE:∀n:Nat,bv P w K mg base CX0 (n+1) T.g_40.f T.g_40.d ["pattern","kids"] (eI n)
 |0=>{λ_ _ _ _ h=>by obtain⟨_,_,_,p,_,_,_,_,_,_,h1,_⟩:=h;have:=p.tall_eq;lia,λ_ _ _ _ _ _ _ _ _ _ _ _ _ h=>by obtain⟨_,_,_,p,_,_,_,_,_,_,h1,_⟩:=h;have:=p.tall_eq;lia}
 | n+1=>by
   have ih:=gE n;refine T.g_40.F.okA oH λy9 A outer s H vs Q E hr h=>?_;obtain⟨pa,kl,Cp,p,Ar,rfl,hA,D0,zO,zU,zl,hsz,q⟩:=h
   refine{_,(ad (bI (aG cO (aw ax (pv 0) ac (λ_ _=>rfl)) gJ (aO _)) (ak (aD (aw aS (aw aS (pv 1) (aw ax (pv 0) ac (λ_ _=>rfl)) (λ_ _=>rfl)) (aw ax (pv 0) ac (λ_ _=>rfl)) (λ_ _=>rfl)))) aW)
    (ak (aD (ay bG ac (aB (fu rfl) rfl T.n_7 Y6 (aa (aX (N:=["part","kids"]) (js:=[B?,A? 1]) (g:=(av 0)) (tt:=aI) (te:=(gd (eI _) [] E0 (bZ (bf 0) (bZ (bf 1) gm)))) rfl (bA rfl (by decide +kernel) (by decide +kernel) rfl rfl rfl) (bU (aN cL (pv 0) (aY ac) bi)) (λ_ _ _ _ _ _=>(pgN 0 yj)) (aC rfl) (λ_ _ _ _ _ _=>aK) (λ_ _ _ _ _ _=>(da (ih) (hr.mono (WD _)) rfl T.g_40.m T.g_40.F.kp T.g_40.b .nil cU (aa (pv 0) (aa (pv 1) ae))))) ae)))))),?_}
   try dsimp only[zu,yX]
   cases p with
   | call s0 k0 =>
     walk_at"a";obtain⟨k',s',ts,t,rfl,rfl,hk,hs⟩:=zU s0 k0 (by rw[E!];exact WM ..);obtain⟨la,EH,Hz⟩:=u! zO hk;refine kZ ?_;rw[At]at hA;refine{_,E?,pa,_,0,.str (WE "?"),E?,E?,i! hA,at0,E?,_,E?,?_};rw[d! (show B! (WE "?")=B! (WE "?")from rfl)];refine dY {_,rfl,_,rfl,pa,_,2,_,rfl,rfl,i! hA,at2,kl,_,(k':Int),.ref la,rfl,rfl,l! D0,bp (gmE EH),_,rfl,pa,_,1,_,rfl,rfl,i! hA,at1,la,_,(s':Int),.int ((t.size:Nat):Int),rfl,rfl,l! Hz,bp (by rw[Wz,Wz,hs];rfl),?_}
     have hf:(t! (s':Int) (k':Int)).fill (pickK Ar)=t:=by
      rw[D!];unfold pickK;rw[WU,WU,W0,W0,hk];show(ts[s']?).getD bh=t;rw[hs];rfl
     have:=q H (λ_ _ e=>e);rw[hf]at this;exact this
   | knot m ts =>
     rw[y!]at zl;rw[At]at hA;walk_at"a";obtain⟨D1,CY,ea,AM⟩:=hA;refine kZ ?_;have hsz:au ts<=1000:=hsz;have Q4:=dj ts;have Cf:CY.length=ts.length:=AM.length;refine{_,E?,pa,_,0,.str m,E?,E?,i! ea,at0,E?,_,E?,?_};rw[c! (show¬B! m=B! (WE "?")fromλz=>D1 (V.str.inj z))];refine cV {_,rfl,1,rfl,pa,_,rfl,i! ea,?_,λp2 zt=>?_}
     .rintro⟨z,_⟩;rw[WV,show(1:Int)=((1:Nat):Int)by rfl,x!]at z;lia
     dsimp only;rw[cg];refine cu zt λH2 s2 e2=>?_;refine{p2,E?,{_,i! e2},bP (zs:=ts) (f:=λt=>o! (((t.fill (pickK Ar)).size:Nat):Int)) (i! e2) (by rw[Wt];lia) (by rw[Wt];lia) (λi x z Hx R W' hx zp sx hR=>?_) (λD H3 hD s3 eD=>?_)}
     .obtain⟨ua,rfl,Cq⟩:=bw hx;obtain⟨u,hu,Cr⟩:=AM.get Cq;rw[hu]at zp;have zp:u=z:=WN zp;subst zp;have Ap:=Ww hu;have zW:=s2.trans sx;have GO:=cN Ap;have Q5:=dm Ap;have FT:=u.size_eq;exact{_,E?,_,E?,ua,kl,Cp,u,Ar,E?,Cr.mono (n! zW),zW _ _ D0,r! (λ_ _ h=>zW _ _ h) zO,zU.kid Ap,by lia,by lia,λH4 s4=>hR H4 s4}
     have Kl:H3 D=A? (.lst (((ts.map (·.fill (pickK Ar))).map λt=>((t.size:Nat):Int)).map o!)):=by
      rw[Xg,Xg];exact eD
     refine{D,_,E?,l! Kl,_,_,E?,E?,?_};have:=q H3 (s2.trans s3);rw[D!,dq]at this
     have e:((p! m (ts.map (·.fill (pickK Ar)))).size:Int)=1+(((ts.map (·.fill (pickK Ar))).map λt=>((t.size:Nat):Int)).sum):=by
      rw[gQ];show((au _+1:Nat):Int)=_;lia
     rw[e]at this;exact this
inductive eh(n:Nat)(vs:List V)(H:Hp)(Q:VK)(_E:XK):Prop
 |mk (ba ta:Wx) (ins:List (W8×Int)) (head:Th) (rows:List (List Th)) (t:Th):vs=[.ref ba,.ref ta]->WBk H ins head rows ba->At H t ta->BkC ins rows->t.Fit ins->t.tall<=n->(∀(r:Wx)(H':Hp),k! H H'->H r=B?->LsN H' (aR ins rows t) r->Q (.ref r) H')->eh n vs H Q _E
theorem gF:∀n:Nat,bv P w K mg base CX0 (n+5) T.g_39.f T.g_39.d ["book","tree"] (eh n)
 |0=>{λ_ _ _ _ h=>by obtain⟨_,_,_,_,_,t,_,_,_,_,_,h1,_⟩:=h;have:=t.tall_eq;lia,λ_ _ _ _ _ _ _ _ _ _ _ _ _ h=>by obtain⟨_,_,_,_,_,t,_,_,_,_,_,h1,_⟩:=h;have:=t.tall_eq;lia}
 | n+1=>by
   have ih:=gF n;refine T.g_39.F.okA cX λy9 A outer s H vs Q E hr h=>?_;obtain⟨ba,ta,ins,head,rows,t,rfl,hB,hA,hC,hF,zl,q⟩:=h
   refine{_,(ad (am 2 cX.nd (aX (N:=["kid","book"]) (js:=[B?,A? 0]) (g:=(av 0)) (tt:=aI) (te:=(gd (eh _) [] E0 (bZ (bf 1) (bZ (bf 0) gm)))) rfl (bA rfl (by decide +kernel) (by decide +kernel) rfl rfl rfl) (bU (aN cL (pv 1) (aY ac) bi)) (λ_ _ _ _ _ _=>(pgN 0 vI)) (aC rfl) (λ_ _ _ _ _ _=>aK) (λ_ _ _ _ _ _=>(da (ih) (hr.mono (WD _)) rfl T.g_39.m T.g_39.F.kp T.g_39.b .nil cU (aa (pv 1) (aa (pv 0) ae))))))
    (ad (df (i:=3) (N:=["pair"]) (js:=[B?]) (g:=(av 0)) (tt:=aI) (te:=(tOp (dL K) (bf 0) (tC (.int 0)))) cX.nd rfl (Or.inl rfl) rfl (bA rfl (by decide +kernel) (by decide +kernel) rfl rfl rfl) (bU (aw ax (pv 0) ac (λ_ _=>rfl))) (λ_ _ _ _ _ _=>(pgN 0 oz)) (aC rfl) (λ_ _ _ _ _ _=>aK) (λ_ _ _ _ _ _=>(aw ax (pv 0) ac (λ_ _=>rfl))))
    (ad (am 4 cX.nd (cn W7 PySem.F.slot_list_index PySem.F.type_list_index jC (pv 3) (aa (aw ax (pv 1) ac (λ_ _=>rfl)) ae)))
    (ak (aD (aX (N:=["row","kids","at"]) (js:=[B?,A? 2,A? 4]) (g:=(av 0)) (tt:=aI) (te:=(gd (eI _) [] E0 (bZ (tOp (dL K) (bf 0) (bf 2)) (bZ (bf 1) gm)))) rfl (bA rfl (by decide +kernel) (by decide +kernel) rfl rfl rfl) (bU (aw ax (pv 0) ac (λ_ _=>rfl))) (λ_ _ _ _ _ _=>(pgN 0 vT)) (aC rfl) (λ_ _ _ _ _ _=>aK) (λ_ _ _ _ _ _=>(pcF T.g_40 (gE T 3) hr (aa (aw ax (pv 0) (pv 2) (λ_ _=>rfl)) (aa (pv 1) ae)))))))))),?_}
   try dsimp only[zu,yX]
   cases t with
   |call s0 k0=>rw[F!]at hF;exact hF.elim
   | knot m ks =>
     rw[y!]at zl;rw[F!]at hF;walk_at"a";obtain⟨hm,hK⟩:=hF;obtain⟨a,ha⟩:=WK.mp hm;have zF:=(hC.gi.num _ hm).2;dsimp only at zF;rw[At]at hA;obtain⟨D1,z8,ea,zZ⟩:=hA;have zP:z8.length=ks.length:=zZ.length;obtain⟨ia,Cd,ra,v2,zi,zd,b1,b2,b3,b4,b5,b6⟩:=hB.ex;refine kZ ?_;have zV:ins.length=zi.length:=WS b3;have Dk:rows.length=zd.length:=WS b5;have LS:=hC.gi.le;have JJ:=hC.rl;refine{_,E?,1,E?,ta,_,E?,i! ea,?_,λp2 zt=>?_}
     .rintro⟨z,_⟩;rw[WV,show(1:Int)=((1:Nat):Int)by rfl,x!]at z;lia
     dsimp only;rw[cg];refine cu zt λH2 s2 e2=>?_;refine{p2,E?,{_,i! e2},iV (F:=LsN) (xs:=z8.map j!) (ks.map (aR ins rows)) (λH1 H2 z p kt o h=>o _ h) (by rw[Wt,Wt];lia) (by rw[Wt];lia) (λi Hx sx hi=>{_,_,i! (sx _ _ e2),Wv hi}) (λHx sx=>{_,i! (sx _ _ e2),WD _}) (λi Hx x Hy sx hi hy=>{hy.1,hy.2 _ (i! (sx _ _ e2))}) (λi x z Hx R W' hx zp sx hR=>?_) (λkl H3 Cp Kj s3 D0 Bi=>?_)}
     .obtain⟨ua,rfl,Cq⟩:=bw hx;obtain⟨u,hu,Cr⟩:=zZ.get Cq;rw[Wz,hu]at zp;cases zp;have Ap:=Ww hu;have zW:=s2.trans sx;have GO:=cN Ap;exact{_,E?,_,E?,ba,ua,ins,head,rows,u,E?,hB.mono (n! zW),Cr.mono (n! zW),hC,dH hK u Ap,by lia,λr H4 s4 Ki h4=>hR H4 r s4 Ki h4}
     dsimp only[av];have Ac:=s2.trans s3;refine{_,E?,ba,_,0,.ref ia,E?,E?,i! (Ac _ _ b1),at0,ia,E?,{_,i! (Ac _ _ b2)},bP (zs:=ins) (f:=λk=>B! k.1) (i! (Ac _ _ b2)) (by rw[Wt];exact zV) (by rw[Wt];lia) (λi x z Hx R W' hx hz sx hR=>?_) (λnl H4 Ci s4 Br=>?_)}
     .obtain⟨ka,D3,zE⟩:=u! b3 hz;rw[Wz,D3]at hx;cases hx;exact{_,E?,ka,_,0,_,E?,E?,i! (sx _ _ (Ac _ _ zE)),at0,hR Hx (λ_ _ e=>e)}
     dsimp only[av];have Au:=Ac.trans s4;have AS:=iA hC.gi ha;have AZ:H4 nl=A? (.lst ((ins.map (·.1)).map B!)):=by rw[Xg];exact Br
     refine{_,E?,.inl {E?,_,l! AZ},_,E?,ta,_,0,.str m,E?,E?,i! (Au _ _ ea),at0,nl,ins.map (·.1),m,a,E?,E?,l! AZ,by rw[Wz,ha];rfl,λi hi e=>?_,by rw[Wt];lia,?_}
     .rw[Wz]at e;obtain⟨k2,zk,e⟩:=W4.mp e;have:=hC.gi.nd _ _ _ _ zk ha e;lia
     dsimp only[av];refine{_,E?,ba,_,3,.ref ra,E?,E?,i! (Au _ _ b1),at3,ra,E?,{_,i! (Au _ _ b4)},bP (zs:=rows) (f:=λrow=>o! ((((row.getD a bh).fill (pickK (ks.map (aR ins rows)))).size:Nat):Int)) (i! (Au _ _ b4)) (by rw[Wt];exact Dk) (by rw[Wt];lia) (λi x z Hx R W' hx zp sx hR=>?_) (λD H5 hD s5 eD=>?_)}
     .walk_at"a";obtain⟨rj,rfl,FC⟩:=bw hx;obtain⟨row,zC,Kk,D4,D5⟩:=w! b5 FC;refine kZ ?_;rw[zC]at zp;have zp:row=z:=WN zp;subst zp;have D6:=Ww zC;have Aj:a<row.length:=by rw[hC.row row D6];exact(glE ha)
      have Eu:row[a]?=A? (row.getD a bh):=by
       rw[W0,Wv Aj];rfl
      obtain⟨pa,Bv,Dg⟩:=D5.get' Eu;have zW:=Au.trans sx;have Bq:=hC.tl row D6 _ (Ww Eu);refine{_,E?,_,E?,rj,_,(a:Nat),.ref pa,E?,E?,i! (zW _ _ D4),bp (gmE Bv),_,E?,pa,kl,Cp,_,_,E?,Dg.mono (n! zW),(s4.trans sx) _ _ D0,r! (λ_ _ h=>(s4.trans sx) _ _ h) Bi,hC.inK ha hK D6,Bq.1,by have:=(row.getD a bh).size_eq;lia,λH6 s6=>hR H6 s6}
     refine q D H5 (Au.trans s5) (Au.free hD) ?_;rw[cE,AS];unfold LsN;rw[Xg,Xg];exact eD
inductive iN(vs:List V)(H:Hp)(Q:VK)(_E:XK):Prop
 |mk (ba ta:Wx) (ins:List (W8×Int)) (head:Th) (rows:List (List Th)) (t:Th):vs=[.ref ba,.ref ta]->WBk H ins head rows ba->At H t ta->BkC ins rows->t.Fit ins->t.tall<=40->head.tall<=3->head.size<=100->(∀s k:Int,t! s k∈head.walk->k=0/\∃s':Nat,s=(s':Int)/\s'<rows.length)->(∀H':Hp,k! H H'->Q (.int (((vh ins rows head t).size:Nat):Int)) H')->iN  vs H Q _E
theorem nh:bv P w K mg base CX0 46 T.g_38.f T.g_38.d ["book","tree"] iN:=by
 refine T.g_38.F.okA jh λy9 A outer s H vs Q E hr h=>?_;obtain⟨ba,ta,ins,head,rows,t,rfl,hB,hA,hC,hF,zl,OC,UQ,OD,q⟩:=h
 refine{_,(ad (am 2 jh.nd (bE (aa (pcF T.g_39 (gF T 40) hr (aa (pv 0) (aa (pv 1) ae))) ae)))
  (ak (aD (pcF T.g_40 (gE T 3) hr (aa (aw ax (pv 0) ac (λ_ _=>rfl)) (aa (pv 2) ae)))))),?_}
 try dsimp only[zu,yX]
 walk_at"a";obtain⟨ia,Cd,ra,v2,zi,zd,b1,b2,b3,b4,b5,b6⟩:=hB.ex;refine kZ ?_;refine{_,E?,_,E?,ba,ta,ins,head,rows,t,E?,hB,hA,hC,hF,zl,λla H1 s1 EH h1=>{lnE rfl,λkl zP=>?_}};refine cu zP λH2 s2 e2=>?_;dsimp only[av];have Af:=s1.trans s2;refine{_,E?,ba,_,2,.ref Cd,E?,E?,i! (Af _ _ b1),at2,_,E?,Cd,kl,[la],head,[aR ins rows t],E?,b6.mono (n! Af),e2,.cons (s2 _ _ h1) .nil,λs k hm=>?_,OC,by have:=head.size_eq;lia,λH3 s3=>q H3 (Af.trans s3)};obtain⟨rfl,s',rfl,Bg⟩:=OD s k hm;have hl:s'<(aR ins rows t).length:=by rw[dA hF];exact Bg
 exact{0,s',_,_,E?,E?,E?,Wv hl}
def ext(_:Th):List V:=[]
inductive jg(vs:List V)(H:Hp)(Q:VK)(_E:XK):Prop
 |mk (n:W8):vs=[.str n]->n≠q->(∀(a:Wx)(H':Hp),k! H H'->EAt ext H' (.knot n []) a->Q (.ref a) H')->jg  vs H Q _E
theorem ja:bv P w K mg base CX0 1 T.g_31.f T.g_31.d ["name"] jg:=by
 refine T.g_31.F.okA nN λy9 A outer s H vs Q E hr h=>?_;obtain⟨n,rfl,hn,k⟩:=h;refine{_,(ak (aD (bg (aa (bg (aa (pv 0) ae)) (aa ac (aa ac ae)))))),?_}
 try dsimp only[zu,yX]
 refine{_,E?,lnE rfl,λp hp=>{lnE rfl,λa ha=>?_}};have Bv:p≠a:=λz=>by rw[<-z,af]at ha;cases ha
 refine k a _ ((ao hp _).trans (ao ha _)) {p,?_,?_}
 .rw[af];unfold ext;rw[y!,bJ,L!,au];rfl
 .rw[At];exact{hn,[],by rw[aj Bv,af];rfl,.nil}
inductive iU(K:WJ)(vs:List V)(H:Hp)(Q:VK)(_E:XK):Prop
 |mk (n:W8) (pl:Wx) (es:List Wx) (ts:List Th):vs=[.str n,.ref pl]->n≠q->n.length<=8->SqL K H pl (es.map j!)->EsAt ext H ts es->ts≠[]->Nms 8 ts->au ts<=1000->(∀(a:Wx)(H':Hp),k! H H'->EAt ext H' (.knot n ts) a->Q (.ref a) H')->iU K vs H Q _E
theorem mZ:bv P w K mg base CX0 1 T.g_32.f T.g_32.d ["name","parts"] (iU K):=by
 refine T.g_32.F.okA dZ λy9 A outer s H vs Q E hr h=>?_;obtain⟨n,pl,es,ts,rfl,hn,Wd,hS,hE,zg,hN,hz,k⟩:=h
 refine{_,(ad (am 2 dZ.nd (ay ny (bg (aa (pv 0) ae)) (bR aZ rfl T.n_8 XA (aa (aX (N:=["part"]) (js:=[B?]) (g:=(av 0)) (tt:=aI) (te:=(tOp (dL K) (bf 0) (tC (.int 0)))) rfl (bA rfl (by decide +kernel) (by decide +kernel) rfl rfl rfl) (bz (pv 1)) (λ_ _ _ _ _ _=>(pgN 0 lU)) (aC rfl) (λ_ _ _ _ _ _=>aK) (λ_ _ _ _ _ _=>(aw ax (pv 0) ac (λ_ _=>rfl)))) ae))))
  (ad (am 3 dZ.nd (ay bG ac (aB (mI rfl) rfl T.n_3 PyProof.Rows.boot_max (aa (aX (N:=["part"]) (js:=[B?]) (g:=(av 0)) (tt:=aI) (te:=(tOp (dL K) (bf 0) (tC (.int 1)))) rfl (bA rfl (by decide +kernel) (by decide +kernel) rfl rfl rfl) (bz (pv 1)) (λ_ _ _ _ _ _=>(pgN 0 lU)) (aC rfl) (λ_ _ _ _ _ _=>aK) (λ_ _ _ _ _ _=>(aw ax (pv 0) ac (λ_ _=>rfl)))) ae))))
  (ad (am 4 dZ.nd (ay bG ac (aB (fu rfl) rfl T.n_7 Y6 (aa (aX (N:=["part"]) (js:=[B?]) (g:=(av 0)) (tt:=aI) (te:=(tOp (dL K) (bf 0) (tC (.int 2)))) rfl (bA rfl (by decide +kernel) (by decide +kernel) rfl rfl rfl) (bz (pv 1)) (λ_ _ _ _ _ _=>(pgN 0 lU)) (aC rfl) (λ_ _ _ _ _ _=>aK) (λ_ _ _ _ _ _=>(aw ax (pv 0) ac (λ_ _=>rfl)))) ae))))
  (ak (aD (bg (aa (pv 2) (aa (pv 3) (aa (pv 4) ae))))))))),?_}
 try dsimp only[zu,yX]
 walk_at"a";obtain⟨bs,hb,AI,UR⟩:=oh hE;refine kZ ?_;have B9:ts.length=es.length:=WS hE;have zl:ts.length<=1000:=XB (dj ts) hz;have zY:1<=ts.length:=List.length_pos_iff.mpr zg;have hl:(es.map j!).length<=1000000:=by rw[Wt];lia
 have yY:ts.length=(es.map j!).length:=by rw[Wt];exact B9
 refine bc (λi' H'=>Ex1 λtr=>An3 (i'=[A? (.str n),A? (.ref pl),A? (.ref tr),B?,B?]) (k! H H') (H' tr=A? (.tup (.str n::bs.map j!)))) (λkk hk=>?_) ?_
 .refine{_,E?,lnE rfl,λp1 Am=>?_};have s1:k! H (upd H p1 (.tup [.str n])):=ao Am _;refine{_,E?,pl,E?,{_,s1.seq hS},?_};refine cG bs (λ_=>C?) j! (s1.seq hS) (by rw[Wt,AI]) hl (λi x z H2 R _ _ _ r=>r) (λi x z H2 R hx hz _ sm r=>?_) (λD hD=>?_)
  .obtain⟨a,r',rfl,ha⟩:=UR i x z hx hz;exact{_,E?,a,_,0,_,E?,E?,i! (sm _ _ (s1 _ _ ha)),at0,r}
  .rw[filter_tt];refine{D,_,E?,.inl {l! af,λp2 zt=>?_}};have s2:k! (upd H p1 (.tup [.str n])) (upd (upd (upd H p1 (.tup [.str n])) D (.lst (bs.map j!))) p2 (.tup (bs.map j!))):=(ao hD _).trans (ao zt _);refine{p1,p2,_,_,E?,E?,i! (s2 _ _ af),i! af,by simp,cH ?_,λz=>?_,λ_ p3 Ae=>?_}
   .rw[Wt,AI];show 1+es.length<=1000000;lia
   .have:=h! X9 z;rw[Wt,AI]at this;have this:es.length=0:=this;lia
   .exact hk _ _ {p3,rfl,s1.trans (s2.trans (ao Ae _)),af}
 rintro σ H2 ⟨tr,rfl,s2,e2⟩;have Km:EsAt ext H2 ts es:=hE.mono (n! s2);refine{_,E?,pl,E?,{_,s2.seq hS},?_};refine cG ts (λ_=>C?) (λt=>.int ((t.tall:Nat):Int)) (s2.seq hS) yY hl (λi x z H3 R _ _ _ r=>r) (λi x z H3 R hx hz _ sm r=>?_) (λD hD=>?_)
 .walk_at"a";obtain⟨a,b,rfl,_,ha,_⟩:=Km.at hx hz;refine kZ ?_;exact{_,E?,a,_,1,_,E?,E?,i! (sm _ _ ha),at1,r}
 rw[filter_tt];refine{D,ts.map (λt=>((t.tall:Nat):Int)),E?,l! (by rw[<-ints_map];exact af),by simpa using zg,λM m1 m2=>{_,_,E?,E?,?_}};rw[mS m1 m2];have s3:k! H2 (upd H2 D (.lst (ts.map λt=>o! ((t.tall:Nat):Int)))):=ao hD _;generalize(upd H2 D (.lst (ts.map λt=>o! ((t.tall:Nat):Int))))=H3 at s3;refine{_,E?,pl,E?,{_,(s2.trans s3).seq hS},?_};have Q6:EsAt ext H3 ts es:=Km.mono (n! s3);refine cG ts (λ_=>C?) (λt=>.int ((t.size:Nat):Int)) ((s2.trans s3).seq hS) yY hl (λi x z H4 R _ _ _ r=>r) (λi x z H4 R hx hz _ sm r=>?_) (λD2 Gq=>?_)
 .walk_at"a";obtain⟨a,b,rfl,_,ha,_⟩:=Q6.at hx hz;refine kZ ?_;exact{_,E?,a,_,2,_,E?,E?,i! (sm _ _ ha),at2,r}
 rw[filter_tt];refine{D2,ts.map (λt=>((t.size:Nat):Int)),E?,l! (by rw[<-ints_map];exact af),{_,_,E?,E?,?_}};rw[jl];have s4:k! H3 (upd H3 D2 (.lst (ts.map λt=>o! ((t.size:Nat):Int)))):=ao Gq _;generalize(upd H3 D2 (.lst (ts.map λt=>o! ((t.size:Nat):Int))))=H4 at s4;have Dj:k! H H4:=s2.trans (s3.trans s4);have GP:EsAt ext H4 ts es:=Q6.mono (n! s4);refine{_,E?,_,E?,_,E?,lnE rfl,λa ha=>?_};have s5:k! H4 (upd H4 a (.tup [.ref tr,.int (1+(bJ ts:Nat)),.int (1+(au ts:Nat))])):=ao ha _;refine k a _ (Dj.trans s5) {tr,?_,?_}
 .rw[af];have a1:(((p! n ts).tall:Nat):Int)=1+(bJ ts:Nat):=by rw[y!];lia
  have a2:(((p! n ts).size:Nat):Int)=1+(au ts:Nat):=by rw[L!];lia
  unfold ext;rw[a1,a2]
 .rw[At];exact{hn,bs,s5 _ _ (s4 _ _ (s3 _ _ e2)),hb.mono (n! (Dj.trans s5))}
inductive ii(K:WJ)(vs:List V)(H:Hp)(Q:VK)(_E:XK):Prop
 |mk (a:Wx) (ns:List Int) (kr:Wx) (z8:List Wx) (ks:List (W8×Int)) (top most:Int):vs=[.ref a,.ref kr,.int top,.int most]->SqL K H a (ns.map o!)->ns.length<=63->SqT K H kr (z8.map j!)->KsAt H ks z8->g8 ks->1<=top->1<=most->most<=1000->(∀(r:Wx)(es:List Wx)(ts:List Th)(H':Hp),k! H H'->H' r=A? (.lst (es.map j!))->EsAt ext H' ts es->(∀t∈ts,GT ks top most t)->1<=ts.length->ts.length<=64->Q (.ref r) H')->ii K vs H Q _E
def wE(a kr lv:Wx)(top most:Int)(ks:List (W8×Int))(H1:Hp)(i:Nat)(i':St)(H':Hp):Prop:=∃(md:Wx)(es:List Wx)(ts:List Th)(c1 c2 c3 c4 c5:Option V),i'=[A? (.ref a),A? (.ref kr),A? (.int top),A? (.int most),A? (.ref lv),A? (.ref md),c1,c2,c3,c4,c5]/\k! H1 H'/\H1 md=B?/\H' md=A? (.lst (es.map j!))/\EsAt ext H' ts es/\(∀t∈ts,GT ks top most t)/\1<=ts.length/\ts.length<=i+1
theorem jB{kr lv md:Wx}{top most:Int}{ks:List (W8×Int)}{es:List Wx}{ts:List Th}{e:Wx}{t:Th}{c1 c2 c3 c4 c5:Option V}(s:k! H1 H7)(FE:H1 md=B?)(em:H7 md=A? (.lst (es.map j!)))(hE:EsAt ext H7 ts es)(he:EAt ext H7 t e)(hG:∀t∈ts,GT ks top most t)(hg:GT ks top most t)(hle:ts.length<=i+1) :
 wE a kr lv top most ks H1 (i+1) [A? (.ref a),A? (.ref kr),A? (.int top),A? (.int most),A? (.ref lv),A? (.ref md),c1,c2,c3,c4,c5] (upd H7 md (.lst (es.map j!++[.ref e]))):=by
 refine{md,es++[e],ts++[t],c1,c2,c3,c4,c5,E?,aM s FE,FE,?_,?_,λu hu=>?_,?_,?_}
 .rw[af,W3];rfl
 .exact v! (EsAt.mono (cK em) hE) (.cons (EAt.mono (cK em) he) .nil)
 .rcases WQ.mp hu with h|h
  .exact hG u h
  .rw[WG]at h;subst h;exact hg
 .rw[WL];exact Nat.le_add_left 1 _
 .rw[WL];show ts.length+1<=i+1+1;lia
theorem fc:bv P w K mg base CX0 2 T.g_33.f T.g_33.d ["script","kinds","top","most"] (ii K):=by
 refine T.g_33.F.okA bN λy9 A outer s H vs Q E hr h=>?_;obtain⟨a,ns,kr,z8,ks,top,most,rfl,hS,Ah,hK,zO,g,Kn,D8,OE,k⟩:=h
 refine{_,(ad (df (i:=4) (N:=["pair"]) (js:=[B?]) (g:=(av 0)) (tt:=(mV (tOp (rEq) (tOp (dL K) (bf 0) (tC (.int 1))) (tC (.int 0))))) (te:=(tOp (dL K) (bf 0) (tC (.int 0)))) bN.nd rfl (Or.inl rfl) rfl (bA rfl (by decide +kernel) (by decide +kernel) rfl rfl rfl) (bU (pv 1)) (λ_ _ _ _ _ _=>(pgN 0 oz)) (aC rfl) (λ_ _ _ _ _ _=>je (aG cO (aw ax (pv 0) ac (λ_ _=>rfl)) ac (aO _))) (λ_ _ _ _ _ _=>(aw ax (pv 0) ac (λ_ _=>rfl))))
  (ad (am 5 bN.nd (bE (aa (pcF T.g_31 (ja T) hr (aa (aw aS (pv 4) ac (λ_ _=>rfl)) ae)) ae)))
  (ad (bj Xd rfl (bL rfl T.n_5 (aa (aB az rfl T.n_1 Xj (aa (pv 0) ae)) ae)) (pgN 6 bN.nd) (ad (am 7 bN.nd (ay bu (aw aS (pv 0) (pv 6) (λ_ _=>rfl)) (ay pC ac ac)))
  (ad (am 8 bN.nd (aw ax (pv 1) (ay bu (ay bG (pv 7) (pv 6)) (aB az rfl T.n_1 Xj (aa (pv 1) ae))) (λ_ _=>rfl)))
  (ad (am 9 bN.nd (bE ae))
  (ad (bI (uc fZ vG ac (aw ax (pv 8) ac (λ_ _=>rfl)) (aB az rfl T.n_1 Xj (aa (pv 5) ae))) (ak (am 9 bN.nd (aN eR (pv 5) (aY (ay iC (aB az rfl T.n_1 Xj (aa (pv 5) ae)) (aw ax (pv 8) ac (λ_ _=>rfl)))) bi))) aW)
  (ak (bI (PW.pt (iD (aG oi (aB az rfl T.n_1 Xj (aa (pv 9) ae)) ac (aO _)) (iD (aG fZ (aB (mI rfl) rfl T.n_3 PyProof.Rows.boot_max (aa (aX (N:=["part"]) (js:=[B?]) (g:=(av 0)) (tt:=aI) (te:=(tOp (dL K) (bf 0) (tC (.int 1)))) rfl (bA rfl (by decide +kernel) (by decide +kernel) rfl rfl rfl) (bz (pv 9)) (λ_ _ _ _ _ _=>(pgN 0 lU)) (aC rfl) (λ_ _ _ _ _ _=>aK) (λ_ _ _ _ _ _=>(aw ax (pv 0) ac (λ_ _=>rfl)))) ae)) (pv 2) (aO _)) (gY (aG fZ (aB (fu rfl) rfl T.n_7 Y6 (aa (aX (N:=["part"]) (js:=[B?]) (g:=(av 0)) (tt:=aI) (te:=(tOp (dL K) (bf 0) (tC (.int 2)))) rfl (bA rfl (by decide +kernel) (by decide +kernel) rfl rfl rfl) (bz (pv 9)) (λ_ _ _ _ _ _=>(pgN 0 lU)) (aC rfl) (λ_ _ _ _ _ _=>aK) (λ_ _ _ _ _ _=>(aw ax (pv 0) ac (λ_ _=>rfl)))) ae)) (pv 3) (aO _)))))) (ad (bj Xd rfl (bz (pv 9)) (pgN 10 bN.nd) (ak (aV (lb W7 ZF ZE lm (pv 5)))))
  (ak (aV (cn W7 Xm Xl br (pv 5) (aa (pcF T.g_32 (mZ T) hr (aa (aw ax (pv 8) ac (λ_ _=>rfl)) (aa (pv 9) ae))) ae))))) (ak (bI (PW.pt (iD (aG cO (ay bu (ay bQ (pv 7) ac) ac) ac (aO _)) (gY (aG fZ (ay fQ ac (aB (fu rfl) rfl T.n_7 Y6 (aa (aX (N:=["part"]) (js:=[B?]) (g:=(av 0)) (tt:=aI) (te:=(tOp (dL K) (bf 0) (tC (.int 2)))) rfl (bA rfl (by decide +kernel) (by decide +kernel) rfl rfl rfl) (bz (pv 5)) (λ_ _ _ _ _ _=>(pgN 0 lU)) (aC rfl) (λ_ _ _ _ _ _=>aK) (λ_ _ _ _ _ _=>(aw ax (pv 0) ac (λ_ _=>rfl)))) ae))) (pv 3) (aO _))))) (ak (aV (cn W7 Xm Xl br (pv 5) (aa (aw aS (pv 5) (ay iC (aB az rfl T.n_1 Xj (aa (pv 5) ae)) ac) (λ_ _=>rfl)) ae)))) (ak (aV (cn W7 Xm Xl br (pv 5) (aa (pcF T.g_31 (ja T) hr (aa (aw aS (pv 4) (ay bu (ay bQ (pv 7) ac) (aB az rfl T.n_1 Xj (aa (pv 4) ae))) (λ_ _=>rfl)) ae)) ae)))))))))))))
  (ak (aD (pv 5)))))),?_}
 try dsimp only[zu,yX]
 have zP:ks.length=z8.length:=WS zO;have AL:=g.ne;have Ot:=g.le;refine bc (λi' H'=>Ex1 λlv=>An3 (i'=[A? (.ref a),A? (.ref kr),A? (.int top),A? (.int most),A? (.ref lv),B?,B?,B?,B?,B?,B?]) (k! H H') (H' lv=A? (.lst ((cM ks).map λk=>B! k.1)))) (λkk hk=>?_) ?_
 .refine{_,E?,kr,E?,{_,hK},?_};refine eL ks (λk=>decide (o! k.2=o! 0)) (λk=>.str k.1) hK (by rw[Wt];exact zP) (by rw[Wt];lia) (λi x z H2 R hx hz sm r=>?_) (λi x z H2 R hx hz _ sm r=>?_) (λD hD=>?_)
  .obtain⟨ka,e1,e2⟩:=u! zO hz;rw[Wz,e1]at hx;cases hx;exact{_,E?,ka,_,1,_,E?,E?,i! (sm _ _ e2),at1,E?,_,E?,r}
  .obtain⟨ka,e1,e2⟩:=u! zO hz;rw[Wz,e1]at hx;cases hx;exact{_,E?,ka,_,0,_,E?,E?,i! (sm _ _ e2),at0,r}
  .exact hk _ _ {D,rfl,ao hD _,af}
 rintro σ H1 ⟨lv,rfl,s1,Q7⟩;have QQ:=rS g;refine bc (wE a kr lv top most ks H1 0) (λkk hk=>?_) ?_
 .walk_at"a";obtain⟨k0,B0,zQ,OF,Ih⟩:=qX g (i:=0) (by decide) (by lia);refine kZ ?_;refine{_,E?,lv,_,0,_,E?,E?,l! Q7,zQ,k0.1,E?,OF,λe H2 s2 hE=>{lnE rfl,λmd OG=>?_}};refine hk _ _ {md,[e],[.knot k0.1 []],B?,B?,B?,B?,B?,rfl,s2.trans (ao OG _),s2.free OG,af,.cons (hE.mono (iI OG)) .nil,λt ht=>?_,WD _,WD _};rw[WG]at ht;subst ht;exact qW Kn D8 B0
 rintro σ H2 hI;have US:=hI;walk_at"a";obtain⟨We,Wf,Wg,d1,d2,d3,d4,d5,rfl,s2,_⟩:=hI;refine kZ ?_;have Ci:((ns.map o!).length:Int)<=63:=by rw[Wt];lia
 refine{_,E?,a,_,E?,.inl ((s1.trans s2).seq hS),_,E?,by lia,by lia,?_};refine bX (wE a kr lv top most ks H1) US ?_ ?_
 .rintro i σ H3 hi ⟨md,es,ts,c1,c2,c3,c4,c5,rfl,s3,FE,GQ,hE,hG,zY,hle⟩;have BG:i<ns.length:=by simpa using hi
  have B9:ts.length=es.length:=WS hE;have IK:=(s1.trans s3).seq hS;have Q8:=(s1.trans s3).seqT hK;have JY:0<=ns.getD (0+(i:Int)).toNat 0%10 ^ Int.toNat 60:=Xr _ (by decide);dsimp only[av];refine bc (λi' H'=>Ex1 λ(cell:Int)=>An3 (0<=cell) (H3=H') (i'=[A? (.ref a),A? (.ref kr),A? (.int top),A? (.int most),A? (.ref lv),A? (.ref md),A? (.int (0+(i:Int))),A? (.int cell),c3,c4,c5])) (λkk hk=>?_) ?_
  .exact{_,E?,_,E?,a,_,_,_,E?,E?,IK,int_at (by lia) (by lia),_,_,E?,E?,{by decide,by decide,by decide},_,_,E?,E?,(by show(0:Int)<10 ^ 60;decide),hk _ _ {_,JY,E?,E?}}
  rintro σ Wh ⟨cell,UT,rfl,rfl⟩;have hm:0<((z8.map j!).length:Int):=by rw[Wt];lia
  have NB:=Xr (cell+(0+(i:Int))) (Int.ne_of_gt hm);have Wi:=Xp (cell+(0+(i:Int))) hm
  have QV:((cell+(0+(i:Int)))%((z8.map j!).length:Int)).toNat<ks.length:=by
   have Aa:(z8.map j!).length=ks.length:=by rw[Wt];exact zP.symm
   lia
  walk_at"a";obtain⟨kd,Ab⟩:∃kd,ks[((cell+(0+(i:Int)))%((z8.map j!).length:Int)).toNat]?=A? kd:={_,Wv QV};obtain⟨pa,Bv,zZ⟩:=u! zO Ab;refine kZ ?_;have AJ:kd∈ks:=Ww Ab;have Lu:=g.num kd AJ;have Ko:=g.low kd AJ;have GR:H3 pa=A? (.tup [.str kd.1,.int kd.2]):=s3 _ _ (s1 _ _ zZ);refine{_,E?,_,E?,_,E?,_,_,E?,E?,_,E?,kr,_,E?,.inr Q8,_,_,E?,E?,hm,kr,_,_,.ref pa,E?,E?,Q8,at_nonneg NB (gmE Bv),?_};refine{lnE rfl,λpt Bw=>?_};have s4:k! H3 (upd H3 pt (.lst [])):=ao Bw _;dsimp only[av];refine bc (λi' H'=>Ex2 λ(pl:Wx)(n:Nat)=>An6 (i'=[A? (.ref a),A? (.ref kr),A? (.int top),A? (.int most),A? (.ref lv),A? (.ref md),A? (.int (0+(i:Int))),A? (.int cell),A? (.ref pa),A? (.ref pl),c5]) (k! H3 H') (H3 pl=B?) (n<=es.length) (H' pl=A? (.lst ((es.drop n).map j!))) ((n<es.length->kd.2=((es.drop n).length:Nat)))) (λkk hk=>?_) ?_
  .refine cF (λb H'=>An2 (H'=upd H3 pt (.lst [])) ((b=C?->0<kd.2/\kd.2<=(es.length:Int)))) (λk2 zk=>?_) (λH' hb=>?_) (λH' hb=>?_)
   .refine{_,E?,pa,_,1,_,E?,E?,i! (s4 _ _ GR),at1,_,_,E?,E?,_,E?,?_};refine fE (λc=>?_) (λc=>?_)
    .refine{_,E?,md,_,E?,.inl (l! (s4 _ _ GQ)),_,_,E?,E?,_,E?,?_};refine zk _ _ {rfl,λz=>{e! c,?_}};have:=e! z;rw[Wt]at this;exact this
    .exact{_,E?,zk _ _ {E?,λz=>by cases z}}
   .obtain⟨rfl,hb⟩:=hb;obtain⟨b1,b2⟩:=hb rfl;refine{_,E?,_,E?,md,_,E?,.inl (l! (s4 _ _ GQ)),_,E?,pa,_,1,_,E?,E?,i! (s4 _ _ GR),at1,_,_,E?,E?,_,E?,md,_,E?,l! (s4 _ _ GQ),λp hp=>?_}
    have OH:cW (es.map j!) (A? (((es.map j!).length:Int) - kd.2)) B?=(es.drop (es.length - kd.2.toNat)).map j!:=by
     have e:((es.map j!).length:Int) - kd.2=((es.length - kd.2.toNat:Nat):Int):=by rw[Wt];lia
     rw[e,rJ (by rw[Wt];lia),List.map_drop]
    rw[OH];refine hk _ _ {p,es.length - kd.2.toNat,rfl,s4.trans (ao hp _),s4.free hp,by lia,af,λ_=>?_};rw[XR];lia
   .obtain⟨rfl,_⟩:=hb;refine hk _ _ {pt,es.length,rfl,s4,Bw,WD _,?_,λz=>g! z (X1 _)};rw[af,List.drop_length];rfl
  clear s4;rintro σ H4 ⟨pl,n,rfl,s4,UU,hn,FG,OI⟩;have C6:=s4 _ _ GQ;have GP:EsAt ext H4 ts es:=hE.mono (n! s4);have FH:pl≠md:=(aq GQ UU).symm;have OJ:EsAt ext H4 (ts.drop n) (es.drop n):=P2.drop n GP;have UW:EsAt ext H4 (ts.take n) (es.take n):=P2.take n GP;have De:((es.drop n).map j!).length=es.length - n:=by rw[Wt,XR]
  have Fn:(ts.drop n).length=((es.drop n).map j!).length:=by rw[De,XR];lia
  refine cF (λb H'=>An2 (k! H4 H') ((b=C?->n<es.length/\(bJ (ts.drop n):Int)<top/\(au (ts.drop n):Int)<most))) (λk2 zk=>?_) (λH5 hb=>?_) (λH5 hb=>?_)
  .refine{_,E?,pl,_,E?,.inl (l! FG),_,_,E?,E?,_,E?,?_};refine fE (λc=>?_) (λc=>zk _ _ {.refl _,λz=>by cases z})
   have Fb:n<es.length:=by
    have:=e! c;rw[De]at this;lia
   refine{_,E?,pl,E?,{_,l! FG},?_};refine cG (ts.drop n) (λ_=>C?) (λt=>.int ((t.tall:Nat):Int)) (l! FG) Fn (by lia) (λi x z H5 R _ _ _ r=>r) (λi x z H5 R hx hz _ sm r=>?_) (λD hD=>?_)
   .walk_at"a";obtain⟨e,b,rfl,_,he,_⟩:=OJ.at hx hz;refine kZ ?_;exact{_,E?,e,_,1,_,E?,E?,i! (sm _ _ he),at1,r}
   rw[filter_tt];refine{D,(ts.drop n).map (λt=>((t.tall:Nat):Int)),E?,l! (by rw[<-ints_map];exact af),?_,λM m1 m2=>{_,E?,_,_,E?,E?,_,E?,?_}}
   .intro z;have:=h! X9 z;rw[Wt,XR]at this;have this:ts.length - n=0:=this;lia
   rw[mS m1 m2];refine fE (λc2=>?_) (λc2=>zk _ _ {ao hD _,λz=>by cases z});refine gU hD λH5 s5 _=>?_;refine{_,E?,pl,E?,{_,l! (s5 _ _ FG)},?_};refine cG (ts.drop n) (λ_=>C?) (λt=>.int ((t.size:Nat):Int)) (l! (s5 _ _ FG)) Fn (by lia) (λi x z H6 R _ _ _ r=>r) (λi x z H6 R hx hz _ sm r=>?_) (λD2 Gq=>?_)
   .walk_at"a";obtain⟨e,b,rfl,_,he,_⟩:=OJ.at hx hz;refine kZ ?_;exact{_,E?,e,_,2,_,E?,E?,i! (sm _ _ (s5 _ _ he)),at2,r}
   rw[filter_tt];refine{D2,(ts.drop n).map (λt=>((t.size:Nat):Int)),E?,l! (by rw[<-ints_map];exact af),_,E?,_,_,E?,E?,_,E?,zk _ _ {s5.trans (ao Gq _),λz=>{Fb,e! c2,?_}}};have:=e! z;rw[jl]at this;exact this
  .walk_at"a";obtain⟨s5,hb⟩:=hb;obtain⟨Fb,Ak,E6⟩:=hb rfl;refine kZ ?_;refine{_,E?,pl,E?,{_,l! (s5 _ _ FG)},?_};refine dh (K:=K) (a:=pl) (xs:=(es.drop n).map j!) (λj σ H'=>Ex1 λc=>An3 (σ=[A? (.ref a),A? (.ref kr),A? (.int top),A? (.int most),A? (.ref lv),A? (.ref md),A? (.int (0+(i:Int))),A? (.int cell),A? (.ref pa),A? (.ref pl),c]) ((∀b o,H5 b=A? o->b≠md->H' b=A? o)) (H' md=A? (.lst ((es.take (es.length - j)).map j!)))) {c5,rfl,λ_ _ h _=>h,?_} (λi σ H' _⟨_,_,kp,_⟩=>l! (kp _ _ (s5 _ _ FG) FH)) ?_ ?_
   .rw[Nat.sub_zero,YJ];exact s5 _ _ C6
   .rintro j x σ H6 hx ⟨c,rfl,kp,em⟩
    have hj:j<es.length - n:=by
     have:=(glE hx);rw[De]at this;exact this
    have e1:es.length - j=(es.length - (j+1))+1:=by lia
    have yY:es.length - (j+1)<es.length:=by lia
    have e3:(es.take (es.length - j)).map j!=(es.take (es.length - (j+1))).map j!++[j! es[es.length - (j+1)]]:=by
     rw[e1,take_snoc (Wv yY),W3];rfl
    rw[e3]at em;refine{_,E?,.inl {E?,_,l! em},md,_,j! es[es.length - (j+1)],E?,E?,em,by simp,?_};refine{A? x,E?,λb o e hb=>by rw[aj hb];exact kp b o e hb,?_};rw[af,List.dropLast_concat]
   .rintro σ H6 ⟨c,rfl,kp,em⟩;rw[De,show es.length - (es.length - n)=n by lia]at em;have Q9:KT H5 H6:=λb xs e=>kp b _ e (aF e (s5 _ _ C6) (by intro z;cases z));have Kp:KT H4 H6:=(n! s5).trans Q9;have UX:k! H1 H6:=λb o e=>kp b o (s5 _ _ (s4 _ _ (s3 _ _ e))) (aq e FE);have OK:H6 pa=A? (.tup [.str kd.1,.int kd.2]):=Q9 _ _ (s5 _ _ (s4 _ _ GR));have UY:∀t∈ts.drop n,GT ks top most t:=λt ht=>hG t (List.mem_of_mem_drop ht)
    have zg:ts.drop n≠[]:=by
     intro z;have:=h! X9 z;rw[XR]at this;have this:ts.length - n=0:=this;lia
    have hF:Fits ks (ts.drop n):=Fits.of λt ht=>(UY t ht).fit;refine{_,E?,.inl {E?,_,l! em},_,E?,pa,_,0,_,E?,E?,i! OK,at0,_,E?,kd.1,pl,es.drop n,ts.drop n,E?,oO Ko.1,Ko.2,l! (kp _ _ (s5 _ _ FG) FH),OJ.mono Kp,zg,Fits.nms g hF,by lia,λe H7 s7 OL=>?_};refine{md,_,_,E?,E?,s7 _ _ em,aT (by rw[Wt,Xy];lia),?_};refine jB (UX.trans s7) FE (s7 _ _ em) (UW.mono (Kp.trans (n! s7))) OL (λt ht=>hG t (Yl ht)) {?_,?_,?_} (by rw[Xy];lia)
    .rw[F!];refine{?_,hF}
     have e2:(((ts.drop n).length:Nat):Int)=kd.2:=by
      have:=OI Fb;rw[XR]at this |-;lia
     rw[e2];exact AJ
    .rw[y!];lia
    .rw[L!];lia
  .obtain⟨s5,_⟩:=hb;refine cF (λb H'=>k! H5 H') (λk2 zk=>?_) (λH6 s6=>?_) (λH6 s6=>?_)
   .refine{_,E?,_,_,E?,E?,{by decide,by decide},_,_,E?,E?,(by show(0:Int)<5;decide),E?,_,E?,?_};refine fE (λc=>?_) (λc=>zk _ _ (.refl _));refine{_,E?,md,E?,{_,l! (s5 _ _ C6)},?_};refine cG ts (λ_=>C?) (λt=>.int ((t.size:Nat):Int)) (l! (s5 _ _ C6)) (by rw[Wt];exact B9) (by rw[Wt];lia) (λi x z H6 R _ _ _ r=>r) (λi x z H6 R hx hz _ sm r=>?_) (λD2 Gq=>?_)
    .walk_at"a";obtain⟨e,b,rfl,_,he,_⟩:=GP.at hx hz;refine kZ ?_;exact{_,E?,e,_,2,_,E?,E?,i! (sm _ _ (s5 _ _ he)),at2,r}
    rw[filter_tt];exact{D2,ts.map (λt=>((t.size:Nat):Int)),E?,l! (by rw[<-ints_map];exact af),_,_,E?,E?,.inl {by decide,by decide},_,E?,_,_,E?,E?,_,E?,zk _ _ (ao Gq _)}
   .have AN:k! H4 H6:=s5.trans s6;have E9:=AN _ _ C6;have Fu:es.length - 1<es.length:=by lia
    walk_at"a";obtain⟨tl,zl⟩:∃tl,ts[es.length - 1]?=A? tl:={_,Wv (by lia)};obtain⟨e,he,UZ⟩:=u! (GP.mono (n! AN)) zl;refine kZ ?_;refine{_,E?,.inl {E?,_,l! E9},_,E?,_,E?,md,_,E?,.inl (l! E9),_,_,E?,E?,md,_,_,.ref e,E?,E?,l! E9,at_nonneg (by rw[Wt];lia) ?_,md,_,_,E?,E?,E9,lbE (by lia),?_}
    .have e3:((((es.map j!).length:Nat):Int) - 1).toNat=es.length - 1:=by rw[Wt];lia
     rw[e3,Wz,he];rfl
    .exact jB (s3.trans (s4.trans AN)) FE E9 (GP.mono (n! AN)) UZ hG (hG tl (Ww zl)) hle
   .have AN:k! H4 H6:=s5.trans s6;have E9:=AN _ _ C6;have Kq:=AN _ _ (s4 _ _ (s3 _ _ Q7));have J5:0<(((cM ks).map λk=>B! k.1).length:Int):=by rw[Wt];lia
    have U0:=Xr (cell / 35) (Int.ne_of_gt J5);have Ra:=Xp (cell / 35) J5;walk_at"a";obtain⟨k0,B0,zQ,OF,Ih⟩:=qX g U0 (by rw[Wt]at Ra |-;exact Ra);refine kZ ?_;refine{_,E?,.inl {E?,_,l! E9},_,E?,_,E?,_,_,E?,E?,{by decide,by decide},_,E?,lv,_,E?,.inl (l! Kq),_,_,E?,E?,J5,lv,_,_,_,E?,E?,l! Kq,zQ,k0.1,E?,OF,λe H7 s7 OL=>?_};refine{md,_,_,E?,E?,s7 _ _ E9,lbE (by lia),?_};exact jB (s3.trans (s4.trans (AN.trans s7))) FE (s7 _ _ E9) (GP.mono (n! (AN.trans s7))) OL hG (qW Kn D8 B0) hle
 .rintro σ H3 ⟨md,es,ts,c1,c2,c3,c4,c5,rfl,s3,FE,GQ,hE,hG,zY,hle⟩;refine{_,E?,k md es ts H3 (s1.trans s3) GQ hE hG zY ?_};have e:(((ns.map o!).length:Nat):Int).toNat=ns.length:=by rw[Wt];lia
  rw[e]at hle;lia
def arO(outs:List (W8×Int))(n:W8):Nat:=(List.getD (List.map (λk:W8×Int=>k.2) outs) (List.idxOf n (List.map (λk:W8×Int=>k.1) outs)) 0).toNat
theorem wj(g:GoodN outs){n:W8}{c:Nat}(h:(n,((c:Nat):Int))∈outs):arO outs n=c:=by
 obtain⟨j,hj⟩:=WK.mp h;unfold arO;rw[iA g hj,W0,Wz,hj];exact WU c
theorem kz{ks:List (W8×Int)}{S C:Int}:∀{ts:List Th},FitSs ks S C ts->∀t∈ts,t.FitS ks S C
 | [],_,t,h=>by cases h
 | u::ts,hf,t,h=>by
   rw[FitSs]at hf;rcases WW.mp h with rfl|h
   .exact hf.1
   .exact kz hf.2 t h
theorem oo{S C:Int}(g:GoodN outs):∀(n:Nat)(t:Th),t.size<=n->t.FitS outs S C->Ars (arO outs) t/\∀s k:Int,t! s k∈t.walk->0<=s/\s<S/\0<=k/\k<C:=by
 intro n;induction n with
 |zero=>intro t h;have:=J! t;lia
 | succ n ih =>
   intro t hz hf;cases t with
   | call s0 k0 =>
     rw[I!]at hf;refine{ud,λs k h=>?_};rw[E!,WG]at h;injection h with h1 h2;rw[h1,h2];exact hf
   | knot nm ks =>
     rw[I!]at hf;have hz:au ks+1<=n+1:=hz;have hk:∀u∈ks,Ars (arO outs) u/\∀s k:Int,t! s k∈u.walk->0<=s/\s<S/\0<=k/\k<C:=λu hu=>ih u (by have:=dm hu;lia) (kz hf.2 u hu);refine{tE (wj g hf.1).symm λu hu=>(hk u hu).1,λs k h=>?_};rw[E!]at h;rcases WW.mp h with h|h
     .cases h
     .have:∀ts:List Th,(∀u∈ts,u∈ks)->t! s k∈walks ts->0<=s/\s<S/\0<=k/\k<C:=λts=>by
       induction ts with
       |nil=>intro _ h;rw[walks]at h;cases h
       | cons t ts Je =>
         intro ht h;rw[walks]at h;rcases WQ.mp h with h|h
         .exact(hk t (ht t (WM ..))).2 s k h
         .exact Je (λu hu=>ht u (WR _ hu)) h
      exact this ks (λu hu=>hu) h
theorem lr{S C:Int}{t:Th}(g:GoodN outs)(h:t.FitS outs S C):Ars (arO outs) t:=(oo g t.size t (WD _) h).1
theorem fJ{S C:Int}{t:Th}(g:GoodN outs)(h:t.FitS outs S C):∀s k:Int,t! s k∈t.walk->0<=s/\s<S/\0<=k/\k<C:=(oo g t.size t (WD _) h).2
theorem lp:∀(n:Nat)(t:Th),t.size<=n->t.Fit outs->t.FitS outs 0 0:=by
 intro n;induction n with
 |zero=>intro t h;have:=J! t;lia
 | succ n ih =>
   intro t hz hf;cases t with
   |call s0 k0=>rw[F!]at hf;exact hf.elim
   | knot nm ks =>
     rw[F!]at hf;rw[I!];have hz:au ks+1<=n+1:=hz;refine{hf.1,?_}
     have:∀ts:List Th,(∀u∈ts,u∈ks)->FitSs outs 0 0 ts:=λts=>by
      induction ts with
      |nil=>intro _;rw[FitSs];trivial
      | cons t ts Je =>
        intro ht;have Ja:=ht t (WM ..);rw[FitSs];exact{ih t (by have:=dm Ja;lia) (dH hf.2 t Ja),Je λu hu=>ht u (WR _ hu)}
     exact this ks λu hu=>hu
theorem Bk48.at'(h:Bk48 ins outs head rows)(hr:row∈rows){a:Nat}{c:Int}(hi:ins[a]?=A? (nm,c)):(row.getD a bh).FitS outs (rows.length:Nat) c/\(row.getD a bh).tall<=3:=by
 obtain⟨h1,h2⟩:=h.row row hr;have hl:=(glE hi)
 have hg:row[a]?=A? (row.getD a bh):=by
  rw[W0,Wv (by lia)];rfl
 exact h2 a _ _ hg hi
theorem wc{S C:Int}{t:Th}(g:GoodN outs)(h:t.FitS outs S C)(ht:t.tall<=3):t.size<=13:=by
 have h1:=(jH g t h).1;have h2:3 ^ t.tall<=3 ^ 3:=YA (by decide) ht;lia
theorem Bk48.bkc(h:Bk48 ins outs head rows):BkC ins rows:=by
 refine{h.gi.1,by have:=h.few;lia,λrow hr=>(h.row row hr).1,λrow hr p hp=>?_,λa nm c hi row hr s k hm=>?_}
 .obtain⟨a,ha⟩:=WK.mp hp;have hl:=(glE ha);rw[(h.row row hr).1]at hl;obtain⟨h1,h2⟩:=(h.row row hr).2 a p _ ha (Wv hl);have:=wc h.go.1 h1 h2;exact{h2,by lia}
 .walk_at"a";obtain⟨h1,h2,h3,h4⟩:=fJ h.go.1 (h.at' hr hi).1 s k hm;refine kZ ?_;exact{{k.toNat,by lia,by lia},s.toNat,by lia,by lia}
theorem Bk48.made(h:Bk48 ins outs head rows):∀(n:Nat)(t:Th),t.size<=n->t.Fit ins->∀u∈aR ins rows t,u.FitS outs 0 0:=by
 intro n;induction n with
 |zero=>intro t h;have:=J! t;lia
 | succ n ih =>
   intro t hz hf u hu;cases t with
   |call s0 k0=>rw[F!]at hf;exact hf.elim
   | knot nm ks =>
     rw[F!]at hf;obtain⟨hm,hk⟩:=hf;have hz:au ks+1<=n+1:=hz;obtain⟨a,ha⟩:=WK.mp hm;rw[cE]at hu;obtain⟨row,hr,rfl⟩:=WY.mp hu;rw[iA h.gi.1 ha];refine kB _ (λs c s0 s1 c0 c1=>?_) _ (h.at' hr ha).1;obtain⟨c',rfl⟩:=Zo c0;obtain⟨s',rfl⟩:=Zo s0;have zb:c'<ks.length:=by lia
     have AJ:=XS zb;have Rb:=dH hk _ AJ;have F6:s'<(aR ins rows ks[c']).length:=by rw[dA Rb];lia
     have e:ce ins rows ks (s':Int) (c':Int)=(aR ins rows ks[c'])[s']:=by
      unfold ce;rw[WU,WU,W0 (l:=ks.map _),Wz,Wv zb];show((aR ins rows ks[c']).getD s' bh)=_;rw[W0,Wv F6];rfl
     rw[e];exact ih _ (by have:=dm AJ;lia) Rb _ (XS F6)
theorem Bk48.hdc(h:Bk48 ins outs head rows):∀s k:Int,t! s k∈head.walk->k=0/\∃s':Nat,s=(s':Int)/\s'<rows.length:=λs k hm=>by
 walk_at"a";obtain⟨h1,h2,h3,h4⟩:=fJ h.go.1 h.hd.1 s k hm;refine kZ ?_;exact{by lia,s.toNat,by lia,by lia}
theorem Bk48.hdz(h:Bk48 ins outs head rows):head.size<=100:=by
 have:=wc h.go.1 h.hd.1 h.hd.2;lia
theorem Bk48.out(h:Bk48 ins outs head rows){t:Th}(hf:t.Fit ins):(vh ins rows head t).FitS outs 0 0:=by
 unfold vh;refine kB _ (λs c s0 s1 c0 c1=>?_) _ h.hd.1;obtain⟨s',rfl⟩:=Zo s0;have hc:c=0:=by lia
 subst hc;have F6:s'<(aR ins rows t).length:=by rw[dA hf];lia
 have e:ce ins rows [t] (s':Int) 0=(aR ins rows t)[s']:=by
  unfold ce;rw[WU];show((aR ins rows t).getD s' bh)=_;rw[W0,Wv F6];rfl
 rw[e];exact h.made t.size t (WD _) hf _ (XS F6)
theorem Bk48.wcd(h:Bk48 ins outs head rows){w:Th}(hw:w.FitS outs 0 0)(hz:w.size<=60):WCd ins rows w (arO outs):=by
 refine{h.gi.1,λk hk=>oO (h.gi.1.low k hk).1,by have:=h.few;lia,λrow hr=>(h.row row hr).1,λa nm c hi p hp=>?_,lr h.go.1 hw,λp hp=>?_,by lia,?_}
 .obtain⟨row,hr,rfl⟩:=WY.mp hp;obtain⟨h1,h2⟩:=h.at' hr hi;have hz:=wc h.go.1 h1 h2;refine{lr h.go.1 h1,by lia,λs k hm=>?_};walk_at"a";obtain⟨h3,h4,h5,h6⟩:=fJ h.go.1 h1 s k hm;refine kZ ?_;exact{{k.toNat,by lia,by lia},s.toNat,by lia,by lia}
 .cases p with
  |knot n ks=>rfl
  |call s k=>have:=fJ h.go.1 hw s k hp;lia
 .have:=Nat.mul_le_mul h.few hz;lia
theorem Bk48.wbk{ba:Wx}(h:Bk H ins outs head rows ba):WBk H ins head rows ba:=by
 obtain⟨ia,oa,ha,ra,zi,zB,zd,b⟩:=h;exact{ia,ha,ra,.ref oa,zi,zd,b.bk,b.inE,b.inK,b.rl,b.rw,b.hd}
inductive iW(K:WJ)(vs:List V)(H:Hp)(Q:VK)(_E:XK):Prop
 |mk (a ba:Wx) (ns:List Int) (ins outs:List (W8×Int)) (head:Th) (rows:List (List Th)):vs=[.ref a,.ref ba]->SqL K H a (ns.map o!)->ns.length<=63->Bk H ins outs head rows ba->Bk48 ins outs head rows->(∀(w:Th)(wa:Wx)(H':Hp),k! H H'->At H' w wa->w.FitS outs 0 0->w.size<=60->Q (.ref wa) H')->iW K vs H Q _E
theorem re{ts:List Th}{c:Int}(h:1<=ts.length)(el:H l=A? (.lst (as.map j!)))(hp:Xb (At H) ts as):∃(t:Th)(a:Wx),t∈ts/\At H t a/\atI (as.map j!) (c%(((as.map j!).length:Nat):Int))=A? (.ref a)/\(0:Int)<(((as.map j!).length:Nat):Int):=by
 have hl:ts.length=as.length:=WS hp;have Aa:(as.map j!).length=ts.length:=by rw[Wt,hl]
 rw[Aa];have h0:=Xr c (show((ts.length:Nat):Int)≠0 by lia);have h1:=Xp c (show(0:Int)<((ts.length:Nat):Int)by lia);have yY:(c%((ts.length:Nat):Int)).toNat<ts.length:=by lia
 have e:=Wv yY;obtain⟨a,ha,hA⟩:=u! hp e;exact{_,a,XS yY,hA,at_nonneg h0 (gmE ha),by lia}
theorem nJ:bv P w K mg base CX0 50 T.g_37.f T.g_37.d ["script","book"] (iW K):=by
 refine T.g_37.F.okA bT λy9 A outer s H vs Q E hr h=>?_;obtain⟨a,ba,ns,ins,outs,head,rows,rfl,hS,Ah,hB,hK,q⟩:=h
 refine{_,(ad (am 2 bT.nd (aw ax (pv 1) ac (λ_ _=>rfl)))
  (ad (df (i:=3) (N:=["entry"]) (js:=[B?]) (g:=(av 0)) (tt:=aI) (te:=(tOp (dL K) (bf 0) (tC (.int 0)))) bT.nd rfl (Or.inl rfl) rfl (bA rfl (by decide +kernel) (by decide +kernel) rfl rfl rfl) (bz (pcF T.g_33 (fc T) hr (aa (pv 0) (aa (pv 2) (aa ac (aa ac ae)))))) (λ_ _ _ _ _ _=>(pgN 0 v8)) (aC rfl) (λ_ _ _ _ _ _=>aK) (λ_ _ _ _ _ _=>(aw ax (pv 0) ac (λ_ _=>rfl))))
  (ad (am 4 bT.nd (aw aS (pv 3) (ay bu (pcF T.g_24 (bH T) hr (aa (pv 0) (aa ac ae))) (aB az rfl T.n_1 Xj (aa (pv 3) ae))) (λ_ _=>rfl)))
  (ad (df (i:=5) (N:=["entry"]) (js:=[B?]) (g:=(av 0)) (tt:=aI) (te:=(tOp (dL K) (bf 0) (tC (.int 0)))) bT.nd rfl (Or.inl rfl) rfl (bA rfl (by decide +kernel) (by decide +kernel) rfl rfl rfl) (bz (pcF T.g_33 (fc T) hr (aa (aN eR (pv 0) (aY ac) bi) (aa (aw ax (pv 1) ac (λ_ _=>rfl)) (aa ac (aa ac ae)))))) (λ_ _ _ _ _ _=>(pgN 0 v8)) (aC rfl) (λ_ _ _ _ _ _=>aK) (λ_ _ _ _ _ _=>(aw ax (pv 0) ac (λ_ _=>rfl))))
  (ad (am 6 bT.nd (aw aS (pv 5) (ay bu (pcF T.g_24 (bH T) hr (aa (pv 0) (aa ac ae))) (aB az rfl T.n_1 Xj (aa (pv 5) ae))) (λ_ _=>rfl)))
  (ad (am 7 bT.nd ac)
  (ad (bI (aG mM ac (aX (N:=["pair"]) (js:=[B?]) (g:=(av 0)) (tt:=aI) (te:=(tOp (dL K) (bf 0) (tC (.int 1)))) rfl (bA rfl (by decide +kernel) (by decide +kernel) rfl rfl rfl) (bU (aw ax (pv 1) ac (λ_ _=>rfl))) (λ_ _ _ _ _ _=>(pgN 0 oz)) (aC rfl) (λ_ _ _ _ _ _=>aK) (λ_ _ _ _ _ _=>(aw ax (pv 0) ac (λ_ _=>rfl)))) (by with_unfolding_all rfl)) (ak (am 7 bT.nd ac)) aW)
  (ad (bI (PW.pt (iD (aG oi (ay bu (pcF T.g_24 (bH T) hr (aa (pv 0) (aa ac ae))) ac) ac (aO _)) (gY (aG vG (pcF T.g_38 (nh T) hr (aa (pv 1) (aa (pv 6) ae))) (pv 7) (aO _))))) (ak (am 4 bT.nd (pcF T.g_36 (j6 T) hr (aa (pv 1) (aa (pv 6) ae))))) aW)
  (ak (aD (pv 4))))))))))),?_}
 try dsimp only[zu,yX]
 have hW:=Bk48.wbk hB;walk_at"a";obtain⟨ia,oa,ha,ra,zi,zB,zd,b⟩:=hB;refine kZ ?_;refine{_,E?,ba,_,1,.ref oa,E?,E?,i! b.bk,at1,?_};dsimp only[av]
 refine{_,E?,_,E?,a,ns,oa,zB,outs,8,14,E?,hS,Ah,i! b.outE,b.outK,hK.go.g,by decide,by decide,by decide,λr es ts H1 s1 er hE hG h1 U1=>?_};have B9:ts.length=es.length:=WS hE;refine{r,E?,{_,l! er},eK (F:=λH t p=>At H t p) (xs:=es.map j!) ts (λHa Hb z p kt h=>h.mono kt) (by rw[Wt];exact B9) (by rw[Wt];lia) (λi Hx sx hi=>{_,_,l! (sx _ _ er),Wv hi}) (λHx sx=>{_,l! (sx _ _ er),WD _}) (λi Hx y Hy sx hi hy=>{hy.1,hy.2 _ (l! (sx _ _ er))}) (λi y z Hx R W' hy hz sx hR=>?_) (λl H2 as hl s2 el Bv=>?_)}
 .obtain⟨e,rfl,he⟩:=bw hy;obtain⟨x,ex,hx⟩:=iu hE hz he;exact{_,E?,e,_,0,.ref x,E?,E?,i! (sx _ _ ex),at0,hR Hx x (λ_ _ e=>e) (hx.mono (n! sx))}
 dsimp only[av];have Af:=s1.trans s2;walk_at"a";obtain⟨w0,wa,Hu,AK,zQ,zY⟩:=re (c:=cellAt ns 3) h1 el Bv;refine kZ ?_;have Fm:=Af.seq hS;refine{_,E?,_,E?,a,ns,3,E?,Fm,by decide,_,E?,l,_,E?,.inl (l! el),_,_,E?,E?,zY,l,_,_,.ref wa,E?,E?,l! el,zQ,?_};dsimp only[av];have gw:=hG w0 Hu;have Kr:w0.FitS outs 0 0:=lp w0.size w0 (WD _) gw.fit;have OM:w0.size<=60:=by have:=gw.size;lia
 refine{_,E?,1,E?,a,_,E?,Fm,λp hp=>?_};refine cu hp λH3 s3 e3=>?_;have Ac:=Af.trans s3
 obtain⟨ms,Ks⟩:∃ms:List Int,cW (ns.map o!) (A? 1) B?=ms.map o!:=by
  unfold cW;rw[<-List.map_drop,<-List.map_take];exact{_,E?}
 have LN:ms.length<=63:=by
  have:=eN (ns.map o!) (A? 1) B?;rw[Ks,Wt,Wt]at this;lia
 rw[Ks]at e3;refine{_,E?,ba,_,0,.ref ia,E?,E?,i! (Ac _ _ b.bk),at0,p,ms,ia,zi,ins,4,7,E?,l! e3,LN,i! (Ac _ _ b.inE),b.inK.mono (n! Ac),hK.gi.g,by decide,by decide,by decide,λr2 Rc Rf H4 s4 Hq Km U2 PR U3=>?_};have ON:Rf.length=Rc.length:=WS Km;refine{r2,E?,{_,l! Hq},eK (F:=λH t p=>At H t p) (xs:=Rc.map j!) Rf (λHa Hb z p kt h=>h.mono kt) (by rw[Wt];exact ON) (by rw[Wt];lia) (λi Hx sx hi=>{_,_,l! (sx _ _ Hq),Wv hi}) (λHx sx=>{_,l! (sx _ _ Hq),WD _}) (λi Hx y Hy sx hi hy=>{hy.1,hy.2 _ (l! (sx _ _ Hq))}) (λi y z Hx R W' hy hz sx hR=>?_) (λl2 H5 Wj Aa s5 GL OO=>?_)}
 .obtain⟨e,rfl,he⟩:=bw hy;obtain⟨x,ex,hx⟩:=iu Km hz he;exact{_,E?,e,_,0,.ref x,E?,E?,i! (sx _ _ ex),at0,hR Hx x (λ_ _ e=>e) (hx.mono (n! sx))}
 dsimp only[av];have Ex:=Ac.trans (s4.trans s5);have U4:=s3.trans (s4.trans s5);have U5:=Ex.seq hS;walk_at"a";obtain⟨t0,ta,Er,AM,OP,Kt⟩:=re (c:=cellAt ns 4) PR GL OO;refine kZ ?_;refine{_,E?,_,E?,a,ns,4,E?,U5,by decide,_,E?,l2,_,E?,.inl (l! GL),_,_,E?,E?,Kt,l2,_,_,.ref ta,E?,E?,l! GL,OP,?_};dsimp only[av];have gt:=U2 t0 Er;have CQ:t0.tall<=40:=by have:=gt.tall;lia
 have zV:ins.length=zi.length:=WS b.inK;have UG:=hK.gi.2
 refine bc (λi' H'=>i'=[A? (.ref a),A? (.ref ba),A? (.ref oa),A? (.ref l),A? (.ref wa),A? (.ref l2),A? (.ref ta),A? (.int 60)]/\H5=H') (λkk hk=>hk _ _ ⟨rfl,rfl⟩) ?_;rintro i' H' ⟨rfl,rfl⟩;refine bc (λi' H6=>Ex1 λ(most:Int)=>An3 (i'=[A? (.ref a),A? (.ref ba),A? (.ref oa),A? (.ref l),A? (.ref wa),A? (.ref l2),A? (.ref ta),A? (.int most)]) (k! H5 H6) (most<=60)) (λkk hk=>?_) ?_
 .refine{_,E?,ba,_,0,.ref ia,E?,E?,i! (Ex _ _ b.bk),at0,ia,E?,{_,i! (Ex _ _ b.inE)},bP (zs:=ins) (f:=λk=>o! k.2) (i! (Ex _ _ b.inE)) (by rw[Wt];exact zV) (by rw[Wt];lia) (λi x z Hx R W' hx hz sx hR=>?_) (λl3 Hx C4 sx OQ=>?_)}
  .obtain⟨ka,zZ,zE⟩:=u! b.inK hz;rw[Wz,zZ]at hx;cases hx;exact{_,E?,ka,_,1,_,E?,E?,i! (sx _ _ (Ex _ _ zE)),at1,hR Hx (λ_ _ e=>e)}
  refine{l3,_,E?,.inl (l! OQ),E?,?_,_,E?,?_}
  .rw[List.all_map,List.all_eq_true];intro x _;rfl
  dsimp only;refine fE (λ_=>?_) (λ_=>?_)
  .exact hk _ _ {15,rfl,sx,by decide}
  .exact hk _ _ {60,rfl,sx,by decide}
 rintro i' H6 ⟨most,rfl,s6,D8⟩;have HH:=Ex.trans s6;have NW:=U4.trans s6;have U6:=HH.seq hS;refine bc (λi' H7=>Ex2 λ(w1:Th)(wb:Wx)=>An5 (i'=[A? (.ref a),A? (.ref ba),A? (.ref oa),A? (.ref l),A? (.ref wb),A? (.ref l2),A? (.ref ta),A? (.int most)]) (k! H6 H7) (At H7 w1 wb) (w1.FitS outs 0 0) (w1.size<=60)) (λkk hk=>?_) ?_
 .have old:∀{H7:Hp},k! H6 H7->kk [A? (.ref a),A? (.ref ba),A? (.ref oa),A? (.ref l),A? (.ref wa),A? (.ref l2),A? (.ref ta),A? (.int most)] H7:=λs7=>hk _ _ {w0,wa,rfl,s7,AK.mono (n! (NW.trans s7)),Kr,OM};refine{_,E?,a,ns,5,E?,U6,by decide,_,_,E?,E?,(by decide:(0:Int)<4),_,_,E?,E?,_,E?,?_};refine fE (λ_=>?_) (λ_=>cV (old (λ_ _ e=>e)));have Ku:=AM.mono (n! s6);refine{_,E?,_,E?,ba,ta,ins,head,rows,t0,E?,hW.mono (n! HH),Ku,hK.bkc,gt.fit,CQ,hK.hd.2,hK.hdz,hK.hdc,λH7 s7=>?_};refine{_,E?,_,_,E?,E?,_,E?,?_};refine fE (λhle=>?_) (λ_=>old s7);have hle:=e! hle;exact{_,E?,_,E?,ba,ta,ins,head,rows,t0,E?,hW.mono (n! (HH.trans s7)),Ku.mono (n! s7),hK.bkc,gt.fit,CQ,hK.hd.2,hK.hdz,hK.hdc,λr3 H8 s8 h8=>hk _ _ {_,r3,E?,s7.trans s8,h8,hK.out gt.fit,by lia}}
 rintro i' H7 ⟨w1,wb,rfl,s7,U7,OR,OS⟩;exact{_,E?,q w1 wb H7 (HH.trans s7) U7 OR OS}
inductive fj(n:Nat)(vs:List V)(H:Hp)(Q:VK)(_E:XK):Prop
 |mk (ta:Wx) (t:Th):vs=[.ref ta]->At H t ta->(∀m ks,p! m ks∈t.walk->ks.length<=1000)->(∀p∈t.walk,p.isCall=D?)->t.tall<=n->(∀H',k! H H'->Q (.int ((t.size:Nat):Int)) H')->fj n vs H Q _E
theorem iq:∀n:Nat,bv P w K mg base CX0 (n+1) T.g_46.f T.g_46.d ["tree"] (fj n)
 |0=>{λ_ _ _ _ h=>by obtain⟨_,t,_,_,_,_,h1,_⟩:=h;have:=t.tall_eq;lia,λ_ _ _ _ _ _ _ _ _ _ _ _ _ h=>by obtain⟨_,t,_,_,_,_,h1,_⟩:=h;have:=t.tall_eq;lia}
 | n+1=>by
   have ih:=iq n;refine T.g_46.F.okA lL λy9 A outer s H vs Q E hr h=>?_;obtain⟨ta,t,rfl,hA,hk,zJ,zl,q⟩:=h;refine{_,(ak (aD (ay bG ac (aB (fu rfl) rfl T.n_7 Y6 (aa (aX (N:=["kid"]) (js:=[B?]) (g:=(av 0)) (tt:=aI) (te:=(gd (fj _) [] E0 (bZ (bf 0) gm))) rfl (bA rfl (by decide +kernel) (by decide +kernel) rfl rfl rfl) (bU (aN cL (pv 0) (aY ac) bi)) (λ_ _ _ _ _ _=>(pgN 0 wV)) (aC rfl) (λ_ _ _ _ _ _=>aK) (λ_ _ _ _ _ _=>(da (ih) (hr.mono (WD _)) rfl T.g_46.m T.g_46.F.kp T.g_46.b .nil cU (aa (pv 0) ae)))) ae))))),?_}
   try dsimp only[zu,yX]
   cases t with
   |call s0 k0=>have:=zJ _ (by rw[E!];exact WM ..);cases this
   | knot m ts =>
     rw[y!]at zl;rw[At]at hA;walk_at"a";obtain⟨D1,CY,ea,AM⟩:=hA;refine kZ ?_;have Cf:CY.length=ts.length:=AM.length;have hl:=hk m ts (by rw[E!];exact WM ..);refine{_,E?,1,E?,ta,_,E?,i! ea,?_,λp2 zt=>?_}
     .rintro⟨z,_⟩;rw[WV,show(1:Int)=((1:Nat):Int)by rfl,x!]at z;lia
     dsimp only;rw[cg];refine cu zt λH2 s2 e2=>?_;refine{p2,E?,{_,i! e2},bP (zs:=ts) (f:=λt=>o! ((t.size:Nat):Int)) (i! e2) (by rw[Wt];lia) (by rw[Wt];lia) (λi x z Hx R W' hx zp sx hR=>?_) (λD H3 hD s3 eD=>?_)}
     .obtain⟨ua,rfl,Cq⟩:=bw hx;obtain⟨u,hu,Cr⟩:=AM.get Cq;rw[hu]at zp;have zp:u=z:=WN zp;subst zp;have Ap:=Ww hu;have zW:=s2.trans sx;have GO:=cN Ap;have Kv:∀x∈u.walk,x∈(p! m ts).walk:=eE Ap;exact{_,E?,ua,u,E?,Cr.mono (n! zW),λm' yZ h'=>hk m' yZ (Kv _ h'),λp hp=>zJ p (Kv p hp),by lia,λH4 s4=>hR H4 s4}
     have Kl:H3 D=A? (.lst ((ts.map λt=>((t.size:Nat):Int)).map o!)):=by
      rw[Xg];exact eD
     refine{D,_,E?,l! Kl,_,_,E?,E?,?_};have:=q H3 (s2.trans s3)
     have e:((p! m ts).size:Int)=1+(ts.map λt=>((t.size:Nat):Int)).sum:=by
      rw[gQ];show((au _+1:Nat):Int)=_;lia
     rw[e]at this;exact this
inductive ij(n:Nat)(vs:List V)(H:Hp)(Q:VK)(_E:XK):Prop
 |mk (ta na:Wx) (t:Th) (E0:List (W8×List Nat)) (T0:List Th):vs=[.ref ta,.ref na]->At H t ta->(∀m ks,p! m ks∈t.walk->ks.length<=1000)->(∀p∈t.walk,p.isCall=D?)->t.tall<=n->H na=A? (.dT (kvsOf E0))->Cl E0 T0->T0.length+t.size<=100000->(∀(E1:List (W8×List Nat))(ix:Nat)(H':Hp),SameB na H H'->H' na=A? (.dT (kvsOf E1))->Cl E1 (post t T0)->(post t T0)[ix]?=A? t->Q (.int (ix:Nat)) H')->ij n vs H Q _E
inductive dQ(n:Nat)(vs:List V)(H:Hp)(Q:VK)(_E:XK):Prop
 |mk (pa tb na:Wx) (p:Th) (es:CLs) (E0:List (W8×List Nat)) (Ls:List Th) (g:Int->Int->Th):vs=[.ref pa,.ref tb,.ref na]->At H p pa->H tb=A? (.dT (dE es))->H na=A? (.dT (kvsOf E0))->Cl E0 Ls->(∀s k:Int,t! s k∈p.walk->cQ es (s,k)=A? (ixC Ls (g s k)))->p.tall<=n->au p.kids<=1000->(∀H':Hp,k! H H'->Q (.int (ixC Ls (p.fill g))) H')->dQ n vs H Q _E
theorem ip:∀n:Nat,bv P w K mg base CX0 (n+1) T.g_41.f T.g_41.d ["tree","numbers"] (ij n)
 |0=>{λ_ _ _ _ h=>by obtain⟨_,_,t,_,_,_,_,_,_,h1,_⟩:=h;have:=t.tall_eq;lia,λ_ _ _ _ _ _ _ _ _ _ _ _ _ h=>by obtain⟨_,_,t,_,_,_,_,_,_,h1,_⟩:=h;have:=t.tall_eq;lia}
 | n+1=>by
   have ih:=ip n;refine T.g_41.F.okA dB λy9 A outer s H vs Q E hr h=>?_;obtain⟨ta,na,t,E0,T0,rfl,hA,hk,zJ,zl,Bx,zb,hsz,q⟩:=h
   refine{_,(ad (am 2 dB.nd (bE (aa (aw ax (pv 0) ac (λ_ _=>rfl)) ae)))
    (ad (bj Xd rfl (bU (aN cL (pv 0) (aY ac) bi)) (pgN 3 dB.nd) (ak (aV (cn W7 Xm Xl br (pv 2) (aa (da (ih) (hr.mono (WD _)) rfl T.g_41.m T.g_41.F.kp T.g_41.b .nil cU (aa (pv 3) (aa (pv 1) ae))) ae)))))
    (ad (am 2 dB.nd (bR aZ rfl T.n_8 XA (aa (pv 2) ae)))
    (ad (bI (iH (dv (cm hr) (pv 2) (pv 1))) (ak (fV (cm hr) (pv 1) (pv 2) (aB gR rfl T.n_1 Xj (aa (pv 1) ae)) rfl)) aW)
    (ak (aD (dF (cm hr) (pv 1) (pv 2) (λ_ _=>rfl)))))))),?_}
   try dsimp only[zu,yX]
   cases t with
   |call s0 k0=>have:=zJ _ (by rw[E!];exact WM ..);cases this
   | knot m ts =>
     rw[y!]at zl;rw[At]at hA;walk_at"a";obtain⟨D1,CY,ea,AM⟩:=hA;refine kZ ?_;have hsz:T0.length+(au ts+1)<=100000:=hsz;have Cf:CY.length=ts.length:=AM.length;have hl:=hk m ts (by rw[E!];exact WM ..);have kn:∀{b:Wx}{xs:List V},H b=A? (.tup xs)->b≠na:=λe=>aF e Bx (λz=>nomatch z);refine{_,E?,ta,_,0,.str m,E?,E?,i! ea,at0,lnE rfl,λen Ej=>?_};refine cu Ej λH1 s1 e1=>?_;dsimp only[av];have zg:en≠na:=λz=>by rw[z,Bx]at Ej;cases Ej
     refine{_,E?,1,E?,ta,_,E?,i! (s1 _ _ ea),?_,λp2 zt=>?_}
     .rintro⟨z,_⟩;rw[WV,show(1:Int)=((1:Nat):Int)by rfl,x!]at z;lia
     rw[cg];refine cu zt λH2 s2 e2=>?_;have Af:=s1.trans s2;have LU:=s2 _ _ e1;refine{p2,E?,{_,i! e2},?_};have OT:p2≠na:=aF e2 (Af _ _ Bx) (λz=>nomatch z);have OU:p2≠en:=aF e2 LU (λz=>nomatch z)
     refine uw (K:=K) (a:=p2) (xs:=CY.map j!) (λi σ H3=>Ex3 λ(c3:Option V)(ids:List Nat)(E3:List (W8×List Nat))=>An6 (σ=[A? (.ref ta),A? (.ref na),A? (.ref en),c3]) ((∀b o,b≠na->b≠en->H2 b=A? o->H3 b=A? o)) (H3 en=A? (.lst (.str m::ids.map nV))) (H3 na=A? (.dT (kvsOf E3))) (Cl E3 (aQ (ts.take i) T0)) (Xb (λu id=>(aQ (ts.take i) T0)[id]?=A? u) (ts.take i) ids))
      {B?,[],E0,rfl,λb o _ _ e=>e,LU,Af _ _ Bx,by rw[YM,aQ];exact zb,.nil} (λi σ H3 _⟨_,_,_,_,f3,_,_,_,_⟩=>i! (f3 _ _ OT OU e2)) ?_ ?_
     .rintro i x σ H3 hx ⟨c3,ids,E3,rfl,f3,e3,OV,CN,Ae⟩;obtain⟨ua,rfl,Cq⟩:=bw hx;obtain⟨u,hu,Cr⟩:=AM.get Cq;have Ap:=Ww hu;have GO:=cN Ap;have Kv:∀x∈u.walk,x∈(p! m ts).walk:=eE Ap;have U8:KT H H3:=λb xs e=>f3 b _ (kn e) (aq e Ej) (Af _ _ e);have hlen:=(fX (au (ts.take i))).2 (ts.take i) T0 (WD _);have AX:au (ts.take i)+u.size<=au ts:=jQ hu;dsimp only[av];refine{_,E?,.inl {E?,_,l! e3},_,E?,_,E?,ua,na,u,E3,_,E?,Cr.mono U8,λm' yZ h'=>hk m' yZ (Kv _ h'),λp hp=>zJ p (Kv p hp),by lia,OV,CN,by lia,λE4 ix H4 DO Ea U9 AS=>?_};have U':=DO _ _ zg e3;refine{en,_,_,E?,E?,U',aT (by rw[WV,Wt,<-WS Ae,Xy];lia),?_}
      have CG:aQ (ts.take (i+1)) T0=post u (aQ (ts.take i) T0):=by
       rw[take_snoc hu,dX,aQ,aQ]
      obtain⟨M,hM,_⟩:=(gX u CN.closed CN.nd).1;refine{_,ids++[ix],E4,E?,λb o hb1 hb2 e=>?_,?_,?_,by rw[CG];exact U9,?_}
      .rw[aj hb2];exact DO _ _ hb1 (f3 _ _ hb1 hb2 e)
      .rw[af,W3];rfl
      .rw[aj zg.symm];exact Ea
      .rw[CG,take_snoc hu];refine v! (r! (λx id h=>?_) Ae) (.cons AS .nil);rw[hM,Xk (glE h)];exact h
     .rintro σ H3 ⟨c3,ids,E3,rfl,f3,e3,OV,CN,Ae⟩;rw[Wt,Cf,YJ]at CN Ae;have Gk:ts.length=ids.length:=WS Ae;refine{_,E?,en,_,E?,.inl {l! e3,λep Va=>?_}};refine cu Va λH4 s4 e4=>?_;dsimp only[av];have Ea:=s4 _ _ OV;have ek:H4 ep=A? (.tup ((dW (m,ids)).map kV)):=by rw[lC];exact e4
      have hlen:=(fX (au ts)).2 ts T0 (WD _);have Lg:E3.length<=200000:=by rw[CN.len];lia
      have AR:∀{H5:Hp},SameB na H4 H5->SameB na H H5:=λs b o hb e=>s b o hb (s4 _ _ (f3 b o hb (aq e Ej) (Af _ _ e)));have Vb:=CN.closed
      have Wk:∀u∈(p! m ts).kids,u∈aQ ts T0:=λu hu=>by
       obtain⟨i,hi⟩:=WK.mp (show u∈ts from hu);obtain⟨id,_,h⟩:=u! Ae hi;exact Ww h
      have Bw:=post_eq (p! m ts) T0;cases hv:bC (kvsOf E3) (dW (m,ids))with
      | some u =>
        obtain⟨i0,rfl,Ng⟩:=lw hv;have Li:=CN.found Ng (iy Ae);rw[b! (show p! m ts∈aQ (p! m ts).kids T0 from Ww Li)]at Bw;have Bw:post (.knot m ts) T0=aQ ts T0:=Bw;refine{_,E?,_,E?,na,_,E?,G! Ea ek,?_};refine{_,E?,?_};rw[hv];refine cV {_,rfl,_,rfl,na,.int (i0:Nat),rfl,by rw[<-hv];exact G! Ea ek,?_};exact q E3 i0 H4 (AR M!) Ea (by rw[Bw];exact CN) (by rw[Bw];exact Li)
      | none =>
        obtain⟨EU,CZ⟩:=iE hv
        have Vc:p! m ts∉aQ ts T0:=λz=>by
         obtain⟨j,hj⟩:=WK.mp z;have Dd:j<E3.length:=by rw[CN.len];exact(glE hj)
         obtain⟨e,he⟩:∃e,E3[j]?=A? e:={_,Wv Dd};obtain⟨kids,h1,h2⟩:=CN.ent j e he;rw[hj]at h1;injection h1 with h1;injection h1 with h1 h3;refine EU ?_
         have DS:e.2=ids:=by
          refine YH λs=>?_;rw[<-h3]at h2;cases hs:ts[s]? with
          | none =>
            have l2:=WS h2;rw[List.getElem?_eq_none_iff]at hs;rw[XJ (by lia),XJ (by lia)]
          | some u =>
            obtain⟨a1,g1,_,g2⟩:=w! h2 hs;obtain⟨a2,g3,g4⟩:=u! Ae hs;rw[g1,g3,db CN.nd g2 g4]
         have:e=(m,ids):=Prod.ext h1.symm DS;rw[<-this];exact Ww he
        rw[a! (show p! m ts∉aQ (p! m ts).kids T0 from Vc)]at Bw;have Bw:post (.knot m ts) T0=aQ ts T0++[.knot m ts]:=Bw;have MJ:=CN.snoc EU (iy Ae);refine{_,E?,_,E?,na,_,E?,G! Ea ek,?_};refine{_,E?,?_};rw[hv];refine dY {_,rfl,na,_,rfl,Ea,_,rfl,_,rfl,na,_,rfl,DPut.t Ea ek (aT (by rw[fG];lia)),?_};rw[fG,CZ];have HI:(upd H4 na (.dT (kvsOf (E3++[(m,ids)])))) na=A? (.dT (kvsOf (E3++[(m,ids)]))):=af;have Rg:(upd H4 na (.dT (kvsOf (E3++[(m,ids)])))) ep=A? (.tup ((dW (m,ids)).map kV)):=(aj (aF ek Ea (λz=>nomatch z))).trans ek;have G9:SameB na H4 (upd H4 na (.dT (kvsOf (E3++[(m,ids)])))):=z!;generalize(upd H4 na (.dT (kvsOf (E3++[(m,ids)]))))=H5 at HI Rg G9 |-
        have Vd:bC (kvsOf (E3++[(m,ids)])) (dW (m,ids))=A? (.int ((E3.length:Nat):Int)):=by
         rw[<-CZ];exact(kT _ _ _ _).trans (b! rfl)
        refine{_,E?,_,E?,na,.int ((E3.length:Nat):Int),E?,by rw[<-Vd];exact G! HI Rg,?_};refine q _ E3.length H5 (AR G9) HI (by rw[Bw];exact MJ) ?_;rw[Bw,CN.len,Xu (WD _),Zu];rfl
theorem iX:∀n:Nat,bv P w K mg base CX0 (n+1) T.g_42.f T.g_42.d ["pattern","table","numbers"] (dQ n)
 |0=>{λ_ _ _ _ h=>by obtain⟨_,_,_,p,_,_,_,_,_,_,_,_,_,_,h1,_⟩:=h;have:=p.tall_eq;lia,λ_ _ _ _ _ _ _ _ _ _ _ _ _ h=>by obtain⟨_,_,_,p,_,_,_,_,_,_,_,_,_,_,h1,_⟩:=h;have:=p.tall_eq;lia}
 | n+1=>by
   have ih:=iX n;refine T.g_42.F.okA jc λy9 A outer s H vs Q E hr h=>?_;obtain⟨pa,tb,na,p,es,En,Ls,g,rfl,hA,Ey,Bx,zb,hc,zl,hsz,q⟩:=h
   refine{_,(ad (bI (aG cO (aw ax (pv 0) ac (λ_ _=>rfl)) gJ (aO _)) (ak (aD (dF (cm hr) (pv 1) (bg (aa (aw ax (pv 0) ac (λ_ _=>rfl)) (aa (aw ax (pv 0) ac (λ_ _=>rfl)) ae))) (λ_ _=>rfl)))) aW)
    (ad (am 3 jc.nd (ay dR (bg (aa (aw ax (pv 0) ac (λ_ _=>rfl)) ae)) (bR aZ rfl T.n_8 XA (aa (aX (N:=["part","table","numbers"]) (js:=[B?,A? 1,A? 2]) (g:=(av 0)) (tt:=aI) (te:=(gd (dQ _) [] E0 (bZ (bf 0) (bZ (bf 1) (bZ (bf 2) gm))))) rfl (bA rfl (by decide +kernel) (by decide +kernel) rfl rfl rfl) (bU (aN cL (pv 0) (aY ac) bi)) (λ_ _ _ _ _ _=>(pgN 0 yc)) (aC rfl) (λ_ _ _ _ _ _=>aK) (λ_ _ _ _ _ _=>(da (ih) (hr.mono (WD _)) rfl T.g_42.m T.g_42.F.kp T.g_42.b .nil cU (aa (pv 0) (aa (pv 1) (aa (pv 2) ae)))))) ae))))
    (ak (aD (oR (cm hr) (pv 2) (pv 3) (oN nk ac) ⟨E?,E?,E?,E?⟩))))),?_}
   try dsimp only[zu,yX]
   cases p with
   | call s0 k0 =>
     have hg:=hc s0 k0 (by rw[E!];exact WM ..);rw[At]at hA;refine{_,E?,pa,_,0,.str (WE "?"),E?,E?,i! hA,at0,E?,_,E?,?_};rw[d! (show B! (WE "?")=B! (WE "?")from rfl)];refine dY {_,rfl,_,rfl,pa,_,1,_,rfl,rfl,i! hA,at1,_,rfl,pa,_,2,_,rfl,rfl,i! hA,at2,lnE rfl,λkp C2=>?_};refine cu C2 λH1 s1 e1=>?_;have ek:H1 kp=A? (.tup ((ky (s0,k0)).map kV)):=e1;have hv:bC (dE es) (ky (s0,k0))=A? (.int (ixC Ls (g s0 k0))):=by rw[fU,hg];rfl
     refine{tb,_,E?,by rw[<-hv];exact G! (s1 _ _ Ey) ek,?_};have:=q H1 s1;rw[D!]at this;exact this
   | knot m ts =>
     rw[y!]at zl;rw[At]at hA;walk_at"a";obtain⟨D1,CY,ea,AM⟩:=hA;refine kZ ?_;have hsz:au ts<=1000:=hsz;have Q4:=dj ts;have Cf:CY.length=ts.length:=AM.length;refine{_,E?,pa,_,0,.str m,E?,E?,i! ea,at0,E?,_,E?,?_};rw[c! (show¬B! m=B! (WE "?")fromλz=>D1 (V.str.inj z))];refine cV {_,rfl,pa,_,0,.str m,rfl,rfl,i! ea,at0,lnE rfl,λp1 Am=>?_};refine cu Am λH1 s1 e1=>?_;refine{_,E?,1,E?,pa,_,E?,i! (s1 _ _ ea),?_,λp2 zt=>?_}
     .rintro⟨z,_⟩;rw[WV,show(1:Int)=((1:Nat):Int)by rfl,x!]at z;lia
     dsimp only;rw[cg];refine cu zt λH2 s2 e2=>?_;have Af:=s1.trans s2;refine{p2,E?,{_,i! e2},bP (zs:=ts) (f:=λt=>o! (ixC Ls (t.fill g))) (i! e2) (by rw[Wt];lia) (by rw[Wt];lia) (λi x z Hx R W' hx zp sx hR=>?_) (λD H3 hD s3 eD=>?_)}
     .obtain⟨ua,rfl,Cq⟩:=bw hx;obtain⟨u,hu,Cr⟩:=AM.get Cq;rw[hu]at zp;have zp:u=z:=WN zp;subst zp;have Ap:=Ww hu;have zW:=Af.trans sx;have GO:=cN Ap;have Q5:=dm Ap;have FT:=u.size_eq;exact{_,E?,_,E?,_,E?,ua,tb,na,u,es,En,Ls,g,E?,Cr.mono (n! zW),zW _ _ Ey,zW _ _ Bx,zb,λs k hm=>hc s k (eE (t:=.knot m ts) Ap _ hm),by lia,by lia,λH4 s4=>hR H4 s4}
     refine{D,_,E?,.inl {l! eD,λtp Bq=>?_}};refine cu Bq λH4 s4 e4=>?_;refine oq (s4 _ _ (s3 _ _ (s2 _ _ e1))) e4 (by rw[Wt];show 1+ts.length<=1000000;lia) λp H5 s5 e5=>?_;dsimp only[av];have Ex:=Af.trans (s3.trans (s4.trans s5));have hk:=wZ zb m (fills g ts)
     have ek:H5 p=A? (.tup ((.inr m::(fills g ts).map λu=>(Xh (ixC Ls u):Key)).map kV)):=by
      rw[dq,W9,Xg,Xg];exact e5
     refine{_,E?,na,E?,.inr {_,.inl (Ex _ _ Bx)},_,E?,_,E?,_,G! (Ex _ _ Bx) ek,?_};have:=q H5 Ex;rw[D!]at this;have e:(-1:Int)=-(1:Int):=rfl;rw[<-e,hk];exact this
inductive i7(tp:Wx)(vs:List V)(H:Hp)(Q:VK)(_E:XK):Prop
 |mk (ba wa:Wx) (ins:List (W8×Int)) (head:Th) (rows:List (List Th)) (t:Th) (ar:W8->Nat):vs=[.ref ba,.ref wa]->WBk H ins head rows ba->At H t wa->WCd ins rows t ar->TabSt H tp (de bd) g7->(∀(r:Wx)(v:V)(H':Hp),SameT tp H H'->TabSt H' tp (de bd) g7->H' r=A? (.tup [v,.bl C?])->Over ins rows (post t [])->Q (.ref r) H')->(∀(r l:Wx)(ps:List Wx)(F St:List NtE)(H':Hp),SameT tp H H'->TabSt H' tp (de bd) g7->H' r=A? (.tup [.ref l,.bl D?])->H' l=A? (.lst (ps.map j!))->Xb (λ(e:NtE)p=>H' p=A? (.tup [.ref e.na,.ref e.ta])) St ps->(∀e∈St,NtA H' e)->PInv ins rows (post t []) F St (ClAll ins St.length)->(∀e∈F,e∈St)->Q (.ref r) H')->i7 tp vs H Q _E
theorem ni(L:Lam mg base T.g_22.tc T.g_22.tp):bv P w K mg base CX0 12 T.g_45.f T.g_45.d ["book","wish"] (i7 T.g_22.tp):=by
 refine T.g_45.F.okA cY λy9 A outer s H vs Q E hr h=>?_;obtain⟨ba,wa,ins,head,rows,t,ar,rfl,hB,hA,hc,BU,q1,q2⟩:=h
 refine{_,(ad (am 2 cY.nd m8)
  (ad (am 3 cY.nd mj)
  (ad (vC (Ch:=T.e_Many) (tb:=λR=>(qq (um (gG T.e_Table T.e_Ways T.e_Many T.g_22.tp) [] R (bZ (bf 0) (bZ (bf 1) gm))) (av 2))) (ts:=(qq (tC (.bl C?)) (av 3))) (λY R=>(ak (am 2 cY.nd (tR (nL T L) (hr.mono (by first|decide|lia)) rfl T.g_23.m T.g_23.F.kp T.g_23.b .nil (aa (pv 0) (aa (pv 1) ae)))))) (λea oe=>(ak (am 3 cY.nd mj))) rfl rfl rfl T.x_Many)
  (ak (aD (bg (aa (pv 2) (aa (pv 3) ae)))))))),?_}
 try dsimp only[zu,yX]
 dsimp only[qq,tC,av,wY];refine pG (λzz c H2=>An5 (zz=[A? (.ref ba),A? (.ref wa),A? .non,A? (.bl D?)]) (c=.ref T.e_Many) (SameT T.g_22.tp H H2) (TabSt H2 T.g_22.tp (de bd) g7) (Over ins rows (post t []))) (λR' hR=>?_) ?_
 .refine{_,E?,_,E?,ba,wa,ins,head,rows,t,ar,E?,hB,hA,hc,BU,λH2 s2 t2 ho=>hR _ _ _ ⟨E?,E?,s2,t2,ho⟩,λl ps F St H2 s2 t2 el AW LV hp yW=>?_};refine{_,E?,_,E?,lnE rfl,λr BO=>?_};exact cu BO λH3 s3 e3=>q2 r l ps F St H3 (s2.trans (s3.t _)) (t2.mono s3) e3 (s3 _ _ el) (r! (λ_ _ h=>s3 _ _ h) AW) (λe he=>(LV e he).mono (n! s3)) hp yW
 .rintro zz c H2 ⟨rfl,rfl,s2,t2,ho⟩;refine{_,E?,⟨T.X_Many,T.hit_Many_Many⟩,?_};refine{_,E?,_,E?,lnE rfl,λr BO=>?_};exact cu BO λH3 s3 e3=>q1 r .non H3 (s2.trans (s3.t _)) (t2.mono s3) e3 ho
inductive eX(vs:List V)(H:Hp)(Q:VK)(_E:XK):Prop
 |mk (ba nl na:Wx) (a:Nat) (Et:List Wx) (ins:List (W8×Int)) (head:Th) (rows:List (List Th)) (us Ls:List Th) (En:List (W8×List Nat)) (nm:W8):vs=[.ref ba,.int (a:Nat),.ref nl,.ref na]->WBk H ins head rows ba->BkC ins rows->ins[a]?=A? (nm,((us.length:Nat):Int))->Fits ins us->H nl=A? (.lst (Et.map j!))->Xb (NtC ins rows Ls H) us Et->H na=A? (.dT (kvsOf En))->Cl En Ls->(∀(r:Wx)(H':Hp),k! H H'->NtC ins rows Ls H' (.knot nm us) r->Q (.ref r) H')->eX  vs H Q _E
theorem eM:bv P w K mg base CX0 10 T.g_43.f T.g_43.d ["book","at","notes","numbers"] eX:=by
 refine T.g_43.F.okA cC λy9 A outer s H vs Q E hr h=>?_;obtain⟨ba,nl,na,a,Et,ins,head,rows,us,Ls,En,nm,rfl,hB,hC,ha,hF,Br,Ah,Bx,zb,q⟩:=h
 refine{_,(ad (am 4 cC.nd dI)
  (ad (bj Xd rfl (bL rfl T.n_5 (aa (aB az rfl T.n_1 Xj (aa (pv 2) ae)) ae)) (pgN 5 cC.nd) (ak (bj Xd rfl (bL rfl T.n_5 (aa (aB az rfl T.n_1 Xj (aa (aw ax (pv 0) ac (λ_ _=>rfl)) ae)) ae)) (pgN 6 cC.nd) (ak (fV (cm hr) (pv 4) (bg (aa (pv 6) (aa (pv 5) ae))) (aw ax (aw aS (pv 2) (pv 5) (λ_ _=>rfl)) (pv 6) (λ_ _=>rfl)) rfl)))))
  (ak (aD (bR aZ rfl T.n_8 XA (aa (aX (N:=["row","table","numbers","at"]) (js:=[B?,A? 4,A? 3,A? 1]) (g:=(av 0)) (tt:=aI) (te:=(gd (dQ _) [] E0 (bZ (tOp (dL K) (bf 0) (bf 3)) (bZ (bf 1) (bZ (bf 2) gm))))) rfl (bA rfl (by decide +kernel) (by decide +kernel) rfl rfl rfl) (bU (aw ax (pv 0) ac (λ_ _=>rfl))) (λ_ _ _ _ _ _=>(pgN 0 xL)) (aC rfl) (λ_ _ _ _ _ _=>aK) (λ_ _ _ _ _ _=>(pcF T.g_42 (iX T 3) hr (aa (aw ax (pv 0) (pv 3) (λ_ _=>rfl)) (aa (pv 1) (aa (pv 2) ae)))))) ae)))))),?_}
 try dsimp only[zu,yX]
 walk_at"a";obtain⟨ia,Cd,ra,v2,zi,zd,b1,b2,b3,b4,b5,b6⟩:=hB.ex;refine kZ ?_;have zV:ins.length=zi.length:=WS b3;have Dk:rows.length=zd.length:=WS b5;have Ci:us.length=Et.length:=WS Ah;have LS:=hC.gi.le;have JJ:=hC.rl;have zF:=(hC.gi.num _ (Ww ha)).2;dsimp only at zF;intro tb IQ;dsimp only[av];refine cu IQ λH1 s1 e1=>?_;refine{_,E?,nl,_,E?,.inl (l! (s1 _ _ Br)),_,E?,by lia,by rw[Wt];lia,?_};rw[Wt,WU];refine bX (lo:=0) (n:=Et.length) (λk σ Ha=>Ex3 λ(c5 c6:Option V)(es:CLs)=>An4 (σ=[A? (.ref ba),A? (.int (a:Nat)),A? (.ref nl),A? (.ref na),A? (.ref tb),c5,c6]) (SameB tb H1 Ha) (Ha tb=A? (.dT (dE es))) (TabC ins rows Ls us k 0 es)) {B?,B?,[],rfl,M!,e1,TabC.nil} ?_ ?_
 .rintro k σ Ha hk ⟨c5,c6,es,rfl,sa,Ey,ht⟩;rw[Int.zero_add];walk_at"a";obtain⟨qa,KU⟩:∃qa,Et[k]?=A? qa:={_,Wv hk};obtain⟨u,hu,eq⟩:=w! Ah KU;refine kZ ?_;have LW:=dH hF u (Ww hu);have Rh:KT H1 Ha:=λb xs z=>sa b _ (aF z e1 (λy=>nomatch y)) z;refine{_,E?,ba,_,3,.ref ra,E?,E?,i! (Rh _ _ (s1 _ _ b1)),at3,ra,_,E?,.inr (i! (Rh _ _ (s1 _ _ b4))),_,E?,by lia,by rw[Wt];lia,?_};rw[Wt,WU];refine bX (lo:=0) (n:=zd.length) (λj σ Hb=>Ex2 λ(c6:Option V)(es:CLs)=>An4 (σ=[A? (.ref ba),A? (.int (a:Nat)),A? (.ref nl),A? (.ref na),A? (.ref tb),A? (.int (k:Nat)),c6]) (SameB tb H1 Hb) (Hb tb=A? (.dT (dE es))) (TabC ins rows Ls us k j es)) ⟨c6,es,rfl,sa,Ey,ht⟩ ?_ ?_
  .rintro j σ Hb hj ⟨c6,es,rfl,sb,Ey,ht⟩;rw[Int.zero_add];have Lj:j<rows.length:=by lia
   have Ve:KT H1 Hb:=λb xs z=>sb b _ (aF z e1 (λy=>nomatch y)) z;have AZ:=sb _ _ (aF (s1 _ _ Br) e1 (λy=>nomatch y)) (s1 _ _ Br);have zQ:=ql hu Lj LW Ls;have Cy:=ht.1;have Wl:k * rows.length<=60 * 1000:=Nat.mul_le_mul (by lia) JJ;refine{_,E?,_,E?,nl,_,(k:Nat),.ref qa,E?,E?,l! AZ,bp (gmE KU),_,E?,qa,_,(j:Nat),.int (ixC Ls (ce ins rows us (j:Int) (k:Int))),E?,E?,i! (Ve _ _ (s1 _ _ eq)),bp (gmE zQ),_,E?,_,E?,_,E?,lnE rfl,λkp C2=>?_};refine cu C2 λHc sc ec=>?_;have ek:Hc kp=A? (.tup ((ky ((j:Int),(k:Int))).map kV)):=ec;refine{tb,_,E?,DPut.t (sc _ _ Ey) ek (aT (by unfold dE;rw[Wt];lia)),?_};rw[kf];exact{_,_,E?,sb.trans ((A! sc).trans z!),af,ht.put}
  .rintro σ Hb ⟨c6,es,rfl,sb,Ey,ht⟩;rw[<-Dk]at ht;exact{_,_,_,E?,sb,Ey,ht.next}
 .rintro σ Ha ⟨c5,c6,es,rfl,sa,Ey,ht⟩;have Kw:k! H Ha:=λb o z=>sa b o (aq z IQ) (s1 _ _ z);rw[<-Ci]at ht;refine{_,E?,ba,_,3,.ref ra,E?,E?,i! (Kw _ _ b1),at3,ra,E?,{_,i! (Kw _ _ b4)},bP (zs:=rows) (f:=λrow=>o! (ixC Ls ((row.getD a bh).fill (ce ins rows us)))) (i! (Kw _ _ b4)) (by rw[Wt];exact Dk) (by rw[Wt];lia) (λi x z Hx R W' hx zp sx hR=>?_) (λD H5 hD s5 eD=>?_)}
  .walk_at"a";obtain⟨rj,rfl,FC⟩:=bw hx;obtain⟨row,zC,Kk,D4,D5⟩:=w! b5 FC;refine kZ ?_;rw[zC]at zp;have zp:row=z:=WN zp;subst zp;have D6:=Ww zC;have Aj:a<row.length:=by rw[hC.row row D6];exact(glE ha)
   have Eu:row[a]?=A? (row.getD a bh):=by
    rw[W0,Wv Aj];rfl
   obtain⟨pa,Bv,Dg⟩:=D5.get' Eu;have zW:=Kw.trans sx;have Bq:=hC.tl row D6 _ (Ww Eu);refine{_,E?,_,E?,rj,_,(a:Nat),.ref pa,E?,E?,i! (zW _ _ D4),bp (gmE Bv),_,E?,_,E?,pa,tb,na,_,es,En,Ls,ce ins rows us,E?,Dg.mono (n! zW),sx _ _ Ey,zW _ _ Bx,zb,λs k hm=>?_,Bq.1,by have:=(row.getD a bh).size_eq;lia,λH6 s6=>hR H6 s6};obtain⟨⟨k',rfl,zm⟩,s',rfl,Bg⟩:=hC.cl a nm _ ha row D6 s k hm;exact ht.2 s' k' Bg (by lia) (.inl (by lia))
  refine{D,_,E?,.inl {l! eD,λtp Bq=>?_}};refine cu Bq λH6 s6 e6=>?_;refine q tp H6 (Kw.trans (s5.trans s6)) ?_;have AS:=iA hC.gi ha;unfold NtC noteC;rw[cE,AS,Xg,Xg];exact e6
inductive fN(n:Nat)(vs:List V)(H:Hp)(Q:VK)(_E:XK):Prop
 |mk (ba ta na:Wx) (ins:List (W8×Int)) (head:Th) (rows:List (List Th)) (t:Th) (Ls:List Th) (En:List (W8×List Nat)):vs=[.ref ba,.ref ta,.ref na]->WBk H ins head rows ba->At H t ta->BkC ins rows->t.Fit ins->t.tall<=n->H na=A? (.dT (kvsOf En))->Cl En Ls->(∀(r:Wx)(H':Hp),k! H H'->NtC ins rows Ls H' t r->Q (.ref r) H')->fN n vs H Q _E
theorem iK:∀n:Nat,bv P w K mg base CX0 (n+11) T.g_44.f T.g_44.d ["book","tree","numbers"] (fN n)
 |0=>{λ_ _ _ _ h=>by obtain⟨_,_,_,_,_,_,t,_,_,_,_,_,_,_,h1,_⟩:=h;have:=t.tall_eq;lia,λ_ _ _ _ _ _ _ _ _ _ _ _ _ h=>by obtain⟨_,_,_,_,_,_,t,_,_,_,_,_,_,_,h1,_⟩:=h;have:=t.tall_eq;lia}
 | n+1=>by
   have ih:=iK n;refine T.g_44.F.okA fR λy9 A outer s H vs Q E hr h=>?_;obtain⟨ba,ta,na,ins,head,rows,t,Ls,En,rfl,hB,hA,hC,hF,zl,Bx,zb,q⟩:=h
   refine{_,(ad (df (i:=3) (N:=["kid","book","numbers"]) (js:=[B?,A? 0,A? 2]) (g:=(av 0)) (tt:=aI) (te:=(gd (fN _) [] E0 (bZ (bf 1) (bZ (bf 0) (bZ (bf 2) gm))))) fR.nd rfl (Or.inl rfl) rfl (bA rfl (by decide +kernel) (by decide +kernel) rfl rfl rfl) (bU (aN cL (pv 1) (aY ac) bi)) (λ_ _ _ _ _ _=>(pgN 0 yf)) (aC rfl) (λ_ _ _ _ _ _=>aK) (λ_ _ _ _ _ _=>(da (ih) (hr.mono (WD _)) rfl T.g_44.m T.g_44.F.kp T.g_44.b .nil cU (aa (pv 1) (aa (pv 0) (aa (pv 2) ae))))))
    (ad (df (i:=4) (N:=["pair"]) (js:=[B?]) (g:=(av 0)) (tt:=aI) (te:=(tOp (dL K) (bf 0) (tC (.int 0)))) fR.nd rfl (Or.inl rfl) rfl (bA rfl (by decide +kernel) (by decide +kernel) rfl rfl rfl) (bU (aw ax (pv 0) ac (λ_ _=>rfl))) (λ_ _ _ _ _ _=>(pgN 0 oz)) (aC rfl) (λ_ _ _ _ _ _=>aK) (λ_ _ _ _ _ _=>(aw ax (pv 0) ac (λ_ _=>rfl))))
    (ak (aD (pcF T.g_43 (eM T) hr (aa (pv 0) (aa (cn W7 PySem.F.slot_list_index PySem.F.type_list_index jC (pv 4) (aa (aw ax (pv 1) ac (λ_ _=>rfl)) ae)) (aa (pv 3) (aa (pv 2) ae))))))))),?_}
   try dsimp only[zu,yX]
   cases t with
   |call s0 k0=>rw[F!]at hF;exact hF.elim
   | knot m ks =>
     rw[y!]at zl;rw[F!]at hF;walk_at"a";obtain⟨hm,hK⟩:=hF;obtain⟨a,ha⟩:=WK.mp hm;have zF:=(hC.gi.num _ hm).2;dsimp only at zF;rw[At]at hA;obtain⟨D1,z8,ea,zZ⟩:=hA;have zP:z8.length=ks.length:=zZ.length;obtain⟨ia,Cd,ra,v2,zi,zd,b1,b2,b3,b4,b5,b6⟩:=hB.ex;refine kZ ?_;have zV:ins.length=zi.length:=WS b3;have LS:=hC.gi.le;refine{_,E?,1,E?,ta,_,E?,i! ea,?_,λp2 zt=>?_}
     .rintro⟨z,_⟩;rw[WV,show(1:Int)=((1:Nat):Int)by rfl,x!]at z;lia
     dsimp only;rw[cg];refine cu zt λH2 s2 e2=>?_;refine{p2,E?,{_,i! e2},eK (F:=NtC ins rows Ls) (xs:=z8.map j!) ks (λH1 H2 z p kt h=>kt _ _ h) (by rw[Wt];lia) (by rw[Wt];lia) (λi Hx sx hi=>{_,_,i! (sx _ _ e2),Wv hi}) (λHx sx=>{_,i! (sx _ _ e2),WD _}) (λi Hx x Hy sx hi hy=>{hy.1,hy.2 _ (i! (sx _ _ e2))}) (λi x z Hx R W' hx zp sx hR=>?_) (λkl H3 Cp Kj s3 D0 Bi=>?_)}
     .obtain⟨ua,rfl,Cq⟩:=bw hx;obtain⟨u,hu,Cr⟩:=zZ.get Cq;rw[hu]at zp;have zp:u=z:=WN zp;subst zp;have Ap:=Ww hu;have zW:=s2.trans sx;have GO:=cN Ap;exact{_,E?,_,E?,_,E?,ba,ua,na,ins,head,rows,u,Ls,En,E?,hB.mono (n! zW),Cr.mono (n! zW),hC,dH hK u Ap,by lia,zW _ _ Bx,zb,λr H4 s4 h4=>hR H4 r s4 h4}
     dsimp only[av];have Ac:=s2.trans s3;refine{_,E?,ba,_,0,.ref ia,E?,E?,i! (Ac _ _ b1),at0,ia,E?,{_,i! (Ac _ _ b2)},bP (zs:=ins) (f:=λk=>B! k.1) (i! (Ac _ _ b2)) (by rw[Wt];exact zV) (by rw[Wt];lia) (λi x z Hx R W' hx hz sx hR=>?_) (λnl H4 Ci s4 Br=>?_)}
     .obtain⟨ka,D3,zE⟩:=u! b3 hz;rw[Wz,D3]at hx;cases hx;exact{_,E?,ka,_,0,_,E?,E?,i! (sx _ _ (Ac _ _ zE)),at0,hR Hx (λ_ _ e=>e)}
     dsimp only[av];have Au:=Ac.trans s4;have AZ:H4 nl=A? (.lst ((ins.map (·.1)).map B!)):=by rw[Xg];exact Br
     refine{_,E?,_,E?,.inl {E?,_,l! AZ},_,E?,ta,_,0,.str m,E?,E?,i! (Au _ _ ea),at0,nl,ins.map (·.1),m,a,E?,E?,l! AZ,by rw[Wz,ha];rfl,λi hi e=>?_,by rw[Wt];lia,?_}
     .rw[Wz]at e;obtain⟨k2,zk,e⟩:=W4.mp e;have:=hC.gi.nd _ _ _ _ zk ha e;lia
     refine{_,E?,_,E?,ba,kl,na,a,Cp,ins,head,rows,ks,Ls,En,m,E?,hB.mono (n! Au),hC,ha,hK,s4 _ _ D0,r! (λ_ _ h=>s4 _ _ h) Bi,Au _ _ Bx,zb,λr H5 s5 h5=>q r H5 (Au.trans s5) h5}
inductive fD(vs:List V)(H:Hp)(Q:VK)(_E:XK):Prop
 |mk (l:Wx) (ps:List Wx) (m:Nat):vs=[.ref l,.int (m:Nat)]->H l=A? (.lst (ps.map j!))->ps.length<=30->m<=3->(∀(r:Wx)(rs:List Wx)(AU:List (List Wx))(H':Hp),k! H H'->H' r=A? (.lst (rs.map j!))->Xb (LsR H') AU rs->RowsIn ps m AU->Q (.ref r) H')->fD  vs H Q _E
theorem jy:bv P w K mg base CX0 4 T.g_47.f T.g_47.d ["table","many"] fD:=by
 refine T.g_47.F.okA cp λy9 A outer s H vs Q E hr h=>?_;obtain⟨l,ps,m,rfl,el,hl,hm,q⟩:=h
 refine{_,(ad (bI (aG cO (pv 1) ac (aO _)) (ak (aD (bE (aa (bE ae) ae)))) aW)
  (ad (bI (aG cO (pv 1) ac (aO _)) (ak (aD (aX (N:=["pair"]) (js:=[B?]) (g:=(av 0)) (tt:=aI) (te:=(sV (bZ (bf 0) gm))) rfl (bA rfl (by decide +kernel) (by decide +kernel) rfl rfl rfl) (bz (pv 0)) (λ_ _ _ _ _ _=>(pgN 0 oz)) (aC rfl) (λ_ _ _ _ _ _=>aK) (λ_ _ _ _ _ _=>(bE (aa (pv 0) ae)))))) aW)
  (ad (am 2 cp.nd (bE ae))
  (ad (bj Xd rfl (bz (aN eR (pv 0) bi (aY ac))) (pgN 3 cp.nd) (ak (aV (cn W7 Z1 Z0 jo (pv 2) (aa (aX (N:=["two","one"]) (js:=[B?,A? 3]) (g:=(av 0)) (tt:=aI) (te:=(sV (bZ (bf 1) (bZ (bf 0) gm)))) rfl (bA rfl (by decide +kernel) (by decide +kernel) rfl rfl rfl) (bz (aN eR (pv 0) bi (aY ac))) (λ_ _ _ _ _ _=>(pgN 0 xK)) (aC rfl) (λ_ _ _ _ _ _=>aK) (λ_ _ _ _ _ _=>(bE (aa (pv 1) (aa (pv 0) ae))))) ae)))))
  (ad (bI (aG cO (pv 1) ac (aO _)) (ak (aD (pv 2))) aW)
  (ad (am 4 cp.nd (bE ae))
  (ad (bj Xd rfl (bz (aN eR (pv 0) bi (aY ac))) (pgN 5 cp.nd) (ak (aV (cn W7 Z1 Z0 jo (pv 4) (aa (aX (N:=["row","pair"]) (js:=[B?,A? 5]) (g:=(av 0)) (tt:=aI) (te:=(tOp (xN) (bf 0) (sV (bZ (bf 1) gm)))) rfl (bA rfl (by decide +kernel) (by decide +kernel) rfl rfl rfl) (bz (aN eR (pv 2) bi (aY ac))) (λ_ _ _ _ _ _=>(pgN 0 yr)) (aC rfl) (λ_ _ _ _ _ _=>aK) (λ_ _ _ _ _ _=>(ay wz (pv 0) (bE (aa (pv 1) ae))))) ae)))))
  (ak (aD (pv 4)))))))))),?_}
 try dsimp only[zu,yX]
 refine{_,E?,E?,_,E?,?_};have hF:∀(rl:Wx)(H1 H2:Hp)(z:List Wx)(p:Wx),KT H1 H2->(∀o,H1 p=A? o->H2 p=A? o)->LsR H1 z p/\p≠rl->LsR H2 z p/\p≠rl:=λrl H1 H2 z p _ o h=>{o _ h.1,h.2};by_cases z0:m=0
 .subst z0;rw[d! (show o! ((0:Nat):Int)=o! 0 from rfl)];refine dY {by show 0<=W5;decide,λp hp=>?_};refine cu hp λH1 s1 e1=>{by show 1<=W5;decide,λr BO=>?_};refine cu BO λH2 s2 e2=>?_;exact q r [p] [[]] H2 (s1.trans s2) e2 (.cons (s2 _ _ e1) .nil) λrs h=>by rw[WG.mp h];exact{E?,λx h=>(List.not_mem_nil h).elim}
 rw[c! (show¬o! ((m:Nat):Int)=o! 0 fromλz=>z0 (by have:=V.int.inj z;lia))];refine cV {_,rfl,rfl,_,rfl,?_};by_cases z1:m=1
 .subst z1;rw[d! (show o! ((1:Nat):Int)=o! 1 from rfl)];refine dY {_,rfl,l,rfl,{_,l! el},iV (F:=LsR) (xs:=ps.map j!) (ps.map λx=>[x]) (λH1 H2 z p kt o h=>o _ h) (by rw[Wt,Wt]) (by rw[Wt];lia) (λi Hx sx hi=>{_,_,l! (sx _ _ el),Wv hi}) (λHx sx=>{_,l! (sx _ _ el),WD _}) (λi Hx y Hy sx hi hy=>{hy.1,hy.2 _ (l! (sx _ _ el))}) (λi x z Hx R W' hx zp sx hR=>?_) (λr H2 rs BO s2 er hp=>?_)}
  .obtain⟨y,rfl,hy⟩:=bw hx;rw[Wz,hy]at zp;cases zp;refine{_,E?,by show 1<=W5;decide,λp hp=>?_};exact cu hp λH4 s4 e4=>hR H4 p s4 hp e4
  .refine q r rs _ H2 s2 er hp λxs hx=>?_;obtain⟨y,hy,rfl⟩:=WY.mp hx;exact{E?,λx h=>by rw[WG.mp h];exact hy}
 rw[c! (show¬o! ((m:Nat):Int)=o! 1 fromλz=>z1 (by have:=V.int.inj z;lia))];refine cV {by show 0<=W5;decide,λrl Dk=>?_};refine cu Dk λH1 s1 e1=>?_;refine{_,E?,12,E?,l,_,E?,l! (s1 _ _ el),λtp Bq=>?_};have Kx:cW (ps.map j!) B? (A? 12)=(ps.take 12).map j!:=jI ps 12;rw[Kx];refine cu Bq λH2 s2 e2=>?_;have Af:=s1.trans s2;have LU:=s2 _ _ e1;have N7:tp≠rl:=λz=>by rw[z,e1]at Bq;cases Bq
 refine{tp,E?,{_,l! e2},?_};have Vf:l≠rl:=aq el Dk;have OW:(ps.take 12).length<=12:=by rw[Xy];lia
 refine dh (K:=K) (a:=tp) (xs:=(ps.take 12).map j!) (λi σ H3=>Ex3 λ(c3:Option V)(zd:List Wx)(AU:List (List Wx))=>An6 (σ=[A? (.ref l),A? (.int (m:Nat)),A? (.ref rl),c3,B?,B?]) (SameB rl H2 H3) (H3 rl=A? (.lst (zd.map j!))) (Xb (λxs p=>LsR H3 xs p/\p≠rl) AU zd) (RowsIn ps 2 AU) (AU.length<=i * 12))
  {B?,[],[],rfl,M!,LU,.nil,λrs h=>(List.not_mem_nil h).elim,WD _} (λi σ H8 _⟨_,_,_,_,s8,_,_,_,_⟩=>l! (s8 _ _ N7 e2)) ?_ ?_
 .rintro i x σ H3 hx ⟨c3,zd,AU,rfl,s3,e3,Ae,Ky,C4⟩;obtain⟨y,rfl,hy⟩:=bw hx;have hyp:y∈ps:=Yl (Ww hy);have Vg:i<(ps.take 12).length:=(glE hy);have OQ:=s3 _ _ Vf (Af _ _ el);refine{_,E?,.inl {E?,_,l! e3},_,E?,12,E?,l,_,E?,l! OQ,λt2 E6=>?_};rw[Kx];refine cu E6 λH4 s4 e4=>?_;refine{t2,E?,{_,l! e4},iV (F:=λH xs p=>LsR H xs p/\p≠rl) (xs:=(ps.take 12).map j!) ((ps.take 12).map λx=>[y,x]) (hF rl) (by rw[Wt,Wt]) (by rw[Wt];lia) (λi Hx sx hi=>{_,_,l! (sx _ _ e4),Wv hi}) (λHx sx=>{_,l! (sx _ _ e4),WD _}) (λi Hx y Hy sx hi hy=>{hy.1,hy.2 _ (l! (sx _ _ e4))}) (λi x z Hx R W' hx zp sx hR=>?_) (λD H5 as hD s5 eD Ri=>?_)}
  .obtain⟨v,rfl,hv⟩:=bw hx;rw[Wz,hv]at zp;cases zp;refine{_,E?,_,E?,by show 2<=W5;decide,λp hp=>?_};exact cu hp λH6 s6 e6=>hR H6 p s6 hp {e6,(aq (sx _ _ (s4 _ _ e3)) hp).symm}
  have e5:=s5 _ _ (s4 _ _ e3);have Hs:((ps.take 12).map λx=>[y,x]).length=as.length:=WS Ri;have Vh:AU.length=zd.length:=WS Ae;rw[Wt]at Hs;have Wm:D≠rl:=λz=>by rw[z,s4 _ _ e3]at hD;cases hD
  refine{rl,D,_,_,E?,E?,e5,eD,Yj (aT (by rw[Wt,Wt];lia)),?_};have Rj:∀b o,b≠rl->H3 b=A? o->(upd H5 rl (.lst (zd.map j!++as.map j!))) b=A? o:=λb o hb e=>by rw[aj hb];exact s5 _ _ (s4 _ _ e)
  refine{_,zd++as,AU++(ps.take 12).map λx=>[y,x],E?,λb o hb e=>Rj b o hb (s3 b o hb e),by rw[af,W3],?_,Ky.app λxs hx=>?_,?_}
  .refine v! (r! (λxs p h=>{Rj _ _ h.2 h.1,h.2}) Ae) (r! (λxs p h=>{by unfold LsR;rw[aj h.2];exact h.1,h.2}) Ri)
  .obtain⟨v,hv,rfl⟩:=WY.mp hx;refine{E?,λx h=>?_};rcases WW.mp h with rfl|h
   .exact hyp
   .rw[WG.mp h];exact Yl hv
  .rw[WL,Wt,Zt];lia
 rintro σ H3 ⟨c3,zd,AU,rfl,s3,e3,Ae,Ky,C4⟩
 have Vi:AU.length<=144:=by
  rw[Wt]at C4;have:(ps.take 12).length * 12<=12 * 12:=Nat.mul_le_mul OW (WD _);lia
 have Ac:k! H H3:=λb o e=>s3 _ _ (aq e Dk) (Af _ _ e);refine{_,E?,E?,_,E?,?_};by_cases z2:m=2
 .subst z2;rw[d! (show o! ((2:Nat):Int)=o! 2 from rfl)];refine dY {_,rfl,?_};exact q rl zd AU H3 Ac e3 (r! (λ_ _ h=>h.1) Ae) Ky
 rw[c! (show¬o! ((m:Nat):Int)=o! 2 fromλz=>z2 (by have:=V.int.inj z;lia))];have Ht:m=3:=by lia
 subst Ht;refine cV {by show 0<=W5;decide,λvl HF=>?_};refine cu HF λH4 s4 e4=>?_;refine{_,E?,5,E?,l,_,E?,l! (s4 _ _ (Ac _ _ el)),λt3 GD=>?_};rw[show cW (ps.map j!) B? (A? 5)=(ps.take 5).map j! from jI ps 5];refine cu GD λH5 s5 e5=>?_;have OX:=s4.trans s5;have Vj:=s5 _ _ e4;have Kz:t3≠vl:=λz=>by rw[z,e4]at GD;cases GD
 have Vk:rl≠vl:=aq e3 HF;have KA:Xb (LsR H5) (AU.take 40) (zd.take 40):=P2.take 40 (r! (λ(xs:List Wx)p(h:LsR H3 xs p/\p≠rl)=>(OX _ _ h.1:LsR H5 xs p)) Ae);have Vl:=OX _ _ e3;refine{t3,E?,{_,l! e5},?_};have Hs:(ps.take 5).length<=5:=by rw[Xy];lia
 refine dh (K:=K) (a:=t3) (xs:=(ps.take 5).map j!) (λi σ H6=>Ex3 λ(c5:Option V)(FJ:List Wx)(FK:List (List Wx))=>An6 (σ=[A? (.ref l),A? (.int (3:Nat)),A? (.ref rl),c3,A? (.ref vl),c5]) (SameB vl H5 H6) (H6 vl=A? (.lst (FJ.map j!))) (Xb (λxs p=>LsR H6 xs p/\p≠vl) FK FJ) (RowsIn ps 3 FK) (FK.length<=i * 40))
  {B?,[],[],rfl,M!,Vj,.nil,λrs h=>(List.not_mem_nil h).elim,WD _} (λi σ H8 _⟨_,_,_,_,s8,_,_,_,_⟩=>l! (s8 _ _ Kz e5)) ?_ ?_
 .rintro i x σ H6 hx ⟨c5,FJ,FK,rfl,s6,e6,Hm,OY,Qn⟩;obtain⟨y,rfl,hy⟩:=bw hx;have hyp:y∈ps:=Yl (Ww hy);have Wn:i<(ps.take 5).length:=(glE hy);refine{_,E?,.inl {E?,_,l! e6},_,E?,40,E?,rl,_,E?,l! (s6 _ _ Vk Vl),λt4 Fy=>?_};rw[show cW (zd.map j!) B? (A? 40)=(zd.take 40).map j! from jI zd 40];refine cu Fy λH7 s7 e7=>?_;have OZ:(AU.take 40).length=(zd.take 40).length:=WS KA;have Rk:(AU.take 40).length<=40:=by rw[Xy];lia
  refine{t4,E?,{_,l! e7},iV (F:=λH xs p=>LsR H xs p/\p≠vl) (xs:=(zd.take 40).map j!) ((AU.take 40).map λxs=>xs++[y]) (hF vl) (by rw[Wt,Wt];exact OZ) (by rw[Wt];lia) (λi Hx sx hi=>{_,_,l! (sx _ _ e7),Wv hi}) (λHx sx=>{_,l! (sx _ _ e7),WD _}) (λi Hx y Hy sx hi hy=>{hy.1,hy.2 _ (l! (sx _ _ e7))}) (λi x z Hx R W' hx zp sx hR=>?_) (λD H8 as hD s8 eD Rl=>?_)}
  .walk_at"a";obtain⟨v,rfl,hv⟩:=bw hx;obtain⟨xs,DQ,NH⟩:=w! KA hv;rw[Wz,DQ]at zp;cases zp;have Wo:=Ky xs (Yl (Ww DQ));obtain⟨Vm,_,h3,_⟩:=w! (P2.take 40 Ae) hv;refine kZ ?_;have h3:H3 v=A? (.lst (Vm.map j!)):=h3;have O0:=s6 _ _ (aq h3 HF) NH;have Vn:=sx _ _ (s7 _ _ O0);refine{_,E?,_,E?,by show 1<=W5;decide,λq1 O1=>?_};refine cu O1 λH9 s9 e9=>?_;refine{v,q1,_,_,E?,E?,s9 _ _ Vn,e9,Yj (aT (by rw[Wt];show xs.length+1<=_;lia)),λp hp=>?_};refine cu hp λHb sb eb=>?_;exact hR Hb p (s9.trans sb) (Same.free s9 hp) {by unfold LsR;rw[W3];exact eb,(aq (s9 _ _ (sx _ _ (s7 _ _ e6))) hp).symm}
  have e8:=s8 _ _ (s7 _ _ e6);have Vo:((AU.take 40).map λxs=>xs++[y]).length=as.length:=WS Rl;have Vp:FK.length=FJ.length:=WS Hm;rw[Wt]at Vo;refine{vl,D,_,_,E?,E?,e8,eD,Yj (aT (by rw[Wt,Wt];lia)),?_};have Rm:∀b o,b≠vl->H6 b=A? o->(upd H8 vl (.lst (FJ.map j!++as.map j!))) b=A? o:=λb o hb e=>by rw[aj hb];exact s8 _ _ (s7 _ _ e)
  refine{_,FJ++as,FK++(AU.take 40).map λxs=>xs++[y],E?,λb o hb e=>Rm b o hb (s6 b o hb e),by rw[af,W3],?_,OY.app λxs hx=>?_,?_}
  .refine v! (r! (λxs p h=>{Rm _ _ h.2 h.1,h.2}) Hm) (r! (λxs p h=>{by unfold LsR;rw[aj h.2];exact h.1,h.2}) Rl)
  .obtain⟨v,hv,rfl⟩:=WY.mp hx;have h2:=Ky v (Yl hv);refine{by rw[WL,h2.1];rfl,λx h=>?_};rcases WQ.mp h with h|h
   .exact h2.2 x h
   .rw[WG.mp h];exact hyp
  .rw[WL,Wt,Zt];lia
 rintro σ H6 ⟨c5,FJ,FK,rfl,s6,e6,Hm,OY,Qn⟩;have HH:k! H H6:=λb o e=>s6 _ _ (aq (Ac _ _ e) HF) (OX _ _ (Ac _ _ e));exact{_,E?,q vl FJ FK H6 HH e6 (r! (λ_ _ h=>h.1) Hm) OY}
theorem rP(e:SameO H H')(h:SqL K H a xs):SqL K H' a xs:=by
 rcases h with(h|⟨o,h⟩)|h
 .exact .inl (.inl (e _ _ h (λ_ z=>nomatch z)))
 .exact .inl (.inr {o,e _ _ h (λ_ z=>nomatch z)})
 .exact .inr h
theorem mE{t:Th}(g:GoodN outs)(h:t.FitS outs 0 0):∀m ks,p! m ks∈t.walk->ks.length<=1000:=λm ks hm=>by
 have h1:=lr g h m ks hm
 have h2:arO outs m<=3\/arO outs m=0:=by
  unfold arO;by_cases z:(List.idxOf m (List.map (λk:W8×Int=>k.1) outs))<outs.length
  .refine .inl ?_;rw[W0,Wz,Wv z];have h9:=(g.num _ (XS z)).2;show Int.toNat (Prod.snd (outs[List.idxOf m (List.map (λk:W8×Int=>k.1) outs)]'z))<=3;lia
  .refine .inr ?_;rw[W0,Wz,XJ (by lia)];rfl
 lia
theorem jS{t:Th}(g:GoodN outs)(h:t.FitS outs 0 0):∀p∈t.walk,p.isCall=false:=λp hp=>by
 cases p with
 |knot n ks=>rfl
 |call s k=>have:=fJ g h s k hp;lia
inductive pQ(K:WJ)(tp:Wx)(vs:List V)(H:Hp)(Q:VK)(_E:XK):Prop
 |mk (a:Wx) (ns:List Int):vs=[.ref a]->SqL K H a (ns.map o!)->ns.length<=63->H tp=A? (.tbl #[])->(∀H',Q (.bl C?) H')->pQ K tp vs H Q _E
theorem xm(L:Lam mg base T.g_22.tc T.g_22.tp):bv P w K mg base CX0 90 T.g_48.f T.g_48.d ["script"] (pQ K T.g_22.tp):=by
 refine T.g_48.F.okA dO λy9 A outer s H vs Q E hr h=>?_;obtain⟨a,ns,rfl,hS,Ah,BU,q⟩:=h
 refine{_,(ad (am 1 dO.nd (pcF T.g_30 (nT T) hr (aa (pv 0) (aa ac (aa ac ae)))))
  (ad (am 2 dO.nd (pcF T.g_37 (nJ T) hr (aa (pv 0) (aa (pv 1) ae))))
  (ad (am 3 dO.nd dI)
  (ad (aV (pcF T.g_41 (ip T 70) hr (aa (pv 2) (aa (pv 3) ae))))
  (ad (am 4 dO.nd (pcF T.g_45 (ni T L) hr (aa (pv 1) (aa (pv 2) ae))))
  (ad (bI (cP (aw ax (pv 4) ac (λ_ _=>rfl)) (λ_=>rfl)) (ak (aD mj)) aW)
  (ad (am 5 dO.nd dI)
  (ad (bj Xd rfl (bz (aw ax (pv 4) ac (λ_ _=>rfl))) (pgN 6 dO.nd) (ak (fV (cm hr) (pv 5) (aw ax (pv 6) ac (λ_ _=>rfl)) (pcF T.g_46 (iq T 70) hr (aa (aw ax (pv 6) ac (λ_ _=>rfl)) ae)) rfl)))
  (ad (bj Xd rfl (bL rfl T.n_5 (aa (aB az rfl T.n_1 Xj (aa (aw ax (pv 1) ac (λ_ _=>rfl)) ae)) ae)) (pgN 7 dO.nd) (ak (bj Xd rfl (bz (pcF T.g_47 (jy T) hr (aa (aw ax (pv 4) ac (λ_ _=>rfl)) (aa (aw ax (aw ax (aw ax (pv 1) ac (λ_ _=>rfl)) (pv 7) (λ_ _=>rfl)) ac (λ_ _=>rfl)) ae)))) (pgN 8 dO.nd) (ad (am 9 dO.nd (pcF T.g_43 (eM T) hr (aa (pv 1) (aa (pv 7) (aa (aX (N:=["pair"]) (js:=[B?]) (g:=(av 0)) (tt:=aI) (te:=(tOp (dL K) (bf 0) (tC (.int 0)))) rfl (bA rfl (by decide +kernel) (by decide +kernel) rfl rfl rfl) (bz (pv 8)) (λ_ _ _ _ _ _=>(pgN 0 oz)) (aC rfl) (λ_ _ _ _ _ _=>aK) (λ_ _ _ _ _ _=>(aw ax (pv 0) ac (λ_ _=>rfl)))) (aa (pv 3) ae))))))
  (ak (bI (PW.pt (oY (iH (dv (cm hr) (pv 9) (pv 5))) (li (aG oi (dF (cm hr) (pv 5) (pv 9) (λ_ _=>rfl)) (ay bG ac (aB (fu rfl) rfl T.n_7 Y6 (aa (aX (N:=["pair","sizes"]) (js:=[B?,A? 5]) (g:=(av 0)) (tt:=aI) (te:=(sF (bf 1) (tOp (dL K) (bf 0) (tC (.int 0))))) rfl (bA rfl (by decide +kernel) (by decide +kernel) rfl rfl rfl) (bz (pv 8)) (λ_ _ _ _ _ _=>(pgN 0 xP)) (aC rfl) (λ_ _ _ _ _ _=>aK) (λ_ _ _ _ _ _=>(dF (cm hr) (pv 1) (aw ax (pv 0) ac (λ_ _=>rfl)) (λ_ _=>rfl)))) ae))) (aO _))))) (ak (aD mj)) aW))))))
  (ad (bj Xd rfl (bz (pcF T.g_33 (fc T) hr (aa (aN eR (pv 0) (aY ac) bi) (aa (aw ax (pv 1) ac (λ_ _=>rfl)) (aa ac (aa ac ae)))))) (pgN 10 dO.nd) (ad (am 9 dO.nd (pcF T.g_44 (iK T 40) hr (aa (pv 1) (aa (aw ax (pv 10) ac (λ_ _=>rfl)) (aa (pv 3) ae)))))
  (ak (bI (PW.pt (oY (iH (dv (cm hr) (pv 9) (pv 5))) (li (aG oi (dF (cm hr) (pv 5) (pv 9) (λ_ _=>rfl)) (aw ax (pv 10) ac (λ_ _=>rfl)) (aO _))))) (ak (aD mj)) aW))))
  (ak (aD mj)))))))))))),?_}
 try dsimp only[zu,yX]
 refine{_,E?,a,ns,E?,hS,Ah,λba ins outs head rows H1 s1 hB hK=>?_};dsimp only[av];refine{_,E?,_,E?,a,ba,ns,ins,outs,head,rows,E?,s1.seq hS,Ah,hB,hK,λw wa H2 s2 hw Kr OM=>?_};dsimp only[av];have Af:=s1.trans s2;have Vq:=hB.mono (n! s2);have AX:=mO w;intro na LV;dsimp only[av];refine cu LV λH3 s3 e3=>?_;refine{_,E?,_,E?,wa,na,w,[],[],E?,hw.mono (n! s3),mE hK.go.1 Kr,jS hK.go.1 Kr,by lia,e3,{E?,Y4,λi e h=>by simp at h},by show 0+w.size<=100000;lia,λE1 ix H4 DO Ea zb AS=>?_};dsimp only[av];have Dj:k! H2 H4:=λb o e=>DO b o (aq e LV) (s3 _ _ e);have Au:=Af.trans Dj;have Rn:=Vq.mono (n! Dj);have Ck:=hw.mono (n! Dj);have E5:w∈post w []:=Ww AS;have AO:=hK.wcd Kr OM;have Bj:TabSt H4 T.g_22.tp (de bd) g7:=.inl (Au _ _ BU)
 refine bc (λi' H5=>Ex3 λ(tr:Wx)(v:V)(b:Bool)=>An4 (i'=[A? (.ref a),A? (.ref ba),A? (.ref wa),A? (.ref na),A? (.ref tr),B?,B?,B?,B?,B?,B?]) (SameO H4 H5) (H5 tr=A? (.tup [v,.bl b])) ((b=C?\/(b=D?/\∃(l:Wx)(ps:List Wx)(F St:List NtE),v=.ref l/\H5 l=A? (.lst (ps.map j!))/\Xb (λ(e:NtE)p=>H5 p=A? (.tup [.ref e.na,.ref e.ta])) St ps/\(∀e∈St,NtA H5 e)/\PInv ins rows (post w []) F St (ClAll ins St.length)/\∀e∈F,e∈St)))) (λkk hk=>?_) ?_
 .refine{_,E?,_,E?,ba,wa,ins,head,rows,w,arO outs,E?,Bk48.wbk Rn,Ck,AO,Bj,λr v H5 s5 t5 er ho=>?_,λr l ps F St H5 s5 t5 er el AW O2 hp yW=>?_}
  .exact hk _ _ {r,v,C?,rfl,Bj.sameO s5,er,.inl rfl}
  .exact hk _ _ {r,.ref l,D?,rfl,Bj.sameO s5,er,.inr ⟨rfl,l,ps,F,St,rfl,el,AW,O2,hp,yW⟩}
 rintro i' H5 ⟨tr,tv,tb,rfl,HE,O3,Kz⟩;have O4:=Rn.mono HE.kt;have HI:=HE _ _ Ea (λ_ z=>nomatch z);refine bc (λi' H6=>i'=[A? (.ref a),A? (.ref ba),A? (.ref wa),A? (.ref na),A? (.ref tr),B?,B?,B?,B?,B?,B?]/\H5=H6/\tb=D?) (λkk hk=>?_) ?_
 .refine{_,E?,tr,_,1,.bl tb,E?,E?,i! O3,at1,tb,E?,?_};rcases Kz with rfl|⟨rfl,_⟩
  .exact dY (q H5)
  .exact cV (hk _ _ ⟨rfl,rfl,rfl⟩)
 rintro i' H6 ⟨rfl,rfl,rfl⟩;walk_at"a";obtain⟨l,ps,F,St,rfl,el,AW,GS,hp,yW⟩:=(Kz.resolve_left Bool.noConfusion).2;have Oq:St.length=ps.length:=WS AW;have LX:∀e∈St,Told ins rows (post w []) e:=λe he=>hp.f1 e (hp.s1 e he);obtain⟨ia,oa,ha,ra,zi,zB,zd,bk⟩:=id O4;refine kZ ?_;have zV:ins.length=zi.length:=WS bk.inK;have Hi:=hp.s30;have hC:=hK.bkc;clear Kz;intro sz hsz;dsimp only[av];refine cu hsz λH7 s7 e7=>?_
 refine{_,E?,tr,_,0,.ref l,E?,E?,i! (s7 _ _ O3),at0,l,E?,{_,l! (s7 _ _ el)},?_}
 refine dh (K:=K) (a:=l) (xs:=ps.map j!) (λi σ H8=>Ex2 λ(c6:Option V)(kvs:List (List Key×V))=>An5 (σ=[A? (.ref a),A? (.ref ba),A? (.ref wa),A? (.ref na),A? (.ref tr),A? (.ref sz),c6,B?,B?,B?,B?]) (SameB sz H7 H8) (H8 sz=A? (.dT kvs)) (kvs.length<=i) (SzC (St.take i) kvs))
  {B?,[],rfl,M!,e7,WD _,by intro f hf;rw[YM]at hf;cases hf} (λi σ H8 _⟨_,_,_,s8,_,_,_⟩=>l! (s8 _ _ (aq el hsz) (s7 _ _ el))) ?_ ?_
 .rintro i x σ H8 hx ⟨c6,kvs,rfl,s8,e8,zP,KC⟩;obtain⟨p,rfl,N0⟩:=bw hx;obtain⟨e,he,ep⟩:=w! AW N0;have BY:=Ww he;have Cy:=LX e BY;have Ew:k! H5 H8:=λb o z=>s8 _ _ (aq z hsz) (s7 _ _ z);have zg:=(GS e BY).mono (n! Ew);have CQ:=hp.t2 e (hp.s1 e BY);have Vr:i<St.length:=(glE he);dsimp only[av];refine{_,E?,p,_,1,.ref e.ta,E?,E?,i! (Ew _ _ ep),at1,e.ta,e.t,E?,zg.ta,mE hK.gi.1 (lp e.t.size e.t (WD _) Cy.fit),jS hK.gi.1 (lp e.t.size e.t (WD _) Cy.fit),by lia,λH9 s9=>?_};have KD:=(s9 _ _ zg.na);rw[<-qV]at KD;refine{_,E?,_,E?,p,_,0,.ref e.na,E?,E?,i! (s9 _ _ (Ew _ _ ep)),at0,sz,_,E?,DPut.t (s9 _ _ e8) KD (aT (by lia)),?_};refine{_,_,E?,s8.trans ((A! s9).trans z!),af,?_,?_}
  .have:=tV kvs (kN e.note) (.int ((e.t.size:Nat):Int));lia
  .rw[take_snoc he];exact KC.put (λf hf=>hp.s1 f (Yl hf)) hp.f2 (hp.s1 e BY)
 rintro σ H8 ⟨c6,kvs,rfl,s8,e8,zP,KC⟩;rw[Wt,<-Oq,YJ]at KC;have Ew:k! H5 H8:=λb o z=>s8 _ _ (aq z hsz) (s7 _ _ z)
 have FL:∀u:Th,u.Fit ins->∃z:Nat,bC kvs (kN (noteC ins rows (post w []) u))=A? (.int (z:Int))/\z<=u.size:=λu hu=>by
  obtain⟨f,hf,HW,Wq⟩:=AO.full hp yW u hu;have h1:=KC f hf;rw[HW.noteC (j8 w)]at h1;have h2:=(LX f hf).n;exact{_,h1,by lia}
 have LS:=hC.gi.le
 have Vs:∀e∈St,NtC ins rows (post w []) H5 e.t e.na:=λe he=>by
  unfold NtC;rw[<-(LX e he).note.noteC (j8 w)];exact(GS e he).na
 refine{_,E?,ba,_,0,.ref ia,E?,E?,i! (Ew _ _ bk.bk),at0,ia,_,E?,.inr (i! (Ew _ _ bk.inE)),_,E?,by lia,by rw[Wt];lia,?_};rw[Wt,WU];refine bX (lo:=0) (n:=zi.length) (λi σ H9=>Ex4 λ(c6 c7 c8 c9:Option V)=>An2 (σ=[A? (.ref a),A? (.ref ba),A? (.ref wa),A? (.ref na),A? (.ref tr),A? (.ref sz),c6,c7,c8,c9,B?]) (k! H8 H9)) {c6,B?,B?,B?,rfl,λ_ _ e=>e} ?_ ?_
 .rintro i σ H9 hi ⟨c6,c7,c8,c9,rfl,s9⟩;rw[Int.zero_add];walk_at"a";obtain⟨⟨nm,c⟩,Hw⟩:∃k,ins[i]?=A? k:={_,Wv (by lia)};have zF:=hC.gi.num _ (Ww Hw);dsimp only at zF;obtain⟨m,rfl⟩:∃m:Nat,c=(m:Int):={c.toNat,by lia};obtain⟨ka,zZ,zE⟩:=u! bk.inK Hw;refine kZ ?_;have E':=Ew.trans s9;refine{_,E?,tr,_,0,.ref l,E?,E?,i! (E' _ _ O3),at0,_,E?,ba,_,0,.ref ia,E?,E?,i! (E' _ _ bk.bk),at0,_,E?,ia,_,(i:Nat),.ref ka,E?,E?,i! (E' _ _ bk.inE),bp (gmE zZ),ka,_,1,.int (m:Nat),E?,E?,i! (E' _ _ zE),at1,l,ps,m,E?,E' _ _ el,by lia,by lia,λr rs AU Ee B7 er Vt Vu=>?_};have C7:=E'.trans B7;refine{r,E?,{_,l! er},?_};refine dh (K:=K) (a:=r) (xs:=rs.map j!) (λj σ Ha=>Ex3 λ(c6 c8 c9:Option V)=>An2 (σ=[A? (.ref a),A? (.ref ba),A? (.ref wa),A? (.ref na),A? (.ref tr),A? (.ref sz),c6,A? (.int (i:Nat)),c8,c9,B?]) (k! Ee Ha)) {c6,c8,c9,rfl,λ_ _ e=>e} (λi σ Ha _⟨_,_,_,_,sa⟩=>l! (sa _ _ er)) ?_ ?_
  .rintro j x σ Ha hx ⟨c6,c8,c9,rfl,sa⟩;walk_at"a";obtain⟨q1,rfl,O1⟩:=bw hx;obtain⟨xs,DQ,eq1⟩:=w! Vt O1;have eq1:Ee q1=A? (.lst (xs.map j!)):=eq1;obtain⟨IZ,Vv⟩:=Vu xs (Ww DQ);obtain⟨es,BX,BY⟩:=P2.pick AW xs Vv;refine kZ ?_;have B9:es.length=xs.length:=WS BX;have HJ:=C7.trans sa;have O5:=s9.trans (B7.trans sa)
   have LW:Fits ins (es.map (·.t)):=fits_of λu hu=>by
    obtain⟨e,he,rfl⟩:=WY.mp hu;exact(LX e (BY e he)).fit
   have Vw:(p! nm (es.map (·.t))).Fit ins:=by
    rw[F!];refine{?_,LW};rw[Wt,B9,IZ];exact Ww Hw
   dsimp only[av];refine{_,E?,_,E?,_,E?,q1,E?,{_,l! (sa _ _ eq1)},eK (F:=NtC ins rows (post w [])) (xs:=xs.map j!) (es.map (·.t)) (λH1 H2 z p kt h=>kt _ _ h) (by rw[Wt,Wt];exact B9) (by rw[Wt];lia) (λi Hx sx hi=>{_,_,l! (sx _ _ (sa _ _ eq1)),Wv hi}) (λHx sx=>{_,l! (sx _ _ (sa _ _ eq1)),WD _}) (λi Hx y Hy sx hi hy=>{hy.1,hy.2 _ (l! (sx _ _ (sa _ _ eq1)))}) (λi y z Hx R W' hy hz sx hR=>?_) (λnl Hb Et Ci sb Br Ah=>?_)}
   .obtain⟨p,rfl,AH⟩:=bw hy;obtain⟨e,he,ep⟩:=w! BX AH;rw[Wz,he]at hz;cases hz;have KG:=HJ.trans sx;exact{_,E?,p,_,0,.ref e.na,E?,E?,i! (KG _ _ ep),at0,hR Hx e.na (λ_ _ e=>e) (KG _ _ (Vs e (BY e (Ww he))))}
   have O6:=HJ.trans sb;refine{_,E?,ba,nl,na,i,Et,ins,head,rows,es.map (·.t),post w [],E1,nm,E?,(Bk48.wbk O4).mono (n! O6),hC,by rw[Wt,B9,IZ];exact Hw,LW,Br,Ah,O6 _ _ HI,zb,λnr Hc sc O7=>?_};have O8:=O6.trans sc;have HK:=O5.trans (sb.trans sc);dsimp only[av];obtain⟨z,hv,hz⟩:=FL _ Vw;have Eb:Hc nr=A? (.tup ((kN (noteC ins rows (post w []) (.knot nm (es.map (·.t))))).map kV)):=by rw[qV];exact O7
   refine{_,E?,_,E?,sz,_,E?,G! (HK _ _ e8) Eb,?_};refine{_,E?,?_};rw[hv];refine cV {_,rfl,_,rfl,sz,.int (z:Nat),rfl,by rw[<-hv];exact G! (HK _ _ e8) Eb,?_};have Wr:=O8;refine{_,E?,q1,E?,{_,l! ((sa.trans (sb.trans sc)) _ _ eq1)},fW (zs:=es) (f:=λe=>o! ((e.t.size:Nat):Int)) (l! ((sa.trans (sb.trans sc)) _ _ eq1)) (by rw[Wt];exact B9) (by rw[Wt];lia) (λi y z Hx R W' hy hz sx hR=>?_) (λD Hd hD sd eD=>?_)}
   .obtain⟨p,rfl,AH⟩:=bw hy;obtain⟨e,he,ep⟩:=w! BX AH;rw[he]at hz;have hz:e=z:=WN hz;subst hz;have Ro:=BY e (Ww he);have Ct:=KC e Ro;have KG:=O8.trans sx;have zm:Hx e.na=A? (.tup ((kN e.note).map kV)):=by rw[qV];exact KG _ _ (GS e Ro).na
    exact{_,E?,_,E?,p,_,0,.ref e.na,E?,E?,i! (KG _ _ ep),at0,sz,_,E?,by rw[<-Ct];exact G! (sx _ _ (HK _ _ e8)) zm,hR Hx (λ_ _ e=>e)}
   have Kl:Hd D=A? (.lst ((es.map λe=>((e.t.size:Nat):Int)).map o!)):=by rw[Xg];exact eD
   refine{D,_,E?,l! Kl,_,_,E?,E?,?_};have Dc:z<=au (es.map (·.t))+1:=hz;refine{_,_,E?,E?,_,E?,?_};rw[c! (show¬(1+(es.map λe=>((e.t.size:Nat):Int)).sum<(z:Int))fromλy=>by rw[wv]at y;lia)];exact cV {_,_,_,rfl,sa.trans (sb.trans (sc.trans sd))}
  .rintro σ Ha ⟨c6,c8,c9,rfl,sa⟩;exact{_,_,_,_,E?,s9.trans (B7.trans sa)}
 .rintro σ H9 ⟨c6,c7,c8,c9,rfl,s9⟩;have E':=Ew.trans s9;have Vx:SqL K H9 a (ns.map o!):=E'.seq (rP HE (Au.seq hS));refine{_,E?,1,E?,a,_,E?,Vx,λp AH=>?_};refine cu AH λEe B7 Rp=>?_;have C7:=E'.trans B7
  obtain⟨ms,Ks⟩:∃ms:List Int,cW (ns.map o!) (A? 1) B?=ms.map o!:=by
   unfold cW;rw[<-List.map_drop,<-List.map_take];exact{_,E?}
  have LN:ms.length<=63:=by
   have:=eN (ns.map o!) (A? 1) B?;rw[Ks,Wt,Wt]at this;lia
  rw[Ks]at Rp;refine{_,E?,ba,_,0,.ref ia,E?,E?,i! (C7 _ _ bk.bk),at0,p,ms,ia,zi,ins,6,12,E?,l! Rp,LN,i! (C7 _ _ bk.inE),bk.inK.mono (n! C7),hK.gi.g,by decide,by decide,by decide,λr es ts Mg Mf er hE hG h1 U1=>?_};have O9:=C7.trans Mf;refine{r,E?,{_,l! er},?_};refine dh (K:=K) (a:=r) (xs:=es.map j!) (λj σ Ha=>Ex5 λ(c6 c7 c8 c9 By:Option V)=>An2 (σ=[A? (.ref a),A? (.ref ba),A? (.ref wa),A? (.ref na),A? (.ref tr),A? (.ref sz),c6,c7,c8,c9,By]) (k! Mg Ha)) {c6,c7,c8,c9,B?,rfl,λ_ _ e=>e} (λi σ Ha _⟨_,_,_,_,_,_,sa⟩=>l! (sa _ _ er)) ?_ ?_
  .rintro j x σ Ha hx ⟨c6,c7,c8,c9,By,rfl,sa⟩;walk_at"a";obtain⟨e1,rfl,Vy⟩:=bw hx;obtain⟨t0,Er,b0,Lp,Of⟩:=w! hE Vy;refine kZ ?_;have gt:=hG t0 (Ww Er);have CQ:t0.tall<=40:=by have:=gt.tall;lia
   have HJ:=O9.trans sa;have O5:=s9.trans (B7.trans (Mf.trans sa));dsimp only[av];refine{_,E?,_,E?,e1,_,0,.ref b0,E?,E?,i! (sa _ _ Lp),at0,_,E?,ba,b0,na,ins,head,rows,t0,post w [],E1,E?,(Bk48.wbk O4).mono (n! HJ),Of.mono (n! sa),hC,gt.fit,CQ,HJ _ _ HI,zb,λnr Hc sc O7=>?_};have O8:=HJ.trans sc;have HK:=O5.trans sc;dsimp only[av];obtain⟨z,hv,hz⟩:=FL _ gt.fit;have Eb:Hc nr=A? (.tup ((kN (noteC ins rows (post w []) t0)).map kV)):=by rw[qV];exact O7
   refine{_,E?,_,E?,sz,_,E?,G! (HK _ _ e8) Eb,?_};refine{_,E?,?_};rw[hv];refine cV {_,rfl,_,rfl,sz,.int (z:Nat),rfl,by rw[<-hv];exact G! (HK _ _ e8) Eb,?_};refine{_,E?,e1,_,2,_,E?,E?,i! ((sa.trans sc) _ _ Lp),at2,?_};refine{_,_,E?,E?,_,E?,?_};rw[c! (show¬(((t0.size:Nat):Int)<(z:Int))fromλy=>by lia)];exact cV {_,_,_,_,_,rfl,sa.trans sc}
  .rintro σ Ha ⟨c6,c7,c8,c9,By,rfl,sa⟩;exact q Ha
end
theorem walk{l:PySem.W.OpenLaw}{q:Xa}{d:DefRec}{K:Params->WJ}(hn:l.most=A? 63)(EF:d.params.defaults=[])(hd:d.name="law")(hY:∀(w:Xq)(h:XT),YP w h->(K w.params).In h){ts:List Wx}(hT:∀(w:Xq)(h:XT),YP w h->∀P∈ts,h.get? P=A? (PySem.W.tabObj #[]))(he:∀P:Params,ts=HD.lg (K P))
 (F:∀(w:Xq)(mg:W8->Option WA)(h:XT),(K w.params).In h->h.Ns Yg mg->TX (K w.params) mg):PySem.W.WalkO q loose XP YP l.row.toRowW d [] (λf vs=>PySem.call f vs) :=
 L2.ur (n:=63) (k:=90) (x:="script") (CX:=λ_=>CX0) (sp:=λw T=>pQ (K w.params) T) hn (by decide) EF {rfl,by decide,by decide} hY hT he (λw mg fa h KX G hm=>by
  have T:=F w mg h KX G;obtain⟨_,_,_,_,_,_,_,_,_,e,_⟩:=T.g_48.F.ex;rw[hd]at hm;have e2:T.g_48.f=fa:=(Value.ref.inj (WN (hm.symm.trans T.g_48.m))).symm;subst e2;exact{_,_,_,λs v=>by rw[e];exact .of_eq rfl,T.g_22.t,T.g_22.u,λbase _ _ L=>xm T L}) (λ_ _ _ a ns hl hS hT=>{a,ns,rfl,hS,hl,hT,λ_=>rfl}) λ_ _ _ _ _ z=>z
end LAW
open PySem PySem.W PyProof.Rows
set_option maxRecDepth 100000 in
theorem PySem.Challenge.cw_boughbook_k47_whole_notes_are_closed_holds : PySem.Challenge.rw_boughbook_k47_whole_notes_are_closed.Holds := by
 w_on;(refine holds_law LAW.ws λVz=>?_);(refine holds_open (q:=LAW.vw) (N:=90000) (loose:=[]) (XP:=XL LAW.vw []) (Yf:=Hook.obs (kmHook LAW.d0.heap_1 LAW.ks LAW.ke LAW.ts)) (Ya:=Hook.val (kmHook LAW.d0.heap_1 LAW.ks LAW.ke LAW.ts)) (YP:=Hook.says (kmHook LAW.d0.heap_1 LAW.ks LAW.ke LAW.ts)) (Xt:=LAW.xt) (HD.sy (by kernel_rfl) (by kernel_rfl) (λ_=>by kernel_rfl) LAW.lk0 LAW.lk1 LAW.lk2 LAW.lk3 LAW.lk4 LAW.lk5 (HD.Pc.km LAW.kp LAW.kt)) (Hook.of (kmHook LAW.d0.heap_1 LAW.ks LAW.ke LAW.ts)) (Hook.keeps (kmHook LAW.d0.heap_1 LAW.ks LAW.ke LAW.ts)) (λs e=>xl_of s (Bool.and_eq_true_iff.mp e).1) XL.keeps (by rfl) (by rfl) (by rfl) (λs e=>recFacts_of (Bool.and_eq_true_iff.mp e).2) (by rfl) (by assumption) (by decide +kernel) {rfl,rfl,rfl,rfl,rfl,by decide +kernel} ?_ ?_);w_witness2
 k_fill
 exact LAW.walk (l:=PySem.Challenge.rw_boughbook_k47_whole_notes_are_closed) rfl rfl rfl (λw h Y=>PySem.W.km_in_of Y) (λw h Y=>PySem.W.km_tabs_of Y) LAW.te λw mg h x g=>by constructor <;> first|exact LAW.fx x g|exact LAW.bn x g|exact LAW.fm|exact LAW.na|exact by k_is|exact LAW.gn x g|exact{by k_is,by k_is,by k_is,by k_is}|exact{by k_is,by k_is}|exact LAW.cs x g|exact LAW.ci x g|k_exc|kts_exm|exact LAW.fmt
