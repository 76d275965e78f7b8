import PyProof.Rows.All
import Wide.All
import OpenK.AllK
import Wide.FinOn
import Lean
import PyProof.EqAt
import PyProof.EqKinds
import PyProof.TupleCall
import KE.KNestM
import KE.KRevIter
import PyProof.ListNew
import PyProof.Draws
import PyProof.EnumMake
import PyProof.Rows.EnumRows
import PyProof.ZipIter
import PyProof.ConsumeWalk
import KE.LcSums
import PyProof.AttrMissHeap
import KE.KDictOf
import PyProof.DictWalks
import PyProof.ListMulRoad
import PyProof.FactsAll.tuple
import PyProof.NeKinds
import KE.RegKTryMore
import KE.RegKIsAll
import PyProof.StrWalks
import PyProof.Rows.SetFrom
import PyProof.FString5
import Wide.Txt
import PyProof.Rows.SeqMore
import PyProof.StrOps2
import KE.KEqDict
import PyProof.CollectIter
import PyProof.JoinWalk
import PyProof.CallStr
import PyProof.DictRoadsH
import PyProof.MeetsDictList
import PyProof.DictTruth
import PyProof.StrLawsChain
import PyProof.StrCalls6
import PyProof.ToksMono
import PyProof.StrCalls2
import KE.KWords
import PyProof.MeetsStr2
import KE.KLam
import KE.KDictLaws
import PyProof.DictItems
import PyProof.DictValues
import PyProof.DictItemsLoops
import KE.BitLaws
import KE.KMinKey
import PyProof.ListRange
import PySem.Challenge.RW_boughbook_k48_whence_it_comes
set_option maxHeartbeats 0
set_option Elab.async false
set_option linter.all false
set_option maxRecDepth 100000
set_option genInjectivity false
set_option genSizeOf false
open List renaming length_map->Vu,getElem?_eq_getElem->Vw,mem_of_getElem?->Vx,getElem?_map->VA,mem_singleton->VH,length_append->VJ,mem_iff_getElem?->VL,size_toArray->VM,mem_cons_self->VO,mem_append->VP,mem_cons_of_mem->VR,mem_cons->VS,mem_append_left->VT,length_cons->VU,mem_map->VX,getD_eq_getElem?_getD->V0,map_append->V3,map_cons->V6,mem_append_right->V9,length_singleton->Wa,getElem?_append_left->Wj,map_map->Wk,replicate->Wv,getElem?_append_right->Ww,length_take->WA,nodup_cons->WG,length_drop->WO,getElem_mem->WQ,getElem?_eq_none->WR,take_of_length_le->WX,reverse_cons->WZ,getElem?_set_self->W5,getElem?_set_ne->W6,nodup_append->Xa,length->Xd,getElem?_eq_some_iff->Xe,range->Xf,lookup_cons->Xl,getElem?_zip_eq_some->Xp,replicate_succ->Xs,take_add_one->Xu,mem_filter->Xy,map_nil->XI,take_length->XJ,length_eq_zero_iff->XO,length_set->XR,dropLast_concat_getLast->XS,reverse_append->XY,all_eq_true->X2,take_zero->X6,reverse_reverse->Yh,ext_getElem?->Yi,append_assoc->Yj,length_reverse->Yn,filterMap_cons->Yo,nodup_nil->Yt,mem_flatMap->Yu,reverse_singleton->YB,mem_zipIdx_iff_getElem?->YG,length_nil->YH,singleton_append->YL,flatten_cons->YO,range'->YV,pairwise_append->YW,of_mem_zip->Y6,length_zip->Y7,forIn_cons->Y8,find?_cons->Y9,append_nil->Za,zip_cons_cons->Zb,lookup->Zd,getElem?_cons_succ->Ze,map->Zh,drop_zero->Zi,filter_cons->Zn,any_eq_true->Zo,map_congr_left->ZD,idxOf_lt_length_of_mem->ZI,mem_range->ZT,mem_filterMap->ZU,pairwise_iff_getElem->ZY
open PySem renaming wpAny_bind->Vv,Addr->Vy,Value->Vz,wpAny_pure->VC,Shared->VF,wpAny->VW,sizeLine->V4,Str->V5,Program->V8,model->Wb,Paired->Wc,boot_len->Wi,World->Wm,Around->Wr,starEach->Wu,Expr->WB,wpAny_newObj_type->WC,wpAny_field->WE,wpAny_callSpecial?_slot->WJ,wpAny_call_entry->WM,Heap->WS,wpAny_holding->WT,wpAny_Call_Name_kw->W2,wpAny_seqItems->Xc,mainGlobals->Xg,wpAny_mono->Xm,sysModules->Xn,wpAny_updateSeq->Xq,mem_of_lookup->Xr,compareOp->Xv,Obj->Xw,eval->XD,wpAny_setField_rec->XN,rawInt->XX,wpAny_dictEntries->X0,NameKind->X5,cLine->Yd,FuncData->Yk,IsPair->Yl,wpAny_truthy_bool->Yp,wpAny_letGo->Yq,binaryOp->Yr,plainId_quiet->Yx,backTo->Yy,Scope->Yz,Builtin->YC,wpAny_typeNameOfWhole_itemiter->YD,pyNext->YE,Pos->YF,wpAny_typeNameOfWhole_keyiter->YN,wpAny_pyIter_tuple->YR,wpAny_passesOwn->YT,codeAny_builtin->YU,codeAny->Y0,sizeLine_eq->Y2,wpAny_typeNameOf_itemiter->Zc,wpAny_typeNameOf_keyiter->Zf,attributeBase->Zg,wpAny_dictEpoch->Zl,tupleKind_room_in1->Zm,wpAny_typeOf->Zq,wpAny_tryCatch->Zr,wpAny_pyIter_slot->Zs,getItem->Zt,firstArgMember->Zu,Stmt->Zv,wpAny_rule->ZF,DictEntry->ZK,wpAny_attempt->ZL,OsState->ZM,sliceBounds->ZO,bindArgs->ZP,wpAny_execs_nil->ZX,codeAny_mono->Z6,bootBuiltins->Z7
open PySem.Heap renaming get?_push_of_some->VB,get?_push_size->VI,lt_size->V2,get?_update_self->WU,size_push->WY,SameBut->W3,get?_update_other->W8,size_update->ZJ
open PySem.W renaming Frag->VD,findIn->Xk,kia_one->Xx,emptyDict->XF,kla_obj->X9,instObj->Yb,boot_heap->Ye,keepIn->Ys,fnOf->ZG,tabObj->ZQ,callWith_K->ZR
open PySem.Str renaming ofString->VE
open Nat renaming le_refl->VG,ne_of_lt->We,zero_le->Wh,lt_of_lt_of_le->Wx,le_trans->Wz,lt_irrefl->W0,pow_le_pow_right->XB,le_of_lt->XH,mul_le_mul_right->Yg,ne_of_gt->YA,sub_self->YY,lt_trans->YZ,not_lt_zero->Y5,two_pow_pos->ZA,succ_mul->ZH,not_lt->ZS
open Option.some renaming inj->VN
open Int renaming toNat_natCast->VQ,emod_lt_of_pos->Wg,emod_nonneg->Wl,eq_ofNat_of_zero_le->Yv,natCast_nonneg->ZV
open Bool renaming false_ne_true->VY,and_eq_true->XM,false_eq_true->X7,eq_iff_iff->ZC,not_eq_true'->Z4,eq_false_iff->Z5
open PySem.Paired renaming length->VZ
open Option renaming map_eq_some_iff->V1
open PySem.F renaming plainAttrs_list->V7,type_list_append->Wn,slot_list_append->Wo,slot_dict_itemiterator_next->Xh,plain_extend_loop->Xz,plain_min_loop->XG,slot_dict_keyiterator_next->X3,type_list_pop->YI,slot_list_pop->YJ,slot_dict_itemiterator_iter->YQ,slot_tuple_iterator_next->Y3,slot_dict_setdefault->Zz,slot_zip_next->Z0,entry_extend_loop->Z3,args_tuple_add_2->Z8
open Array renaming length_toList->Wd,getElem?_eq_getElem->X8,getElem?_toList->YM,getElem?_eq_some_iff->YX,getElem?_eq_none->Zk,any_eq_true'->ZW
open PySem.Value renaming ref->Wf,none->W7,type->YS
open PySem.PassesOwn renaming never->Wq,leaving->Zw
open Sum renaming inl->Wt
open PySem.Builtin.SmallTypes renaming nextOf->WD,ownedTupleIsFree->WK
open PyProof.Rows renaming slot_tuple_getitem->WH,boot_tuple->WN,callWith_type1->WW,envOfC->Yw,boot_sum->YK
open PySem.Builtin renaming bitAnd->WL,bitNot->W9,bitOr->XT
open PySem.Obj renaming mapSeq->WV
open PySem.NameKind renaming free->W4,cell->ZN
open PySem.Heap.SameBut renaming update->Xb
open PySem.Builtin.Slice renaming slicePlaces->Xi,sliceAdjust->Ym,sliceApplied->Y4
open PySem.Builtin.Tuple renaming tupleExact->Xj
open PySem.Value.type renaming inj->Xo
open False renaming elim->XA
open Ne renaming symm->XC
open PySem.Calls renaming spliced_cons->XE,spliced_nil->X1,callWith_builtin->Zx
open True renaming intro->XQ
open PySem.Builtin.List renaming listTooLong->XU,listExtendWith->Y1,listSameRef->Zj,listItems->Zy
open PySem.AutoSeq1 renaming wpAny_loadPart'->XW
open PySem.Around renaming under_plainId->XZ
open PySem.Builtin.Dict_items renaming ownsTuple->X4
open ForInStep renaming yield->Yc
open List.cons renaming inj->Zp
open PySem.Builtin.Dict renaming showsAll->ZE
open Classical renaming byContradiction->Z1
open Sum.inl renaming inj->Z2
open Or renaming inl->Z9
open Option renaming some->A?,none->AQ
open Bool renaming true->B?,false->C?
theorem D?.{u}{α:Sort u}{a:α}:a=a:=rfl
variable{w:Wm}{m i t' j n B ep:Nat}{h base h':WS}{α β κ:Type}{a f b c l it pl C sl d z tp l1 l2 i1 i2 nl al wl CT CW:Vy}{loose N ps:List V5}{as ch fp S:List Vy}{K:VD}{e tg iter elt:WB}{P prog:V8}{x qual name nm p1 p2:V5}{us its:List Vz}{u vl vu:Vz}{M:Model}{A:Wr}{E Q:Vz->VF->Prop}{s' s:VF}{pos pos':YF}{pins:List (Vy×Xw)}{op:CmpOp}{st:Zv}{body:List Zv}{lo hi:Option Int}{ns Z:List Int}{kw:List (V5×Vz)}{env:Env}{mg:V5->Option Vz}{outer:List Env}{fd:Yk}{kindOf:V5->Option X5}{sc scope:Yz}{params:Arguments}{items ys:Array Vz}{XP:(V5->Option Vz)->WS->Prop}{YP:Wm->WS->Prop}{js:List (Option Nat)}{cl:List (V5×Vy)}{ifs elts:List WB}{W:List (Int×Int×Vy)}{cell:Int}{ins outs:List (V5×Int)}{ids:List Nat}{ar:V5->Nat}{vs:List (κ×Vz)}
def a!:=@if_neg
def b!:=@if_pos
def c!:=@decide_eq_false
def d!:=@decide_eq_true
def e!:=@of_decide_eq_true
def g!:=@absurd
def h!:=@congrArg
namespace HD
open PySem PySem.W PySem.Calls PyProof.Rows
def j3(tb:String->Option YC)(p:V8)(w:Wm)(m:Nat)(ann:Option Vz):Nat->SharedT->Thread->Option SharedT
 |0,_,_=>AQ
 | n+1,s,t=>match through t with
   |true=>A? s
   | false=>match stepOk m ann t with
     |false=>AQ
     | true=>match stepT (denote tb) p w s t with
       |some (s',t')=>j3 tb p w m ann n s' t'
       |none=>AQ
theorem lq{tb:String->Option YC}{p:V8}{ann:Option Vz}:∀{n:Nat}{s s':SharedT}{t:Thread},j3 tb p w m ann n s t=A? s'->topRun tb p w m ann n s.abs t=A? s'.abs
 |0,_,_,_,h=>by cases h
 | n+1,s,s',t,h=>by
   unfold j3 at h;unfold topRun;cases he:through t with
   |true=>rw[he]at h;cases h;rfl
   | false =>
     rw[he]at h;cases hk:stepOk m ann t with
     |false=>rw[hk]at h;cases h
     | true =>
       rw[hk]at h;cases hs:stepT (denote tb) p w s t with
       |none=>rw[hs]at h;cases h
       | some r =>
         obtain⟨s2,t2⟩:=r;rw[hs]at h;rw[stepT_spec hs];exact lq h
def uh:List Xw->Nat->BT->BT
 | [],_,t=>t
 |o::l,n,t=>uh l (n+1) (t.ins n o)
def uC:List Xw->Nat->BT->Bool
 | [],_,_=>B?
 |o::l,n,t=>((t.ins n o).get n).isSome && uC l (n+1) (t.ins n o)
theorem mG:∀(l:List Xw)(n:Nat)(t:BT),uC l n t=B?->(uh l n t).list (n+l.length)=t.list n++l
 | [],n,t,_=>by rw[Za];rfl
 | o::l,n,t,h=>by
   obtain⟨h1,h2⟩:=Bool.and_eq_true_iff.mp h;have e:=absHeap_ins (life:=default) h1
   have e2:(t.ins n o).list (n+1)=t.list n++[o]:=by
    have:=h! (λx:WS=>x.objs.toList) e;simpa[absHeap,Heap.push]using this
   have ih:=mG l (n+1) (t.ins n o) h2;rw[e2,Yj]at ih;rw[VU,show n+(l.length+1)=n+1+l.length by lia];exact ih
theorem wk(ok:uC h.objs.toList 0 .nil=B?):absHeap (uh h.objs.toList 0 .nil) h.objs.size h.life=h:=by
 have e:=mG _ _ _ ok;rw[Nat.zero_add]at e;unfold absHeap;rw[<-Wd,e];rfl
noncomputable abbrev lF(p:V8)(N:Nat)(w:Wm)(os:ZM):Option SharedT :=
 j3 treeTable p w 11 (A? (.ref 6)) N ⟨uh (Ye w.params).objs.toList 0 .nil,11,(Ye w.params).life,Array.mk [],boot_drawn,boot_toks,os⟩ (topStub p)
theorem vn(P:Params):(uC (Ye P).objs.toList 0 .nil,(Ye P).isNs Xg,(Ye P).objs.size,(Ye P).nsMap Xg "__annotations__")=(B?,B?,11,A? (.ref 6)):=by kernel_rfl
theorem map_some{o:Option α}{a:α}{f:α->β}{b:β}(h:o=A? a)(e:o.map f=A? b):f a=b:=by rw[h]at e;exact VN e
abbrev Tr0(p q:V8)(loose:List V5)(Xt:VF->Bool)(N:Nat)(g0:Bool):Prop:=∀(w:Wm)(os:ZM),((lF p N w os).map λs=>(staticsOk (importedModules p.main.body) (Ye w.params) s.abs.heap && namesBound p s.abs.heap && gensDone s.abs && laidKept (Ye w.params) s.abs.heap,s.abs.heap.bltView,pinSeenD q (drecsOf q) s.abs,plainSeenD q loose s.abs,clsSeenW q loose s.abs,(s.abs.heap.accountedOkI (importedModules p.main.body),s.abs.heap.isNs Xg,s.abs.heap.isNs builtinsNs,tablesOk q s.abs.heap,Xt s.abs,(if g0 then s.abs.gens.size == 0 else !leftWithCleanup s.abs.gens))))=A? (B?,bltViewBooted,pinGoodD (drecsOf q),plainGoodD q loose,clsGoodW q loose,(B?,B?,B?,B?,B?,B?))
abbrev Tr1(p q:V8)(N:Nat):Prop:=∀(w:Wm)(os:ZM),((lF p N w os).map λs=>seen ((recsOf q).map (·.name)) (ownsOf q) [] {s.abs with gens:=#[]})=A? (expectedOf q)
abbrev Tr2(p q:V8)(loose:List V5)(N:Nat):Prop:=∀(w:Wm)(os:ZM),((lF p N w os).map λs=>s.abs.heap.keysOk (looseW q loose) ((recsOf q).map (·.name)) ((litsOf q).map (·.1)) ((clssOf q (looseW q loose)).map (·.name)))=A? B?
abbrev Tr3(p q:V8)(N:Nat):Prop:=∀(w:Wm)(os:ZM),((lF p N w os).map λs=>tabsOk q s.abs)=A? B?
abbrev Tr4(p q:V8)(loose:List V5)(N:Nat):Prop:=∀(w:Wm)(os:ZM),((lF p N w os).map λs=>plainSeenE q (looseW q loose) s.abs)=A? (plainGoodE q (looseW q loose))
abbrev Tr5(p q:V8)(N:Nat):Prop:=∀(w:Wm)(os:ZM),((lF p N w os).map λs=>wideSeen q s.abs)=A? (wideGood q)
theorem sj{p q:V8}{Xt:VF->Bool}{Yf:VF->α}{Ya:Wm->α}{N:Nat}{g0:Bool}
 (e:opening p=plainProg p.main.scope.names) (hN:Nat.ble 600 N=B?) (f:∀s,fenceModules? p s=A? s)
 (r0:Tr0 p q loose Xt N g0)
 (r1:Tr1 p q N)
 (r2:Tr2 p q loose N)
 (r3:Tr3 p q N)
 (r4:Tr4 p q loose N)
 (r5:Tr5 p q N)
 (rY:∀(w:Wm)(os:ZM),((lF p N w os).map λs=>Yf s.abs)=A? (Ya w)) :
 LeftO p q loose Xt Yf Ya N g0:=λw=>by
 obtain⟨⟨h,gs,d,k,os⟩,e1,e'⟩:=V1.mp (boot_open e hN f w);obtain⟨rfl,rfl,rfl,rfl⟩:h=Ye w.params/\gs=Array.mk []/\d=boot_drawn/\k=boot_toks:=by simpa using e'
 have Ke:=vn w.params;have z0:=h! Prod.fst Ke;have z1:=h! (λx=>x.2.1) Ke;have z2:=h! (λx=>x.2.2.1) Ke;have z3:=h! (λx=>x.2.2.2) Ke;dsimp only at z0 z1 z2 z3;obtain⟨s1,Ff,hY⟩:=V1.mp (rY w os);have q0:=map_some Ff (r0 w os);have q1:=map_some Ff (r1 w os);have q2:=map_some Ff (r2 w os);have q3:=map_some Ff (r3 w os);have q4:=map_some Ff (r4 w os);have q5:=map_some Ff (r5 w os);have rr:=lq Ff
 have Lo:SharedT.abs ⟨uh (Ye w.params).objs.toList 0 .nil,11,(Ye w.params).life,Array.mk [],boot_drawn,boot_toks,os⟩=⟨Ye w.params,Array.mk [],boot_drawn,boot_toks,os⟩:=by
  unfold SharedT.abs;dsimp only;rw[<-z2,wk z0]
 rw[Lo]at rr;have a0:=h! Prod.fst q0;have a1:=h! (λx=>x.2.1) q0;have a2:=h! (λx=>x.2.2.1) q0;have a3:=h! (λx=>x.2.2.2.1) q0;have a4:=h! (λx=>x.2.2.2.2.1) q0;have b0:=h! (λx=>x.2.2.2.2.2.1) q0;have b1:=h! (λx=>x.2.2.2.2.2.2.1) q0;have b2:=h! (λx=>x.2.2.2.2.2.2.2.1) q0;have b3:=h! (λx=>x.2.2.2.2.2.2.2.2.1) q0;have b4:=h! (λx=>x.2.2.2.2.2.2.2.2.2.1) q0;have b5:=h! (λx=>x.2.2.2.2.2.2.2.2.2.2) q0;dsimp only at a0 a1 a2 a3 a4 b0 b1 b2 b3 b4 b5
 have l2:openSeen q loose (importedModules p.main.body) Xt g0 s1.abs=openGood q loose:=by
  unfold openSeen openGood;rw[q1,a1,q2,b0,b1,b2,b3,b4,b5,q3,a2,q4,a3,q5,a4];rfl
 have t:topFrom treeTable p w N ⟨Ye w.params,Array.mk [],boot_drawn,boot_toks,os⟩=A? s1.abs:=by
  unfold topFrom;dsimp only;rw[z1,z2,z3,rr];show(match staticsOk (importedModules p.main.body) (Ye w.params) s1.abs.heap && namesBound p s1.abs.heap && gensDone s1.abs && laidKept (Ye w.params) s1.abs.heap with|true=>_|false=>_)=_;rw[a0]
 unfold openEnds;rw[e1];show(topFrom treeTable p w N _).map _=_;rw[t];exact h! A? (Prod.ext l2 hY)
def p0:Params:={strHash:=λ_=>0,shareClass:=λ_=>0,mergeTok:=λt=>t,idOf:=λ_=>0,idOfShared:=λ_ _=>0,followText:=λ_=>C?,idOfImm:=λ_=>0}
structure Pc(p:V8)(N:Nat)(as:List Vy)(vs:Wm->List (Option Xw)):Prop where
 out:∀(w:Wm)(os:ZM),((lF p N w os).map λs=>as.map s.abs.heap.get?)=A? (vs w)
theorem Pc.k{p:V8}{N:Nat}{K:Params->Frag}{e:∀P,as=(K P).map (·.1)}(h:Pc p N as λw=>(K w.params).map λp=>A? p.2):∀(w:Wm)(os:ZM),((lF p N w os).map λs=>(kHook K as e).obs s.abs)=A? ((kHook K as e).val w):=h.out
def kQ(K:Frag):List Vy:=K.filterMap λp=>match p.2 with
 | ⟨.type "code",_,.fields vs,_⟩=>(match(vs[11]?:Option Vz)with
   |some (.ref P)=>A? P
   |_=>AQ)
 |_=>AQ
theorem pA{K:Frag}{P:Vy}(h:codeHdIn K c P=B?):P∈kQ K:=by
 unfold codeHdIn at h;split at h
 .rename_i od vs sl e
  have hm:=mem_of_lookupK e;refine ZU.mpr ⟨_,hm,?_⟩;simp only[XM]at h;have h1:=h.1.1.1.1.1;show(match(vs[11]?:Option Vz)with|some (.ref P)=>A? P|_=>AQ)=A? P;split at h1
  .rename_i P' e2
   rw[e2];exact h! A? (beq_iff_eq.mp h1)
  .cases h1
 .cases h
theorem Pc.km{p:V8}{N:Nat}{ts:List Vy}{K:Params->Frag}{e:∀P,as=(K P).map (·.1)}(h:Pc p N as λw=>(K w.params).map λp=>A? p.2)(t:Pc p N ts λ_=>ts.map λ_=>A? (tabObj #[])):∀(w:Wm)(os:ZM),((lF p N w os).map λs=>(kmHook K as e ts).obs s.abs)=A? ((kmHook K as e ts).val w):=λw os=>by
 obtain⟨s,e1,a1⟩:=V1.mp (h.out w os);have a2:=map_some e1 (t.out w os);rw[e1];exact h! A? (Prod.ext a1 a2)
end HD
section
open PySem PySem.W PyProof.Rows
def LAW.vw:V8:=PySem.W.view PySem.Challenge.pw_boughbook_k48_whence_it_comes [1,2,4,5,6,8,9,11,12,13,14,16,17,18,20,21,22,23,24,25,26,27,28,30,31,32,33,34,35,36,37,38,39,40,41,42,43,44,45,46,47,48,49,50]
def LAW.xt(s:VF):Bool:=xlAt LAW.vw [] s && recOk (RowW.records (OpenRow.toRowW (OpenLaw.row PySem.Challenge.rw_boughbook_k48_whence_it_comes))) s
theorem LAW.ws:OpenLaw.wellSaid PySem.Challenge.rw_boughbook_k48_whence_it_comes=true:=by kernel_rfl
theorem LAW.lk0:HD.Tr0 PySem.Challenge.pw_boughbook_k48_whence_it_comes LAW.vw [] LAW.xt 90000 true:=λ_ _=>by kernel_rfl
theorem LAW.lk1:HD.Tr1 PySem.Challenge.pw_boughbook_k48_whence_it_comes LAW.vw 90000:=λ_ _=>by kernel_rfl
theorem LAW.lk2:HD.Tr2 PySem.Challenge.pw_boughbook_k48_whence_it_comes LAW.vw [] 90000:=λ_ _=>by kernel_rfl
theorem LAW.lk3:HD.Tr3 PySem.Challenge.pw_boughbook_k48_whence_it_comes LAW.vw 90000:=λ_ _=>by kernel_rfl
theorem LAW.lk4:HD.Tr4 PySem.Challenge.pw_boughbook_k48_whence_it_comes LAW.vw [] 90000:=λ_ _=>by kernel_rfl
theorem LAW.lk5:HD.Tr5 PySem.Challenge.pw_boughbook_k48_whence_it_comes LAW.vw 90000:=λ_ _=>by kernel_rfl
section
local macro_rules | `(tactic| o_head $_H) => `(tactic| assumption)
theorem LAW.d0(h:OpenRow.Holds (OpenLaw.row PySem.Challenge.rw_boughbook_k48_whence_it_comes)):OpenRow.Holds (OpenLaw.row PySem.Challenge.rw_boughbook_k48_whence_it_comes):=by
 k_head
end
noncomputable def LAW.ks:List Vy:=(LAW.d0.heap_1 HD.p0).map (·.1)
theorem LAW.ke:∀P,LAW.ks=(LAW.d0.heap_1 P).map (·.1):=λ_=>by kernel_rfl
theorem LAW.kp:HD.Pc PySem.Challenge.pw_boughbook_k48_whence_it_comes 90000 LAW.ks λw=>(LAW.d0.heap_1 w.params).map λp=>A? p.2:=⟨λ_ _=>by kernel_rfl⟩
noncomputable def LAW.ts:List Vy:=HD.kQ (LAW.d0.heap_1 HD.p0)
theorem LAW.te:∀P,LAW.ts=HD.kQ (LAW.d0.heap_1 P):=λ_=>by kernel_rfl
theorem LAW.kt:HD.Pc PySem.Challenge.pw_boughbook_k48_whence_it_comes 90000 LAW.ts λ_=>LAW.ts.map λ_=>A? (tabObj #[]):=⟨λ_ _=>by kernel_rfl⟩
end
namespace L2
open PySem PySem.Spec PyProof.Rows
theorem gmE{f:α->β}{l:List α}{x:α}(h:l[i]?=A? x):(l.map f)[i]?=A? (f x):=by rw[VA,h];rfl
theorem glE{l:List α}{x:α}(h:l[i]?=A? x):i<l.length:=(Xe.mp h).1
abbrev Key:=Sum Int V5
def mz:Key->Vz->Bool
 |.inl k,v=>Value.isInt k v
 |.inr x,v=>Value.isStrOf x v
def yz(w:Wm):Key->Int
 |.inl k=>hashInt k
 |.inr x=>hashStr w x
theorem bP:∀{k:Key}{v:Vz},mz k v=B?->(∃i t,k=Wt i/\v=Value.int i t)\/(∃x t,k=Sum.inr x/\v=Value.str x t)
 | .inl i,v,h=>by
   obtain⟨t,e⟩:=Value.isInt_shape (k:=i) (v:=v) h;exact .inl ⟨i,t,rfl,e⟩
 | .inr x,v,h=>by
   obtain⟨t,e⟩:=Value.isStrOf_shape (x:=x) (v:=v) h;exact .inr ⟨x,t,rfl,e⟩
theorem rC(i:Int)(t:Tok):mz (.inl i) (.int i t)=true:=by simp[mz,Value.isInt]
theorem si(x:V5)(t:Tok):mz (.inr x) (.str x t)=true:=by simp[mz,Value.isStrOf]
theorem ww(a b:Int):decide ((Wt a:Key)=Wt b)=(a == b):=by
 by_cases e:a=b
 .subst e;simp
 .have h:¬(Wt a:Key)=Wt b:=λq=>e (Z2 q);rw[c! h];exact(beq_eq_false_iff_ne.mpr e).symm
theorem wK(a b:V5):decide ((Sum.inr a:Key)=Sum.inr b)=decide (a=b):=by
 by_cases e:a=b
 .subst e;simp
 .have h:¬(Sum.inr a:Key)=Sum.inr b:=λq=>e (Sum.inr.inj q);rw[c! h,c! e]
theorem wR(a:Int)(b:V5):decide ((Wt a:Key)=Sum.inr b)=false:=c! (λq=>nomatch q)
theorem xm(a:V5)(b:Int):decide ((Sum.inr a:Key)=Wt b)=false:=c! (λq=>nomatch q)
def bv(prog:V8)(w:Wm):PySem.KeyKind prog w Key where
 is:=mz
 hash:=yz w
 inj:=λv a b ha hb=>by
  rcases bP ha with⟨i,t,rfl,rfl⟩|⟨x,t,rfl,rfl⟩
  .rcases bP hb with⟨j,u,rfl,e⟩|⟨y,u,rfl,e⟩
   .injection e with e1 _;rw[e1]
   .exact nomatch e
  .rcases bP hb with⟨j,u,rfl,e⟩|⟨y,u,rfl,e⟩
   .exact nomatch e
   .injection e with e1 _;rw[e1]
 byValue:=λk v h=>by
  rcases bP h with⟨i,t,rfl,rfl⟩|⟨x,t,rfl,rfl⟩ <;> rfl
 pyHash:=λhv h=>by
  rcases bP hv with⟨i,t,rfl,rfl⟩|⟨x,t,rfl,rfl⟩
  .exact wpAny_pyHash_int h
  .exact wpAny_pyHash_str h
 eqBool:=λhu hv h=>by
  rcases bP hu with⟨i,t,rfl,rfl⟩|⟨x,t,rfl,rfl⟩
  .rcases bP hv with⟨j,u,rfl,rfl⟩|⟨y,u,rfl,rfl⟩
   .rw[ww]at h;exact wpAny_eqBool_int h
   .rw[wR]at h;exact SeqAt.EqAt.int_str i t y u _ _ _ _ h
  .rcases bP hv with⟨j,u,rfl,rfl⟩|⟨y,u,rfl,rfl⟩
   .rw[xm]at h;exact SeqAt.EqAt.str_int x t j u _ _ _ _ h
   .rw[wK]at h;exact wpAny_eqBool_str h
 «strs»:=λk x t v h=>by
  rcases bP h with⟨i,u,rfl,e⟩|⟨y,u,rfl,e⟩
  .exact nomatch e
  .injection e with e1 _;subst e1;cases v <;> rfl
theorem oW(prog:V8)(w:Wm)(i:Int)(t:Tok):(bv prog w).is (.inl i) (.int i t)=true:=rC i t
theorem oU(prog:V8)(w:Wm)(x:V5)(t:Tok):(bv prog w).is (.inr x) (.str x t)=true:=si x t
set_option genInjectivity true in
inductive V where
 |non|bl (b:Bool)|int (i:Int)|str (x:V5)|byt (b:Array UInt8)|flt (b:UInt64)|ref (a:Vy)|ty (n:String)
 deriving DecidableEq
def RelV:V->Vz->Prop
 |.non,u=>u=W7
 |.bl b,u=>u=Value.bool b
 |.int i,u=>∃t,u=Value.int i t
 |.str x,u=>∃t,u=Value.str x t
 |.byt b,u=>∃t,u=Value.bytes b t
 |.flt b,u=>∃t,u=Value.float b t
 |.ref a,u=>u=Wf a
 |.ty n,u=>u=YS n
abbrev Vals:List V->List Vz->Prop:=Wc RelV
theorem Vals.length{xs:List V}(r:Vals xs us):xs.length=us.length:=VZ r
theorem Vals.get:∀{xs:List V}{us:List Vz}{i:Nat}{x:V},Vals xs us->xs[i]?=A? x->∃u,us[i]?=A? u/\RelV x u
 |_,_,_,_,.nil,e=>by simp at e
 |_,_,0,_,.cons r _,e=>by simp at e;subst e;exact⟨_,D?,r⟩
 | _,_,i+1,x,.cons _ t,e=>by
   obtain⟨u,h1,h2⟩:=Vals.get (i:=i) (x:=x) t (by simpa using e);exact⟨u,by simpa using h1,h2⟩
theorem Vals.set{x:V}(r:RelV x u):∀{xs:List V}{us:List Vz}(i:Nat),Vals xs us->Vals (xs.set i x) (us.set i u)
 |_,_,_,.nil=>.nil
 |_,_,0,.cons _ t=>.cons r t
 |_,_,i+1,.cons q t=>.cons q (Vals.set r i t)
theorem Vals.append:∀{xs ys:List V}{us ws:List Vz},Vals xs us->Vals ys ws->Vals (xs++ys) (us++ws)
 |_,_,_,_,.nil,s=>s
 |_,_,_,_,.cons r t,s=>.cons r (Vals.append t s)
theorem Vals.take:∀{xs:List V}{us:List Vz}(n:Nat),Vals xs us->Vals (xs.take n) (us.take n)
 |_,_,0,_=>.nil
 |_,_,_+1,.nil=>.nil
 |_,_,n+1,.cons r t=>.cons r (Vals.take n t)
theorem Vals.drop:∀{xs:List V}{us:List Vz}(n:Nat),Vals xs us->Vals (xs.drop n) (us.drop n)
 |_,_,0,r=>r
 |_,_,_+1,.nil=>.nil
 |_,_,n+1,.cons _ t=>Vals.drop n t
def RelO:Option V->Option Vz->Prop
 |some v,A? u=>RelV v u
 |none,AQ=>True
 |_,_=>False
def KV{κ:Type}:List (κ×V)->List (κ×Vz)->Prop:=Wc λ(p:κ×V)(q:κ×Vz)=>p.1=q.1/\RelV p.2 q.2
def kV:Key->V
 |.inl i=>.int i
 |.inr x=>.str x
set_option genSizeOf true in
inductive HO where
 |lst (xs:List V)
 |tup (xs:List V)
 |dK (kvs:List (Key×V))|dT (kvs:List (List Key×V))
 |set (S:Int->Bool) (n:Nat)
 |ins (C dx:Vy) (fs:List (V5×V))
 |own (x:Vy)
 |xd (fs:List (V5×V))
 |met (f x:Vy)
 |rng (lo hi:Int)
 |frz (o:Xw) (u:HO)
 |tbl (ps:Array Vz)
 |ext (φ:WS->Prop)
abbrev Hp:=Vy->Option HO
def upd(H:Hp)(a:Vy)(o:HO):Hp:=λb=>if b=a then A? o else H b
theorem ac{H:Hp}{o:HO}:upd H a o a=A? o:=by unfold upd;rw[b! rfl]
theorem af{H:Hp}{o:HO}(h:b≠a):upd H a o b=H b:=by unfold upd;rw[a! h]
theorem uQ{H:Hp}{o u:HO}:upd (upd H a o) a u=upd H a u:=by
 funext b;unfold upd;split <;> rfl
theorem aH{H:Hp}{o u:HO}(h:H a=A? o)(h':H b=A? u)(d:o≠u):a≠b:=by
 intro e;subst e;rw[h]at h';exact d (VN h')
theorem aw{H:Hp}{o:HO}(h:H a=A? o)(h':H b=AQ):a≠b:=by
 intro e;subst e;rw[h]at h';cases h'
section
variable(P:V8)(w:Wm)
def ObjOk(H:Hp)(h:WS)(a:Vy):HO->Prop
 |.lst xs=>xs.length<=V4/\∃(its:List Vz)(n:Nat),Vals xs its/\h.get? a=A? {cls:=.type "list",data:=.seq its.toArray n}
 |.tup xs=>xs.length<=V4/\∃(its:List Vz)(n:Nat),Vals xs its/\h.get? a=A? {cls:=.type "tuple",data:=.seq its.toArray n}
 |.dK kvs=>kvs.length<=V4/\(a == Xn)=C?/\∃vs,KV kvs vs/\h.DictOf (bv P w) a vs
 |.dT kvs=>kvs.length<=V4/\(a == Xn)=C?/\∃xs:List (List Key×Vy×Vz),
  Wc (λ(p:List Key×V)(q:List Key×Vy×Vz)=>p.1=q.1/\H q.2.1=A? (.tup (p.1.map kV))/\RelV p.2 q.2.2) kvs xs /\
  ∃o es ep,h.get? a=A? o/\o.ExactDict/\o.data=.dict es ep/\es.toList=xs.map (entryOfKey (tupleKind (bv P w)))/\(xs.map (·.1)).Nodup
 |.set S n=>h.SetOf (intKind P w) a S n
 |.ins C dx fs=>H dx=A? (.own a)/\fs.length<=1000/\dx≠a/\h.get? a=A? (Yb C dx) /\
  ∃mA,h.Ns1 dx mA/\(∀f,RelO (fs.lookup f) (mA f))/\PySem.Within mA (fs.map (·.1))
 |.own _=>∃o,h.get? a=A? o
 |.xd fs=>∃mA,h.Ns1 a mA/\∀f,RelO (fs.lookup f) (mA f)
 |.rng lo hi=>∃t u v,h.get? a=A? {cls:=.type "range",data:=.fields #[.int lo t,.int hi u,.int 1 v]}
 |.frz o u=>h.get? a=A? o/\ObjOk H h a u
 |.tbl ps=>h.get? a=A? {cls:=.none,data:=.fields ps}
 |.met f x=>h.get? a=A? (PySem.W.methodObj (.ref f) (.ref x))
 |.ext φ=>φ h/\(∃o,h.get? a=A? o)/\∀h1 h2:WS,φ h1->(∀o,h1.get? a=A? o->h2.get? a=A? o)->φ h2
def HOk(H:Hp)(h:WS):Prop:=∀a o,H a=A? o->ObjOk P w H h a o
end
section
variable{H H':Hp}{o:HO}
theorem ObjOk.lt(x:ObjOk P w H h a o):a<h.objs.size:=by
 cases o with
 |lst xs=>obtain⟨_,_,_,_,e⟩:=x;exact V2 e
 |tup xs=>obtain⟨_,_,_,_,e⟩:=x;exact V2 e
 |dK kvs=>obtain⟨_,_,_,_,o,_,_,e,_⟩:=x;exact V2 e
 |dT kvs=>obtain⟨_,_,_,_,o,_,_,e,_⟩:=x;exact V2 e
 |set S n=>obtain⟨o,_,_,_,e,_⟩:=x;exact V2 e
 |ins C dx fs=>obtain⟨_,_,_,e,_⟩:=x;exact V2 e
 |own y=>obtain⟨_,e⟩:=x;exact V2 e
 |xd fs=>obtain⟨_,⟨_,_,_,e,_⟩,_⟩:=x;exact V2 e
 |rng lo hi=>obtain⟨_,_,_,e⟩:=x;exact V2 e
 |frz ob u=>obtain⟨e,_⟩:=x;exact V2 e
 |tbl ps=>exact V2 (show h.get? a=A? _ from x)
 |met f y=>exact V2 (show h.get? a=A? _ from x)
 |ext φ=>obtain⟨_,⟨_,e⟩,_⟩:=x;exact V2 e
theorem Wc.mapP{F G:α->β->Prop}:∀{Hl:List α}{l₂:List β},Wc F Hl l₂->(∀a b,F a b->G a b)->Wc G Hl l₂
 |_,_,.nil,_=>.nil
 |_,_,.cons r t,f=>.cons (f _ _ r) (Wc.mapP t f)
theorem ObjOk.stay(x:ObjOk P w H h a o)(k:∀b u,(b=a\/H b=A? (.own a))->h.get? b=A? u->h'.get? b=A? u)
 (ho:∀b,H b=A? (.own a)->H' b=A? (.own a)) (ht:∀b xs,H b=A? (.tup xs)->H' b=A? (.tup xs)):ObjOk P w H' h' a o:=by
 induction o with
 |lst xs=>obtain⟨z,its,n,r,e⟩:=x;exact⟨z,its,n,r,k _ _ (.inl rfl) e⟩
 |tup xs=>obtain⟨z,its,n,r,e⟩:=x;exact⟨z,its,n,r,k _ _ (.inl rfl) e⟩
 |dK kvs=>obtain⟨z,y,vs,r,ob,es,ep,e,c⟩:=x;exact⟨z,y,vs,r,ob,es,ep,k _ _ (.inl rfl) e,c⟩
 | dT kvs =>
   obtain⟨z,y,xs,r,ob,es,ep,e,c⟩:=x;exact⟨z,y,xs,Wc.mapP r λp q z=>⟨z.1,ht _ _ z.2.1,z.2.2⟩,ob,es,ep,k _ _ (.inl rfl) e,c⟩
 |set S n=>obtain⟨ob,es,ep,t,e,c⟩:=x;exact⟨ob,es,ep,t,k _ _ (.inl rfl) e,c⟩
 | ins C dx fs =>
   obtain⟨d,z,ne,e,mA,⟨od,es,ep,e2,c⟩,r⟩:=x;exact⟨ho _ d,z,ne,k _ _ (.inl rfl) e,mA,⟨od,es,ep,k _ _ (.inr d) e2,c⟩,r⟩
 |own y=>obtain⟨ob,e⟩:=x;exact⟨ob,k _ _ (.inl rfl) e⟩
 |xd fs=>obtain⟨mA,⟨od,es,ep,e,c⟩,r⟩:=x;exact⟨mA,⟨od,es,ep,k _ _ (.inl rfl) e,c⟩,r⟩
 |rng lo hi=>obtain⟨t,u,v,e⟩:=x;exact⟨t,u,v,k _ _ (.inl rfl) e⟩
 |frz ob u ih=>obtain⟨e,q⟩:=x;exact⟨k _ _ (.inl rfl) e,ih q⟩
 | tbl ps =>
   have e:h.get? a=A? {cls:=.none,data:=.fields ps}:=x;show h'.get? a=A? {cls:=.none,data:=.fields ps};exact k a _ (.inl rfl) e
 | met f y =>
   have e:h.get? a=A? (PySem.W.methodObj (.ref f) (.ref y)):=x;show h'.get? a=A? (PySem.W.methodObj (.ref f) (.ref y));exact k a _ (.inl rfl) e
 |ext φ=>obtain⟨p,⟨o,e⟩,st⟩:=x;exact⟨st _ _ p λo q=>k _ _ (.inl rfl) q,⟨o,k _ _ (.inl rfl) e⟩,st⟩
theorem HOk.lt(x:HOk P w H h)(e:H a=A? o):a<h.objs.size:=(x a o e).lt
theorem HOk.fresh(x:HOk P w H h)(e:h.objs.size<=a):H a=none:=by
 cases q:H a with
 |none=>rfl
 |some u=>exact g! (Wx (x.lt q) e) (W0 _)
theorem HOk.kept(x:HOk P w H h)(k:∀b u,h.get? b=A? u->h'.get? b=A? u):HOk P w H h':=λa o e =>
 (x a o e).stay (λb u _ q=>k b u q) (λ_ q=>q) λ_ _ q=>q
theorem HOk.laid(x:HOk P w H h)(k:∀b u,h.get? b=A? u->h'.get? b=A? u)(hp:h.objs.size<=a)(new:ObjOk P w (upd H a o) h' a o):HOk P w (upd H a o) h':=λb u e=>by
 have hn:=x.fresh hp;by_cases hb:b=a
 .subst hb;rw[ac]at e;cases e;exact new
 .rw[af hb]at e;exact(x b u e).stay (λc v _ q=>k c v q) (λc q=>by rw[af (aw q hn)];exact q) λc xs q=>by rw[af (aw q hn)];exact q
end
def Rd(H:Hp)(a:Vy)(u:HO):Prop:=H a=A? u\/∃o,H a=A? (.frz o u)
theorem Rd.ok{H:Hp}{u:HO}(r:Rd H a u)(x:HOk P w H h):ObjOk P w H h a u:=by
 rcases r with r|⟨o,r⟩
 .exact x a u r
 .obtain⟨_,q⟩:=x a _ r;exact q
def Mut:Option HO->Prop
 |some (.lst _)=>True
 |some (.dK _)=>True
 |some (.dT _)=>True
 |some (.set _ _)=>True
 |some (.ins _ _ _)=>True
 |some (.ext _)=>True
 |_=>False
section
variable{H:Hp}{x e:Vy}{o':HO}
theorem HOk.write(ok:HOk P w H h)(mu:Mut (H x))(he:e=x\/H e=A? (.own x))(k:∀b u,b≠e->h.get? b=A? u->h'.get? b=A? u)(Gv:∃u,h'.get? e=A? u)
 (new:ObjOk P w (upd H x o') h' x o'):HOk P w (upd H x o') h':=λb u q=>by
 have Hm:∀c y,H c=A? (.own y)->c≠x:=λc y r z=>by subst z;rw[r]at mu;exact mu
 have Lp:∀c xs,H c=A? (.tup xs)->c≠x:=λc xs r z=>by subst z;rw[r]at mu;exact mu
 by_cases hb:b=x
 .subst hb;rw[ac]at q;cases q;exact new
 .rw[af hb]at q;by_cases CA:b=e
  .have q':H b=A? (.own x):=by
    rcases he with z|z
    .exact g! (CA.trans z) hb
    .rw[CA];exact z
   rw[q]at q';cases q';obtain⟨v,hv⟩:=Gv;exact⟨v,by rw[CA];exact hv⟩
  .refine(ok b u q).stay (λc v hc r=>k c v ?_ r) (λc r=>by rw[af (Hm c b r)];exact r) λc xs r=>by rw[af (Lp c xs r)];exact r
   rcases hc with rfl|hc
   .exact CA
   .rintro rfl;rcases he with z|z
    .exact Hm c b hc z
    .rw[hc]at z;cases z;exact hb rfl
end
structure Un(fs ex:List Vy)(H H':Hp)(h h':WS):Prop where
 keep:∀b o,h.get? b=A? o->H b=AQ->b∉fs->b∉ex->h'.get? b=A? o
 slot:∀b o,h.get? b=A? o->H b=AQ->b∈fs->b∉ex->∃sl,h'.get? b=A? {o with slots:=sl}
 free:∀b o,h.get? b=A? o->H b=AQ->b∉ex->H' b=AQ
 there:∀b o,h.get? b=A? o->b∉ex->∃o',h'.get? b=A? o'
 tups:∀b xs,H b=A? (.tup xs)->H' b=A? (.tup xs)
 frzs:∀b o u,H b=A? (.frz o u)->H' b=A? (.frz o u)
 tbls:∀b ps,H b=A? (.tbl ps)->∃more,H' b=A? (.tbl (ps++more))
section
variable{fs QD ex UJ:List Vy}{H H1 H2:Hp}{h1 h2:WS}{x e:Vy}{o:HO}
theorem Un.any(u:Un fs ex H H1 h h1){ob:Xw}(q:h.get? b=A? ob)(n:H b=AQ)(hx:b∉ex):∃sl,h1.get? b=A? {ob with slots:=sl}:=by
 by_cases hb:b∈fs
 .exact u.slot b ob q n hb hx
 .exact⟨ob.slots,u.keep b ob q n hb hx⟩
theorem Un.kept(k:∀b u,h.get? b=A? u->h'.get? b=A? u):Un fs ex H H h h' :=
 ⟨λb ob q _ _ _=>k b ob q,λb ob q _ _ _=>⟨ob.slots,k b ob q⟩,λ_ _ _ n _=>n,λb ob q _=>⟨ob,k b ob q⟩,λ_ _ q=>q,λ_ _ _ q=>q,λ_ ps q=>⟨#[],by rw[q];simp⟩⟩
theorem Un.refl:Un fs ex H H h h:=Un.kept λ_ _ q=>q
theorem Un.laid(k:∀b u,h.get? b=A? u->h'.get? b=A? u)(hp:h.objs.size<=a)(hn:H a=AQ):Un fs ex H (upd H a o) h h' where
 keep:=λb u q _ _ _=>k b u q
 slot:=λb u q _ _ _=>⟨u.slots,k b u q⟩
 free:=λb u q n _=>by rw[af (We (Wx (V2 q) hp))];exact n
 there:=λb u q _=>⟨u,k b u q⟩
 tups:=λb xs q=>by rw[af (aw q hn)];exact q
 frzs:=λb u xs q=>by rw[af (aw q hn)];exact q
 tbls:=λb ps q=>⟨#[],by rw[af (aw q hn),q];simp⟩
theorem Un.write(mu:Mut (H x))(he:e=x\/H e=A? (.own x))(k:∀b u,b≠e->h.get? b=A? u->h'.get? b=A? u)(Gv:∃u,h'.get? e=A? u):Un fs ex H (upd H x o) h h':=by
 have hx:∀b,H b=AQ->b≠x:=λb n z=>by subst z;rw[n]at mu;exact mu
 have hb:∀b,H b=AQ->b≠e:=λb n z=>by
  subst z;rcases he with r|r
  .exact hx b n r
  .rw[n]at r;cases r
 have hm:∀b u,H b=A? u->¬Mut (A? u)->b≠x:=λb u q nm z=>by subst z;rw[q]at mu;exact nm mu
 refine⟨λb u q n _ _=>k b u (hb b n) q,λb u q n _ _=>⟨u.slots,k b u (hb b n) q⟩,λb u q n _=>by rw[af (hx b n)];exact n,λb u q _=>?_,
  λb xs q=>by rw[af (hm b _ q λz=>z)];exact q,λb u xs q=>by rw[af (hm b _ q λz=>z)];exact q,λb ps q=>⟨#[],by rw[af (hm b _ q λz=>z),q];simp⟩⟩
 by_cases CA:b=e
 .subst CA;exact Gv
 .exact⟨u,k b u CA q⟩
end
def trk(h:WS)(H:Hp):List Vy:=(Xf h.objs.size).filter λa=>(H a).isSome
def lM(h:WS)(H:Hp):WS:=PySem.W.hideAll h (trk h H)
theorem sy(h:WS)(H:Hp):(lM h H).objs.size=h.objs.size:=PySem.W.hideAll_size _ _
theorem tO{H:Hp}{o:Xw}(e:h.get? b=A? o)(n:H b=AQ):(lM h H).get? b=A? o :=
 PySem.W.hideAll_get _ e λhm=>by
  have q:(H b).isSome=true:=(Xy.mp hm).2;rw[n]at q;simp at q
theorem vk{H:Hp}{o:Xw}(e:(lM h H).get? b=A? o):h.get? b=A? o/\H b=none:=by
 have e':h.get? b=A? o:=PySem.W.of_hideAll (trk h H) e;refine⟨e',?_⟩;cases q:H b with
 |none=>rfl
 | some x =>
   have hm:b∈trk h H:=Xy.mpr ⟨ZT.mpr (V2 e'),by simp[q]⟩;have z:(lM h H).get? b=none:=PySem.W.hideAll_none (trk h H) hm;rw[z]at e;cases e
end L2
open L2.V renaming ref->k!,int->o!,str->D!
variable{o:L2.HO}{xs:List L2.V}{H H' H1 H2 H8 H7:L2.Hp}{v y:L2.V}{kvs:List (List L2.Key×L2.V)}{fin:Vy->L2.Hp->Prop}
namespace L2
open PySem PySem.Spec PyProof.Rows
structure Mod(K:VD)(mg:V5->Option Vz)(base:WS):Prop where
 kin:K.In base
 glob:base.Ns Xg mg
 blt:∃mb,base.Ns builtinsNs mb/\∀x:V5,x≠"__name__"->mb x=Z7 x
 nolimit:base.NoLimit
set_option genInjectivity true in
structure Cx where
 prog:V8
 w:Wm
 K:VD
 mg:V5->Option Vz
 base:WS
 A:Wr
 N:List V5
 s₀:VF
 H₀:Hp
 env:Env
 outer:List Env
 stack:List Env
 ex:List Vy
 fn:V5->Bool
 calm:Bool
 pn:List (Vy×Xw)
 xe:Vz->VF->Prop
def frs(l:List Env):List Vy:=l.filterMap (·.frame)
abbrev Cx.fs(X:Cx):List Vy:=frs X.outer
def Vis(sc:Yz)(x:V5):Prop:=sc.names.lookup x=A? .local\/sc.names.lookup x=A? .cell\/sc.names.lookup x=A? .free
def Loc(sc:Yz)(x:V5):Prop:=sc.names.lookup x=A? .local\/sc.names.lookup x=A? .cell
def Look(env:Env)(h:WS)(m:V5->Option Vz)(x:V5)(u:Vz):Prop :=
 (env.kindOf x=A? .local/\m x=A? u)\/((env.kindOf x=A? .cell\/env.kindOf x=A? .free)/\∃c,env.cells.lookup x=A? c/\h.IsCell c (A? u))
structure Cx.Ok(X:Cx):Prop where
 mod:Mod X.K X.mg X.base
 kind:X.env.scope.kind=.function
 glob:X.env.globals=Xg
 blt:X.env.builtins=builtinsNs
 above:X.s₀.heap.1.size<=X.env.locals
 inj:∀x y c,X.env.cells.lookup x=A? c->X.env.cells.lookup y=A? c->x=y
 has:∀x,(X.env.kindOf x=A? .cell\/X.env.kindOf x=A? .free)->∃c,X.env.cells.lookup x=A? c
 cab:∀x c,X.fn x=B?->X.env.cells.lookup x=A? c->X.s₀.heap.1.size<=c
 hd:X.calm=B?->X.A.handled=AQ
 frames:X.A.frames=A? X.stack
 stk:X.stack=X.outer\/(X.stack=X.env::X.outer/\X.env.frame=A? X.env.locals)
 exf:∀b∈X.ex,b≠X.env.locals/\∀x c,X.env.cells.lookup x=A? c->c≠b
 bs:∀b o,X.base.get? b=A? o->X.s₀.heap.get? b=A? o/\X.H₀ b=AQ
 bsz:X.base.objs.size<=X.s₀.heap.1.size
 noex:∀b o,X.base.get? b=A? o->b∉X.ex
 exfs:∀b∈X.ex,b∉X.fs
 funs:X.s₀.heap.FunFrames X.base X.outer
 frf:∀b∈X.fs,X.H₀ b=AQ
structure Inv(X:Cx)(Y:List (Vy×Xw))(σ:List (Option V))(H:Hp)(s:VF):Prop where
 ok:X.Ok
 os:s.os=X.s₀.os
 bare:AllBare s.gens
 base:Un X.fs X.ex X.H₀ H X.s₀.heap s.1
 loc:∃m,s.1.Ns X.env.locals m/\∀(i:Nat)(x:V5)(v:V),X.N[i]?=A? x->σ[i]?=A? (A? v)->Vis X.env.scope x->∃u,RelV v u/\Look X.env s.1 m x u
 cell:∀x c,X.env.cells.lookup x=A? c->∃v,s.1.IsCell c v
 free:H X.env.locals=AQ
 freeC:∀x c,X.env.cells.lookup x=A? c->H c=AQ
 pin:∀p∈X.pn++Y,s.1.get? p.1=A? p.2/\H p.1=AQ/\p.1≠X.env.locals/\p.1∉X.fs/\∀v,p.2.data≠.cell v
 hok:HOk X.prog X.w H s.1
 len:σ.length=X.N.length
section
variable{X:Cx}{σ:List (Option V)}
theorem Cx.Ok.nofr(ok:X.Ok){o:Xw}(e:X.base.get? b=A? o):b∉X.fs:=λhb=>by
 have:=(ok.funs.mem hb).1;rw[e]at this;cases this
theorem Inv.bs(I:Inv X Y σ H s):∀b o,X.base.get? b=A? o->s.1.get? b=A? o/\H b=none:=λb o e =>
 ⟨I.base.keep b o (I.ok.bs b o e).1 (I.ok.bs b o e).2 (I.ok.nofr e) (I.ok.noex b o e),I.base.free b o (I.ok.bs b o e).1 (I.ok.bs b o e).2 (I.ok.noex b o e)⟩
theorem Inv.bk(I:Inv X Y σ H s):∀b o,X.base.get? b=A? o->s.1.get? b=A? o:=λb o e=>(I.bs b o e).1
theorem Inv.mod(I:Inv X Y σ H s):Mod X.K X.mg X.base:=I.ok.mod
theorem Inv.kIn(I:Inv X Y σ H s):X.K.In s.1:=I.ok.mod.kin.keeps I.bk
theorem Inv.lt(I:Inv X Y σ H s):X.env.locals<s.1.1.size:=let⟨_,hn,_⟩:=I.loc;hn.lt
theorem Inv.sz(I:Inv X Y σ H s):X.s₀.heap.1.size<=s.1.1.size:=Wz I.ok.above (XH I.lt)
theorem Inv.nofs(I:Inv X Y σ H s)(h:s.1.1.size<=a):a∉X.fs:=λhb=>by
 obtain⟨_,o,ho,_⟩:=I.ok.funs.mem hb;exact g! (Wx (V2 ho) (Wz I.sz h)) (W0 _)
theorem Inv.cne(I:Inv X Y σ H s):∀x c,X.env.cells.lookup x=A? c->c≠X.env.locals:=λx c e z=>by
 obtain⟨v,o,ho,hd⟩:=I.cell x c e;obtain⟨m,⟨o',es,ep,Bl,Hn,_⟩,_⟩:=I.loc;rw[z,Bl]at ho;cases ho;rw[Hn]at hd;cases hd
theorem Inv.funs(I:Inv X Y σ H s):s.1.FunFrames X.base X.outer:=by
 have all:∀(l:List Env),(∀b∈frs l,b∈X.fs)->X.s₀.heap.FunFrames X.base l->s.1.FunFrames X.base l:=by
  intro l;induction l with
  |nil=>intro _ _;trivial
  | cons env r ih =>
    intro hs hl;obtain⟨hk,⟨L,o,hf,hn,ho,hd⟩,hr⟩:=hl;have hL:L∈X.fs:=hs L (by unfold frs;rw[Yo,hf];exact VO);obtain⟨sl,e⟩:=I.base.slot L o ho (I.ok.frf L hL) hL λz=>I.ok.exfs L z hL;exact⟨hk,⟨L,_,hf,hn,e,hd⟩,ih (λb hb=>hs b (by unfold frs;rw[Yo,hf];exact VR _ hb)) hr⟩
 exact all X.outer (λ_ hb=>hb) I.ok.funs
theorem Inv.stack(I:Inv X Y σ H s):s.1.FunFrames X.base X.stack:=by
 rcases I.ok.stk with e|⟨e,hf⟩
 .rw[e];exact I.funs
 .rw[e];obtain⟨m,hn,_⟩:=I.loc;refine .cons (by rw[I.ok.kind];decide) hf hn ?_ I.funs;exact Heap.get?_none_of_le (Wz I.ok.bsz I.ok.above)
theorem Inv.stkSub(I:Inv X Y σ H s):∀b∈frs X.stack,b∈X.env.locals::X.fs:=λb hb=>by
 rcases I.ok.stk with e|⟨e,hf⟩
 .rw[e]at hb;exact VR _ hb
 .rw[e]at hb;unfold frs at hb;rw[Yo,hf]at hb;exact hb
theorem Inv.stkFree(I:Inv X Y σ H s):∀b∈frs X.stack,H b=none:=λb hb=>by
 rcases VS.mp (I.stkSub b hb)with e|hb
 .rw[e];exact I.free
 .obtain⟨_,o,ho,_⟩:=I.ok.funs.mem hb;exact I.base.free b o ho (I.ok.frf b hb) λz=>I.ok.exfs b z hb
theorem Inv.step{g':Array GenState}{d':Drawn}(I:Inv X Y σ H s)
 (DM:∀b∈ch,(b∈X.ex\/X.s₀.heap.1.size<=b)/\b≠X.env.locals/\(∀x c,X.env.cells.lookup x=A? c->c≠b)/\∀p∈X.pn++Y,p.1≠b)
 (keep:∀b o,b≠X.env.locals->b∉X.fs->b∉ch->s.1.get? b=A? o->H b=AQ->h'.get? b=A? o)
 (slot:∀b o,b≠X.env.locals->b∈X.fs->b∉ch->s.1.get? b=A? o->H b=AQ->∃sl,h'.get? b=A? {o with slots:=sl}) (free:∀b o,b∉ch->s.1.get? b=A? o->H b=AQ->H' b=AQ)
 (there:∀b o,b∉ch->s.1.get? b=A? o->∃o',h'.get? b=A? o')
 (tups:∀b xs,H b=A? (.tup xs)->H' b=A? (.tup xs)) (frzs:∀b o u,H b=A? (.frz o u)->H' b=A? (.frz o u)) (tbls:∀b ps,H b=A? (.tbl ps)->∃more,H' b=A? (.tbl (ps++more)))
 (ns:∀m,s.1.Ns X.env.locals m->h'.Ns X.env.locals m) (hok:HOk X.prog X.w H' h') (hg:AllBare g') :
 Inv X Y σ H' {s with heap:=h',gens:=g',drawn:=d',toks:=t'}:=by
 have Ot:∀b o,X.s₀.heap.get? b=A? o->b≠X.env.locals:=λb o e=>We (Wx (V2 e) I.ok.above)
 have Kf:∀b o,X.s₀.heap.get? b=A? o->b∉X.ex->b∉ch:=λb o e hx hb=>by
  rcases(DM b hb).1 with z|z
  .exact hx z
  .exact g! (Wx (V2 e) z) (W0 _)
 have cellK:∀x c,X.env.cells.lookup x=A? c->∀v,s.1.IsCell c v->h'.IsCell c v:=λx c e v⟨o,ho,hd⟩=>by
  have Ho:c∉ch:=λz=>(DM c z).2.2.1 x c e rfl;by_cases hc:c∈X.fs
  .obtain⟨sl,q⟩:=slot c o (I.cne x c e) hc Ho ho (I.freeC x c e);exact⟨_,q,hd⟩
  .exact⟨o,keep c o (I.cne x c e) hc Ho ho (I.freeC x c e),hd⟩
 refine⟨I.ok,I.os,hg,⟨λb o e n hb hx=>?_,λb o e n hb hx=>?_,λb o e n hx=>?_,λb o e hx=>?_,λb xs e=>tups b xs (I.base.tups b xs e),λb o xs e=>frzs b o xs (I.base.frzs b o xs e),λb ps e=>?_⟩,?_,λx c e=>?_,?_,λx c e=>?_,λp hp=>?_,hok,I.len⟩
 .exact keep b o (Ot b o e) hb (Kf b o e hx) (I.base.keep b o e n hb hx) (I.base.free b o e n hx)
 .obtain⟨sl,e1⟩:=I.base.slot b o e n hb hx;obtain⟨QE,e2⟩:=slot b _ (Ot b o e) hb (Kf b o e hx) e1 (I.base.free b o e n hx);exact⟨QE,e2⟩
 .obtain⟨o',e1⟩:=I.base.there b o e hx;exact free b o' (Kf b o e hx) e1 (I.base.free b o e n hx)
 .obtain⟨o',e1⟩:=I.base.there b o e hx;exact there b o' (Kf b o e hx) e1
 .obtain⟨m1,e1⟩:=I.base.tbls b ps e;obtain⟨m2,e2⟩:=tbls b _ e1;exact⟨m1++m2,by rw[e2,Array.append_assoc]⟩
 .obtain⟨m,hn,hl⟩:=I.loc;refine⟨m,ns m hn,λi x v e1 e2 e3=>?_⟩;obtain⟨u,r,l⟩:=hl i x v e1 e2 e3;refine⟨u,r,?_⟩;rcases l with l|⟨k,c,e,z⟩
  .exact .inl l
  .exact .inr ⟨k,c,e,cellK x c e _ z⟩
 .obtain⟨v,z⟩:=I.cell x c e;exact⟨v,cellK x c e v z⟩
 .obtain⟨m,⟨o,_,_,ho,_⟩,_⟩:=I.loc;exact free _ o (λz=>(DM _ z).2.1 rfl) ho I.free
 .obtain⟨v,o,ho,hd⟩:=I.cell x c e;exact free c o (λz=>(DM c z).2.2.1 x c e rfl) ho (I.freeC x c e)
 .obtain⟨e,n,ne,nf,d⟩:=I.pin p hp;have Ho:p.1∉ch:=λz=>(DM p.1 z).2.2.2 p hp rfl;exact⟨keep p.1 p.2 ne nf Ho e n,free p.1 p.2 Ho e n,ne,nf,d⟩
theorem Inv.un(I:Inv X Y σ H s)(u:Un X.fs [] H H' s.1 h')(hok:HOk X.prog X.w H' h'):Inv X Y σ H' {s with heap:=h',toks:=t'}:=by
 obtain⟨m,⟨o,es,ep,ho,r⟩,_⟩:=id I.loc;obtain⟨sl,hL⟩:=u.any ho I.free (by simp)
 exact I.step (g':=s.gens) (d':=s.drawn) (ch:=[]) (λ_ z=>nomatch z) (λb o _ hb _ e n=>u.keep b o e n hb (by simp)) (λb o _ hb _ e n=>u.slot b o e n hb (by simp)) (λb o _ e n=>u.free b o e n (by simp)) (λb o _ e=>u.there b o e (by simp)) u.tups u.frzs u.tbls (λm' hm=>by
  obtain⟨o',Gw,Gx,Bl,r'⟩:=hm;rw[ho]at Bl;cases Bl;exact⟨_,Gw,Gx,hL,r'⟩) hok I.bare
theorem Inv.call{g':Array GenState}{d':Drawn}(I:Inv X Y σ H s)(u:Un (frs X.stack) ch H H' s.1 h')(hok:HOk X.prog X.w H' h')(hg:AllBare g')
 (DM:∀b∈ch,(b∈X.ex\/X.s₀.heap.1.size<=b)/\b≠X.env.locals/\(∀x c,X.env.cells.lookup x=A? c->c≠b)/\∀p∈X.pn++Y,p.1≠b) :
 Inv X Y σ H' {s with heap:=h',gens:=g',drawn:=d',toks:=t'}:=by
 obtain⟨m,⟨o,es,ep,ho,r⟩,_⟩:=id I.loc;obtain⟨sl,hL⟩:=u.any ho I.free λz=>(DM _ z).2.1 rfl
 exact I.step (ch:=ch) DM (λb o hL hb hc e n=>u.keep b o e n (λz=>(VS.mp (I.stkSub b z)).elim hL hb) hc) (λb o _ _ hc e n=>u.any e n hc) (λb o hc e n=>u.free b o e n hc) (λb o hc e=>u.there b o e hc) u.tups u.frzs u.tbls (λm' hm=>by
  obtain⟨o',Gw,Gx,Bl,r'⟩:=hm;rw[ho]at Bl;cases Bl;exact⟨_,Gw,Gx,hL,r'⟩) hok hg
theorem Inv.turned(I:Inv X Y σ H s)(k:∀b o,b≠it->s.1.get? b=A? o->h'.get? b=A? o)(hn:H it=AQ)(hL:it≠X.env.locals)
 (h1:it∈X.ex\/X.s₀.heap.1.size<=it) (h2:∀x c,X.env.cells.lookup x=A? c->c≠it) (h3:∀p∈X.pn++Y,p.1≠it):Inv X Y σ H {s with heap:=h',toks:=t'}:=by
 have Hq:∀b u,H b=A? u->b≠it:=λb u e z=>by rw[z,hn]at e;cases e
 refine I.step (g':=s.gens) (d':=s.drawn) (ch:=[it]) (λb hb=>?_) (λb o _ _ hc e _=>k b o (λz=>hc (by simp[z])) e) (λb o _ _ hc e _=>⟨o.slots,k b o (λz=>hc (by simp[z])) e⟩) (λ_ _ _ _ n=>n)
  (λb o hc e=>⟨o,k b o (λz=>hc (by simp[z])) e⟩) (λ_ _ e=>e) (λ_ _ _ e=>e) (λb ps e=>⟨#[],by rw[e];simp⟩) (λm hm=>?_) (λb u e=>?_) I.bare
 .have e:b=it:=by simpa using hb
  subst e;exact⟨h1,hL,h2,h3⟩
 .obtain⟨o,es,ep,ho,r⟩:=hm;exact⟨o,es,ep,k _ o (XC hL) ho,r⟩
 .refine(I.hok b u e).stay (λc v hc q=>k c v ?_ q) (λ_ q=>q) λ_ _ q=>q;rcases hc with z|z
  .rw[z];exact Hq b u e
  .exact Hq c _ z
theorem Inv.tok(I:Inv X Y σ H s)(t:Nat):Inv X Y σ H {s with toks:=t}:=I.un (h':=s.1) (t':=t) Un.refl I.hok
theorem Inv.kept(I:Inv X Y σ H s)(k:∀b u,s.1.get? b=A? u->h'.get? b=A? u):Inv X Y σ H {s with heap:=h',toks:=t'}:=I.un (Un.kept k) (I.hok.kept k)
theorem Inv.laid(I:Inv X Y σ H s)(k:∀b u,s.1.get? b=A? u->h'.get? b=A? u)(hp:s.1.1.size<=a)(new:ObjOk X.prog X.w (upd H a o) h' a o) :
 Inv X Y σ (upd H a o) {s with heap:=h',toks:=t'}:=I.un (Un.laid k hp (I.hok.fresh hp)) (I.hok.laid k hp new)
theorem Inv.write{x e:Vy}(I:Inv X Y σ H s)(mu:Mut (H x))(he:e=x\/H e=A? (.own x))(k:∀b u,b≠e->s.1.get? b=A? u->h'.get? b=A? u)(Gv:∃u,h'.get? e=A? u)
 (new:ObjOk X.prog X.w (upd H x o) h' x o):Inv X Y σ (upd H x o) {s with heap:=h',toks:=t'}:=I.un (Un.write mu he k Gv) (I.hok.write mu he k Gv new)
theorem Inv.weak{i':List (Option V)}(I:Inv X Y σ H s)(hl:i'.length=σ.length)(w:∀(i:Nat)v,i'[i]?=A? (A? v)->σ[i]?=A? (A? v)):Inv X Y i' H s :=
 ⟨I.ok,I.os,I.bare,I.base,let⟨m,hn,CU⟩:=I.loc;⟨m,hn,λi x v e1 e2 e3=>CU i x v e1 (w i v e2) e3⟩,I.cell,I.free,I.freeC,I.pin,I.hok,hl.trans I.len⟩
theorem Inv.pins_of{AR:List (Vy×Xw)}(I:Inv X Y σ H s)(h:∀p∈AR,s.1.get? p.1=A? p.2/\H p.1=AQ/\p.1≠X.env.locals/\p.1∉X.fs/\∀v,p.2.data≠.cell v):Inv X AR σ H s :=
 ⟨I.ok,I.os,I.bare,I.base,I.loc,I.cell,I.free,I.freeC,λp hp=>(VP.mp hp).elim (λz=>I.pin p (VT _ z)) (h p),I.hok,I.len⟩
theorem nU(hN:N.Nodup)(a:N[i]?=A? x)(b:N[j]?=A? x):i=j:=by
 obtain⟨h1,e1⟩:=Xe.mp a;obtain⟨h2,e2⟩:=Xe.mp b;exact(List.getElem_inj hN).mp (e1.trans e2.symm)
theorem mr{Q:Unit->VF->Prop}(I:Inv X Y σ H s)(hN:X.N.Nodup)(hi:X.N[i]?=A? x)(hx:Loc X.env.scope x)(r:RelV v u)
 (h:∀s',Inv X Y (σ.set i (A? v)) H s'->(∃a,W3 a s.1 s'.1/\(a=X.env.locals\/X.env.cells.lookup x=A? a))->Q () s') (hf:X.fn x=B?\/X.env.scope.names.lookup x=A? .local:=by first|exact .inl rfl|exact .inr rfl|assumption):VW M A (storeName X.env x u) Q E s:=by
 obtain⟨m,hn,hl⟩:=id I.loc;have Lq:(X.env.scope.kind == .class ||(X.env.scope.kind == .module && X.env.locals != X.env.globals))=false:=by rw[I.ok.kind];rfl
 have Hr:i<σ.length:=by rw[I.len];exact(glE hi)
 have cne:=I.cne
 have tracked:∀{a:Vy}{h':WS},(∃o,s.1.get? a=A? o/\H a=AQ)->W3 a s.1 h'->HOk X.prog X.w H h':=λ{a h'}ha hs b ob e=>by
  obtain⟨_,_,Bt⟩:=ha;refine(I.hok b ob e).stay (λc w' hc q=>(hs.2 c ?_).trans q) (λ_ q=>q) λ_ _ q=>q;rintro rfl;rcases hc with rfl|hc
  .rw[Bt]at e;cases e
  .rw[Bt]at hc;cases hc
 rcases hx with hk|hk
 .refine wpAny_storeName_local hk hn (λh' EE hs=>?_) Lq;obtain⟨oL,_,_,QF,_⟩:=id hn;refine h _ ⟨I.ok,I.os,I.bare,⟨λb o e n hb hx=>?_,λb o e n hb hx=>?_,I.base.free,λb o e hx=>?_,I.base.tups,I.base.frzs,I.base.tbls⟩,⟨_,EE,λj y v' e1 e2 e3=>?_⟩,λy c e=>?_,I.free,I.freeC,λp hp=>?_,tracked ⟨oL,QF,I.free⟩ hs,by simpa using I.len⟩ ⟨_,hs,.inl rfl⟩
  .exact(hs.2 b (We (Wx (V2 e) I.ok.above))).trans (I.base.keep b o e n hb hx)
  .obtain⟨sl,e1⟩:=I.base.slot b o e n hb hx;exact⟨sl,(hs.2 b (We (Wx (V2 e) I.ok.above))).trans e1⟩
  .obtain⟨o',e1⟩:=I.base.there b o e hx;exact⟨o',(hs.2 b (We (Wx (V2 e) I.ok.above))).trans e1⟩
  .by_cases hj:j=i
   .subst hj;rw[hi]at e1;cases e1;rw[W5 Hr]at e2;cases e2;exact⟨u,r,.inl ⟨hk,by simp⟩⟩
   .rw[W6 (XC hj)]at e2;obtain⟨u',r',q⟩:=hl j y v' e1 e2 e3;refine⟨u',r',?_⟩;rcases q with⟨k,e⟩|⟨k,c,e,z⟩
    .refine .inl ⟨k,?_⟩;have:y≠x:=λe=>hj (nU hN e1 (e ▸ hi));simp[this,e]
    .exact .inr ⟨k,c,e,z.sameBut hs (cne y c e)⟩
  .obtain⟨w',z⟩:=I.cell y c e;exact⟨w',z.sameBut hs (cne y c e)⟩
  .obtain⟨e,n,ne,nf,d⟩:=I.pin p hp;exact⟨(hs.2 p.1 ne).trans e,n,ne,nf,d⟩
 .have Fh:X.fn x=true:=by
   rcases hf with z|z
   .exact z
   .rw[z]at hk;cases hk
  obtain⟨c,hc⟩:=I.ok.has x (.inl hk);obtain⟨w',z⟩:=I.cell x c hc;refine wpAny_storeName_cell I.ok.kind hk hc z (λh' zV hs=>?_);obtain⟨oc,EF,Lr⟩:=id z;refine h {s with heap:=h'} ⟨I.ok,I.os,I.bare,⟨λb o e n hb hx=>?_,λb o e n hb hx=>?_,I.base.free,λb o e hx=>?_,I.base.tups,I.base.frzs,I.base.tbls⟩,⟨m,hn.sameBut hs (XC (cne x c hc)),λj y v' e1 e2 e3=>?_⟩,λy c' e=>?_,I.free,I.freeC,λp hp=>?_,tracked ⟨oc,EF,I.freeC x c hc⟩ hs,by simpa using I.len⟩ ⟨c,hs,.inr hc⟩
  .exact(hs.2 b (We (Wx (V2 e) (I.ok.cab x c Fh hc)))).trans (I.base.keep b o e n hb hx)
  .obtain⟨sl,e1⟩:=I.base.slot b o e n hb hx;exact⟨sl,(hs.2 b (We (Wx (V2 e) (I.ok.cab x c Fh hc)))).trans e1⟩
  .obtain⟨o',e1⟩:=I.base.there b o e hx;exact⟨o',(hs.2 b (We (Wx (V2 e) (I.ok.cab x c Fh hc)))).trans e1⟩
  .by_cases hj:j=i
   .subst hj;rw[hi]at e1;cases e1;rw[W5 Hr]at e2;cases e2;exact⟨u,r,.inr ⟨.inl hk,c,hc,zV⟩⟩
   .rw[W6 (XC hj)]at e2;obtain⟨u',r',q⟩:=hl j y v' e1 e2 e3;refine⟨u',r',?_⟩;rcases q with q|⟨k,c',e,z'⟩
    .exact .inl q
    .refine .inr ⟨k,c',e,z'.sameBut hs ?_⟩;rintro rfl;exact hj (nU hN e1 (I.ok.inj _ _ _ e hc ▸ hi))
  .by_cases D5:c'=c
   .subst D5;exact⟨_,zV⟩
   .obtain⟨w2,z2⟩:=I.cell y c' e;exact⟨w2,z2.sameBut hs D5⟩
  .obtain⟨e,n,ne,nf,d⟩:=I.pin p hp;refine⟨(hs.2 p.1 ?_).trans e,n,ne,nf,d⟩;intro q;rw[q,EF]at e;have q':oc=p.2:=VN e;exact d w' (by rw[<-q'];exact Lr)
theorem lp{Q:Unit->VF->Prop}(I:Inv X Y σ H s)(hN:X.N.Nodup)(hi:X.N[i]?=A? x)(hx:Loc X.env.scope x)(r:RelV v u)
 (h:∀s',Inv X Y (σ.set i (A? v)) H s'->Q () s') (hf:X.fn x=B?\/X.env.scope.names.lookup x=A? .local:=by first|exact .inl rfl|exact .inr rfl|assumption):VW M A (storeName X.env x u) Q E s :=
 mr I hN hi hx r (λs' I' _=>h s' I') hf
theorem Inv.call'(I:Inv X Y σ H s)(ho:s'.os=s.os)(u:Un (frs X.stack) ch H H' s.1 s'.1)(hok:HOk X.prog X.w H' s'.1)(hg:AllBare s'.gens)
 (DM:∀b∈ch,(b∈X.ex\/X.s₀.heap.1.size<=b)/\b≠X.env.locals/\(∀x c,X.env.cells.lookup x=A? c->c≠b)/\∀p∈X.pn++Y,p.1≠b):Inv X Y σ H' s':=by
 obtain⟨h',g',d',t',o'⟩:=s';have e:o'=s.os:=ho;subst e;exact I.call (g':=g') (t':=t') (d':=d') u hok hg DM
end
abbrev XK:=Vz->Option Vy->Hp->Prop
abbrev St:=List (Option V)
abbrev VK:=V->Hp->Prop
abbrev TE:=St->Hp->VK->Prop
abbrev TT:=St->Hp->(Bool->Hp->Prop)->Prop
abbrev TA:=St->Hp->(List V->Hp->Prop)->Prop
structure Ends where
 nx:St->Hp->Prop
 rt:VK
 bk:St->Hp->Prop:=λ_ _=>False
 ct:St->Hp->Prop:=λ_ _=>False
abbrev TS:=Ends->St->Hp->Prop
def EP(X:Cx)(Y:List (Vy×Xw))(σ:St)(Q:VK)(u:Vz)(s':VF):Prop:=∃v H',Inv X Y σ H' s'/\RelV v u/\Q v H'
def TP(X:Cx)(Y:List (Vy×Xw))(σ:St)(Q:Bool->Hp->Prop)(b:Bool)(s':VF):Prop:=∃H',Inv X Y σ H' s'/\Q b H'
def AP(X:Cx)(Y:List (Vy×Xw))(σ:St)(Q:List V->Hp->Prop)(us:List Vz)(s':VF):Prop:=∃vs H',Inv X Y σ H' s'/\Vals vs us/\Q vs H'
def SP(X:Cx)(Y:List (Vy×Xw))(D:Ends)(f:Flow)(s':VF):Prop :=
 match f with
 |.next=>∃i' H',Inv X Y i' H' s'/\D.nx i' H'
 |.brk=>∃i' H',Inv X Y i' H' s'/\D.bk i' H'
 |.cont=>∃i' H',Inv X Y i' H' s'/\D.ct i' H'
 |.ret u=>∃v i' H',Inv X Y i' H' s'/\RelV v u/\D.rt v H'
def PE(X:Cx)(e:WB)(t:TE):Prop :=
 ∀(Y:List (Vy×Xw))(s:VF)(σ:St)(H:Hp)(Q:VK),Inv X Y σ H s->t σ H Q->VW (Wb X.prog X.w) X.A (XD e X.env) (EP X Y σ Q) X.xe s
def PT(X:Cx)(e:WB)(t:TT):Prop :=
 ∀(Y:List (Vy×Xw))(s:VF)(σ:St)(H:Hp)(Q:Bool->Hp->Prop),Inv X Y σ H s->t σ H Q->VW (Wb X.prog X.w) X.A (isTrue e X.env (XD e X.env)) (TP X Y σ Q) X.xe s
def PW(X:Cx)(e:WB)(t:TT):Prop :=
 ∀(whole:Sem Vz)(Y:List (Vy×Xw))(s:VF)(σ:St)(H:Hp)(Q:Bool->Hp->Prop),Inv X Y σ H s->t σ H Q->VW (Wb X.prog X.w) X.A (isTrue e X.env whole) (TP X Y σ Q) X.xe s
theorem PW.pt{X:Cx}{t:TT}(h:PW X e t):PT X e t:=h _
def PA(X:Cx)(es:List WB)(t:TA):Prop :=
 ∀(pos:YF)(Y:List (Vy×Xw))(s:VF)(σ:St)(H:Hp)(Q:List V->Hp->Prop),Inv X Y σ H s->t σ H Q->VW (Wb X.prog X.w) X.A (spliced (Yy pos (Wu es X.env))) (AP X Y σ Q) X.xe s
def PS(X:Cx)(st:Zv)(t:TS):Prop :=
 ∀(Y:List (Vy×Xw))(s:VF)(σ:St)(H:Hp)(D:Ends),Inv X Y σ H s->t D σ H->VW (Wb X.prog X.w) X.A (exec st X.env) (SP X Y D) X.xe s
def PSs(X:Cx)(st:List Zv)(t:TS):Prop :=
 ∀(Y:List (Vy×Xw))(s:VF)(σ:St)(H:Hp)(D:Ends),Inv X Y σ H s->t D σ H->VW (Wb X.prog X.w) X.A (execs st X.env) (SP X Y D) X.xe s
theorem thn{t:Sem α}{Q Q':α->VF->Prop}(h:VW M A t Q E s)(hQ:∀a s,Q a s->Q' a s):VW M A t Q' E s:=Xm h hQ λ_ _ x=>x
end L2
open L2.PW renaming pt->N!
variable{tb:L2.TS}{σ:L2.St}{D:L2.Ends}{tl:L2.TE}{R:L2.St->Vz->L2.Hp->Prop}{tt:L2.TT}
namespace L2
open PySem PySem.Spec PyProof.Rows
section
variable{X:Cx}
inductive vT(i:Nat)(σ:St)(H:Hp)(Q:VK):Prop
 |mk (v:_) (AS:σ[i]?=A? (A? v)) (AU:Q v H):vT i σ H Q
def bB(i:Nat):TE:=vT i
def tC(v:V):TE:=λ_ H Q=>Q v H
theorem wL(hN:X.N[i]?=A? x)(hv:Vis X.env.scope x)(hd:(x == ("__debug__":V5))=false:=by decide)(Bm:(x == ("__classdict__":V5))=false:=by decide):PE X (.Name x pos) (bB i):=by
 intro Y s σ H Q I h;obtain⟨v,e,h⟩:=h;obtain⟨m,hn,hl⟩:=I.loc;obtain⟨u,r,l⟩:=hl i x v hN e hv;have fin:EP X Y σ Q u s:=⟨v,H,I,r,h⟩;rcases l with⟨hk,hm⟩|⟨hk,c,hc,AV⟩
 .exact wpAny_Name (wpAny_loadName_local I.ok.kind hk hn hm fin) hd
 .rcases hk with hk|hk
  .exact wpAny_Name (wpAny_loadName_cell I.ok.kind hk hc AV fin) hd
  .exact wpAny_Name (wpAny_loadName_free I.ok.kind hk hc AV fin Bm) hd
theorem ad{i j pos}:PE X (.Constant (.int i) j pos) (tC (.int i)):=λ_ _ _ H _ I h=>wpAny_Constant_int ⟨.int i,H,I.tok _,⟨_,rfl⟩,h⟩
theorem jQ{b j pos}:PE X (.Constant (.bool b) j pos) (tC (.bl b)):=λ_ _ _ H _ I h=>Constant_bool ⟨.bl b,H,I,rfl,h⟩
theorem fG{j pos}:PE X (.Constant .none j pos) (tC .non):=λ_ _ _ H _ I h=>Constant_none ⟨.non,H,I,rfl,h⟩
theorem il{x j pos}:PE X (.Constant (.str x) j pos) (tC (.str x)):=λ_ _ _ H _ I h=>Calls.Constant_str ⟨.str x,H,I.tok _,⟨_,rfl⟩,h⟩
def Gl(X:Cx)(x:V5):Prop:=X.env.kindOf x=A? .globalImplicit
theorem iK(I:Inv X Y σ H s)(hg:Gl X x)(hm:X.mg x=A? u)(h:Q u s)
 (hd:(x == ("__debug__":V5))=false:=by decide):VW (Wb X.prog X.w) X.A (XD (.Name x pos) X.env) Q E s :=
 Calls.Name_function_global I.ok.kind hg (Calls.loadGlobal_global (by rw[I.ok.glob];exact I.mod.glob.keeps I.bk) hm h) hd
theorem dz(I:Inv X Y σ H s)(hg:Gl X x)(hm:X.mg x=AQ)(hv:Z7 x=A? u)(h:Q u s)
 (hn:x≠"__name__":=by decide) (hd:(x == ("__debug__":V5))=false:=by decide):VW (Wb X.prog X.w) X.A (XD (.Name x pos) X.env) Q E s:=by
 obtain⟨mb,h1,h2⟩:=I.mod.blt;exact Calls.Name_function_global I.ok.kind hg (Calls.loadGlobal_builtin (by rw[I.ok.glob];exact I.mod.glob.keeps I.bk) hm (by rw[I.ok.blt];exact h1.keeps I.bk) ((h2 x hn).trans hv) h) hd
theorem nw(hg:Gl X x)(hm:X.mg x=A? u)(r:RelV v u)(hd:(x == ("__debug__":V5))=false:=by decide):PE X (.Name x pos) (tC v) :=
 λ_ _ _ H _ I h=>iK I hg hm ⟨v,H,I,r,h⟩ hd
theorem vy(hg:Gl X x)(hm:X.mg x=AQ)(hv:Z7 x=A? u)(r:RelV v u)(hn:x≠"__name__":=by decide)(hd:(x == ("__debug__":V5))=false:=by decide):PE X (.Name x pos) (tC v) :=
 λ_ _ _ H _ I h=>dz I hg hm hv ⟨v,H,I,r,h⟩ hn hd
variable{a b:WB}{ta tb:TE}
def PC(X:Cx)(op:CmpOp)(a b:WB)(t:TE):Prop :=
 ∀(Y:List (Vy×Xw))(s:VF)(σ:St)(H:Hp)(Q:VK),Inv X Y σ H s->t σ H Q ->
   VW (Wb X.prog X.w) X.A (XD a X.env) (λv l'=>VW (Wb X.prog X.w) X.A (XD b X.env) (λu zR=>VW (Wb X.prog X.w) X.A (Xv op v u) (EP X Y σ Q) X.xe zR) X.xe l') X.xe s
def tB(t:TE):TT:=λσ H Q=>t σ H λx H1=>∃c,x=.bl c/\Q c H1
theorem m7{t:TE}(h:PC X op a b t)(h1:behindInMarks op b=false:=by first|exact Hs _ (by decide) (by decide)|rfl):PT X (.Compare a [op] [b] pos) (tB t):=by
 intro Y s σ H Q I hw;refine wpAny_isTrue_Compare1 (thn (h Y s σ H _ I hw) λv s1 h1=>thn h1 λu s2 h2=>thn h2 λc s3⟨x,H1,I1,r1,q1⟩=>?_) h1;obtain⟨d,rfl,q⟩:=q1;cases r1;exact Yp ⟨H1,I1,q⟩
variable{tA Kg:TT}{rest:List WB}
def yV(t u:TT):TT:=λσ H Q=>t σ H λc H1=>if c=B? then u σ H1 Q else Q C? H1
def tOr(t u:TT):TT:=λσ H Q=>t σ H λc H1=>if c=B? then Q B? H1 else u σ H1 Q
def yE(t:TT):TT:=λσ H Q=>t σ H λc H1=>Q (!c) H1
theorem da(ha:PT X a tA):PW X (.BoolOp .And [a] pos) tA:=by
 intro wh Y s σ H Q I h;refine isTrue_and (thn (ha Y s σ H Q I h) λc s1 e=>?_);cases c with
 |true=>exact isTrue_and_nil e
 |false=>exact e
theorem kA(ha:PT X a tA):PW X (.BoolOp .Or [a] pos) tA:=by
 intro wh Y s σ H Q I h;refine isTrue_or (thn (ha Y s σ H Q I h) λc s1 e=>?_);cases c with
 |false=>exact isTrue_or_nil e
 |true=>exact e
theorem dP(ha:PT X a tA)(hb:PW X (.BoolOp .And (b::rest) pos) Kg):PW X (.BoolOp .And (a::b::rest) pos) (yV tA Kg):=by
 intro wh Y s σ H Q I h;refine isTrue_and (thn (ha Y s σ H _ I h) λc s1⟨H1,I1,q1⟩=>?_);cases c with
 |true=>exact hb wh Y s1 σ H1 Q I1 q1
 |false=>exact⟨H1,I1,q1⟩
theorem mm(ha:PT X a tA)(hb:PW X (.BoolOp .Or (b::rest) pos) Kg):PW X (.BoolOp .Or (a::b::rest) pos) (tOr tA Kg):=by
 intro wh Y s σ H Q I h;refine isTrue_or (thn (ha Y s σ H _ I h) λc s1⟨H1,I1,q1⟩=>?_);cases c with
 |true=>exact⟨H1,I1,q1⟩
 |false=>exact hb wh Y s1 σ H1 Q I1 q1
theorem qh(ha:PT X a tA):PT X (.UnaryOp .Not a pos) (yE tA):=by
 intro Y s σ H Q I h;exact isTrue_not (ha Y s σ H (λc H1=>Q (!c) H1) I h)
def tIf(t:TT)(ta tb:TE):TE:=λσ H Q=>t σ H λc H1=>if c=B? then ta σ H1 Q else tb σ H1 Q
theorem oN{c:WB}(hc:PT X c tA)(ha:PE X a ta)(hb:PE X b tb):PE X (.IfExp c a b pos) (tIf tA ta tb):=by
 intro Y s σ H Q I h;refine wpAny_IfExp (thn (hc Y s σ H _ I h) λd s1⟨H1,I1,q1⟩=>?_);cases d with
 |true=>exact ha Y s1 σ H1 Q I1 q1
 |false=>exact hb Y s1 σ H1 Q I1 q1
end
def SqL(K:VD)(H:Hp)(a:Vy)(xs:List V):Prop :=
 Rd H a (.lst xs) \/
  ∃(o:Xw)(its:Array Vz)(n:Nat),K.lookup a=A? o/\o.cls=.type "list"/\o.dict=AQ/\o.data=.seq its n/\its.size<=V4/\Vals xs its.toList
def SqT(K:VD)(H:Hp)(a:Vy)(xs:List V):Prop :=
 Rd H a (.tup xs) \/
  ∃(o:Xw)(its:Array Vz)(n:Nat),K.lookup a=A? o/\o.cls=.type "tuple"/\o.data=.seq its n/\its.size<=V4/\Vals xs its.toList
def yw:Vz->Option V
 |.none=>A? .non
 |.bool b=>A? (.bl b)
 |.int i _=>A? (.int i)
 |.str x _=>A? (.str x)
 |.bytes b _=>A? (.byt b)
 |.float b _=>A? (.flt b)
 |.ref a=>A? (.ref a)
 |.type n=>A? (.ty n)
 |_=>AQ
theorem RelV.abs{x:V}(r:RelV x u):yw u=A? x:=by
 cases x with
 |non=>cases r;rfl
 |bl _=>cases r;rfl
 |int _=>obtain⟨t,rfl⟩:=r;rfl
 |str _=>obtain⟨t,rfl⟩:=r;rfl
 |byt _=>obtain⟨t,rfl⟩:=r;rfl
 |flt _=>obtain⟨t,rfl⟩:=r;rfl
 |ref _=>cases r;rfl
 |ty _=>cases r;rfl
theorem RelV.inj{x:V}(r:RelV x u)(q:RelV y u):x=y:=VN (r.abs.symm.trans q.abs)
theorem Vals.inj:∀{xs ys:List V}{us:List Vz},Vals xs us->Vals ys us->xs=ys
 |_,_,_,.nil,.nil=>rfl
 |_,_,_,.cons r t,.cons r' t'=>by rw[r.inj r',Vals.inj t t']
section
variable{X:Cx}{ys:List V}
theorem SqL.of(h:H a=A? (.lst xs)):SqL K H a xs:=.inl (.inl h)
theorem SqT.of(h:H a=A? (.tup xs)):SqT K H a xs:=.inl (.inl h)
theorem Inv.list(I:Inv X Y σ H s)(h:SqL X.K H a xs):∃its:List Vz,Vals xs its/\PlainL s.1 a its.toArray/\xs.length<=V4:=by
 rcases h with h|⟨o,its,n,hk,hc,hd,hs,hz,r⟩
 .obtain⟨z,its,n,r,e⟩:=h.ok I.hok;exact⟨its,r,⟨_,n,e,D?,D?,D?⟩,z⟩
 .refine⟨its.toList,r,⟨o,n,I.kIn a o hk,hc,hd,by simpa using hs⟩,?_⟩;have e:=r.length;simp only[Wd]at e;lia
theorem Inv.tuple(I:Inv X Y σ H s)(h:SqT X.K H a xs):∃its:List Vz,Vals xs its/\IsTup s.1 a its.toArray/\xs.length<=V4:=by
 rcases h with h|⟨o,its,n,hk,hc,hs,hz,r⟩
 .obtain⟨z,its,n,r,p⟩:=h.ok I.hok;exact⟨its,r,⟨_,p,D?,n,D?⟩,z⟩
 .refine⟨its.toList,r,⟨o,I.kIn a o hk,hc,n,by simpa using hs⟩,?_⟩;have e:=r.length;simp only[Wd]at e;lia
theorem Inv.list_inj(I:Inv X Y σ H s)(h:SqL X.K H a xs)(h':SqL X.K H a ys):xs=ys:=by
 obtain⟨its,r,⟨o,n,e,_,_,d⟩,_⟩:=I.list h;obtain⟨its',r',⟨o',n',e',_,_,d'⟩,_⟩:=I.list h';rw[e]at e';cases e';rw[d]at d';injection d' with d1 _;have:its=its':=by simpa using h! Array.toList d1
 subst this;exact r.inj r'
theorem Inv.tuple_inj(I:Inv X Y σ H s)(h:SqT X.K H a xs)(h':SqT X.K H a ys):xs=ys:=by
 obtain⟨its,r,⟨o,e,_,n,d⟩,_⟩:=I.tuple h;obtain⟨its',r',⟨o',e',_,n',d'⟩,_⟩:=I.tuple h';rw[e]at e';cases e';rw[d]at d';injection d' with d1 _;have:its=its':=by simpa using h! Array.toList d1
 subst this;exact r.inj r'
end
abbrev Cx.wish(X:Cx)(E:Vz->VF->Prop):Cx:={X with xe:=E}
abbrev Cx.nox(X:Cx):Cx:=X.wish λ_ _=>False
theorem Cx.Ok.wish{X:Cx}(ok:X.Ok)(E:Vz->VF->Prop):(X.wish E).Ok :=
 ⟨ok.mod,ok.kind,ok.glob,ok.blt,ok.above,ok.inj,ok.has,ok.cab,ok.hd,ok.frames,ok.stk,ok.exf,ok.bs,ok.bsz,ok.noex,ok.exfs,ok.funs,ok.frf⟩
theorem Cx.Ok.unwish{X:Cx}(ok:(X.wish E).Ok):X.Ok :=
 ⟨ok.mod,ok.kind,ok.glob,ok.blt,ok.above,ok.inj,ok.has,ok.cab,ok.hd,ok.frames,ok.stk,ok.exf,ok.bs,ok.bsz,ok.noex,ok.exfs,ok.funs,ok.frf⟩
section
variable{X:Cx}
theorem Inv.wish(I:Inv X Y σ H s)(E:Vz->VF->Prop):Inv (X.wish E) Y σ H s:=⟨I.ok.wish E,I.os,I.bare,I.base,I.loc,I.cell,I.free,I.freeC,I.pin,I.hok,I.len⟩
theorem Inv.unwish(I:Inv (X.wish E) Y σ H s):Inv X Y σ H s:=⟨I.ok.unwish,I.os,I.bare,I.base,I.loc,I.cell,I.free,I.freeC,I.pin,I.hok,I.len⟩
theorem SP.unwish{f:Flow}(h:SP (X.wish E) Y D f s'):SP X Y D f s':=by
 cases f with
 |next=>obtain⟨i',H',I,q⟩:=h;exact⟨i',H',I.unwish,q⟩
 |brk=>obtain⟨i',H',I,q⟩:=h;exact⟨i',H',I.unwish,q⟩
 |cont=>obtain⟨i',H',I,q⟩:=h;exact⟨i',H',I.unwish,q⟩
 |ret u=>obtain⟨v,i',H',I,r,q⟩:=h;exact⟨v,i',H',I.unwish,r,q⟩
theorem PSs.nox{st:List Zv}{t:TS}(h:PSs X.nox st t):PSs X st t:=λY s σ H D I hw =>
 Xm (h Y s σ H D (I.wish _) hw) (λ_ _ q=>q.unwish) λ_ _ z=>XA z
end
section
variable{X:Cx}{rest:List Zv}{t u:TS}{te:TE}
def xZ:TS:=λD σ H=>D.nx σ H
def w6(t u:TS):TS:=λD σ H=>t {D with nx:=u D} σ H
theorem aT:PSs X [] xZ:=λ_ _ σ H _ I h=>ZX ⟨σ,H,I,h⟩
theorem aj(h1:PS X st t)(h2:PSs X rest u):PSs X (st::rest) (w6 t u):=by
 intro Y s σ H D I h;refine wpAny_execs_cons (thn (h1 Y s σ H {D with nx:=u D} I h) λf s1 q=>?_);cases f with
 | next =>
   obtain⟨i',H',I',q⟩:=q;exact h2 Y s1 i' H' D I' q
 |ret v=>exact q
 |brk=>exact q
 |cont=>exact q
theorem ak(h1:PS X st t):PSs X [st] t:=by
 intro Y s σ H D I h;refine wpAny_execs_cons (thn (h1 Y s σ H D I h) λf s1 q=>?_);cases f with
 |next=>exact ZX q
 |ret v=>exact q
 |brk=>exact q
 |cont=>exact q
theorem Inv.quiet(I:Inv X Y σ H s):interactive X.env=false:=by simp[interactive,I.ok.kind]
def xH(te:TE):TS:=λD σ H=>te σ H λ_ H1=>D.nx σ H1
theorem aY(he:PE X e te)(hs:swapsWith e AQ pos.line X.env=pure false:=by rfl):PS X (.Expr e pos) (xH te):=by
 intro Y s σ H D I h;exact wpAny_Expr_any (thn (he Y s σ H _ I h) λv s1⟨x,H1,I1,r1,q1⟩=>⟨σ,H1,I1,q1⟩) I.quiet hs
def yN(te:TE):TS:=λD σ H=>te σ H D.rt
theorem aF(he:PE X e te):PS X (.Return (A? e) pos) (yN te):=by
 intro Y s σ H D I h;exact wpAny_Return_some (thn (he Y s σ H _ I h) λv s1⟨x,H1,I1,r1,q1⟩=>⟨x,σ,H1,I1,r1,q1⟩)
def yl(c:TT)(t u:TS):TS:=λD σ H=>c σ H λb H1=>if b=B? then t D σ H1 else u D σ H1
theorem bE{c:WB}{a b:List Zv}{tc:TT}(hc:PT X c tc)(ha:PSs X a t)(hb:PSs X b u):PS X (.If c a b pos) (yl tc t u):=by
 intro Y s σ H D I h;refine wpAny_If (thn (hc Y s σ H _ I h) λd s1⟨H1,I1,q1⟩=>?_);cases d with
 |true=>exact ha Y s1 σ H1 D I1 q1
 |false=>exact hb Y s1 σ H1 D I1 q1
end
abbrev TG:=V->St->Hp->(St->Hp->Prop)->Prop
abbrev TGs:=List V->St->Hp->(St->Hp->Prop)->Prop
def PG(X:Cx)(target:WB)(t:TG):Prop :=
 ∀(Y:List (Vy×Xw))(s:VF)(σ:St)(H:Hp)(v:V)(u:Vz)(Q:St->Hp->Prop),Inv X Y σ H s->RelV v u->t v σ H Q ->
   VW (Wb X.prog X.w) X.A (assign target X.env u) (λ_ s'=>∃i' H',Inv X Y i' H' s'/\Q i' H') X.xe s
def PGs(X:Cx)(ts:List WB)(t:TGs):Prop :=
 ∀(Y:List (Vy×Xw))(s:VF)(σ:St)(H:Hp)(vs:List V)(us:List Vz)(Q:St->Hp->Prop),Inv X Y σ H s->Vals vs us->t vs σ H Q ->
   VW (Wb X.prog X.w) X.A (assignInOrder ((assignEach ts X.env).map (·.2)) us) (λ_ s'=>∃i' H',Inv X Y i' H' s'/\Q i' H') X.xe s
abbrev wT:=V->V->V->Hp->(Hp->Prop)->Prop
def xF(X:Cx)(t:wT):Prop :=
 ∀(Y:List (Vy×Xw))(s:VF)(σ:St)(H:Hp)(o i v:V)(ov iv u:Vz)(Q:Hp->Prop),Inv X Y σ H s->RelV o ov->RelV i iv->RelV v u->t o i v H Q ->
   VW (Wb X.prog X.w) X.A (setItem ov iv u) (λ_ s'=>∃H',Inv X Y σ H' s'/\Q H') X.xe s
abbrev TIp:=V->V->Hp->VK->Prop
def PIp(X:Cx)(op:Operator)(t:TIp):Prop :=
 ∀(Y:List (Vy×Xw))(s:VF)(σ:St)(H:Hp)(x y:V)(v u:Vz)(Q:VK),Inv X Y σ H s->RelV x v->RelV y u->t x y H Q ->
   VW (Wb X.prog X.w) X.A (inplaceOp op v u) (EP X Y σ Q) X.xe s
section
variable{X:Cx}
def av(i:Nat):TG:=λv σ H Q=>Q (σ.set i (A? v)) H
theorem vE(hN:X.N.Nodup)(hi:X.N[i]?=A? x)(hx:Loc X.env.scope x)(hf:X.fn x=B?\/X.env.scope.names.lookup x=A? .local:=by first|exact .inl rfl|exact .inr rfl|assumption):PG X (.Name x pos) (av i):=by
 intro Y s σ H v u Q I r h;exact wpAny_assign_Name (lp I hN hi hx r (λs' I'=>⟨_,H,I',h⟩) hf)
def lH:TGs:=λvs σ H Q=>vs=[]/\Q σ H
def cJ(t:TG)(u:TGs):TGs:=λvs σ H Q=>∃v r,vs=v::r/\t v σ H λi' H'=>u r i' H' Q
theorem bf:PGs X [] lH:=by
 intro Y s σ H vs us Q I r h;obtain⟨e,h⟩:=h;subst e;cases r;exact assignInOrder_nil ⟨σ,H,I,h⟩
theorem ay{es:List WB}{t:TG}{u:TGs}(h1:PG X e t)(h2:PGs X es u)
 (hs:(assignEach (e::es) X.env).map (·.2)=assign e X.env::(assignEach es X.env).map (·.2):=by rfl):PGs X (e::es) (cJ t u):=by
 intro Y s σ H vs us Q I r h;obtain⟨v,vr,e1,h⟩:=h;subst e1;cases r with
 | cons r rr =>
   rw[hs];refine assignInOrder_cons (thn (h1 Y s σ H _ _ _ I r h) λ_ s1⟨zA,H1,I1,q1⟩=>?_);exact h2 Y s1 zA H1 _ _ Q I1 rr q1
def lI(K:VD)(n:Nat)(t:TGs):TG:=λv σ H Q=>∃a xs,v=.ref a/\SqT K H a xs/\xs.length=n/\t xs σ H Q
theorem bM{es:List WB}{k:Nat}{t:TGs}(hc:X.calm=B?)(h:PGs X es t)
 (hn:(assignEach es X.env).length=n:=by rfl) (zF:(assignEach es X.env).findIdx? (·.1)=none:=by rfl):PG X (.Tuple es k pos) (lI X.K n t):=by
 intro Y s σ H v u Q I r hw;obtain⟨a,xs,e1,hq,hl,hw⟩:=hw;subst e1;cases r;obtain⟨its,rv,ht,hz⟩:=I.tuple hq;refine assign_Tuple_tuple (I.ok.hd hc) ht (by simp[hn,<-hl,rv.length]) zF λh' hx=>?_;have I1:Inv X Y σ H {s with heap:=h'}:=I.kept (t':=s.toks) λb o e=>hx b o (We (V2 e)) e;exact h Y _ σ H xs _ Q I1 (by simpa using rv) hw
def yG(to ti:TE)(t:wT):TG:=λv σ H Q=>to σ H λo H1=>ti σ H1 λi H2=>t o i v H2 λH3=>Q σ H3
theorem no{o i:WB}{to ti:TE}{t:wT}(ho:PE X o to)(hi:PE X i ti)(hs:xF X t)
 (ha:∀v,assign (.Subscript o i pos) X.env v=(do
  let ov <-holding [v] (XD o X.env)
  let iv <-holding [v,ov] (XD i X.env)
  standAt pos
  holding [v,ov,iv] (setItem ov iv v)
  release [v,ov,iv] []):=by intro _;rfl):PG X (.Subscript o i pos) (yG to ti t):=by
 intro Y s σ H v u Q I r h;rw[ha];refine Vv (WT (thn (ho Y s σ H _ I h) λov s1⟨x,H1,I1,r1,q1⟩=>?_));refine Vv (WT (thn (hi Y s1 σ H1 _ I1 q1) λiv s2⟨y,H2,I2,r2,q2⟩=>?_));refine Vv (wpAny_standAt (Vv (WT (thn (hs Y s2 σ H2 x y v ov iv u _ I2 r1 r2 r q2) λ_ s3⟨H3,I3,q3⟩=>?_))));exact wpAny_release ⟨σ,H3,I3,q3⟩
def qc(te:TE)(g:TG):TS:=λD σ H=>te σ H λx H1=>g x σ H1 D.nx
theorem im{te:TE}{g:TG}(he:PE X e te)(hg:PG X tg g)(hs:swapsWithSole [tg] e pos.line X.env=pure false:=by rfl)(hw:swappedStores [tg] e X.env=pure none:=by rfl)
 (h1:(assignEach [tg] X.env).map (·.2)=[assign tg X.env]:=by rfl):PS X (.Assign [tg] e pos) (qc te g):=by
 intro Y s σ H D I h;refine wpAny_Assign_stores (thn (he Y s σ H _ I h) λv s1⟨x,H1,I1,r1,q1⟩=>?_) hs hw;rw[h1];exact thn (hg Y s1 σ H1 x v _ I1 r1 q1) λ_ s2 q=>q
theorem xp{te:TE}(hN:X.N.Nodup)(hi:X.N[i]?=A? x)(hx:Loc X.env.scope x)(he:PE X e te)(hs:swapsWith e (A? (.Name x pos')) pos.line X.env=pure false:=by rfl)(hf:X.fn x=B?\/X.env.scope.names.lookup x=A? .local:=by first|exact .inl rfl|exact .inr rfl|assumption) :
 PS X (.Assign [.Name x pos'] e pos) (qc te (av i)):=by
 intro Y s σ H D I h;refine wpAny_Assign_Name (thn (he Y s σ H _ I h) λv s1⟨y,H1,I1,r1,q1⟩=>?_) hs;exact lp I1 hN hi hx r1 (λs2 I2=>⟨_,H1,I2,q1⟩) hf
def yL(i:Nat)(te:TE)(ti:TIp):TS:=λD σ H=>∃x,σ[i]?=A? (A? x)/\te σ H λy H1=>ti x y H1 λz H2=>D.nx (σ.set i (A? z)) H2
theorem wN{te:TE}{op:Operator}{ti:TIp}(hN:X.N.Nodup)(hi:X.N[i]?=A? x)(hx:Loc X.env.scope x)(he:PE X e te)(ho:PIp X op ti)(hf:X.fn x=B?\/X.env.scope.names.lookup x=A? .local:=by first|exact .inl rfl|exact .inr rfl|assumption) :
 PS X (.AugAssign (.Name x pos') op e pos) (yL i te ti):=by
 intro Y s σ H D I h;obtain⟨v,e1,h⟩:=h;obtain⟨m,hn,hl⟩:=I.loc;have Ou:Vis X.env.scope x:=by rcases hx with k|k;exact .inl k;exact .inr (.inl k)
 obtain⟨u,r,l⟩:=hl i x v hi e1 Ou;refine wpAny_AugAssign_Name ?_
 have go:VW (Wb X.prog X.w) X.A (XD e X.env) (λw zR=>VW (Wb X.prog X.w) X.A (inplaceOp op u w) (λr Ba=>VW (Wb X.prog X.w) X.A (storeName X.env x r) (λ_=>SP X Y D .next) X.xe Ba) X.xe zR) X.xe s:=by
  refine thn (he Y s σ H _ I h) λw s1⟨y,H1,I1,r1,q1⟩=>?_;refine thn (ho Y s1 σ H1 v y u w _ I1 r r1 q1) λz s2⟨zv,H2,I2,r2,q2⟩=>?_;exact lp I2 hN hi hx r2 (λs3 I3=>⟨_,H2,I3,q2⟩) hf
 rcases l with⟨hk,hm⟩|⟨hk,c,hc,AV⟩
 .exact wpAny_loadName_local I.ok.kind hk hn hm go
 .rcases hk with hk|hk
  .exact wpAny_loadName_cell I.ok.kind hk hc AV go
  .rcases hx with k|k
   .have:X.env.scope.names.lookup x=A? .free:=hk;rw[k]at this;cases this
   .have:X.env.scope.names.lookup x=A? .free:=hk;rw[k]at this;cases this
def ipI(f:Int->Int->Int):TIp:=λx y H Q=>∃i j,x=.int i/\y=.int j/\Q (.int (f i j)) H
end
section
variable{X:Cx}
def xy(c:TT)(tb:TS):TS:=λD σ H=>∃W:Nat->St->Hp->Prop,(∃m,W m σ H)/\∀m σ H,W m σ H ->
 c σ H λb H1=>if b=B? then∃N:St->Hp->Prop,(∀i' H',N i' H'->∃m',m'<m/\W m' i' H')/\tb {D with nx:=N,ct:=N,bk:=D.nx} σ H1 else D.nx σ H1
theorem i6{c:WB}{tc:TT}(hp:PassesOwn (Wb X.prog X.w) X.A X.env X.xe)(hc:PT X c tc)(hb:PSs X body tb):PS X (.While c body [] pos) (xy tc tb):=by
 intro Y s σ H D I h;obtain⟨W,⟨m0,w0⟩,turn⟩:=h;refine wpAny_While (codeAny_whileLoop (λn s'=>∃i' H',Inv X Y i' H' s'/\W n i' H') ?_ m0 ⟨σ,H,I,w0⟩);rintro n s1 ⟨zA,H1,I1,w1⟩;refine YT hp (thn (hc Y s1 zA H1 _ I1 (turn n zA H1 w1)) λb s2⟨H2,I2,q2⟩=>?_);cases b with
 | true =>
   obtain⟨N,hN,q2⟩:=q2;rw[b! rfl];refine YT hp (thn (hb Y s2 zA H2 _ I2 q2) λf s3 q3=>?_);cases f with
   | next =>
     obtain⟨C5,H3,I3,n3⟩:=q3;obtain⟨m',hm,w3⟩:=hN C5 H3 n3;exact⟨m',hm,C5,H3,I3,w3⟩
   | cont =>
     obtain⟨C5,H3,I3,n3⟩:=q3;obtain⟨m',hm,w3⟩:=hN C5 H3 n3;exact⟨m',hm,C5,H3,I3,w3⟩
   |brk=>exact q3
   |ret v=>exact q3
 | false =>
   rw[a! VY];exact ZX ⟨zA,H2,I2,q2⟩
end
structure It where
 go:Nat->Hp->Prop
 yld:Nat->Hp->V->Hp->Prop
 stop:Nat->Hp->Prop
def FpOk(X:Cx)(Y:List (Vy×Xw))(H:Hp)(b:Vy):Prop :=
 H b=AQ/\b≠X.env.locals/\b∉X.fs/\(b∈X.ex\/X.s₀.heap.1.size<=b)/\(∀x c,X.env.cells.lookup x=A? c->c≠b)/\∀p∈X.pn++Y,p.1≠b
theorem Inv.fpOk{X:Cx}(I:Inv X Y σ H s)(hb:s.1.1.size<=b)(hn:H' b=AQ):FpOk X Y H' b:=by
 refine⟨hn,YA (Wx I.lt hb),I.nofs hb,.inr (Wz I.sz hb),λx c e z=>?_,λp hp z=>?_⟩
 .obtain⟨v,q⟩:=I.cell x c e;exact g! (Wx q.lt (by rw[z];exact hb)) (W0 _)
 .exact g! (Wx (V2 (I.pin p hp).1) (by rw[z];exact hb)) (W0 _)
structure Turn(P:V8)(w:Wm)(K:VD)(tg:WB)(J:It)(fp:List Vy)(it:Vy)(tn:Nat->WS->Prop):Prop where
 mem:it∈fp
 obj:∀i h,tn i h->∀b∈fp,∃o,h.get? b=A? o/\∀v,o.data≠.cell v
 keep:∀i h h',tn i h->(∀b∈fp,∀o,h.get? b=A? o->h'.get? b=A? o)->tn i h'
 item:∀(X:Cx),X.prog=P->X.w=w->X.K=K->X.calm=B?->∀(i:Nat)(Y:List (Vy×Xw))(s:VF)(σ:St)(H:Hp)(E:Vz->VF->Prop),Inv X Y σ H s->(∀b∈fp,FpOk X Y H b)->tn i s.1->J.go i H ->
  VW (Wb P w) X.A (YE (.ref it)) (λr s1=>∃u,r=A? u /\
   VW (Wb P w) X.A (letOwnedTupleGo tg (.ref it) u) (λ_ s2=>∃x H',Inv X Y σ H' s2/\RelV x u/\J.yld i H x H'/\tn (i+1) s2.1/\∀b∈fp,H' b=AQ) E s1) E s
 done:∀(X:Cx),X.prog=P->X.w=w->X.K=K->X.calm=B?->∀(i:Nat)(Y:List (Vy×Xw))(s:VF)(σ:St)(H:Hp)(E:Vz->VF->Prop),Inv X Y σ H s->(∀b∈fp,FpOk X Y H b)->tn i s.1->J.stop i H ->
  VW (Wb P w) X.A (YE (.ref it)) (λr s1=>r=AQ/\Inv X Y σ H s1) E s
 self:∀(A:Wr)(i:Nat)(s:VF)(Q:Vz->VF->Prop)(E:Vz->VF->Prop),tn i s.1->Q (.ref it) s->VW (Wb P w) A (pyIter (.ref it)) Q E s
abbrev TI:=St->Hp->(It->Hp->Prop)->Prop
def PIE(X:Cx)(Y:List (Vy×Xw))(σ:St)(tg:WB)(R:It->Hp->Prop)(Kh:Vz)(s2:VF):Prop :=
 ∃(it:Vy)(fp:List Vy)(tn:Nat->WS->Prop)(J:It)(H':Hp),Kh=.ref it/\Inv X Y σ H' s2/\Turn X.prog X.w X.K tg J fp it tn/\tn 0 s2.1/\(∀b∈fp,FpOk X Y H' b)/\R J H'
def PI(X:Cx)(tg iter:WB)(wi:TI):Prop :=
 ∀(Y:List (Vy×Xw))(s:VF)(σ:St)(H:Hp)(R:It->Hp->Prop),Inv X Y σ H s->wi σ H R ->
   VW (Wb X.prog X.w) X.A (XD iter X.env) (λv s1=>VW (Wb X.prog X.w) X.A (pyIter v) (PIE X Y σ tg R) X.xe s1) X.xe s
theorem qG{o:Xw}{n:String}{vs:Array Vz}{Q:Unit->VF->Prop}(ho:s.1.get? it=A? o)(hc:o.cls=.type n)(hd:o.data=.fields vs)
 (hn:["enumerate","zip","dict_itemiterator","dict_reverseitemiterator","odict_iterator","itertools.zip_longest","itertools.pairwise"].contains n=C?) (hQ:Q () s):VW M A (letOwnedTupleGo tg (.ref it) u) Q E s:=by
 unfold letOwnedTupleGo
 cases tg <;> first
  |exact VC hQ
  |(cases u <;> first
   |exact VC hQ
   | (refine Vv (wpAny_load ho ?_)
      rw[hc,hd];show VW M A (if(["enumerate","zip","dict_itemiterator","dict_reverseitemiterator","odict_iterator","itertools.zip_longest","itertools.pairwise"].contains n && vs[0]? == A? (XX _))=B? then _ else _) Q E s;rw[a! (by intro h;rw[hn,Bool.false_and]at h;cases h)];exact VC hQ))
def Itl(K:VD)(a:Vy):It :=
 ⟨λi H=>∃xs x,SqL K H a xs/\xs[i]?=A? x,λi H x H'=>H'=H/\∀xs,SqL K H a xs->xs[i]?=A? x,λi H=>∃xs,SqL K H a xs/\xs.length<=i⟩
def Itt(K:VD)(a:Vy):It :=
 ⟨λi H=>∃xs x,SqT K H a xs/\xs[i]?=A? x,λi H x H'=>H'=H/\∀xs,SqT K H a xs->xs[i]?=A? x,λi H=>∃xs,SqT K H a xs/\xs.length<=i⟩
def Itr(lo:Int)(n:Nat):It:=⟨λi _=>i<n,λi H x H'=>H'=H/\x=.int (lo+i),λi _=>n<=i⟩
theorem rP(a it:Vy):Turn P w K tg (Itl K a) [it] it (λi h=>h.IsListIter it a i) where
 mem:=by simp
 obj:=λi h st b hb=>by
  have e:b=it:=by simpa using hb
  subst e;obtain⟨o,e,c,d⟩:=st;exact⟨o,e,λv z=>by rw[d]at z;cases z⟩
 keep:=λi h h' st k=>st.at λo e=>k it (by simp) o e
 item:=by
  intro X hP hw hK hc i Y s σ H E I hf st hg;subst hP hw hK;obtain⟨xs,x,hq,hx⟩:=hg;obtain⟨its,rv,p,hz⟩:=I.list hq;obtain⟨u,hu,ru⟩:=rv.get hx;obtain⟨f0,f1,f2,f3,f4,f5⟩:=hf it (by simp);refine wpAny_pyNext_list_item st p.isList (x:=u) (by simpa using hu) λh' CV sb=>?_;have I1:Inv X Y σ H {s with heap:=h'}:=I.turned (t':=s.toks) (λb o hb e=>(sb.2 b hb).trans e) f0 f1 f3 f4 f5;obtain⟨o,e,c,d⟩:=id CV;exact⟨u,D?,qG (s:={s with heap:=h'}) e c d (by decide) ⟨x,H,I1,ru,⟨D?,λys hy=>by rw[I.list_inj hy hq];exact hx⟩,CV,λb hb=>(hf b hb).1⟩⟩
 done:=by
  intro X hP hw hK hc i Y s σ H E I hf st hg;subst hP hw hK;obtain⟨xs,hq,hx⟩:=hg;obtain⟨its,rv,p,hz⟩:=I.list hq;obtain⟨f0,f1,f2,f3,f4,f5⟩:=hf it (by simp);have hl:=rv.length;exact wpAny_pyNext_list_end (I.ok.hd hc) st p.isList (by simp;lia) λh' eb=>⟨rfl,I.turned (t':=s.toks) (λb o hb e=>eb b o hb e) f0 f1 f3 f4 f5⟩
 self:=λ_ _ _ _ _ st h=>wpAny_pyIter_listiter st h
theorem qg(a it:Vy):Turn P w K tg (Itt K a) [it] it (λi h=>h.IsTupleIter it a i) where
 mem:=by simp
 obj:=λi h st b hb=>by
  have e:b=it:=by simpa using hb
  subst e;obtain⟨o,e,c,d⟩:=st;exact⟨o,e,λv z=>by rw[d]at z;cases z⟩
 keep:=λi h h' st k=>st.at λo e=>k it (by simp) o e
 item:=by
  intro X hP hw hK hc i Y s σ H E I hf st hg;subst hP hw hK;obtain⟨xs,x,hq,hx⟩:=hg;obtain⟨its,rv,p,hz⟩:=I.tuple hq;obtain⟨u,hu,ru⟩:=rv.get hx;obtain⟨f0,f1,f2,f3,f4,f5⟩:=hf it (by simp);refine wpAny_pyNext_tuple_item st (show s.1.IsTuple a its.toArray from p) (x:=u) (by simpa using hu) λh' CV sb=>?_;have I1:Inv X Y σ H {s with heap:=h'}:=I.turned (t':=s.toks) (λb o hb e=>(sb.2 b hb).trans e) f0 f1 f3 f4 f5;obtain⟨o,e,c,d⟩:=id CV;exact⟨u,D?,qG (s:={s with heap:=h'}) e c d (by decide) ⟨x,H,I1,ru,⟨D?,λys hy=>by rw[I.tuple_inj hy hq];exact hx⟩,CV,λb hb=>(hf b hb).1⟩⟩
 done:=by
  intro X hP hw hK hc i Y s σ H E I hf st hg;subst hP hw hK;obtain⟨xs,hq,hx⟩:=hg;obtain⟨its,rv,p,hz⟩:=I.tuple hq;obtain⟨f0,f1,f2,f3,f4,f5⟩:=hf it (by simp);have hl:=rv.length;exact wpAny_pyNext_tuple_end (I.ok.hd hc) st (show s.1.IsTuple a its.toArray from p) (by simp;lia) λh' eb=>⟨rfl,I.turned (t':=s.toks) (λb o hb e=>eb b o hb e) f0 f1 f3 f4 f5⟩
 self:=λ_ _ _ _ _ st h=>wpAny_pyIter_tupleiter st h
theorem pY(it:Vy)(lo:Int)(n:Nat):Turn P w K tg (Itr lo n) [it] it (λi h=>IsRangeIter h it (lo+(i:Nat) * 1) ((n:Int) - (i:Nat)) 1) where
 mem:=by simp
 obj:=λi h st b hb=>by
  have e:b=it:=by simpa using hb
  subst e
  exact⟨_,st,λv z=>by
   have z':Data.fields _=Data.cell v:=z;cases z'⟩
 keep:=λi h h' st k=>k it (by simp) _ st
 item:=by
  intro X hP hw hK hc i Y s σ H E I hf st hg;subst hP hw hK;obtain⟨f0,f1,f2,f3,f4,f5⟩:=hf it (by simp);have W:=Walks.range (prog:=X.prog) (w:=X.w) (I.ok.hd hc) it lo 1 n;refine W.item i s _ _ hg st λv h' tk hv CV kk=>?_;obtain⟨t,rfl⟩:=hv;have I1:Inv X Y σ H {s with heap:=h',toks:=tk}:=I.turned (λb o hb e=>kk b o (by simpa using hb) e) f0 f1 f3 f4 f5;refine⟨_,D?,qG (s:={s with heap:=h',toks:=tk}) (n:="range_iterator") CV rfl rfl (by decide) ⟨.int (lo+i),H,I1,⟨t,?_⟩,⟨D?,D?⟩,CV,λb hb=>(hf b hb).1⟩⟩;rw[Int.mul_one]
 done:=by
  intro X hP hw hK hc i Y s σ H E I hf st hg;subst hP hw hK;obtain⟨f0,f1,f2,f3,f4,f5⟩:=hf it (by simp);exact wpAny_pyNext_range_end (I.ok.hd hc) st (by have:n<=i:=hg;lia) λh' eb=>⟨rfl,I.turned (t':=s.toks) (λb o hb e=>eb b o hb e) f0 f1 f3 f4 f5⟩
 self:=λ_ _ _ _ _ st h=>wpAny_pyIter_rangeiter st h
end L2
open L2.SqT renaming of->i!
open L2.SqL renaming of->l!
variable{wi:L2.TI}{J:L2.It}
namespace L2
open PySem PySem.Spec PyProof.Rows
section
variable{X:Cx}
def xN(K:VD)(tl:TE):TI:=λσ H R=>tl σ H λx H1=>∃a,x=.ref a/\(∃xs,SqL K H1 a xs)/\R (Itl K a) H1
def yF(K:VD)(tl:TE):TI:=λσ H R=>tl σ H λx H1=>∃a,x=.ref a/\(∃xs,SqT K H1 a xs)/\R (Itt K a) H1
theorem bX{l:WB}(hl:PE X l tl):PI X tg l (xN X.K tl):=by
 intro Y s σ H R I h;refine thn (hl Y s σ H _ I h) λv s1⟨x,H1,I1,r1,q1⟩=>?_;obtain⟨a,e,⟨xs,hq⟩,q⟩:=q1;subst e;cases r1;obtain⟨its,rv,p,hz⟩:=I1.list hq;refine wpAny_pyIter_list p.isList ?_;refine⟨s1.1.1.size,[s1.1.1.size],_,_,H1,D?,I1.kept (t':=s1.toks) λb o e=>VB _ e,rP a _,⟨_,VI _ rfl,D?,D?⟩,λb hb=>?_,q⟩;have e:b=s1.1.1.size:=by simpa using hb
 subst e;exact I1.fpOk (VG _) (I1.hok.fresh (VG _))
theorem b9{l:WB}(hl:PE X l tl):PI X tg l (yF X.K tl):=by
 intro Y s σ H R I h;refine thn (hl Y s σ H _ I h) λv s1⟨x,H1,I1,r1,q1⟩=>?_;obtain⟨a,e,⟨xs,hq⟩,q⟩:=q1;subst e;cases r1;obtain⟨its,rv,p,hz⟩:=I1.tuple hq;refine YR (show s1.1.IsTuple a its.toArray from p) ?_;refine⟨s1.1.1.size,[s1.1.1.size],_,_,H1,D?,I1.kept (t':=s1.toks) λb o e=>VB _ e,qg a _,⟨_,VI _ rfl,D?,D?⟩,λb hb=>?_,q⟩;have e:b=s1.1.1.size:=by simpa using hb
 subst e;exact I1.fpOk (VG _) (I1.hok.fresh (VG _))
theorem sN{R:It->Hp->Prop}{lo hi:Int}{t u v:Tok}{tk:Nat}(I:Inv X Y σ H s)(h1:-(2 ^ 62)<=lo)(h2:lo<2 ^ 62)(h3:-(2 ^ 62)<=hi)(h4:hi<2 ^ 62)
 (q:R (Itr lo (hi - lo).toNat) H):VW (Wb X.prog X.w) X.A (pyIter (.ref s.1.1.size)) (PIE X Y σ tg R) E {s with heap:=s.1.push {cls:=.type "range",data:=.fields #[.int lo t,.int hi u,.int 1 v]},toks:=tk}:=by
 refine wpAny_pyIter_range (IsRange.new ..) (small_one h1 h2 h3 h4) ?_;have I1:Inv X Y σ H {s with heap:=s.1.push {cls:=.type "range",data:=.fields #[.int lo t,.int hi u,.int 1 v]},toks:=tk}:=I.kept λb o e=>VB _ e
 refine⟨(s.1.push {cls:=.type "range",data:=.fields #[.int lo t,.int hi u,.int 1 v]}).objs.size,[(s.1.push {cls:=.type "range",data:=.fields #[.int lo t,.int hi u,.int 1 v]}).objs.size],_,_,H,D?,
  I1.kept (t':=tk) λb o e=>VB _ e,pY _ lo (hi - lo).toNat,?_,λb hb=>?_,q⟩
 .have e1:lo+((0:Nat):Int) * 1=lo:=by simp
  have e2:(((hi - lo).toNat:Nat):Int) - ((0:Nat):Int)=Builtin.Range.rangeSize lo hi 1:=by rw[rangeSize_one];split <;> lia
  show IsRangeIter _ _ (lo+((0:Nat):Int) * 1) ((((hi - lo).toNat:Nat):Int) - ((0:Nat):Int)) 1;rw[e1,e2];exact VI _ rfl
 .have e:b=(s.1.push {cls:=.type "range",data:=.fields #[.int lo t,.int hi u,.int 1 v]}).objs.size:=by simpa using hb
  subst e;exact I1.fpOk (VG _) (I1.hok.fresh (VG _))
def yc(ta:TA):TI:=λσ H R=>ta σ H λvs H1=>∃j:Int,vs=[.int j]/\-(2 ^ 62)<=j/\j<2 ^ 62/\R (Itr 0 j.toNat) H1
theorem bW{a:WB}{ta:TA}{p:YF}(hg:Gl X "range")(hm:X.mg "range"=AQ)(ha:PA X [a] ta)(hs:Wu [a] X.env=[(C?,XD a X.env)]:=by rfl):PI X tg (.Call (.Name "range" p) [a] [] pos) (yc ta):=by
 intro Y s σ H R I h;refine Call_ (dz I hg hm boot_range (WW (thn (ha pos Y s σ H _ I h) λus s1⟨vs,H1,I1,r1,q1⟩=>?_) hs rfl));obtain⟨j,e,q1,q2,q⟩:=q1;subst e;cases r1 with
 | cons r rr =>
   cases rr;obtain⟨t,rfl⟩:=r;exact call_range_1 (sN I1 (by lia) (by lia) q1 q2 (by simpa using q))
def yM(wi:TI)(g:TG)(tb:TS):TS:=λD σ H=>wi σ H λJ H1=>∃W:Nat->Nat->St->Hp->Prop,(∃m,W 0 m σ H1)/\∀i m σ H,W i m σ H ->
 (J.stop i H/\D.nx σ H)\/(J.go i H/\∃N:St->Hp->Prop,(∀i' H',N i' H'->∃m',m'<m/\W (i+1) m' i' H')/\∀x H',J.yld i H x H'->g x σ H' λzg H2=>tb {D with nx:=N,ct:=N,bk:=D.nx} zg H2)
def kC(fp:List Vy)(h:WS):List (Vy×Xw):=fp.filterMap λb=>(h.get? b).map λo=>(b,o)
theorem cY{o:Xw}(hb:b∈fp)(e:h.get? b=A? o):(b,o)∈kC fp h:=ZU.mpr ⟨b,hb,by rw[e];rfl⟩
theorem sg{p:Vy×Xw}(hp:p∈kC fp h):p.1∈fp/\h.get? p.1=A? p.2:=by
 obtain⟨b,hb,e⟩:=ZU.mp hp;cases q:h.get? b with
 |none=>rw[q]at e;cases e
 | some o =>
   rw[q]at e;have e':(b,o)=p:=VN e;subst e';exact⟨hb,q⟩
theorem Inv.pinned(I:Inv X Y σ H s)(hf:∀b∈fp,FpOk X Y H b)(ho:∀b∈fp,∃o,s.1.get? b=A? o/\∀v,o.data≠.cell v):Inv X (Y++kC fp s.1) σ H s :=
 I.pins_of λp hp=>(VP.mp hp).elim (λz=>I.pin p (V9 _ z)) λz=>by
  obtain⟨hb,e⟩:=sg z;obtain⟨f0,f1,f2,_⟩:=hf p.1 hb;obtain⟨o,e',d⟩:=ho p.1 hb;rw[e]at e';cases e';exact⟨e,f0,f1,f2,d⟩
theorem Inv.unpinned{pl:List (Vy×Xw)}(I:Inv X (Y++pl) σ H s):Inv X Y σ H s:=I.pins_of λp hp=>I.pin p (V9 _ (VT _ hp))
theorem bG{g:TG}(hp:PassesOwn (Wb X.prog X.w) X.A X.env X.xe)(hc:X.calm=B?)(hi:PI X tg iter wi)(hg:PG X tg g)(hb:PSs X body tb)
 (hs:∀x,foldedSetIterable iter X.env x=pure x:=by intro _;rfl):PS X (.For tg iter body [] pos) (yM wi g tb):=by
 intro Y s σ H D I h;refine wpAny_For (thn (hi Y s σ H _ I h) λv s1 h1=>thn h1 λKh s2 h2=>?_) hs;obtain⟨it,fp,tn,J,H2,e,I2,T,D6,f2,W,⟨m0,w0⟩,turn⟩:=h2;subst e
 have BZ:∀{H':Hp},(∀b∈fp,H' b=AQ)->∀b∈fp,FpOk X Y H' b:=λhn b hb=>⟨hn b hb,(f2 b hb).2⟩;refine codeAny_forLoop_any (λn s'=>∃i i' H',Inv X Y i' H' s'/\tn i s'.1/\(∀b∈fp,H' b=AQ)/\W i n i' H') ?_ m0 ⟨0,σ,H2,I2,D6,λb hb=>(f2 b hb).1,w0⟩;rintro n s3 ⟨i,C5,H3,I3,Ov,Ow,w3⟩;rcases turn i n C5 H3 w3 with⟨stop,qn⟩|⟨go,N,hN,step⟩
 .refine YT hp (thn (T.done X rfl rfl rfl hc i Y s3 C5 H3 X.xe I3 (BZ Ow) Ov stop) λr s4⟨hr,I4⟩=>?_);subst hr;exact ZX ⟨C5,H3,I4,qn⟩
 .refine YT hp (thn (T.item X rfl rfl rfl hc i Y s3 C5 H3 X.xe I3 (BZ Ow) Ov go) λr s4⟨u,hr,h4⟩=>?_);subst hr;refine YT hp (thn h4 λ_ s5⟨x,H5,I5,r5,y5,Gy,Ki⟩=>?_);have QG:=I5.pinned (BZ Ki) (T.obj _ _ Gy);refine YT hp (thn (hg _ s5 C5 H5 x u _ QG r5 (step x H5 y5)) λ_ s6⟨QH,H6,I6,q6⟩=>?_);refine YT hp (thn (hb _ s6 QH H6 _ I6 q6) λf s7 q7=>?_)
  have again:∀{C6:St}{H7:Hp},Inv X (Y++kC fp s5.1) C6 H7 s7->N C6 H7->∃m,m<n/\∃i i' H',Inv X Y i' H' s7/\tn i s7.1/\(∀b∈fp,H' b=AQ)/\W i m i' H':=λ{C6 H7}I7 n7=>by
   obtain⟨m',hm,w7⟩:=hN C6 H7 n7;refine⟨m',hm,i+1,C6,H7,I7.unpinned,T.keep _ _ _ Gy λb hb o e=>(I7.pin (b,o) (V9 _ (V9 _ (cY hb e)))).1,λb hb=>?_,w7⟩;obtain⟨o,e,d⟩:=T.obj _ _ Gy b hb;exact(I7.pin (b,o) (V9 _ (V9 _ (cY hb e)))).2.1
  cases f with
  |next=>obtain⟨C6,H7,I7,n7⟩:=q7;exact again I7 n7
  |cont=>obtain⟨C6,H7,I7,n7⟩:=q7;exact again I7 n7
  |brk=>obtain⟨C6,H7,I7,q7⟩:=q7;exact⟨C6,H7,I7.unpinned,q7⟩
  |ret v=>obtain⟨x7,C6,H7,I7,r7,q7⟩:=q7;exact⟨x7,C6,H7,I7.unpinned,r7,q7⟩
end
theorem fj{g:TG}(Pv:Nat->St->Hp->Prop)(h0:Pv 0 σ H)(hl:∀i σ H,i<=xs.length->Pv i σ H->SqL K H a xs)
 (hs:∀i x σ H,xs[i]?=A? x->Pv i σ H->g x σ H λzg H2=>tb {D with nx:=Pv (i+1),ct:=Pv (i+1),bk:=D.nx} zg H2) (hd:∀σ H,Pv xs.length σ H->D.nx σ H) :
 ∃W:Nat->Nat->St->Hp->Prop,(∃m,W 0 m σ H)/\∀i m σ H,W i m σ H ->
   ((Itl K a).stop i H/\D.nx σ H)\/((Itl K a).go i H/\∃N:St->Hp->Prop,(∀i' H',N i' H'->∃m',m'<m/\W (i+1) m' i' H')/\∀x H',(Itl K a).yld i H x H'->g x σ H' λzg H2=>tb {D with nx:=N,ct:=N,bk:=D.nx} zg H2):=by
 refine⟨λi m σ H=>m=xs.length - i/\i<=xs.length/\Pv i σ H,⟨xs.length,by simp,Wh _,h0⟩,?_⟩;rintro i m σ H ⟨rfl,hi,p⟩;have q:=hl i σ H hi p;by_cases yZ:i<xs.length
 .refine .inr ⟨⟨xs,xs[i],q,by simp[yZ]⟩,Pv (i+1),λi' H' p'=>⟨xs.length - (i+1),by lia,rfl,yZ,p'⟩,λx H' y=>?_⟩;obtain⟨e,y⟩:=y;subst e;exact hs i x σ _ (y xs q) p
 .have e:i=xs.length:=by lia
  subst e;exact .inl ⟨⟨xs,q,VG _⟩,hd σ H p⟩
theorem cw{lo:Int}{g:TG}(Pv:Nat->St->Hp->Prop)(h0:Pv 0 σ H)
 (hs:∀i σ H,i<n->Pv i σ H->g (.int (lo+i)) σ H λzg H2=>tb {D with nx:=Pv (i+1),ct:=Pv (i+1),bk:=D.nx} zg H2) (hd:∀σ H,Pv n σ H->D.nx σ H) :
 ∃W:Nat->Nat->St->Hp->Prop,(∃m,W 0 m σ H)/\∀i m σ H,W i m σ H ->
   ((Itr lo n).stop i H/\D.nx σ H)\/((Itr lo n).go i H/\∃N:St->Hp->Prop,(∀i' H',N i' H'->∃m',m'<m/\W (i+1) m' i' H')/\∀x H',(Itr lo n).yld i H x H'->g x σ H' λzg H2=>tb {D with nx:=N,ct:=N,bk:=D.nx} zg H2):=by
 refine⟨λi m σ H=>m=n - i/\i<=n/\Pv i σ H,⟨n,by simp,Wh _,h0⟩,?_⟩;rintro i m σ H ⟨rfl,hi,p⟩;by_cases yZ:i<n
 .refine .inr ⟨yZ,Pv (i+1),λi' H' p'=>⟨n - (i+1),by lia,rfl,yZ,p'⟩,λx H' y=>?_⟩;obtain⟨e,y⟩:=y;subst e y;exact hs i σ _ yZ p
 .have e:i=n:=by lia
  subst e;exact .inl ⟨VG _,hd σ H p⟩
abbrev R2:=V->V->Hp->VK->Prop
def OpR(X:Cx)(f:Vz->Vz->Sem Vz)(r:R2):Prop :=
 ∀(Y:List (Vy×Xw))(s:VF)(σ:St)(H:Hp)(x y:V)(v u:Vz)(Q:VK),Inv X Y σ H s->RelV x v->RelV y u->r x y H Q ->
   VW (Wb X.prog X.w) X.A (f v u) (EP X Y σ Q) X.xe s
def UnR(X:Cx)(f:Vz->Sem Vz)(r:V->Hp->VK->Prop):Prop :=
 ∀(Y:List (Vy×Xw))(s:VF)(σ:St)(H:Hp)(x:V)(v:Vz)(Q:VK),Inv X Y σ H s->RelV x v->r x H Q ->
   VW (Wb X.prog X.w) X.A (f v) (EP X Y σ Q) X.xe s
def fZ(X:Cx)(f:Vz)(r:List V->Hp->VK->Prop):Prop :=
 ∀(Y:List (Vy×Xw))(s:VF)(σ:St)(H:Hp)(xs:List V)(us:List Vz)(Q:VK),Inv X Y σ H s->Vals xs us->r xs H Q ->
   VW (Wb X.prog X.w) X.A (call f us) (EP X Y σ Q) X.xe s
def yQ(X:Cx)(r:V->Hp->(Bool->Hp->Prop)->Prop):Prop :=
 ∀(Y:List (Vy×Xw))(s:VF)(σ:St)(H:Hp)(x:V)(v:Vz)(Q:Bool->Hp->Prop),Inv X Y σ H s->RelV x v->r x H Q ->
   VW (Wb X.prog X.w) X.A (truthy v) (TP X Y σ Q) X.xe s
def tOp(r:R2)(ta tb:TE):TE:=λσ H Q=>ta σ H λx H1=>tb σ H1 λy H2=>r x y H2 Q
def tUn(r:V->Hp->VK->Prop)(ta:TE):TE:=λσ H Q=>ta σ H λx H1=>r x H1 Q
inductive IrI(C:Int->Int->Prop)(g:Int->Int->V)(x:V)(y:V)(H:Hp)(Q:VK):Prop
 |mk (i:_) (j:_) (AS:x=.int i) (AU:y=.int j) (Cj:C i j) (D8:Q (g i j) H):IrI C g x y H Q
def rI(C:Int->Int->Prop)(g:Int->Int->V):R2:=IrI C g
inductive yr(g:Int->Int->V)(x:V)(y:V)(H:Hp)(Q:VK):Prop
 |mk (i:_) (j:_) (AS:x=.int i) (AU:y=.int j) (Cj:Q (g i j) H):yr g x y H Q
def rI0(g:Int->Int->V):R2:=yr g
inductive IrU(g:Int->V)(x:V)(H:Hp)(Q:VK):Prop
 |mk (i:_) (AS:x=.int i) (AU:Q (g i) H):IrU g x H Q
def rU(g:Int->V):V->Hp->VK->Prop:=IrU g
section
variable{X:Cx}{a b c:WB}{ta tb tc:TE}
theorem xu(ha:PE X a ta)(hb:PE X b tb){R:V->V->Hp->Prop}(I:Inv X Y σ H s)
 (h:ta σ H λx H1=>tb σ H1 λy H2=>R x y H2) {f:Vz->Vz->Sem Vz}
 (hf:∀v u s2 x y H2,Inv X Y σ H2 s2->RelV x v->RelV y u->R x y H2->VW (Wb X.prog X.w) X.A (f v u) Q X.xe s2) :
 VW (Wb X.prog X.w) X.A (XD a X.env) (λv l'=>VW (Wb X.prog X.w) X.A (XD b X.env) (λu zR=>VW (Wb X.prog X.w) X.A (f v u) Q X.xe zR) X.xe l') X.xe s:=by
 refine thn (ha Y s σ H _ I h) λv s1⟨x,H1,I1,r1,q1⟩=>?_;refine thn (hb Y s1 σ H1 _ I1 q1) λu s2⟨y,H2,I2,r2,q2⟩=>?_;exact hf v u s2 x y H2 I2 r1 r2 q2
theorem aq{op:Operator}{r:R2}(ho:OpR X (Yr op) r)(ha:PE X a ta)(hb:PE X b tb):PE X (.BinOp a op b pos) (tOp r ta tb):=by
 intro Y s σ H Q I h;exact wpAny_BinOp (xu ha hb I h λv u s2 x y H2 I2 rx ry q=>ho Y s2 σ H2 x y v u Q I2 rx ry q)
theorem re{op:UnaryOp}{r:V->Hp->VK->Prop}(ho:UnR X (unaryOp op) r)(ha:PE X a ta):PE X (.UnaryOp op a pos) (tUn r ta):=by
 intro Y s σ H Q I h;exact UnaryOp_ (thn (ha Y s σ H _ I h) λv s1⟨x,H1,I1,r1,q1⟩=>ho Y s1 σ H1 x v Q I1 r1 q1)
theorem opI{f:Vz->Vz->Sem Vz}{C:Int->Int->Prop}{g:Int->Int->Int}
 (rule:∀(i j:Int)(t u:Tok)(s:VF)(Q:Vz->VF->Prop)(E:Vz->VF->Prop),C i j->Q (.int (g i j) s.toks) {s with toks:=s.toks+1}->VW (Wb X.prog X.w) X.A (f (.int i t) (.int j u)) Q E s) :
 OpR X f (rI C λi j=>.int (g i j)):=by
 intro Y s σ H x y v u Q I rx ry h;obtain⟨i,j,rfl,rfl,hc,q⟩:=h;obtain⟨t,rfl⟩:=rx;obtain⟨t',rfl⟩:=ry;exact rule i j t t' s _ _ hc ⟨.int (g i j),H,I.tok _,⟨_,rfl⟩,q⟩
theorem uO{f:Vz->Vz->Sem Vz}{g:Int->Int->Int}
 (rule:∀(i j:Int)(t u:Tok)(s:VF)(Q:Vz->VF->Prop)(E:Vz->VF->Prop),Q (.int (g i j) s.toks) {s with toks:=s.toks+1}->VW (Wb X.prog X.w) X.A (f (.int i t) (.int j u)) Q E s) :
 OpR X f (rI0 λi j=>.int (g i j)):=by
 intro Y s σ H x y v u Q I rx ry h;obtain⟨i,j,rfl,rfl,q⟩:=h;obtain⟨t,rfl⟩:=rx;obtain⟨t',rfl⟩:=ry;exact rule i j t t' s _ _ ⟨.int (g i j),H,I.tok _,⟨_,rfl⟩,q⟩
theorem xb{f:Vz->Vz->Sem Vz}{g:Int->Int->Bool}
 (rule:∀(i j:Int)(t u:Tok)(s:VF)(Q:Vz->VF->Prop)(E:Vz->VF->Prop),Q (.bool (g i j)) s->VW (Wb X.prog X.w) X.A (f (.int i t) (.int j u)) Q E s) :
 OpR X f (rI0 λi j=>.bl (g i j)):=by
 intro Y s σ H x y v u Q I rx ry h;obtain⟨i,j,rfl,rfl,q⟩:=h;obtain⟨t,rfl⟩:=rx;obtain⟨t',rfl⟩:=ry;exact rule i j t t' s _ _ ⟨.bl (g i j),H,I,rfl,q⟩
def yA(i j:Int):Prop:=0<j/\j<1073741824
def yt(i j:Int):Prop:=0<=j/\j<=1000000/\i.natAbs<2 ^ 64
def CMul(i j:Int):Prop:=(-(2 ^ 64)<i/\i<2 ^ 64)\/(-(2 ^ 64)<j/\j<2 ^ 64)
theorem CMul.ok{i j:Int}(h:CMul i j):IntMulOk i j:=by
 rcases h with⟨h1,h2⟩|⟨h1,h2⟩
 .exact .of_left (intBits_le_64 h1 h2)
 .exact .of_right (intBits_le_64 h1 h2)
theorem pc(k:Nat):(0:Int)<=2 ^ k:=by
 rw[two_pow_cast];exact ZV _
theorem bC:OpR X (Yr .Add) (rI0 λi j=>.int (i+j)):=uO λ_ _ _ _ _ _ _ q=>add_int q
theorem gg:OpR X (Yr .Sub) (rI0 λi j=>.int (i - j)):=uO λ_ _ _ _ _ _ _ q=>sub_int q
theorem fN:OpR X (Yr .Mult) (rI CMul λi j=>.int (i * j)):=opI λ_ _ _ _ _ _ _ hc q=>mul_int q hc.ok
theorem bF:OpR X (Yr .FloorDiv) (rI yA λi j=>.int (i / j)):=opI λi j _ _ _ _ _ hc q=>by
 have h1:(0:Int)<j:=hc.1;have h2:j<1073741824:=hc.2;exact floordiv_int (by lia) (by rw[Int.fdiv_eq_ediv_of_nonneg i (by lia)];exact q) (.inl (PyProof.noPylong_small (by lia)))
theorem aX:OpR X (Yr .Mod) (rI (λ_ j=>0<j) λi j=>.int (i%j)):=opI λi j _ _ _ _ _ hc q=>by
 have h1:(0:Int)<j:=hc;exact mod_int' (by lia) (by rw[Int.fmod_eq_emod_of_nonneg i (by lia)];exact q)
theorem pK:OpR X (Yr .Pow) (rI yt λi j=>.int (i ^ j.toNat)):=opI λ_ _ _ _ _ _ _ hc q=>pow_int_small hc.1 hc.2.1 hc.2.2 q
theorem tV:OpR X (Yr .LShift) (rI yt λi j=>.int (i * 2 ^ j.toNat)):=opI λ_ _ _ _ _ _ _ hc q=>lshift_int_small hc.1 hc.2.1 hc.2.2 q
theorem wG:OpR X (Yr .RShift) (rI (λ_ j=>0<=j) λi j=>.int (i / 2 ^ j.toNat)):=opI λi j _ _ _ _ _ hc q =>
 rshift_int hc (by rw[Int.fdiv_eq_ediv_of_nonneg i (pc _)];exact q)
theorem pW:OpR X (Yr .BitAnd) (rI0 λi j=>.int (WL i j)):=uO λ_ _ _ _ _ _ _ q=>and_int q
theorem xY:OpR X (Yr .BitOr) (rI0 λi j=>.int (XT i j)):=uO λ_ _ _ _ _ _ _ q=>or_int q
theorem unI{f:Vz->Sem Vz}{g:Int->Int}
 (rule:∀(i:Int)(t:Tok)(s:VF)(Q:Vz->VF->Prop)(E:Vz->VF->Prop),Q (.int (g i) s.toks) {s with toks:=s.toks+1}->VW (Wb X.prog X.w) X.A (f (.int i t)) Q E s) :
 UnR X f (rU λi=>.int (g i)):=by
 intro Y s σ H x v Q I rx h;obtain⟨i,rfl,q⟩:=h;obtain⟨t,rfl⟩:=rx;exact rule i t s _ _ ⟨.int (g i),H,I.tok _,⟨_,rfl⟩,q⟩
theorem o6:UnR X (unaryOp .USub) (rU λi=>.int (-i)):=unI λ_ _ _ _ _ q=>neg_int q
theorem wq:UnR X (unaryOp .Invert) (rU λi=>.int (W9 i)):=unI λ_ _ _ _ _ q=>invert_int q
end
def xK:V->V->Bool
 |.non,.non=>B?|.non,.int _=>B?|.int _,.non=>B?|.non,.bl _=>B?|.bl _,.non=>B?|.non,.str _=>B?|.str _,.non=>B?
 |.int _,.int _=>B?|.bl _,.bl _=>B?|.str _,.str _=>B?|.byt _,.byt _=>B?
 |.int _,.str _=>B?|.str _,.int _=>B?|.bl _,.str _=>B?|.str _,.bl _=>B?
 |_,_=>C?
inductive ym(x:V)(y:V)(H:Hp)(Q:VK):Prop
 |mk  (AS:xK x y=B?) (AU:Q (.bl (decide (x=y))) H):ym  x y H Q
def rEq:R2:=ym
inductive xR(x:V)(y:V)(H:Hp)(Q:VK):Prop
 |mk  (AS:xK x y=B?) (AU:Q (.bl (!decide (x=y))) H):xR  x y H Q
def rNe:R2:=xR
theorem j4{i j:Int}:decide (o! i=o! j)=(i == j):=by
 rw[ZC];simp
theorem sY{i j:Bool}:decide (V.bl i=V.bl j)=(i == j):=by
 rw[ZC];simp
theorem rc{i j:V5}:decide (D! i=D! j)=(i == j):=by
 rw[ZC];simp
theorem qv{i j:Array UInt8}:decide (V.byt i=V.byt j)=(i.toList == j.toList):=by
 rw[ZC];cases i;cases j;simp
section
variable{X:Cx}{a b c:WB}{ta tb tc:TE}
theorem bi{Q:VK}{k k':Bool}(I:Inv X Y σ H s)(q:Q (.bl k) H)(e:k=k'):EP X Y σ Q (.bool k') s:=by
 subst e;exact⟨.bl k,H,I,D?,q⟩
theorem cL:OpR X (Xv .Eq) rEq:=by
 intro Y s σ H x y v u Q I rx ry h;obtain⟨hs,q⟩:=h;cases x with
 | non =>
   cases rx;cases y with
   |non=>cases ry;exact PySem.EqNone.eq_none_none (bi I q (by simp))
   |bl j=>cases ry;exact PySem.EqNone.eq_none_bool (bi I q (by simp))
   |int j=>obtain⟨t',rfl⟩:=ry;exact PySem.EqNone.eq_none_int (bi I q (by simp))
   |str j=>obtain⟨t',rfl⟩:=ry;exact PySem.EqNone.eq_none_str (bi I q (by simp))
   |_=>exact g! (show C?=B? from hs) VY
 | bl i =>
   cases rx;cases y with
   |non=>cases ry;exact PySem.EqNone.eq_bool_none (bi I q (by simp))
   |bl j=>cases ry;exact eq_bool (bi I q sY)
   |str j=>obtain⟨t',rfl⟩:=ry;exact PySem.EqMixed.eq_bool_str (bi I q (by simp))
   |_=>exact g! (show C?=B? from hs) VY
 | int i =>
   obtain⟨t,rfl⟩:=rx;cases y with
   |non=>cases ry;exact PySem.EqNone.eq_int_none (bi I q (by simp))
   |int j=>obtain⟨t',rfl⟩:=ry;exact eq_int (bi I q j4)
   |str j=>obtain⟨t',rfl⟩:=ry;exact PySem.EqMixed.eq_int_str (bi I q (by simp))
   |_=>exact g! (show C?=B? from hs) VY
 | str i =>
   obtain⟨t,rfl⟩:=rx;cases y with
   |non=>cases ry;exact PySem.EqNone.eq_str_none (bi I q (by simp))
   |bl j=>cases ry;exact PySem.EqMixed.eq_str_bool (bi I q (by simp))
   |int j=>obtain⟨t',rfl⟩:=ry;exact PySem.EqMixed.eq_str_int (bi I q (by simp))
   |str j=>obtain⟨t',rfl⟩:=ry;exact eq_str (bi I q rc)
   |_=>exact g! (show C?=B? from hs) VY
 | byt i =>
   obtain⟨t,rfl⟩:=rx;cases y with
   |byt j=>obtain⟨t',rfl⟩:=ry;exact PySem.W.eq_bytes (bi I q qv)
   |_=>exact g! (show C?=B? from hs) VY
 |_=>cases y <;> exact g! (show C?=B? from hs) VY
theorem tj:OpR X (Xv .NotEq) rNe:=by
 intro Y s σ H x y v u Q I rx ry h;obtain⟨hs,q⟩:=h;cases x with
 | non =>
   cases rx;cases y with
   |non=>cases ry;exact PySem.EqNone.ne_none_none (bi I q (by simp))
   |bl j=>cases ry;exact PySem.EqNone.ne_none_bool (bi I q (by simp))
   |int j=>obtain⟨t',rfl⟩:=ry;exact PySem.EqNone.ne_none_int (bi I q (by simp))
   |str j=>obtain⟨t',rfl⟩:=ry;exact PySem.EqNone.ne_none_str (bi I q (by simp))
   |_=>exact g! (show C?=B? from hs) VY
 | bl i =>
   cases rx;cases y with
   |non=>cases ry;exact PySem.EqNone.ne_bool_none (bi I q (by simp))
   |bl j=>cases ry;exact ne_bool (bi I q (h! not sY))
   |str j=>obtain⟨t',rfl⟩:=ry;exact PySem.EqMixed.ne_bool_str (bi I q (by simp))
   |_=>exact g! (show C?=B? from hs) VY
 | int i =>
   obtain⟨t,rfl⟩:=rx;cases y with
   |non=>cases ry;exact PySem.EqNone.ne_int_none (bi I q (by simp))
   |int j=>obtain⟨t',rfl⟩:=ry;exact ne_int (bi I q (h! not j4))
   |str j=>obtain⟨t',rfl⟩:=ry;exact PySem.EqMixed.ne_int_str (bi I q (by simp))
   |_=>exact g! (show C?=B? from hs) VY
 | str i =>
   obtain⟨t,rfl⟩:=rx;cases y with
   |non=>cases ry;exact PySem.EqNone.ne_str_none (bi I q (by simp))
   |bl j=>cases ry;exact PySem.EqMixed.ne_str_bool (bi I q (by simp))
   |int j=>obtain⟨t',rfl⟩:=ry;exact PySem.EqMixed.ne_str_int (bi I q (by simp))
   |str j=>obtain⟨t',rfl⟩:=ry;exact ne_str (bi I q (h! not rc))
   |_=>exact g! (show C?=B? from hs) VY
 | byt i =>
   obtain⟨t,rfl⟩:=rx;cases y with
   |byt j=>obtain⟨t',rfl⟩:=ry;exact PySem.W.ne_bytes (bi I q (h! not qv))
   |_=>exact g! (show C?=B? from hs) VY
 |_=>cases y <;> exact g! (show C?=B? from hs) VY
theorem fc:OpR X (Xv .Lt) (rI0 λi j=>.bl (decide (i<j))):=xb λ_ _ _ _ _ _ _ q=>lt_int q
theorem vX:OpR X (Xv .LtE) (rI0 λi j=>.bl (decide (i<=j))):=xb λ_ _ _ _ _ _ _ q=>le_int q
theorem qt:OpR X (Xv .Gt) (rI0 λi j=>.bl (decide (j<i))):=xb λ_ _ _ _ _ _ _ q=>gt_int q
theorem wQ:OpR X (Xv .Is) (λx y H Q=>y=.non/\Q (.bl (decide (x=.non))) H):=by
 intro Y s σ H x y v u Q I rx ry h;obtain⟨rfl,q⟩:=h;cases ry;refine is_none_gen (bi I q ?_)
 cases x <;> first
  |(cases rx;rfl)
  |(obtain⟨t,rfl⟩:=rx;rfl)
theorem j5:OpR X (Xv .IsNot) (λx y H Q=>y=.non/\Q (.bl (!decide (x=.non))) H):=by
 intro Y s σ H x y v u Q I rx ry h;obtain⟨rfl,q⟩:=h;cases ry;refine isnot_none_gen (bi I q ?_)
 cases x <;> first
  |(cases rx;rfl)
  |(obtain⟨t,rfl⟩:=rx;rfl)
theorem aJ(b:WB)(h:op≠.In:=by decide)(h2:op≠.NotIn:=by decide):behindInMarks op b=false:=by
 have e1:(op == CmpOp.In)=false:=by cases op <;> first|rfl|exact g! rfl h
 have e2:(op == CmpOp.NotIn)=false:=by cases op <;> first|rfl|exact g! rfl h2
 cases b <;> simp[behindInMarks,e1,e2]
theorem nn{r:R2}(ho:OpR X (Xv op) r)(ha:PE X a ta)(hb:PE X b tb)(hm:behindInMarks op b=C?):PE X (.Compare a [op] [b] pos) (tOp r ta tb):=by
 intro Y s σ H Q I h;exact wpAny_Compare1 (xu ha hb I h λv u s2 x y H2 I2 rx ry q=>ho Y s2 σ H2 x y v u Q I2 rx ry q) hm
inductive vG(x:V)(Q:Bool->Hp->Prop)(H':Hp):Prop
 |mk (k:Bool) (AS:x=.bl k) (AU:Q k H'):vG x Q H'
def lV(t:TE):TT:=λσ H Q=>t σ H λx H'=>vG x Q H'
theorem aC{r:R2}(ho:OpR X (Xv op) r)(ha:PE X a ta)(hb:PE X b tb)(hm:behindInMarks op b=C?):PT X (.Compare a [op] [b] pos) (lV (tOp r ta tb)):=by
 intro Y s σ H Q I h
 refine wpAny_isTrue_Compare1 (thn (ha Y s σ H _ I h) λv s1⟨x,H1,I1,r1,q1⟩=>thn (hb Y s1 σ H1 _ I1 q1) λu s2⟨y,H2,I2,r2,q2⟩ =>
  thn (ho Y s2 σ H2 x y v u _ I2 r1 r2 q2) λc s3⟨z,H3,I3,r3,k,e,q3⟩=>?_) hm
 subst e;cases r3;exact Yp ⟨H3,I3,q3⟩
def wV(r r':R2)(ta tb tc:TE):TE:=λσ H Q=>ta σ H λx H1=>tb σ H1 λy H2=>r x y H2 λz H3=>∃k,z=.bl k /\
 (if k=B? then tc σ H3 λw' H4=>r' y w' H4 Q else Q (.bl C?) H3)
theorem tm{Lu:CmpOp}{r r':R2}(ho:OpR X (Xv op) r)(Bl:OpR X (Xv Lu) r')(ha:PE X a ta)(hb:PE X b tb)(hc:PE X c tc)
 (hm:lastMarks [op,Lu] [b,c]=false:=by with_unfolding_all rfl):PT X (.Compare a [op,Lu] [b,c] pos) (lV (wV r r' ta tb tc)):=by
 intro Y s σ H Q I h
 refine isTrue_chain (thn (ha Y s σ H _ I h) λv s1⟨x,H1,I1,r1,q1⟩=>test_link (thn (hb Y s1 σ H1 _ I1 q1) λu s2⟨y,H2,I2,r2,q2⟩ =>
  thn (ho Y s2 σ H2 x y v u _ I2 r1 r2 q2) λd s3⟨z,H3,I3,r3,k,e,q3⟩=>?_)) hm
 subst e;cases r3;refine Yp ?_;cases k with
 | false =>
   obtain⟨k',e',q'⟩:=q3;cases e';exact ite_ff ⟨H3,I3,q'⟩
 | true =>
   refine ite_tt (test_last (thn (hc Y s3 σ H3 _ I3 q3) λw' s4⟨z',H4,I4,r4,q4⟩=>thn (Bl Y s4 σ H4 y z' u w' _ I4 r2 r4 q4) λd' s5⟨z2,H5,I5,r5,k2,e2,q5⟩=>?_));subst e2;cases r5;exact Yp ⟨H5,I5,q5⟩
def yk(K:VD)(x:V)(H:Hp)(k:Bool):Prop :=
 match x with
 |.non=>k=C?
 |.bl b=>k=b
 |.int i=>k=(i != 0)
 |.str y=>y.length<=V4/\k=((y.length:Int) != 0)
 |.byt y=>y.size<=V4/\k=((y.size:Int) != 0)
 |.ref p=>(∃xs,SqL K H p xs/\k=!xs.isEmpty)\/(∃xs,SqT K H p xs/\k=!xs.isEmpty)\/∃kvs,H p=A? (.dK kvs)/\k=!kvs.isEmpty
 |_=>False
theorem qr{kvs:List (κ×V)}(r:KV kvs vs):(!vs.isEmpty)=!kvs.isEmpty:=by
 cases r <;> rfl
theorem kD(r:Vals xs its):(!its.toArray.isEmpty)=!xs.isEmpty:=by
 cases r <;> simp
theorem jr:(V4:Nat)<2 ^ 63:=by rw[Y2];decide
theorem xi:yQ X (λx H Q=>∃k,yk X.K x H k/\Q k H):=by
 intro Y s σ H x v Q I rx h;obtain⟨k,e,q⟩:=h;have hl:=jr;have hs:V4=16777216:=Y2;cases x with
 | non =>
   cases rx;have e':k=false:=e;subst e';exact truthy_none ⟨H,I,q⟩
 | bl b =>
   cases rx;have e':k=b:=e;subst e';exact Yp ⟨H,I,q⟩
 | int i =>
   obtain⟨t,rfl⟩:=rx;have e':k=(i != 0):=e;subst e';exact PySem.P.truthy_int ⟨H,I,q⟩
 | str y =>
   obtain⟨t,rfl⟩:=rx;obtain⟨hy,e'⟩:y.length<=V4/\k=((y.length:Int) != 0):=e;subst e';exact PySem.P.truthy_str (by lia) ⟨H,I.tok _,q⟩
 | byt y =>
   obtain⟨t,rfl⟩:=rx;obtain⟨hy,e'⟩:y.size<=V4/\k=((y.size:Int) != 0):=e;subst e';exact PySem.W.truthy_bytes (by lia) ⟨H,I.tok _,q⟩
 | ref p =>
   cases rx;have e':(∃xs,SqL X.K H p xs/\k=!xs.isEmpty)\/(∃xs,SqT X.K H p xs/\k=!xs.isEmpty)\/∃kvs,H p=A? (.dK kvs)/\k=!kvs.isEmpty:=e;rcases e' with⟨xs,hx,e'⟩|⟨xs,hx,e'⟩|⟨kvs,hx,e'⟩
   .subst e';obtain⟨its,r,pl,hz⟩:=I.list hx;have hlen:=r.length;exact wpAny_truthy_list pl.isList (by simp only[VM];lia) ⟨H,I.tok _,by rw[kD r];exact q⟩
   .subst e';obtain⟨its,r,pl,hz⟩:=I.tuple hx;have hlen:=r.length;exact truthy_tuple pl (by simp only[VM];lia) ⟨H,I.tok _,by rw[kD r];exact q⟩
   .subst e';obtain⟨hz,hS,vs,r,m⟩:kvs.length<=V4/\(p == Xn)=C?/\∃vs,KV kvs vs/\s.1.DictOf (bv X.prog X.w) p vs:=I.hok p _ hx;have hlen:kvs.length=vs.length:=VZ r;exact wpAny_truthy_dict hS m (by lia) ⟨H,I.tok _,by rw[qr r];exact q⟩
 |_=>exact(show False from e).elim
theorem b7(ha:PE X a ta)(he:∀whole,isTrue a X.env whole=(do let v <-whole;standAt a.pos;holding [v] (truthy v))) :
 PT X a (λσ H Q=>ta σ H λx H'=>∃k,yk X.K x H' k/\Q k H'):=by
 intro Y s σ H Q I h;exact isTrue_plain (thn (ha Y s σ H _ I h) λv s1⟨x,H1,I1,r1,q1⟩=>xi Y s1 σ H1 x v Q I1 r1 q1) (he _)
theorem ir:OpR X (Yr .Add) (λx y H Q=>∃i j,x=.str i/\y=.str j/\i.length+j.length<=V4/\Q (.str (i++j)) H):=by
 intro Y s σ H x y v u Q I rx ry h;obtain⟨i,j,rfl,rfl,hz,q⟩:=h;obtain⟨t,rfl⟩:=rx;obtain⟨t',rfl⟩:=ry;exact add_str (λt' tk=>⟨.str (i++j),H,I.tok _,⟨_,rfl⟩,q⟩) hz
theorem vals1{x:V}(r:Vals [x] us):∃u,us=[u]/\RelV x u:=by
 cases r with
 |cons r1 r2=>cases r2;exact⟨_,D?,r1⟩
theorem vals2{x:V}(r:Vals [x,y] us):∃u w',us=[u,w']/\RelV x u/\RelV y w':=by
 cases r with
 | cons r1 r2 =>
   cases r2 with
   |cons r3 r4=>cases r4;exact⟨_,_,D?,r1,r3⟩
theorem sE(hc:X.calm=B?):fZ X (.builtin "min") (λxs H Q=>∃i j,xs=[.int i,.int j]/\Q (.int (if j<i then j else i)) H):=by
 intro Y s σ H xs us Q I r h;obtain⟨i,j,rfl,q⟩:=h;obtain⟨u,w',rfl,⟨t,rfl⟩,⟨t',rfl⟩⟩:=vals2 r;refine min_two_ints (I.ok.hd hc) λh' tk k=>⟨_,H,I.kept k,?_,q⟩;by_cases hj:j<i
 .rw[b! hj,b! hj];exact⟨_,D?⟩
 .rw[a! hj,a! hj];exact⟨_,D?⟩
end
end L2
variable{r:L2.R2}
namespace L2
open PySem PySem.Spec PyProof.Rows
structure ObjM(h:WS)(x dx C:Vy)(mA:V5->Option Vz):Prop where
 obj:h.get? x=A? (Yb C dx)
 ns:h.Ns1 dx mA
 ne:dx≠x
theorem rK{dx:Vy}{mA:V5->Option Vz}(n:h.Ns1 dx mA):∃od,h.get? dx=A? od/\∀name,PySem.W.lookIn name od=A? (mA name):=by
 obtain⟨o,es,ep,ho,hd,hk,_,hm⟩:=n;refine⟨o,ho,λname=>?_⟩;have e:=hm name;unfold nsFind findBy at e;rw[<-Array.find?_toList]at e;unfold PySem.W.lookIn;rw[hd];dsimp only;split
 .rename_i y q
  rw[q]at e;exact h! A? e
 .rename_i q
  rw[q]at e
  have a:es.toList.any (·.refKey)=false:=by
   rw[List.any_eq_false];intro y hy;obtain⟨z,t,Bb⟩:=hk y (Array.mem_toList_iff.mp hy);simp[DictEntry.refKey,Bb]
  have a':¬es.toList.any (·.refKey)=true:=by rw[a];exact VY
  rw[a! a'];exact h! A? e
theorem ObjM.look{x dx:Vy}{mA:V5->Option Vz}(I:ObjM h x dx C mA):∃od,PySem.W.InstAt h x (Yb C dx) C (A? od)/\∀name,PySem.W.lookIn name od=A? (mA name) :=
 let⟨od,ho,hl⟩:=rK I.ns
 ⟨od,⟨I.obj,rfl,rfl,ho⟩,hl⟩
section
variable{x dx:Vy}{mA:V5->Option Vz}{v:Vz}
theorem get_map{expr:Bool}(X:K.In s.1)(I:ObjM s.1 x dx C mA)(hg:PySem.W.plainGet K C name=B?)(hh:PySem.W.hasDictIn K C=B?)
 (ha:Xk K (.ref C) name=A? AQ) (hv:mA name=A? v) (AW:PySem.W.handedIn v=B?) (h:Q v {s with toks:=s.toks+1}) :
 VW (Wb prog w) A (getAttr (.ref x) name expr) Q E s:=by
 obtain⟨od,J,hl⟩:=I.look;exact PySem.W.get_value X J (PySem.W.plainGet_of hg).1 (PySem.W.findObj_own hh ha rfl (by rw[hl,hv])) AW h
theorem uc{pl:Sem Bool}{Q:Vz×List Vz->VF->Prop}(X:K.In s.1)(I:ObjM s.1 x dx C mA)(hg:PySem.W.plainGet K C name=B?)
 (hf:Xk K (.ref C) name=A? (A? (.ref f))) (ht:PySem.W.isFn K (.ref f)=B?) (hv:mA name=AQ) (h:Q (.ref f,[.ref x]) s) :
 VW (Wb prog w) A (getMethod (.ref x) name pl) Q E s:=by
 obtain⟨od,J,hl⟩:=I.look;exact PySem.W.method_fn X J (PySem.W.plainGet_of hg).1 (PySem.W.plainGet_of hg).2 hf (beq_iff_eq.mp ht) (by show(PySem.W.lookIn name od).map (·.isSome)=A? C?;rw[hl,hv];rfl) h
theorem vB{ns:List V5}{Q:Unit->VF->Prop}(X:K.In s.1)(I:ObjM s.1 x dx C mA)
 (hs:Xk K (.ref C) "__setattr__"=A? (A? (.builtin "object.__setattr__"))) (hp:PySem.W.plainOver K C=B?) (ht:PySem.W.takerIn K C name=A? AQ) (hh:PySem.W.hasDictIn K C=B?)
 (hw:PySem.Within mA ns) (hsz:ns.length<=V4)
 (h:∀h',ObjM h' x dx C (λy=>if y=name then A? v else mA y)->W3 dx s.1 h'->Q () {s with heap:=h',toks:=s.toks+2}) :
 VW (Wb prog w) A (setAttr (.ref x) name v) Q E s:=by
 obtain⟨od,J,hl⟩:=I.look;refine PySem.W.set_plain X J hs (PySem.W.osa_open (s:={s with toks:=s.toks+1}) (r:=AQ) X J hp ht λb=>?_);obtain⟨cd,hc,Hn⟩:=PySem.W.any_some hh;have hx:s.1.get? x=A? ⟨.ref C,A? dx,.plain,#[]⟩:=I.obj;refine Vv (VC (Vv (Vv (wpAny_loadPart hx (Vv (PySem.W.Looks.here (s:={s with toks:=s.toks+1}) (PySem.W.looks_clsIn X hc) ?_))))));rw[Hn];refine VC (a:=A? dx) (Vv (VC (Vv ?_)));refine wpAny_nsSet1 (s:={s with toks:=s.toks+1}) I.ns λh' Kj Ox=>?_;obtain⟨oD,UK,UL,QI,QJ,QK⟩:=Kj.count (PySem.Within.cons name v hw);refine Vv (wpAny_lookBehind QI (by rw[QJ];exact pastItsLine_dict (Wz QK (by rw[VU];lia))) ?_);exact VC (h _ ⟨(Ox.2 _ (XC I.ne)).trans I.obj,Kj,I.ne⟩ Ox)
theorem uo{R:Result->VF->Prop}{vs:List Vz}(X:K.In s.1)(hm:PySem.W.makesIn K C=B?)
 (hi:Xk K (.ref C) "__init__"=A? (A? (.ref f))) (hf:PySem.W.typeIn K (.ref f)=A? (.type "function"))
 (h:Y0 (Wb prog w) (A.under (.builtin "type.__call__" ⟨.ref C::vs,kw⟩)) (.call (.ref f) ⟨.ref (s.1.1.size+1)::vs,kw⟩) (PySem.W.InitBack (s.1.1.size+1) R)
  {s with heap:=(s.1.push XF).push (Yb C s.1.1.size)}) :
 Y0 (Wb prog w) A (.call (.ref C) ⟨vs,kw⟩) R s:=by
 obtain⟨hh,g,d,t,os⟩:=s;exact PySem.W.make_core (PySem.W.makes_of X hm) (PySem.W.looks_findIn X hi) (λself=>PySem.W.bind_fn X self hf) (.inl rfl) h
end
def aO(f:V5)(v:V):List (V5×V)->List (V5×V)
 | []=>[(f,v)]
 |(g,x)::r=>if g=f then(g,v)::r else(g,x)::aO f v r
theorem jI(f g:V5)(v:V):∀fs:List (V5×V),(aO f v fs).lookup g=if g=f then A? v else fs.lookup g
 | []=>by
   show Zd g [(f,v)]=_;by_cases h:g=f
   .have hb:(g == f)=true:=beq_iff_eq.mpr h;simp only[Zd,hb,b! h]
   .have hb:(g == f)=false:=beq_eq_false_iff_ne.mpr h;simp only[Zd,hb,a! h]
 | (k,x)::r=>by
   have ih:=jI f g v r;rw[show aO f v ((k,x)::r)=(if k=f then(k,v)::r else(k,x)::aO f v r)from rfl];by_cases hk:k=f
   .rw[b! hk];by_cases h:g=k
    .have hb:(g == k)=true:=beq_iff_eq.mpr h;simp only[Zd,hb,b! (h.trans hk)]
    .have hb:(g == k)=false:=beq_eq_false_iff_ne.mpr h;simp only[Zd,hb,a! (λe:g=f=>h (e.trans hk.symm))]
   .rw[a! hk];by_cases h:g=k
    .have hb:(g == k)=true:=beq_iff_eq.mpr h;simp only[Zd,hb,a! (λe:g=f=>hk (h.symm.trans e))]
    .have hb:(g == k)=false:=beq_eq_false_iff_ne.mpr h;simp only[Zd,hb];exact ih
theorem jo(f:V5)(v:V):∀fs:List (V5×V),f∈(aO f v fs).map (·.1)/\∀g,g∈fs.map (·.1)->g∈(aO f v fs).map (·.1)
 | []=>⟨by simp[aO],λg h=>by simp at h⟩
 | (k,x)::r=>by
   obtain⟨i1,i2⟩:=jo f v r;rw[show aO f v ((k,x)::r)=(if k=f then(k,v)::r else(k,x)::aO f v r)from rfl];by_cases hk:k=f
   .rw[b! hk];subst hk;exact⟨by simp,λg h=>by simpa using h⟩
   .rw[a! hk];refine⟨?_,λg h=>?_⟩
    .rw[V6];exact VR _ i1
    .rw[V6]at h |-;rcases VS.mp h with e|e
     .exact VS.mpr (.inl e)
     .exact VR _ (i2 g e)
theorem jS(f:V5)(v:V):∀fs:List (V5×V),(aO f v fs).length<=fs.length+1
 | []=>by simp[aO]
 | (k,x)::r=>by
   have ih:=jS f v r;rw[show aO f v ((k,x)::r)=(if k=f then(k,v)::r else(k,x)::aO f v r)from rfl];by_cases hk:k=f
   .rw[b! hk,VU,VU];lia
   .rw[a! hk,VU,VU];lia
theorem RelO.some_of{o:Option Vz}(r:RelO (A? v) o):∃u,o=A? u/\RelV v u:=by
 cases o with
 |none=>exact(show False from r).elim
 |some u=>exact⟨u,D?,r⟩
theorem RelO.none_of{o:Option Vz}(r:RelO AQ o):o=none:=by
 cases o with
 |none=>rfl
 |some u=>exact(show False from r).elim
theorem sr(r:RelV v u):PySem.W.handedIn u=true:=by
 cases v with
 |non=>cases(show u=W7 from r);rfl
 |bl b=>cases(show u=Value.bool b from r);rfl
 |int i=>obtain⟨t,e⟩:=(show∃t,u=Value.int i t from r);cases e;rfl
 |str x=>obtain⟨t,e⟩:=(show∃t,u=Value.str x t from r);cases e;rfl
 |byt b=>obtain⟨t,e⟩:=(show∃t,u=Value.bytes b t from r);cases e;rfl
 |flt b=>obtain⟨t,e⟩:=(show∃t,u=Value.float b t from r);cases e;rfl
 |ref a=>cases(show u=Wf a from r);rfl
 |ty n=>cases(show u=YS n from r);rfl
section
variable{dx:Vy}{fs QD:List (V5×V)}
theorem j7(hok:HOk P w H h)(e:H a=A? (.ins C dx fs)):∃mA,ObjM h a dx C mA/\(∀f,RelO (fs.lookup f) (mA f))/\PySem.Within mA (fs.map (·.1))/\fs.length<=1000/\H dx=A? (.own a):=by
 obtain⟨d,z,ne,ob,mA,n,r,q⟩:=(show ObjOk P w H h a (.ins C dx fs)from hok a _ e);exact⟨mA,⟨ob,n,ne⟩,r,q,z,d⟩
end
structure Cls(K:VD)(C:Vy):Prop where
 pg:PySem.W.plainGet K C Str.empty=B?
 hd:PySem.W.hasDictIn K C=B?
 po:PySem.W.plainOver K C=B?
 sa:Xk K (.ref C) "__setattr__"=A? (A? (.builtin "object.__setattr__"))
theorem Cls.get(c:Cls K C)(f:V5):PySem.W.plainGet K C f=true:=c.pg
def NoAttr(K:VD)(C:Vy)(f:V5):Prop:=Xk K (.ref C) f=A? AQ
theorem NoAttr.taker{f:V5}(n:NoAttr K C f):PySem.W.takerIn K C f=A? none:=by
 unfold PySem.W.takerIn;rw[show Xk K (.ref C) f=A? AQ from n];rfl
structure Meth(K:VD)(C:Vy)(m:V5)(f:Vy):Prop where
 at_:Xk K (.ref C) m=A? (A? (.ref f))
 fn:PySem.W.isFn K (.ref f)=B?
 kp:Ys K (.ref f)=B?
section
variable{X:Cx}{dx:Vy}{fs:List (V5×V)}{f:V5}
theorem pP{b:Bool}(I:Inv X Y σ H s)(e:H a=A? (.ins C dx fs))(c:Cls X.K C)(n:NoAttr X.K C f)(l:fs.lookup f=A? v)
 (h:∀u s',Inv X Y σ H s'->RelV v u->Q u s'):VW (Wb X.prog X.w) A (getAttr (.ref a) f b) Q E s:=by
 obtain⟨mA,O,r,_,_,_⟩:=j7 I.hok e;obtain⟨u,hu,ru⟩:=RelO.some_of (v:=v) (o:=mA f) (by rw[<-l];exact r f);exact get_map I.kIn O (c.get f) c.hd n hu (sr ru) (h u _ (I.tok _) ru)
theorem kL{m:V5}{g:Vy}{pl:Sem Bool}{Q:Vz×List Vz->VF->Prop}(I:Inv X Y σ H s)(e:H a=A? (.ins C dx fs))(c:Cls X.K C)(k:Meth X.K C m g)(l:fs.lookup m=AQ)
 (h:Q (.ref g,[.ref a]) s):VW (Wb X.prog X.w) A (getMethod (.ref a) m pl) Q E s:=by
 obtain⟨mA,O,r,_,_,_⟩:=j7 I.hok e;have hn:mA m=none:=RelO.none_of (by rw[<-l];exact r m);exact uc I.kIn O (c.get m) k.at_ k.fn hn h
theorem pQ{Q:Unit->VF->Prop}(I:Inv X Y σ H s)(e:H a=A? (.ins C dx fs))(c:Cls X.K C)(n:NoAttr X.K C f)(hl:fs.length<1000)(ry:RelV y u)
 (h:∀s',Inv X Y σ (upd H a (.ins C dx (aO f y fs))) s'->Q () s'):VW (Wb X.prog X.w) A (setAttr (.ref a) f u) Q E s:=by
 obtain⟨mA,O,r,wi,_,ho⟩:=j7 I.hok e;have hz:(fs.map (·.1)).length<=V4:=by rw[Vu,Y2];lia
 refine vB I.kIn O c.sa c.po n.taker c.hd wi hz λh' O' sb=>h _ ?_;have hd:∃o,h'.get? dx=A? o:=let⟨o,_,_,e',_⟩:=O'.ns;⟨o,e'⟩
 refine I.write (x:=a) (e:=dx) (by rw[e];exact XQ) (.inr ho) (λb q hb z=>(sb.2 b hb).trans z) hd ?_;refine⟨by rw[af O.ne];exact ho,?_,O.ne,O'.obj,_,O'.ns,λg=>?_,λg hg=>?_⟩
 .have:=jS f y fs;lia
 .show RelO ((aO f y fs).lookup g) (if g=f then A? u else mA g);rw[jI];by_cases q:g=f
  .rw[b! q,b! q];exact ry
  .rw[a! q,a! q];exact r g
 .by_cases q:g=f
  .rw[q];exact(jo f y fs).1
  .refine(jo f y fs).2 g (wi g λz=>hg ?_);show(if g=f then A? u else mA g)=AQ;rw[a! q];exact z
theorem Inv.made(I:Inv X Y σ H s):Inv X Y σ (upd (upd H s.1.1.size (.own (s.1.1.size+1))) (s.1.1.size+1) (.ins C s.1.1.size []))
 {s with heap:=(s.1.push XF).push (Yb C s.1.1.size)}:=by
 have e1:(s.1.push XF).get? s.1.1.size=A? XF:=VI s.1 rfl
 have e2:((s.1.push XF).push (Yb C s.1.1.size)).get? (s.1.1.size+1)=A? (Yb C s.1.1.size):=by
  have:=VI (s.1.push XF) (o:=Yb C s.1.1.size) rfl
  rwa [WY]at this
 have e3:(s.1.push XF).Ns s.1.1.size (λ_=>AQ):=⟨XF,#[],_,e1,rfl,(λe he=>g! he (by simp)),λ_=>rfl⟩;have I1:=I.laid (a:=s.1.1.size) (o:=.own (s.1.1.size+1)) (h':=s.1.push XF) (t':=s.toks) (λb u q=>VB _ q) (VG _) ⟨_,e1⟩;refine I1.laid (a:=s.1.1.size+1) (o:=.ins C s.1.1.size []) (t':=s.toks) (λb u q=>VB _ q) (Nat.le_of_eq (WY _ _)) ?_;have ne:s.1.1.size≠s.1.1.size+1:=We (Nat.lt_succ_self _);refine⟨by rw[af ne,ac],Wh _,ne,e2,λ_=>AQ,(Heap.Ns1.of_empty e3).at λo q=>VB _ q,λ_=>XQ,λy hy=>g! rfl hy⟩
theorem uz{f:V5}(hb:Zg e f env (XD e env)=XD e env)
 (h:VW (Wb prog w) A (XD e env) (λo l'=>VW (Wb prog w) A (getAttr o f B?) Q E l') E s):VW (Wb prog w) A (XD (.Attribute e f pos) env) Q E s :=
 Attribute_any_ h (by rw[arm_eval_Attribute,hb])
end
def yj(K:VD)(ta:TE)(f:V5):TE:=λσ H Q=>ta σ H λx H1=>∃a C dx fs v,x=.ref a/\H1 a=A? (.ins C dx fs)/\Cls K C/\NoAttr K C f/\fs.lookup f=A? v/\Q v H1
def yW(K:VD)(ta tv:TE)(f:V5):TS:=λD σ H=>tv σ H λy H1=>ta σ H1 λx H2=>∃a C dx fs,x=.ref a/\H2 a=A? (.ins C dx fs)/\Cls K C/\NoAttr K C f/\fs.length<1000 /\
 D.nx σ (upd H2 a (.ins C dx (aO f y fs)))
section
variable{X:Cx}{o value:WB}{f:V5}{Lw:YF}{ta tv:TE}
theorem bD(he:PE X e ta)(hb:Zg e f X.env (XD e X.env)=XD e X.env):PE X (.Attribute e f pos) (yj X.K ta f):=by
 intro Y s σ H Q I h;refine uz hb (thn (he Y s σ H _ I h) λu s1⟨x,H1,I1,rx,a,C,dx,fs,v,ex,ea,c,n,l,q⟩=>?_);subst ex;obtain rfl:u=Wf a:=rx;exact pP I1 ea c n l λu' s2 I2 ru=>⟨v,H1,I2,ru,q⟩
theorem gB(ha:PE X o ta)(hv:PE X value tv)(hs:swapsWith value (A? (.Attribute o f pos')) pos.line X.env=pure C?):PS X (.Assign [.Attribute o f pos'] value pos) (yW X.K ta tv f):=by
 intro Y s σ H D I h;refine plainObj_wpAny_Assign_Attribute (thn (hv Y s σ H _ I h) λu s1⟨y,H1,I1,ry,q⟩=>thn (ha Y s1 σ H1 _ I1 q) λov s2⟨x,H2,I2,rx,a,C,dx,fs,ex,ea,c,n,l,q2⟩=>?_) hs;subst ex;obtain rfl:ov=Wf a:=rx;exact pQ I2 ea c n l ry λs3 I3=>⟨σ,_,I3,q2⟩
end
section
variable{X:Cx}{c:Vz}{b:Bool}
inductive iL(K:VD)(H:Hp):V->Vz->Prop where
 |non:iL K H .non (.type "NoneType")
 |bl (x:Bool):iL K H (.bl x) (.type "bool")
 |int (i:Int):iL K H (.int i) (.type "int")
 |str (x:V5):iL K H (.str x) (.type "str")
 |flt (x:UInt64):iL K H (.flt x) (.type "float")
 |lst {a:Vy} {xs:List V} (e:H a=A? (.lst xs)):iL K H (.ref a) (.type "list")
 |frz {a:Vy} {o:Xw} {xs:List V} (e:H a=A? (.frz o (.lst xs))):iL K H (.ref a) (.type "list")
 |tup {a:Vy} {xs:List V} (e:H a=A? (.tup xs)):iL K H (.ref a) (.type "tuple")
 |dK {a:Vy} {kvs:List (Key×V)} (e:H a=A? (.dK kvs)):iL K H (.ref a) (.type "dict")
 |dT {a:Vy} {kvs:List (List Key×V)} (e:H a=A? (.dT kvs)):iL K H (.ref a) (.type "dict")
 |ins {a C dx:Vy} {fs:List (V5×V)} (e:H a=A? (.ins C dx fs)) (cl:Cls K C) (ha:Xk K (.ref C) "__class__"=A? (A? (.builtin "object.__class__")))
  (hn:PySem.W.specialIn K (.builtin "object.__class__") "__get__"=A? (A? (.builtin "getset_descriptor.__get__"))) (EG:PySem.W.takesIn K (.builtin "object.__class__")=A? B?)
  (hm:PySem.W.mroIn K C (.type "object")=A? B?):iL K H (.ref a) (.ref C)
theorem rT{x:V}{t:Vz}(I:Inv X Y σ H s)(rx:RelV x u)(ty:iL X.K H x t)(e:PySem.W.kitOne X.K t c=A? b)(h:∀tk,Q (.bool b) {s with toks:=tk}) :
 VW (Wb X.prog X.w) A (call (.builtin "isinstance") [u,c]) Q E s:=by
 cases ty with
 |non=>cases(show u=W7 from rx);exact Xx PySem.W.kitx_none I.kIn XQ e (λz=>nomatch z) h
 |bl y=>cases(show u=Value.bool y from rx);exact Xx PySem.W.kitx_bool I.kIn XQ e (λz=>nomatch z) h
 |int i=>obtain⟨t,q⟩:=(show∃t,u=Value.int i t from rx);cases q;exact Xx PySem.W.kitx_int I.kIn XQ e (λz=>nomatch z) h
 |str y=>obtain⟨t,q⟩:=(show∃t,u=Value.str y t from rx);cases q;exact Xx PySem.W.kitx_str I.kIn XQ e (λz=>nomatch z) h
 |flt y=>obtain⟨t,q⟩:=(show∃t,u=Value.float y t from rx);cases q;exact Xx PySem.W.kitx_float I.kIn XQ e (λz=>nomatch z) h
 | @lst a xs ea =>
   cases(show u=Wf a from rx);obtain⟨_,_,n,_,h1⟩:=(show ObjOk X.prog X.w H s.1 a (.lst xs)from I.hok a _ ea);exact Xx PySem.W.kitx_list I.kIn ⟨_,h1,rfl⟩ e (λz=>nomatch z) h
 | @frz a ob xs ea =>
   cases(show u=Wf a from rx);obtain⟨_,_,_,n,_,h1⟩:=(show ObjOk X.prog X.w H s.1 a (.frz ob (.lst xs))from I.hok a _ ea);exact Xx PySem.W.kitx_list I.kIn ⟨_,h1,rfl⟩ e (λz=>nomatch z) h
 | @tup a xs ea =>
   cases(show u=Wf a from rx);obtain⟨_,_,_,_,h1⟩:=(show ObjOk X.prog X.w H s.1 a (.tup xs)from I.hok a _ ea);exact Xx PySem.W.kitx_tuple I.kIn ⟨_,h1,rfl⟩ e (λz=>nomatch z) h
 | @dK a kvs ea =>
   cases(show u=Wf a from rx);obtain⟨_,_,vs,_,p⟩:=(show ObjOk X.prog X.w H s.1 a (.dK kvs)from I.hok a _ ea);obtain⟨o,es,ep,h1,h2,_⟩:=p;exact Xx PySem.W.kitx_dict I.kIn ⟨o,h1,h2.1⟩ e (λz=>nomatch z) h
 | @dT a kvs ea =>
   cases(show u=Wf a from rx);obtain⟨_,_,xs,_,o,es,ep,h1,h2,_⟩:=(show ObjOk X.prog X.w H s.1 a (.dT kvs)from I.hok a _ ea);exact Xx PySem.W.kitx_dict I.kIn ⟨o,h1,h2.1⟩ e (λz=>nomatch z) h
 | @ins a C dx fs ea cl ha hn EG hm =>
   cases(show u=Wf a from rx);obtain⟨mA,O,_⟩:=j7 I.hok ea;obtain⟨od,J,_⟩:=O.look;exact Xx (PySem.W.kitx_own (cl.get _) cl.hd ha hn EG hm) I.kIn J e (λz=>nomatch z) h
end
structure Room(k:Nat)(A:Wr):Prop where
 hd:A.handled=AQ
 dp:A.depth+3 * k+5<recursionLimit
 un:A.units+16 * k+200<Yd
theorem Room.mono{k:Nat}(r:Room k A)(h:j<=k):Room j A:=⟨r.hd,by have:=r.dp;lia,by have:=r.un;lia⟩
theorem Room.deeper{k:Nat}(r:Room (k+1) A)(env:Env):Room k (A.deeper env) :=
 ⟨r.hd,by have:=r.dp;show A.depth+1+3 * k+5<_;lia,by have:=r.un;show A.units+3+16 * k+200<_;lia⟩
theorem Room.in1{k:Nat}(r:Room (k+1) A):Room k A.in1 :=
 ⟨r.hd,by have:=r.dp;show A.depth+3 * k+5<_;lia,by have:=r.un;show A.units+1+16 * k+200<_;lia⟩
theorem qf:(A.under (.builtin "type.__call__" ⟨.ref C::us,kw⟩)).depth=A.depth+1:=by
 first|rfl|simp[Around.under,Code.weight,Code.isCreation,Code.isGuard,Code.isCaller,Code.frames,Code.isFrame,guardIds]
theorem pk:(A.under (.builtin "type.__call__" ⟨.ref C::us,kw⟩)).units=A.units+1:=by
 first|rfl|simp[Around.under,Code.cUnits,Code.frames,Code.isFrame]
theorem Room.make{k:Nat}(r:Room (k+1) A)(C:Vy)(us:List Vz)(kw:List (V5×Vz)):Room k (A.under (.builtin "type.__call__" ⟨.ref C::us,kw⟩)) :=
 ⟨r.hd,by have:=r.dp;rw[qf];lia,by have:=r.un;rw[pk];lia⟩
theorem Room.depth{k:Nat}(r:Room k A):A.depth<recursionLimit:=by have:=r.dp;lia
theorem Room.units{k:Nat}(r:Room k A):A.units+64<Yd:=by have:=r.un;lia
def jx:TA:=λ_ H Q=>Q [] H
def cO(ta:TE)(tr:TA):TA:=λσ H Q=>ta σ H λx H1=>tr σ H1 λxs H2=>Q (x::xs) H2
section
variable{X:Cx}{es:List WB}{te:TE}{t:TA}
theorem ae:PA X [] jx:=λ_ _ _ _ H Q I h=>X1 ⟨[],H,I,.nil,h⟩
theorem aa(ha:PE X e te)(hr:PA X es t)(hs:Wu (e::es) X.env=(C?,XD e X.env)::Wu es X.env:=by rfl):PA X (e::es) (cO te t):=by
 intro pos Y s σ H Q I h;rw[hs];show VW _ _ (spliced ((C?,XD e X.env)::Yy pos (Wu es X.env))) _ _ s;refine XE (thn (ha Y s σ H _ I h) λu s1⟨x,H1,I1,r1,q1⟩=>?_);exact thn (hr pos Y s1 σ H1 _ I1 q1) λus s2⟨xs,H2,I2,r2,q2⟩=>⟨x::xs,H2,I2,.cons r1 r2,q2⟩
def xX(t:TA):TE:=λσ H Q=>t σ H λxs H1=>xs.length<=V4/\∀p,H1 p=AQ->Q (.ref p) (upd H1 p (.tup xs))
def xO(t:TA):TE:=λσ H Q=>t σ H λxs H1=>xs.length<=V4/\∀p,H1 p=AQ->Q (.ref p) (upd H1 p (.lst xs))
theorem bc{x1}(h:PA X es t):PE X (.Tuple es x1 pos) (xX t):=by
 intro Y s σ H Q I hq;refine wpAny_Tuple_spliced (thn (h pos Y s σ H _ I hq) λus s1⟨xs,H1,I1,r,z,q⟩=>⟨by rw[<-r.length];exact z,?_⟩);have hf:H1 s1.1.1.size=none:=I1.hok.fresh (VG _);refine⟨.ref s1.1.1.size,upd H1 s1.1.1.size (.tup xs),I1.laid (t':=s1.toks) (λb u e=>VB _ e) (VG _) ?_,D?,q _ hf⟩;exact⟨z,us,0,r,VI _ rfl⟩
theorem bU(h:PA X es t):PE X (.List es pos) (xO t):=by
 intro Y s σ H Q I hq;refine wpAny_List_spliced (thn (h pos Y s σ H _ I hq) λus s1⟨xs,H1,I1,r,z,q⟩=>⟨by rw[<-r.length];exact z,?_⟩);have hf:H1 s1.1.1.size=none:=I1.hok.fresh (VG _);refine⟨.ref s1.1.1.size,upd H1 s1.1.1.size (.lst xs),I1.laid (t':=s1.toks) (λb u e=>VB _ e) (VG _) ?_,D?,q _ hf⟩;exact⟨z,us,0,r,VI _ rfl⟩
end
abbrev Sp:=List V->Hp->VK->XK->Prop
abbrev CXT:=List Env->Hp->VF->XK->Vz->VF->Prop
structure Env0(P:V8)(w:Wm)(K:VD)(mg:V5->Option Vz)(base:WS)(A:Wr)(outer:List Env)(s:VF)(H:Hp):Prop where
 frames:A.frames=A? outer
 mod:Mod K mg base
 bs:∀b o,base.get? b=A? o->s.1.get? b=A? o/\H b=AQ
 bsz:base.objs.size<=s.1.1.size
 funs:s.1.FunFrames base outer
 frf:∀b∈frs outer,H b=AQ
 hok:HOk P w H s.1
 bare:AllBare s.gens
def CE(outer:List Env)(P:V8)(w:Wm)(H:Hp)(s:VF)(Q:VK)(u:Vz)(s':VF):Prop :=
 ∃v H',s'.os=s.os/\AllBare s'.gens/\Un (frs outer) [] H H' s.1 s'.1/\HOk P w H' s'.1/\RelV v u/\Q v H'
def CR(CX:CXT)(outer:List Env)(P:V8)(w:Wm)(H:Hp)(s:VF)(Q:VK)(E:XK)(r:Result)(s':VF):Prop :=
 match r with
 |.ok (.ret u)=>CE outer P w H s Q u s'
 |.ok _=>False
 |.error e=>CX outer H s E e s'
structure bj(P:V8)(w:Wm)(K:VD)(mg:V5->Option Vz)(base:WS)(CX:CXT)(k:Nat)(f:Vy)(fd:Yk)(ps:List V5)(sp:Sp):Prop where
 len:∀vs H Q E,sp vs H Q E->vs.length=ps.length
 run:∀(A:Wr)(outer:List Env)(s:VF)(H:Hp)(args:Args)(us:List Vz)(vs:List V)(Q:VK)(E:XK),Room k A->Env0 P w K mg base A outer s H->BindsTo s fd args (ps.zip us)->Vals vs us->sp vs H Q E ->
  Y0 (Wb P w) A (.call (.ref f) args) (CR CX outer P w H s Q E) s
theorem Env0.make(e:Env0 P w K mg base A outer s H)(C:Vy)(us:List Vz)(kw:List (V5×Vz)) :
 Env0 P w K mg base (A.under (.builtin "type.__call__" ⟨.ref C::us,kw⟩)) outer s H:=⟨by first|exact e.frames|(simpa[Around.under,Code.envs,Code.isFrame,pushEnvs]using e.frames),e.mod,e.bs,e.bsz,e.funs,e.frf,e.hok,e.bare⟩
theorem Env0.in1(e:Env0 P w K mg base A outer s H) :
 Env0 P w K mg base A.in1 outer s H:=⟨e.frames,e.mod,e.bs,e.bsz,e.funs,e.frf,e.hok,e.bare⟩
section
variable{X:Cx}
theorem Inv.env0(I:Inv X Y σ H s):Env0 X.prog X.w X.K X.mg X.base X.A X.stack s H :=
 ⟨I.ok.frames,I.ok.mod,I.bs,Wz I.ok.bsz I.sz,I.stack,I.stkFree,I.hok,I.bare⟩
theorem Inv.after{Q:VK}(I:Inv X Y σ H s)(h:CE X.stack X.prog X.w H s Q u s'):EP X Y σ Q u s':=by
 obtain⟨v,H',os,bare,un,hok,r,q⟩:=h;obtain⟨hh,g,d,t,QL⟩:=s';obtain rfl:QL=s.os:=os;exact⟨v,H',I.call (h':=hh) (g':=g) (d':=d) (t':=t) (ch:=[]) un hok bare (λb z=>g! z (by simp)),r,q⟩
end
def gN(sp:Sp)(dvs:List V)(E:XK)(t:TA):TE:=λσ H Q=>t σ H λvs H1=>sp (vs++dvs) H1 Q E
def v0(C:Vy)(m:V5)(sp:Sp)(dvs:List V)(E:XK)(ta:TE)(t:TA):TE:=λσ H Q=>ta σ H λx H1=>∃a dx fs,x=.ref a/\H1 a=A? (.ins C dx fs)/\fs.lookup m=AQ /\
 t σ H1 λvs H2=>sp (x::(vs++dvs)) H2 Q E
def xD(C:Vy)(sp:Sp)(dvs:List V)(E:XK)(t:TA):TE:=λσ H Q=>t σ H λvs H1=>∀x dx,H1 x=AQ->H1 dx=AQ->dx≠x ->
 sp (.ref x::(vs++dvs)) (upd (upd H1 dx (.own x)) x (.ins C dx [])) (λv H2=>v=.non/\Q (.ref x) H2) E
def Binds(K:VD)(fd:Yk)(ps:List V5)(ds:List Vz):Prop :=
 ∀(s:VF)(us:List Vz),K.In s.1->(us++ds).length=ps.length->BindsTo s fd ⟨us,[]⟩ (ps.zip (us++ds))
theorem Binds.all(h:∀us:List Vz,us.length=ps.length->ZP fd ⟨us,[]⟩=pure (ps.zip us)):Binds K fd ps []:=λs us _ hl=>by
 rw[Za]at hl |-;exact .of_eq (h us hl)
def Passes(CX:CXT)(X:Cx)(E:XK):Prop:=∀(Y:List (Vy×Xw))(σ:St)(H:Hp)(s:VF)(e:Vz)(s':VF),Inv X Y σ H s->CX X.stack H s E e s'->X.xe e s'
section
variable{X:Cx}{CX:CXT}{k:Nat}{sp:Sp}{dvs:List V}{ds:List Vz}{E:XK}{m:V5}{p apos:YF}{o:WB}{es:List WB}{ta:TE}{t:TA}
theorem qd{Q:VK}{vs:List V}(F:bj X.prog X.w X.K X.mg X.base CX k f fd ps sp)(hr:Room k X.A)(hb:Binds X.K fd ps ds)(hd:Vals dvs ds)(hx:Passes CX X E)
 (I:Inv X Y σ H s) (r:Vals vs us) (h:sp (vs++dvs) H Q E):VW (Wb X.prog X.w) X.A (call (.ref f) us) (EP X Y σ Q) X.xe s:=by
 have r2:Vals (vs++dvs) (us++ds):=r.append hd;have hl:(us++ds).length=ps.length:=by rw[<-r2.length];exact F.len _ _ _ _ h
 refine wpAny_call (Z6 (F.run X.A X.stack s H ⟨us,[]⟩ (us++ds) (vs++dvs) Q E hr I.env0 (hb s us I.kIn hl) r2 h) λr s' hq=>?_);cases r with
 |error e=>exact hx Y σ H s e s' I hq
 | ok fl =>
   cases fl with
   |ret u=>exact I.after hq
   |next=>exact XA hq
   |brk=>exact XA hq
   |cont=>exact XA hq
theorem de(F:bj X.prog X.w X.K X.mg X.base CX k f fd ps sp)(hr:Room k X.A)(hg:Gl X x)(hm:X.mg x=A? (.ref f))(hk:Ys X.K (.ref f)=B?)(hb:Binds X.K fd ps ds)(hd:Vals dvs ds)(hx:Passes CX X E)
 (ha:PA X (e::es) t) (C7:(x == ("__debug__":V5))=false:=by decide) (he:Wu (e::es) X.env=(C?,XD e X.env)::Wu es X.env:=by rfl) (Am:(Yy pos (Wu es X.env)).any (·.1)=false:=by rfl) :
 PE X (.Call (.Name x p) (e::es) [] pos) (gN sp dvs E t):=by
 intro Y s σ H Q I h;refine W2 (iK I hg hm ?_ C7);refine ZR (h₀:=X.base) I.ok.mod.kin hk (thn (ha pos Y s σ H _ I h) λus s1⟨vs,H1,I1,r,q⟩=>⟨I1.kIn,?_⟩) he Am;exact qd F hr hb hd hx I1 r q
theorem fL{pl:Sem Bool}(he:PE X o ta)(c:Cls X.K C)(hm:Meth X.K C m f)(F:bj X.prog X.w X.K X.mg X.base CX k f fd ps sp)(hr:Room k X.A)(hb:Binds X.K fd ps ds)(hd:Vals dvs ds)(hx:Passes CX X E)(ha:PA X (e::es) t)
 (zF:Wu (e::es) X.env=(C?,XD e X.env)::Wu es X.env:=by rfl) (Am:(Yy pos (Wu es X.env)).any (·.1)=false:=by rfl)
 (ht:XD (.Call (.Attribute o m apos) (e::es) [] pos) X.env=(do
  let ov <-XD o X.env
  standAt apos.atName
  let(f,first) <-holding [ov] (getMethod ov m pl)
  callWith pos f first (Yy pos (Wu (e::es) X.env)) (backToKw pos (keywordEach [] X.env))):=by rfl) :
 PE X (.Call (.Attribute o m apos) (e::es) [] pos) (v0 C m sp dvs E ta t):=by
 intro Y s σ H Q I h;refine PySem.W.methodCall_KW (pl:=pl) (thn (he Y s σ H _ I h) λu s1⟨x,H1,I1,rx,a,dx,fs,ex,ea,l,q⟩=>?_) ht;subst ex;obtain rfl:u=Wf a:=rx;refine kL I1 ea c hm l ?_;refine ZR (first:=[.ref a]) (h₀:=X.base) I.ok.mod.kin hm.kp (thn (ha pos Y s1 σ H1 _ I1 q) λus s2⟨vs,H2,I2,r,q2⟩=>⟨I2.kIn,?_⟩) zF Am;exact qd (us:=.ref a::us) (vs:=.ref a::vs) F hr hb hd hx I2 (.cons rfl r) q2
theorem iR{pl:Sem Bool}(he:PE X o ta)(c:Cls X.K C)(hm:Meth X.K C m f)(F:bj X.prog X.w X.K X.mg X.base CX k f fd ps sp)(hr:Room k X.A)(hb:Binds X.K fd ps ds)(hd:Vals dvs ds)(hx:Passes CX X E)
 (ht:XD (.Call (.Attribute o m apos) [] [] pos) X.env=(do
  let ov <-XD o X.env
  standAt apos.atName
  let(f,first) <-holding [ov] (getMethod ov m pl)
  callWith pos f first (Yy pos (Wu [] X.env)) (backToKw pos (keywordEach [] X.env))):=by rfl) :
 PE X (.Call (.Attribute o m apos) [] [] pos) (v0 C m sp dvs E ta jx):=by
 intro Y s σ H Q I h;refine PySem.W.methodCall_KW (pl:=pl) (thn (he Y s σ H _ I h) λu s1⟨x,H1,I1,rx,a,dx,fs,ex,ea,l,q⟩=>?_) ht;subst ex;obtain rfl:u=Wf a:=rx;refine kL I1 ea c hm l ?_;exact PySem.W.callWith_K0 (first:=[.ref a]) I1.kIn hm.kp (qd (us:=[.ref a]) (vs:=[.ref a]) F hr hb hd hx I1 (.cons rfl .nil) q)
structure Mk(K:VD)(C f:Vy):Prop where
 makes:PySem.W.makesIn K C=B?
 init:Xk K (.ref C) "__init__"=A? (A? (.ref f))
 fn:PySem.W.isFn K (.ref f)=B?
 kp:Ys K (.ref C)=B?
theorem tY{Q:VK}{vs:List V}(M:Mk X.K C f)(F:bj X.prog X.w X.K X.mg X.base CX k f fd ps sp)(hr:Room (k+1) X.A)(hb:Binds X.K fd ps ds)(hd:Vals dvs ds)
 (hx:Passes CX X E) (I:Inv X Y σ H s) (r:Vals vs us)
 (h:∀x dx,H x=AQ->H dx=AQ->dx≠x->sp (.ref x::(vs++dvs)) (upd (upd H dx (.own x)) x (.ins C dx [])) (λv H2=>v=.non/\Q (.ref x) H2) E) :
 VW (Wb X.prog X.w) X.A (call (.ref C) us) (EP X Y σ Q) X.xe s:=by
 have hq:=h (s.1.1.size+1) s.1.1.size (I.hok.fresh (Nat.le_succ _)) (I.hok.fresh (VG _)) (We (Nat.lt_succ_self _));have I2:=Inv.made (C:=C) I;have r2:Vals (k! (s.1.1.size+1)::(vs++dvs)) (Wf (s.1.1.size+1)::(us++ds)):=.cons rfl (r.append hd)
 have hl:(Wf (s.1.1.size+1)::us++ds).length=ps.length:=by
  have e:=r2.length;rw[F.len _ _ _ _ hq]at e;exact e.symm
 refine wpAny_call (uo (f:=f) I.kIn M.makes M.init (beq_iff_eq.mp M.fn) (Z6 (F.run _ X.stack _ _ ⟨Wf (s.1.1.size+1)::us,[]⟩ (Wf (s.1.1.size+1)::(us++ds)) _ _ E (hr.make C us [])
  (I2.env0.make C us []) (hb _ (Wf (s.1.1.size+1)::us) I2.kIn hl) r2 hq) λr s' AB=>?_))
 cases r with
 |error e=>exact hx Y σ _ _ e s' I2 AB
 | ok fl =>
   cases fl with
   | ret u =>
     obtain⟨v,H',I3,rv,ev,q3⟩:=I2.after AB;subst ev;exact⟨rv,⟨k! (s.1.1.size+1),H',I3,D?,q3⟩⟩
   |next=>exact XA AB
   |brk=>exact XA AB
   |cont=>exact XA AB
theorem qI(M:Mk X.K C f)(F:bj X.prog X.w X.K X.mg X.base CX k f fd ps sp)(hr:Room (k+1) X.A)(hg:Gl X x)(hm:X.mg x=A? (.ref C))(hb:Binds X.K fd ps ds)(hd:Vals dvs ds)(hx:Passes CX X E)
 (ha:PA X (e::es) t) (C7:(x == ("__debug__":V5))=false:=by decide) (he:Wu (e::es) X.env=(C?,XD e X.env)::Wu es X.env:=by rfl) (Am:(Yy pos (Wu es X.env)).any (·.1)=false:=by rfl) :
 PE X (.Call (.Name x p) (e::es) [] pos) (xD C sp dvs E t):=by
 intro Y s σ H Q I h;refine W2 (iK I hg hm ?_ C7);refine ZR (h₀:=X.base) I.ok.mod.kin M.kp (thn (ha pos Y s σ H _ I h) λus s1⟨vs,H1,I1,r,q⟩=>⟨I1.kIn,?_⟩) he Am;exact tY M F hr hb hd hx I1 r q
end
section
variable{X:Cx}{CX:CXT}{k:Nat}{ks:List V5}{sp:Sp}{E:XK}{m:V5}{p apos QM:YF}{o:WB}{es:List WB}{UM:List Keyword}{te ta:TE}{t tk:TA}{nm:Option V5}
variable{g:List Vz->List Vz->List Vz}{gV:List V->List V->List V}
end
structure bS(N P:List V5)(sc:Yz):Prop where
 kind:sc.kind=.function
 co:sc.isCoroutine=C?
 gen:sc.isGenerator=C?
 nd:N.Nodup
 pre:N.take P.length=P
 par:∀x∈P,sc.names.lookup x=A? .local\/sc.names.lookup x=A? .cell
 nofree:∀y∈sc.names,y.2≠.free
theorem mh:∀{binds:List (V5×Vz)}{m:V5->Option Vz},(∀v,(x,v)∉binds)->bindL kindOf binds m x=m x
 | [],_,_=>rfl
 | (n,v)::r,m,h=>by
   unfold bindL;rw[mh λw hw=>h w (VR _ hw)];split
   .have:x≠n:=by rintro rfl;exact h v VO
    simp[this]
   .rfl
theorem mK:∀{binds:List (V5×Vz)}{m:V5->Option Vz},(∀v,(x,v)∉binds)->bindC kindOf binds m x=m x
 | [],_,_=>rfl
 | (n,v)::r,m,h=>by
   unfold bindC;rw[mK λw hw=>h w (VR _ hw)];split
   .rfl
   .have:x≠n:=by rintro rfl;exact h v VO
    simp[this]
theorem mv{v:Vz}:∀{P:List V5}{vs:List Vz}{i:Nat}{m:V5->Option Vz},P.Nodup->P[i]?=A? x->vs[i]?=A? v->kindOf x=A? .local ->
 bindL kindOf (P.zip vs) m x=A? v
 | [],_,_,_,_,h,_,_=>by simp at h
 |_::_,[],_,_,_,_,h,_=>by simp at h
 | p::P,w::vs,0,m,nd,h1,h2,hk=>by
   simp at h1 h2;subst h1;subst h2;show bindL kindOf ((p,w)::P.zip vs) m p=_;unfold bindL;rw[mh λv hv=>(WG.mp nd).1 (Y6 hv).1,b! hk];simp
 | p::P,w::vs,i+1,m,nd,h1,h2,hk=>by
   show bindL kindOf ((p,w)::P.zip vs) m x=_;unfold bindL;exact mv (i:=i) (WG.mp nd).2 (by simpa using h1) (by simpa using h2) hk
theorem l6{v:Vz}:∀{P:List V5}{vs:List Vz}{i:Nat}{m:V5->Option Vz},P.Nodup->P[i]?=A? x->vs[i]?=A? v->kindOf x≠A? .local ->
 bindC kindOf (P.zip vs) m x=A? v
 | [],_,_,_,_,h,_,_=>by simp at h
 |_::_,[],_,_,_,_,h,_=>by simp at h
 | p::P,w::vs,0,m,nd,h1,h2,hk=>by
   simp at h1 h2;subst h1;subst h2;show bindC kindOf ((p,w)::P.zip vs) m p=_;unfold bindC;rw[mK λv hv=>(WG.mp nd).1 (Y6 hv).1,a! hk];simp
 | p::P,w::vs,i+1,m,nd,h1,h2,hk=>by
   show bindC kindOf ((p,w)::P.zip vs) m x=_;unfold bindC;exact l6 (i:=i) (WG.mp nd).2 (by simpa using h1) (by simpa using h2) hk
def start(N:List V5)(vs:List V):St:=vs.map A?++Wv (N.length - vs.length) AQ
def jX(CX:CXT)(P:V8)(w:Wm)(K:VD)(mg:V5->Option Vz)(base:WS)(N:List V5)(qual:V5)(scope:Yz)(f:Vy)(cd:Vz)(A:Wr)(outer:List Env)(s:VF)(H:Hp)(E:XK):Cx where
 prog:=P
 w:=w
 K:=K
 mg:=mg
 base:=base
 A:=A.deeper (Yw qual scope s.1.1.size f cd)
 N:=N
 s₀:=s
 H₀:=H
 env:=Yw qual scope s.1.1.size f cd
 outer:=outer
 stack:=Yw qual scope s.1.1.size f cd::outer
 ex:=[]
 calm:=B?
 fn:=λ_=>B?
 pn:=[]
 xe:=λe s'=>VW (Wb P w) (A.deeper (Yw qual scope s.1.1.size f cd)) (leaving (Yw qual scope s.1.1.size f cd) e) (λ_ Ht=>CX outer H s E e Ht) (λe' Ht=>CX outer H s E e' Ht) s'
theorem nN(h:sc.names.lookup x=A? .cell):∃c,(cellsFrom n sc.names []).lookup x=A? c:=by
 have q:=PySem.W.cellsFrom_some sc.names n [] (.inl h);exact Option.isSome_iff_exists.mp q
theorem rp{CX:CXT}{cd:Vz}{s1:VF}{E:XK}{vs:List V}
 (S:bS N ps scope) (hd:A.handled=AQ) (e0:Env0 P w K mg base A outer s H) (hl:vs.length=ps.length) (r:Vals vs us)
 (x:InCallC s s.1.1.size (bindL (Yw qual scope s.1.1.size f cd).kindOf (ps.zip us) λ_=>AQ) (cellsFrom (s.1.1.size+1) scope.names []) (bindC (Yw qual scope s.1.1.size f cd).kindOf (ps.zip us) λ_=>AQ) s1) :
 Inv (jX CX P w K mg base N qual scope f cd A outer s H E) [] (start N vs) H s1:=by
 have Am:ps.length<=N.length:=by have:=h! Xd S.pre;rw[WA]at this;lia
 obtain⟨h1,tk,rfl,hk⟩:=x.done;have Lx:∀b:Vy,b∉(jX CX P w K mg base N qual scope f cd A outer s H E).ex:=λb z=>g! (show b∈([]:List Vy)from z) (by simp)
 refine⟨⟨e0.mod,S.kind,D?,D?,VG _,λy z c h1 h2=>?_,λy hy=>?_,λy c _ h=>?_,λ_=>hd,Around.frames_deeper e0.frames,.inr ⟨D?,D?⟩,λb z=>g! z (Lx b),e0.bs,e0.bsz,λb _ _=>Lx b,λb z=>g! z (Lx b),e0.funs,e0.frf⟩,
  rfl,e0.bare,Un.kept hk,⟨_,x.toInCall.ns,λi y v h1 h2 h3=>?_⟩,λy c h=>⟨_,x.cell y c h⟩,e0.hok.fresh (VG _),λy c h=>?_,λp hp=>g! (show p∈([]:List (Vy×Xw))from hp) (by simp),e0.hok.kept hk,?_⟩
 .exact name_of_addr x.apart (Xr h1) (Xr h2)
 .have hy:scope.names.lookup y=A? .cell\/scope.names.lookup y=A? .free:=hy;rcases hy with hy|hy
  .exact nN hy
  .exact g! rfl (S.nofree _ (Xr hy))
 .exact XH (x.above y c (Xr h))
 .have hi:i<vs.length:=by
   unfold start at h2;by_cases hi:i<vs.length
   .exact hi
   .rw[Ww (by simpa using hi)]at h2;rw[List.getElem?_replicate]at h2;split at h2 <;> cases h2
  have ha:vs[i]?=A? v:=by
   unfold start at h2;rw[Wj (by simpa using hi),VA]at h2;cases e:vs[i]? with
   |none=>rw[e]at h2;cases h2
   |some a=>rw[e]at h2;cases h2;rfl
  obtain⟨u,hu,rv⟩:=r.get ha
  have hp:ps[i]?=A? y:=by
   rw[<-S.pre,List.getElem?_take_of_lt (by lia)];exact h1
  have Kk:ps.Nodup:=by rw[<-S.pre];exact S.nd.sublist (List.take_sublist _ _)
  refine⟨u,rv,?_⟩;rcases S.par y (Vx hp)with k|k
  .exact .inl ⟨k,mv Kk hp hu k⟩
  .obtain⟨c,e⟩:=nN (n:=s.1.1.size+1) k;refine .inr ⟨.inl k,c,e,?_⟩;have q:=x.cell y c e;rw[l6 Kk hp hu (by show scope.names.lookup y≠_;rw[k];decide)]at q;exact q
 .exact e0.hok.fresh (XH (x.above y c (Xr h)))
 .unfold start;show _=N.length;rw[VJ,Vu,List.length_replicate];lia
theorem tR{CX:CXT}{k:Nat}{dV kV doc pm zb ct oc:Vz}{an od:Option Vy}
 {DN:Array (Option Vz)} {sp:Sp} (lk:K.lookup f=A? ⟨oc,od,.func (ZG name qual params body scope dV kV doc pm an zb ct),DN⟩) (Bm:PySem.W.codeIn K zb qual=B?) (S:bS N ps scope)
 (len:∀vs H Q E,sp vs H Q E->vs.length=ps.length)
 (zG:∀(A:Wr)(outer:List Env)(s:VF)(H:Hp)(vs:List V)(Q:VK)(E:XK),Room k (A.deeper (Yw qual scope s.1.1.size f zb))->sp vs H Q E ->
  ∃t,PSs (jX CX P w K mg base N qual scope f zb A outer s H E) body t/\t {nx:=λ_ H'=>Q .non H',rt:=Q} (start N vs) H) :
 bj P w K mg base CX (k+1) f (ZG name qual params body scope dV kV doc pm an zb ct) ps sp:=by
 refine⟨len,λA outer s H args us vs Q E hr e0 hb r AK=>?_⟩;have hl:=len _ _ _ _ AK;have KX:K.In s.1:=e0.mod.kin.keeps λb o e=>(e0.bs b o e).1;have lim:s.1.NoLimit:=e0.mod.nolimit.keeps λb o e=>(e0.bs b o e).1
 have Hu:∀y∈ps.zip us,scope.names.lookup y.1=A? .local\/(scope.names.lookup y.1=A? .cell/\((cellsFrom (s.1.1.size+1) scope.names []).lookup y.1).isSome=B?):=λ⟨n,v⟩hy=>by
  rcases S.par n (Y6 hy).1 with q|q
  .exact .inl q
  .exact .inr ⟨q,PySem.W.cellsFrom_some _ _ _ (.inl q)⟩
 refine codeAny_call_function hr.depth (KX _ _ lk) rfl S.co S.gen rfl (PySem.W.codeRec_of KX Bm) (hb _ _ _ _ ?_);refine wpAny_newFunctionEnv_cells S.kind Hu λenv he s1 x=>?_;subst he;refine⟨lim.keeps x.toInCall.keep,codeAny_func ?_⟩;obtain⟨t,ht,hq⟩:=zG A outer s H vs Q E (hr.deeper _) AK;have I:Inv (jX CX P w K mg base N qual scope f zb A outer s H E) [] (start N vs) H s1:=rp S hr.hd e0 hl r x;refine Xm (ht [] s1 (start N vs) H _ I hq) (λfl s' hs=>?_) λe s' hs=>hs
 have fin:∀{i':St}{H':Hp}{v:V}{u:Vz},Inv (jX CX P w K mg base N qual scope f zb A outer s H E) [] i' H' s'->RelV v u->Q v H'->CE outer P w H s Q u s' :=
  λ{i' H' v u}J rv q=>⟨v,H',J.os,J.bare,J.base,J.hok,rv,q⟩
 cases fl with
 | ret u =>
   obtain⟨v,i',H',J,rv,q⟩:=hs;exact fin J rv q
 | next =>
   obtain⟨i',H',J,q⟩:=hs;exact fin (v:=V.non) (u:=W7) J rfl q
 | brk =>
   obtain⟨_,_,_,q⟩:=hs;exact XA q
 | cont =>
   obtain⟨_,_,_,q⟩:=hs;exact XA q
end L2
variable{CX:L2.CXT}{sp:L2.Sp}
namespace L2
open PySem PySem.Spec PyProof.Rows
section
variable{X:Cx}{p:YF}{es:List WB}{t:TA}{id T:String}{r:List V->Hp->VK->Prop}
def tCB(r:List V->Hp->VK->Prop)(t:TA):TE:=λσ H Q=>t σ H λvs H1=>r vs H1 Q
theorem aB(hc:fZ X (.builtin id) r)(hg:Gl X x)(hm:X.mg x=AQ)(hv:Z7 x=A? (.builtin id))(ha:PA X (e::es) t)(hn:x≠"__name__":=by decide)(C7:(x == ("__debug__":V5))=false:=by decide)
 (he:Wu (e::es) X.env=(C?,XD e X.env)::Wu es X.env:=by rfl) (Am:(Yy pos (Wu es X.env)).any (·.1)=false:=by rfl):PE X (.Call (.Name x p) (e::es) [] pos) (tCB r t):=by
 intro Y s σ H Q I h;refine W2 (dz I hg hm hv ?_ hn C7);exact PyProof.Rows.callWith_builtin1 (thn (ha pos Y s σ H _ I h) λus s1⟨vs,H1,I1,r1,q1⟩=>hc Y s1 σ H1 vs us Q I1 r1 q1) he Am
theorem b8(hc:fZ X (.type T) r)(hg:Gl X x)(hm:X.mg x=AQ)(hv:Z7 x=A? (.type T))(ha:PA X (e::es) t)(hn:x≠"__name__":=by decide)(C7:(x == ("__debug__":V5))=false:=by decide)
 (he:Wu (e::es) X.env=(C?,XD e X.env)::Wu es X.env:=by rfl) (Am:(Yy pos (Wu es X.env)).any (·.1)=false:=by rfl):PE X (.Call (.Name x p) (e::es) [] pos) (tCB r t):=by
 intro Y s σ H Q I h;refine W2 (dz I hg hm hv ?_ hn C7);exact WW (thn (ha pos Y s σ H _ I h) λus s1⟨vs,H1,I1,r1,q1⟩=>hc Y s1 σ H1 vs us Q I1 r1 q1) he Am
end
end L2
namespace HT
open PySem PyProof.Rows
def lexLt:List Int->List Int->Bool
 | [],[]=>C?
 | [],_::_=>B?
 |_::_,[]=>C?
 |x::xs,y::ys=>if x=y then lexLt xs ys else decide (x<y)
theorem lexLt_cons(x y:Int)(xs ys:List Int):lexLt (x::xs) (y::ys)=if x=y then lexLt xs ys else decide (x<y):=rfl
theorem lexLt_nil_nil:lexLt [] []=false:=rfl
theorem lexLt_nil_cons(y:Int)(ys:List Int):lexLt [] (y::ys)=true:=rfl
theorem lexLt_cons_nil(x:Int)(xs:List Int):lexLt (x::xs) []=false:=rfl
theorem eqAt_int(A:Wr)(s:VF)(a:Int)(t:Tok)(c:Int)(u:Tok):∃e,SeqAt.EqAt A s (.int a t) (.int c u) e/\(e=B?↔a=c) :=
 ⟨(a == c),SeqAt.EqAt.int_int a t c u,by simp⟩
theorem rcLt_int(A:Wr)(s:VF)(a:Int)(t:Tok)(c:Int)(u:Tok)(prog:V8)(w:Wm)(E:Vz->VF->Prop)(Q:Vz->VF->Prop)(h:Q (.bool (decide (a<c))) s) :
 VW (Wb prog w) A (richCompare .Lt (.int a t) (.int c u)) Q E s :=
 (PyProof.Rows.lt_int h:VW (Wb prog w) A (Xv .Lt (.int a t) (.int c u)) Q E s)
section
open PySem.SeqAt
open PySem.AutoSeq1 (wpAny_loadPart')
open PySem.MeetsSeq PySem.MeetsSeq2 PySem.MeetsSeq3
theorem tuple_lt_ints(l b:Vy)(items zd:Array Vz)(n n2:Nat)(dd Ck:Option Vy)(sl Cm:Array (Option Vz))(ns ms:List Int)(hi:IntsAre items.toList ns)(hj:IntsAre zd.toList ms) :
 Meets (YC.«tuple.__lt__» ⟨[.ref l,.ref b],[]⟩)
  (λ_ R s=>s.1.get? l=A? {cls:=.type "tuple",dict:=dd,data:=.seq items n,slots:=sl}/\s.1.get? b=A? {cls:=.type "tuple",dict:=Ck,data:=.seq zd n2,slots:=Cm} /\
   R (.ok (.ret (.bool (lexLt ns ms)))) s) :=
 .of_wp λprog w A R s h=>by
  obtain⟨hp,g,d,tk,os⟩:=s;obtain⟨hl,hb,h⟩:=h;have f2:=AutoSeq1.sub_tuple_tuple;have z1:items.size=ns.length:=by rw[<-hi.length];simp
  have z2:zd.size=ms.length:=by rw[<-hj.length];simp
  wp_walk using wpAny_loadPart' hl,wpAny_loadPart' hb,wpAny_forIn_list _ (λrest b s'=>b.1=AQ/\s'=⟨hp,g,d,tk,os⟩/\∃(vs ws:List Vz)(Gz GA:List Int),rest=vs.zip ws /\
   IntsAre vs Gz/\IntsAre ws GA/\Gz.length+zd.size=GA.length+items.size/\R (.ok (.ret (.bool (lexLt Gz GA)))) ⟨hp,g,d,tk,os⟩) _
  case turn =>
   rintro⟨y,x⟩ rest b s' ⟨zB,rfl,vs,ws,Gz,GA,hz,Ly,Kl,hlen,hR⟩;cases Ly with
   |nil=>rw[List.zip_nil_left]at hz;cases hz
   | cons a t Lz =>
     cases Kl with
     |nil=>rw[List.zip_nil_right]at hz;cases hz
     | cons c u LA =>
       rw[Zb]at hz;injection hz with Hv Bu;injection Hv with hy hx;subst hy hx;rw[lexLt_cons]at hR;simp only[VU]at hlen;obtain⟨e,he,Hw⟩:=eqAt_int A.in1 ⟨hp,g,d,tk,os⟩ a t c u;refine Vv (he prog w _ _ ?_);cases e with
       | true =>
         rw[b! (Hw.mp rfl)]at hR
         wp_walk
         exact⟨D?,D?,_,_,_,_,Bu,Lz,LA,by lia,hR⟩
       | false =>
         rw[a! (λq=>g! (Hw.mpr q) VY)]at hR;have Hz:=rcLt_int A.in1 ⟨hp,g,d,tk,os⟩ a t c u prog w
         wp_walk using Hz
         exact⟨_,D?,by simpa using hR⟩
  case fin =>
   rintro⟨b1,b2⟩ s' ⟨zB,rfl,vs,ws,Gz,GA,hz,Ly,Kl,hlen,hR⟩;simp only at zB;subst zB
   have hv:lexLt Gz GA=decide (items.size<zd.size):=by
    cases Ly with
    | nil =>
      cases Kl with
      | nil =>
        simp only[YH]at hlen;rw[lexLt_nil_nil];exact(c! (by lia)).symm
      | cons c u hw =>
        simp only[YH,VU]at hlen;rw[lexLt_nil_cons];exact(d! (by lia)).symm
    | cons a t hv =>
      cases Kl with
      | nil =>
        simp only[YH,VU]at hlen;rw[lexLt_cons_nil];exact(c! (by lia)).symm
      | cons c u hw =>
        rw[Zb]at hz;cases hz
   rw[hv]at hR
   wp_walk
   exact⟨_,D?,by simpa[Builtin.Tuple.tupleCompareSizes]using hR⟩
  case h =>
   exact⟨D?,D?,items.toList,zd.toList,ns,ms,D?,hi,hj,by lia,h⟩
end
theorem lt_tupInts{zd:Array Vz}{ms:List Int}(hl:IsTup s.1 l items)(hb:IsTup s.1 b zd)(hi:IntsAre items.toList ns)(hj:IntsAre zd.toList ms)
 (hu:A.units<Yd) (h:Q (.bool (lexLt ns ms)) s):VW (Wb prog w) A (Xv .Lt (.ref l) (.ref b)) Q E s:=by
 obtain⟨⟨cls,dd,data,sl⟩,ho,hc,n,hd⟩:=id hl;obtain⟨⟨Ea,Ck,data2,Cm⟩,CB,AX,n2,hd2⟩:=id hb;simp only at hc hd AX hd2;subst hc hd AX hd2
 exact richCompare_meets_room (op:=.Lt) ⟨_,ho,rfl⟩ ⟨_,CB,rfl⟩ PySem.F.slot_tuple_lt PySem.F.entry_tuple_lt (PySem.F.args_tuple_lt_2 _ _) (tuple_lt_ints l b items zd n n2 dd Ck sl Cm ns ms hi hj)
  ⟨ho,CB,show Value.bool (lexLt ns ms)≠Value.notImplemented/\Q (.bool (lexLt ns ms)) s from⟨(λx=>nomatch x),h⟩⟩ hu
theorem cat_tup{t:Vy}{vs ws:List Vz}(ht:IsTup s.1 t vs.toArray)(hb:IsTup s.1 b ws.toArray)(hv:vs≠[])
 (h1:ws=[]->Q (.ref t) s) (h2:ws≠[]->Q (.ref s.1.1.size) {s with heap:=s.1.push {cls:=.type "tuple",data:=.seq (vs++ws).toArray}})
 (hsz:vs.length+ws.length<=V4):VW (Wb prog w) A (Yr .Add (.ref t) (.ref b)) Q E s:=by
 obtain⟨⟨cls,dd,data,sl⟩,ho,hc,n,hd⟩:=id ht;obtain⟨⟨Ea,Ck,data2,Cm⟩,CB,AX,n2,hd2⟩:=id hb;simp only at hc hd AX hd2;subst hc hd AX hd2;have e:vs.toArray++ws.toArray=(vs++ws).toArray:=by simp
 by_cases hw:ws=[]
 .exact concat_meets ⟨_,ho,rfl⟩ ⟨_,CB,rfl⟩ noFill_tuple_add seq_tuple_add PySem.F.slot_tuple_add PySem.F.entry_tuple_add (Z8 _ _)
   (tuple_addW1 t b vs.toArray ws.toArray n n2 dd Ck sl Cm (by simpa using hv) (by simp[hw])) ⟨ho,CB,h1 hw⟩
 .refine concat_meets ⟨_,ho,rfl⟩ ⟨_,CB,rfl⟩ noFill_tuple_add seq_tuple_add PySem.F.slot_tuple_add PySem.F.entry_tuple_add (Z8 _ _)
   (tuple_addW2 t b vs.toArray ws.toArray n n2 dd Ck sl Cm (by simpa using hv) (by simpa using hw) (by rw[VM,VM];exact hsz)) ⟨ho,CB,?_⟩
  rw[e];exact h2 hw
def sIx(n d:Nat):Option Int->Nat
 |none=>d
 |some v=>if v<0 then(v+(n:Int)).toNat else min v.toNat n
theorem sIx_none(n d:Nat):sIx n d AQ=d:=rfl
theorem sIx_nat(n d k:Nat):sIx n d (A? (k:Int))=min k n:=by
 show(if(k:Int)<0 then((k:Int)+(n:Int)).toNat else min (k:Int).toNat n)=min k n;rw[a! (by lia),VQ]
theorem sIx_le(n d:Nat)(hd:d<=n)(o:Option Int):sIx n d o<=n:=by
 cases o with
 |none=>exact hd
 | some v =>
   show(if v<0 then(v+(n:Int)).toNat else min v.toNat n)<=n;by_cases hv:v<0
   .rw[b! hv];lia
   .rw[a! hv];exact Nat.min_le_right _ _
theorem clip_eq(v:Int)(n d:Nat):(if v<0 then max (v+(n:Int)) 0 else min v (n:Int))=((sIx n d (A? v):Nat):Int):=by
 show(if v<0 then max (v+(n:Int)) 0 else min v (n:Int))=(((if v<0 then(v+(n:Int)).toNat else min v.toNat n):Nat):Int);by_cases hv:v<0
 .simp only[b! hv];lia
 .simp only[a! hv];lia
theorem adjust_gen(lo hi:Option Int)(n:Nat):Ym lo hi 1 (n:Int)=(((sIx n 0 lo:Nat):Int),((sIx n n hi:Nat):Int)):=by
 have h1:¬((1:Int)<0):=by lia
 unfold Ym;simp only[h1,if_false];refine Prod.ext ?_ ?_
 .cases lo with
  |none=>rfl
  |some v=>exact clip_eq v n 0
 .cases hi with
  |none=>rfl
  |some v=>exact clip_eq v n n
theorem places_gen(i j:Nat):Xi (i:Int) (j:Int) 1=j - i:=by
 unfold Xi;have h1:(1:Int) > 0:=by lia
 simp only[h1,if_true,Int.ediv_one];split <;> lia
theorem slicePart_{v:Vz}{o:Option Int}{Q:Option Int->VF->Prop}(p:IsPart v o)(h:Q o s):VW (Wb prog w) A (Builtin.Slice.slicePartIndex v) Q E s:=by
 cases p with
 |none=>exact slicePart_none h
 |int i t=>exact slicePart_int h
theorem sliceApplied_gen{Q:Int×Int×Nat->VF->Prop}(hs:s.1.IsSliceOf sl vl vu .none)(pl:IsPart vl lo)(pu:IsPart vu hi)
 (h:Q (((sIx n 0 lo:Nat):Int),1,sIx n n hi - sIx n 0 lo) s):VW (Wb prog w) A (Y4 (.ref sl) (pure (n:Int))) Q E s:=by
 obtain⟨os,Bv,EH,AD⟩:=id hs;unfold Y4 Builtin.Slice.sliceFields;refine Vv (Vv (WE Bv AD (x:=vl) rfl (Vv (WE Bv AD (x:=vu) rfl (Vv (WE Bv AD (x:=.none) rfl (VC ?_)))))));refine Vv (slicePart_none ?_);show VW _ _ (if((1:Int) == 0)=B? then _ else _) _ _ s;rw[a! (by decide)];refine Vv (slicePart_ pl (Vv (slicePart_ pu (Vv (VC ?_)))));show VW _ _ (match Ym lo hi 1 (n:Int)with|(lo,hi)=>pure (lo,(1:Int),Xi lo hi 1)) _ _ s;rw[adjust_gen lo hi n];show VW _ _ (pure (((sIx n 0 lo:Nat):Int),(1:Int),Xi ((sIx n 0 lo:Nat):Int) ((sIx n n hi:Nat):Int) 1)) _ _ s;rw[places_gen];exact VC h
theorem pick_gen(xs:Array Vz)(i k:Nat):((Xf k).filterMap λ(m:Nat)=>xs[((i:Int)+(m:Int) * 1).toNat]?).toArray=((xs.toList.drop i).take k).toArray:=by
 have e:(λ(m:Nat)=>xs[((i:Int)+(m:Int) * 1).toNat]?)=λm=>xs[i+m]?:=by
  funext m;have:((i:Int)+(m:Int) * 1).toNat=i+m:=by lia
  rw[this]
 rw[e];have:=pick_run xs i k;rw[List.filterMap_map]at this;have e2:((λx=>xs[x]?) ∘ λx=>i+x)=λm=>xs[i+m]?:=rfl;rw[e2]at this;rw[this]
theorem getItem_tuple_cut{t:Vy}(ht:IsTup s.1 t items)(hs:s.1.IsSliceOf sl vl vu .none)(pl:IsPart vl lo)(pu:IsPart vu hi)
 (hw:¬(sIx items.size 0 lo=0/\sIx items.size items.size hi=items.size))
 (h:Q (.ref s.1.1.size) {s with heap:=s.1.push {cls:=.type "tuple",data:=.seq ((items.toList.drop (sIx items.size 0 lo)).take (sIx items.size items.size hi - sIx items.size 0 lo)).toArray}})
 (hsz:items.size<=V4):VW (Wb prog w) A (Zt (.ref t) (.ref sl)) Q E s:=by
 have Aa:sizeOk (.seq ((items.toList.drop (sIx items.size 0 lo)).take (sIx items.size items.size hi - sIx items.size 0 lo)).toArray):=by
  show((items.toList.drop (sIx items.size 0 lo)).take (sIx items.size items.size hi - sIx items.size 0 lo)).toArray.size<=V4;rw[VM,WA,WO,Wd];lia
 have hj:sIx items.size items.size hi<=items.size:=sIx_le _ _ (VG _) hi;obtain⟨os,Bv,EH,AD⟩:=id hs;have HE:s.TypeIs (.ref sl) "slice":=⟨os,Bv,EH⟩;unfold Zt
 try with_reducible refine WT ?_
 first|refine Vv (VC ?_)|skip
 refine Vv (wpAny_sequenceKey ht.typeIs (by decide) ?_)
 refine Vv (WJ (name:=VE "__getitem__") ht.typeIs WH
  (WM WH ht.typeIs entry_tuple_getitem ?_ (args_tuple_getitem _ _)))
 show VW _ _ (Builtin.Tuple.tupleItemsOf (.ref t) >>= _) _ _ s;refine Vv (tupleItemsOf_ ht ?_);refine Vv (Zq HE ?_);rw[b! (by decide)];refine Vv (sliceApplied_gen hs pl pu ?_)
 have zp:¬((((sIx items.size 0 lo:Nat):Int) == 0 && (1:Int) == 1 && (sIx items.size items.size hi - sIx items.size 0 lo) == items.size)=B?):=by
  intro q;rw[XM,XM]at q;have q1:((sIx items.size 0 lo:Nat):Int)=0:=eq_of_beq q.1.1;have q2:sIx items.size items.size hi - sIx items.size 0 lo=items.size:=eq_of_beq q.2;exact hw ⟨by lia,by lia⟩
 show VW _ _ (if(((sIx items.size 0 lo:Nat):Int) == 0 && (1:Int) == 1 && (sIx items.size items.size hi - sIx items.size 0 lo) == items.size)=B? then _ else _) _ _ s;rw[a! zp,pick_gen]
 first
  |exact Vv (m:=Xj _) (WC (VC ⟨_,rfl,VC h⟩) Aa)
  |exact Vv (m:=Xj _) (WC (Vv (VC (VC ⟨_,rfl,VC h⟩))) Aa)
  |exact Vv (Vv (m:=Xj _) (WC (VC (VC ⟨_,rfl,VC h⟩)) Aa))
  |exact Vv (Vv (m:=Xj _) (WC (VC ⟨_,rfl,VC h⟩) Aa))
end HT
open HT renaming sIx->p!,sIx_nat->x!,lexLt->F!,lexLt_cons->O!
namespace L2
open PySem PySem.Spec PyProof.Rows
abbrev TO:=St->Hp->(Option Int->Hp->Prop)->Prop
def PO(X:Cx)(e:Option WB)(t:TO):Prop :=
 ∀(Y:List (Vy×Xw))(s:VF)(σ:St)(H:Hp)(Q:Option Int->Hp->Prop),Inv X Y σ H s->t σ H Q ->
   VW (Wb X.prog X.w) X.A (evalPart e X.env) (λu s'=>∃o H',Inv X Y σ H' s'/\IsPart u o/\Q o H') X.xe s
def uU:TO:=λ_ H Q=>Q AQ H
inductive wd(x:V)(Q:Option Int->Hp->Prop)(H1:Hp):Prop
 |mk (i:Int) (AS:x=.int i) (AU:Q (A? i) H1):wd x Q H1
def vL(t:TE):TO:=λσ H Q=>t σ H λx H1=>wd x Q H1
theorem intsAre_of:∀{us:List Vz},Vals (ns.map o!) us->IntsAre us ns:=by
 induction ns with
 |nil=>intro us r;rw[XI]at r;cases r;exact .nil
 | cons n ns ih =>
   intro us r;rw[V6]at r;cases r with
   | cons r1 r2 =>
     obtain⟨t,e⟩:=r1;subst e;exact .cons n t (ih r2)
section
variable{X:Cx}{te:TE}{lo hi:Option WB}{tl th:TO}{p2:YF}
theorem bJ:PO X AQ uU:=by
 intro Y s σ H Q I h;rw[evalPart_none];exact VC ⟨AQ,H,I,.none,h⟩
theorem br(h:PE X e te):PO X (A? e) (vL te):=by
 intro Y s σ H Q I hw;rw[evalPart_some];refine thn (h Y s σ H _ I hw) λu s1⟨x,H1,I1,r1,q1⟩=>?_;obtain⟨i,rfl,q⟩:=q1;obtain⟨t,rfl⟩:=r1;exact⟨A? i,H1,I1,.int i t,q⟩
def SlR(X:Cx)(r:V->Option Int->Option Int->Hp->VK->Prop):Prop :=
 ∀(Y:List (Vy×Xw))(s:VF)(σ:St)(H:Hp)(x:V)(v vl vu:Vz)(lo hi:Option Int)(sl:Vy)(Q:VK),Inv X Y σ H s->RelV x v->s.1.IsSliceOf sl vl vu .none->IsPart vl lo->IsPart vu hi->r x lo hi H Q ->
   ∃T id,typeLookup (.type T) "__getitem__"=pure (A? (.builtin id))/\s.TypeIs v T/\VW (Wb X.prog X.w) X.A (Zt v (.ref sl)) (EP X Y σ Q) X.xe s
def tSl(r:V->Option Int->Option Int->Hp->VK->Prop)(te:TE)(tl th:TO):TE:=λσ H Q=>te σ H λx H1=>tl σ H1 λl H2=>th σ H2 λu H3=>r x l u H3 Q
theorem aZ{r:V->Option Int->Option Int->Hp->VK->Prop}(hr:SlR X r)(he:PE X e te)(hl:PO X lo tl)(hu:PO X hi th):PE X (.Subscript e (.Slice lo hi AQ p2) pos) (tSl r te tl th):=by
 intro Y s σ H Q I h;refine Subscript_ (thn (he Y s σ H _ I h) λv s1⟨x,H1,I1,r1,q1⟩=>?_);refine wpAny_Slice (thn (hl Y s1 σ H1 _ I1 q1) λvl s2⟨l,H2,I2,pl,q2⟩=>thn (hu Y s2 σ H2 _ I2 q2) λvu s3⟨u,H3,I3,pu,q3⟩=>?_);rw[evalPart_none];refine VC ?_;have I4:Inv X Y σ H3 {s3 with heap:=s3.1.push {cls:=.type "slice",data:=.fields #[vl,vu,.none]}}:=I3.kept (t':=s3.toks) λb ob q=>VB _ q;obtain⟨T,id,hT,ht,hg⟩:=hr Y {s3 with heap:=s3.1.push {cls:=.type "slice",data:=.fields #[vl,vu,.none]}} σ H3 x v vl vu l u s3.1.1.size Q I4 r1 (Heap.IsSliceOf.new ..) pl pu q3;show VW (Wb X.prog X.w) X.A (subscriptTail e (.Slice lo hi AQ p2) v (.ref s3.1.1.size)) (EP X Y σ Q) X.xe {s3 with heap:=s3.1.push {cls:=.type "slice",data:=.fields #[vl,vu,.none]}};exact tail_any (ops:=[.ref s3.1.1.size,v]) ht hT hg (by with_unfolding_all rfl)
def dw(xs:List V)(lo hi:Option Int):List V:=(xs.drop (p! xs.length 0 lo)).take (p! xs.length xs.length hi - p! xs.length 0 lo)
theorem eL(xs:List V)(lo hi:Option Int):(dw xs lo hi).length<=xs.length:=by
 unfold dw;rw[WA,WO];lia
inductive v6(K:VD)(x:V)(lo:Option Int)(hi:Option Int)(H:Hp)(Q:VK):Prop
 |mk (a:_) (xs:_) (AS:x=.ref a) (AU:SqT K H a xs) (Cj:¬(p! xs.length 0 lo=0/\p! xs.length xs.length hi=xs.length)) (D8:∀p,H p=AQ->Q (.ref p) (upd H p (.tup (dw xs lo hi)))):v6 K x lo hi H Q
def yR(K:VD):V->Option Int->Option Int->Hp->VK->Prop:=v6 K
theorem cR:SlR X (yR X.K):=by
 intro Y s σ H x v vl vu lo hi sl Q I rx hs pl pu h;obtain⟨a,xs,rfl,hx,hw,q⟩:=h;cases rx;obtain⟨its,r,ht,hz⟩:=I.tuple hx;have hlen:its.toArray.size=xs.length:=by rw[VM];exact r.length.symm
 refine⟨"tuple",_,WH.lookup,ht.typeIs,?_⟩;refine HT.getItem_tuple_cut ht hs pl pu (by rw[hlen];exact hw) ?_ (by rw[hlen];exact hz);rw[hlen];refine⟨.ref s.1.1.size,_,I.laid (t':=s.toks) (o:=.tup (dw xs lo hi)) (λb ob q=>VB _ q) (VG _) ?_,D?,q _ (I.hok.fresh (VG _))⟩;exact⟨Wz (eL xs lo hi) hz,_,0,(r.drop (p! xs.length 0 lo)).take (p! xs.length xs.length hi - p! xs.length 0 lo),VI _ rfl⟩
def yf(K:VD):R2:=λx y H Q=>∃a b xs ys,x=.ref a/\y=.ref b/\SqT K H a xs/\SqT K H b ys/\xs≠[]/\xs.length+ys.length<=V4 /\
 (ys=[]->Q (.ref a) H)/\(ys≠[]->∀p,H p=AQ->Q (.ref p) (upd H p (.tup (xs++ys))))
theorem Vals.nil_iff(r:Vals xs us):us=[]↔xs=[]:=by
 cases r with
 |nil=>simp
 |cons _ _=>simp
theorem m9:OpR X (Yr .Add) (yf X.K):=by
 intro Y s σ H x y v u Q I rx ry h;obtain⟨a,b,xs,ys,rfl,rfl,ha,hb,hx,hz,q1,q2⟩:=h;cases rx;cases ry;obtain⟨its,r1,p1,_⟩:=I.tuple ha;obtain⟨zc,r2,p2,_⟩:=I.tuple hb;refine HT.cat_tup p1 p2 (λz=>hx (r1.nil_iff.mp z)) (λz=>⟨.ref a,H,I,rfl,q1 (r2.nil_iff.mp z)⟩) (λz=>?_) (by rw[<-r1.length,<-r2.length];exact hz);refine⟨.ref s.1.1.size,_,I.laid (t':=s.toks) (o:=.tup (xs++ys)) (λb ob q=>VB _ q) (VG _) ?_,D?,q2 (λw=>z (r2.nil_iff.mpr w)) _ (I.hok.fresh (VG _))⟩;exact⟨by rw[VJ];exact hz,_,0,r1.append r2,VI _ rfl⟩
end
def ixN(n:Nat)(i:Int):Option Nat:=if 0<=i then(if i<n then A? i.toNat else AQ)else if -(n:Int)<=i then A? (i+n).toNat else AQ
def atI{α:Type}(xs:List α)(i:Int):Option α:=(ixN xs.length i).bind λj=>xs[j]?
theorem qD{i:Int}(h:ixN n i=A? j):seqIndex? i n=A? j/\j<n/\-(n:Int)<=i/\i<n:=by
 unfold ixN at h;by_cases h0:0<=i
 .rw[b! h0]at h;by_cases h1:i<n
  .rw[b! h1]at h;have e:i.toNat=j:=VN h;exact⟨by rw[seqIndex_of h0 h1,e],by lia,by lia,h1⟩
  .rw[a! h1]at h;cases h
 .rw[a! h0]at h;by_cases h1:-(n:Int)<=i
  .rw[b! h1]at h;have e:(i+n).toNat=j:=VN h;exact⟨by rw[seqIndex_neg (by lia) h1,e],by lia,h1,by lia⟩
  .rw[a! h1]at h;cases h
theorem nC{xs:List α}{i:Int}{v:α}(h:atI xs i=A? v):∃j,seqIndex? i xs.length=A? j/\xs[j]?=A? v/\j<xs.length/\-(xs.length:Int)<=i/\i<xs.length:=by
 unfold atI at h;cases e:ixN xs.length i with
 |none=>rw[e]at h;cases h
 | some j =>
   rw[e]at h;obtain⟨h1,h2,h3,h4⟩:=qD e;exact⟨j,h1,h,h2,h3,h4⟩
theorem bu{xs:List α}{v:α}(h:xs[j]?=A? v):atI xs (j:Int)=A? v:=by
 have hj:j<xs.length:=(glE h)
 have e:ixN xs.length (j:Int)=A? j:=by
  unfold ixN;rw[b! (by lia),b! (by lia)];simp
 unfold atI;rw[e];exact h
theorem tM(xs:List α)(v:α):atI (xs++[v]) (-1)=A? v:=by
 have hl:(xs++[v]).length=xs.length+1:=by simp
 have e:ixN (xs++[v]).length (-1)=A? xs.length:=by
  unfold ixN;rw[hl,a! (by decide),b! (by lia)];congr 1;lia
 unfold atI;rw[e];show(xs++[v])[xs.length]?=A? v;simp
def vC(b:WB):Prop:=∀o i,subscripted b C? o i=operate [o,i] (Zt o i)
def IxR(X:Cx)(r:R2):Prop :=
 ∀(value slice:WB)(Y:List (Vy×Xw))(s:VF)(σ:St)(H:Hp)(x y:V)(v u:Vz)(Q:VK),Inv X Y σ H s->RelV x v->RelV y u->r x y H Q ->
   subscripted slice C? v u=operate [v,u] (Zt v u)->VW (Wb X.prog X.w) X.A (subscriptTail value slice v u) (EP X Y σ Q) X.xe s
def MtR(X:Cx)(id:String)(r:V->List V->Hp->VK->Prop):Prop :=
 ∀(Y:List (Vy×Xw))(s:VF)(σ:St)(H:Hp)(x:V)(xs:List V)(v:Vz)(us:List Vz)(Q:VK),Inv X Y σ H s->RelV x v->Vals xs us->r x xs H Q ->
   VW (Wb X.prog X.w) X.A (call (.builtin id) (v::us)) (EP X Y σ Q) X.xe s
section
variable{X:Cx}{a b:WB}{ta tb:TE}
theorem ax(hr:IxR X r)(ha:PE X a ta)(hb:PE X b tb)(hs:vC b):PE X (.Subscript a b pos) (tOp r ta tb):=by
 intro Y s σ H Q I h;exact Subscript_ (xu ha hb I h λv u s2 x y H2 I2 rx ry q=>hr a b Y s2 σ H2 x y v u Q I2 rx ry q (hs _ _))
inductive vM(K:VD)(x:V)(y:V)(H:Hp)(Q:VK):Prop
 |mk (p:_) (xs:_) (i:_) (v:_) (AS:x=.ref p) (AU:y=.int i) (Cj:SqL K H p xs) (D8:atI xs i=A? v) (GB:Q v H):vM K x y H Q
def ya(K:VD):R2:=vM K
inductive vJ(K:VD)(x:V)(y:V)(H:Hp)(Q:VK):Prop
 |mk (p:_) (xs:_) (i:_) (v:_) (AS:x=.ref p) (AU:y=.int i) (Cj:SqT K H p xs) (D8:atI xs i=A? v) (GB:Q v H):vJ K x y H Q
def eg(K:VD):R2:=vJ K
inductive vQ(x:V)(y:V)(H:Hp)(Q:VK):Prop
 |mk (z:_) (i:_) (c:_) (AS:x=.str z) (AU:y=.int i) (Cj:z.length<=V4) (D8:atI z.cps.toList i=A? c) (GB:Q (.str ⟨#[c]⟩) H):vQ  x y H Q
def yy:R2:=vQ
theorem aS:IxR X (ya X.K):=by
 intro value slice Y s σ H x y v u Q I rx ry h hs;obtain⟨p,xs,i,z,rfl,rfl,hq,he,q⟩:=h;cases rx;obtain⟨t,rfl⟩:=ry;obtain⟨its,r,pl,hz⟩:=I.list hq;obtain⟨j,h1,h2,h3,h4,h5⟩:=nC he;obtain⟨w,ew,C8⟩:=r.get h2;have hl:=r.length;have hn:=jr;have fin:EP X Y σ Q w s:=⟨z,H,I,C8,q⟩;by_cases h0:0<=i
 .have hj:i.toNat=j:=by
   rw[seqIndex_of h0 h5]at h1;exact VN h1
  exact item_listR pl.isList h0 (by lia) (by rw[hj];simpa using ew) fin hs
 .have hj:(i+(its.toArray.size:Int)).toNat=j:=by
   rw[seqIndex_neg (by lia) h4]at h1;rw[VM,<-hl];exact VN h1
  exact subscriptTail_builtinR (x:=w) pl.isList.typeIs slot_list_getitem.lookup
   (wpAny_getItem_list_neg (Q:=λr s'=>r=w/\EP X Y σ Q r s') pl.isList (by lia) (by rw[VM] <;> lia) (by lia) (by rw[hj];simpa using ew) ⟨rfl,fin⟩) hs
theorem az:IxR X (eg X.K):=by
 intro value slice Y s σ H x y v u Q I rx ry h hs;obtain⟨p,xs,i,z,rfl,rfl,hq,he,q⟩:=h;cases rx;obtain⟨t,rfl⟩:=ry;obtain⟨its,r,pl,hz⟩:=I.tuple hq;obtain⟨j,h1,h2,h3,h4,h5⟩:=nC he;obtain⟨w,ew,C8⟩:=r.get h2;have hl:=r.length;have hn:=jr;have fin:EP X Y σ Q w s:=⟨z,H,I,C8,q⟩
 exact subscriptTail_builtinR (x:=w) pl.typeIs slot_tuple_getitem.lookup
  (getItem_tuple (j:=j) (Q:=λr s'=>r=w/\EP X Y σ Q r s') pl (by lia) (by lia) (by rw[VM,<-hl];exact h1) (by simpa using ew) ⟨rfl,fin⟩) hs
theorem pZ:IxR X yy:=by
 intro value slice Y s σ H x y v u Q I rx ry h hs;obtain⟨z,i,c,rfl,rfl,hz,he,q⟩:=h;obtain⟨t,rfl⟩:=rx;obtain⟨t',rfl⟩:=ry;obtain⟨j,h1,h2,h3,h4,h5⟩:=nC he;have hl:z.cps.toList.length=z.length:=by simp[Str.length]
 rw[hl]at h1 h4 h5;have hn:=jr
 exact tail_any (typeIs_str s z t) slot_str_getitem.lookup (getItem_str (c:=c) (by
  have e1:decide (i < -(2 ^ 63:Int))=false:=c! (by lia);have e2:decide (i >= 2 ^ 63)=false:=c! (by lia);rw[e1,e2,Bool.or_false]) (by rw[h1];simpa using h2) ⟨.str ⟨#[c]⟩,H,I.tok _,⟨_,rfl⟩,q⟩) hs
theorem o9(its:List Vz)(n j:Nat)(u:Vz):WV (·.setIfInBounds j u) {cls:=.type "list",data:=.seq its.toArray n}={cls:=.type "list",data:=.seq (its.set j u).toArray n}:=by
 simp[WV]
theorem Inv.lst{p:Vy}(I:Inv X Y σ H s)(h:H p=A? (.lst xs)) :
 ∃(its:List Vz)(n:Nat),Vals xs its/\s.1.get? p=A? {cls:=.type "list",data:=.seq its.toArray n}/\xs.length<=V4:=by
 obtain⟨z,its,n,r,e⟩:=I.hok p _ h;exact⟨its,n,r,e,z⟩
theorem Inv.lstUpd{p:Vy}{ys:List V}{its':List Vz}{n':Nat}{f:Xw->Xw}(I:Inv X Y σ H s)(h:H p=A? (.lst xs))
 (ho:s.1.get? p=A? {cls:=.type "list",data:=.seq its.toArray n}) (hf:f {cls:=.type "list",data:=.seq its.toArray n}={cls:=.type "list",data:=.seq its'.toArray n'}) (r:Vals ys its') (hz:ys.length<=V4) (t:Nat) :
 Inv X Y σ (upd H p (.lst ys)) {s with heap:=s.1.update p f,toks:=t}:=by
 have e:(s.1.update p f).get? p=A? {cls:=.type "list",data:=.seq its'.toArray n'}:=by
  rw[WU f ho (by rw[hf] <;> rfl),hf]
 refine I.write (x:=p) (e:=p) (by rw[h];trivial) (.inl rfl) (λb u hb q=>(W8 _ _ (XC hb)).trans q) ⟨_,e⟩ ?_;exact⟨hz,its',n',r,e⟩
def xU:V->V->V->Hp->(Hp->Prop)->Prop:=λo i v H Q=>∃p xs k j,o=.ref p/\i=.int k/\H p=A? (.lst xs)/\ixN xs.length k=A? j/\Q (upd H p (.lst (xs.set j v)))
theorem set_list:xF X xU:=by
 intro Y s σ H o i v ov iv u Q I ro ri rv h;obtain⟨p,xs,k,j,rfl,rfl,hp,hj,q⟩:=h;cases ro;obtain⟨t,rfl⟩:=ri;obtain⟨its,n,r,ho,hz⟩:=I.lst hp;obtain⟨h1,h2,h3,h4⟩:=qD hj;have hl:=r.length;have hn:=jr
 have I':Inv X Y σ (upd H p (.lst (xs.set j v))) {s with heap:=s.1.update p (WV (·.setIfInBounds j u))} :=
  I.lstUpd hp ho (o9 its n j u) (r.set rv j) (by rw[XR];exact hz) s.toks
 by_cases h0:0<=k
 .have hk:k.toNat=j:=by
   rw[seqIndex_of h0 h4]at h1;exact VN h1
  exact PySem.W.ki_setAt ho h0 (by lia) (by rw[VM,<-hl];exact h4) (by rw[hk];exact⟨_,I',q⟩)
 .have hk:(k+(its.toArray.size:Int)).toNat=j:=by
   rw[seqIndex_neg (by lia) h3]at h1;rw[VM,<-hl];exact VN h1
  exact PySem.W.ki_setBack ho (by lia) (by rw[VM,<-hl];exact h3) (by lia) (by rw[hk];exact⟨_,I',q⟩)
theorem m5(lo hi:Option Int)(n:Nat):(ZO lo hi AQ n).1=((p! n 0 lo:Nat):Int)/\(ZO lo hi AQ n).2.1=((p! n n hi:Nat):Int)/\(ZO lo hi AQ n).2.2=1:=by
 refine⟨?_,?_,D?⟩
 .cases lo with
  |none=>simp[ZO,p!]
  | some i =>
    simp only[ZO,p!,Option.getD_none,show(1:Int) > 0 by decide,if_true];by_cases h:i<0
    .simp only[h,if_true] <;> lia
    .simp only[h,if_false] <;> lia
 .cases hi with
  |none=>simp[ZO,p!]
  | some i =>
    simp only[ZO,p!,Option.getD_none,show(1:Int) > 0 by decide,if_true];by_cases h:i<0
    .simp only[h,if_true] <;> lia
    .simp only[h,if_false] <;> lia
theorem lK(its:List Vz)(lo hi:Option Int):slicePick its.toArray lo hi AQ=((its.drop (p! its.length 0 lo)).take (p! its.length its.length hi - p! its.length 0 lo)).toArray:=by
 obtain⟨h1,h2,h3⟩:=m5 lo hi its.toArray.size;unfold slicePick;rw[h1,h2,h3];simp only[sliceRange_one,pick_run,VM] <;> rfl
inductive vZ(K:VD)(x:V)(lo:Option Int)(hi:Option Int)(H:Hp)(Q:VK):Prop
 |mk (a:_) (xs:_) (AS:x=.ref a) (AU:SqL K H a xs) (Cj:∀p,H p=AQ->Q (.ref p) (upd H p (.lst (dw xs lo hi)))):vZ K x lo hi H Q
def yU(K:VD):V->Option Int->Option Int->Hp->VK->Prop:=vZ K
theorem j6:SlR X (yU X.K):=by
 intro Y s σ H x v vl vu lo hi sl Q I rx hs pl pu h;obtain⟨a,xs,rfl,hx,q⟩:=h;cases rx;obtain⟨its,r,ht,hz⟩:=I.list hx;have hlen:=r.length;refine⟨"list",_,slot_list_getitem.lookup,ht.isList.typeIs,?_⟩;refine wpAny_getItem_list_slice ht.isList hs pl pu .none (by simp) ?_ (by rw[VM] <;> lia);rw[lK,<-hlen];refine⟨.ref s.1.1.size,_,I.laid (t':=s.toks) (o:=.lst (dw xs lo hi)) (λb ob q=>VB _ q) (VG _) ?_,D?,q _ (I.hok.fresh (VG _))⟩;exact⟨Wz (eL xs lo hi) hz,_,0,(r.drop (p! xs.length 0 lo)).take (p! xs.length xs.length hi - p! xs.length 0 lo),VI _ rfl⟩
def jF:V->Bool
 |.non=>B?
 |.bl _=>B?
 |.int _=>B?
 |.str _=>B?
 |_=>C?
def eqV:V->V->Bool
 |.non,.non=>B?
 |.bl a,.bl b=>a == b
 |.bl a,.int b=>(if a then 1 else 0) == b
 |.int a,.bl b=>a == (if b then 1 else 0)
 |.int a,.int b=>a == b
 |.str a,.str b=>a == b
 |_,_=>C?
theorem wF{x:V}{v:Vz}(ry:RelV y u)(rx:RelV x v)(fy:jF y=B?)(fx:jF x=B?):SeqAt.EqAt A s u v (eqV y x):=by
 cases y with
 | non =>
   cases ry;cases x with
   |non=>cases rx;exact SeqAt.EqAt.same _
   |bl b=>cases rx;exact SeqAt.EqAt.none_bool b
   |int b=>obtain⟨t,rfl⟩:=rx;exact SeqAt.EqAt.none_int b t
   |str b=>obtain⟨t,rfl⟩:=rx;exact SeqAt.EqAt.none_str b t
   |_=>exact g! (show C?=B? from fx) VY
 | bl a =>
   cases ry;cases x with
   |non=>cases rx;exact SeqAt.EqAt.bool_none a
   |bl b=>cases rx;exact SeqAt.EqAt.bool_bool a b
   |int b=>obtain⟨t,rfl⟩:=rx;exact SeqAt.EqAt.bool_int a b t
   |str b=>obtain⟨t,rfl⟩:=rx;exact SeqAt.EqAt.bool_str a b t
   |_=>exact g! (show C?=B? from fx) VY
 | int a =>
   obtain⟨t',rfl⟩:=ry;cases x with
   |non=>cases rx;exact SeqAt.EqAt.int_none a t'
   |bl b=>cases rx;exact SeqAt.EqAt.int_bool a t' b
   |int b=>obtain⟨t,rfl⟩:=rx;exact SeqAt.EqAt.int_int a t' b t
   |str b=>obtain⟨t,rfl⟩:=rx;exact SeqAt.EqAt.int_str a t' b t
   |_=>exact g! (show C?=B? from fx) VY
 | str a =>
   obtain⟨t',rfl⟩:=ry;cases x with
   |non=>cases rx;exact SeqAt.EqAt.str_none a t'
   |bl b=>cases rx;exact SeqAt.EqAt.str_bool a t' b
   |int b=>obtain⟨t,rfl⟩:=rx;exact SeqAt.EqAt.str_int a t' b t
   |str b=>obtain⟨t,rfl⟩:=rx;exact SeqAt.EqAt.str_str a t' b t
   |_=>exact g! (show C?=B? from fx) VY
 |_=>exact g! (show C?=B? from fy) VY
def eqU(x:V)(u:Vz):Bool:=match u with
 |.none=>eqV .non x
 |.bool b=>eqV (.bl b) x
 |.int i _=>eqV (.int i) x
 |.str z _=>eqV (.str z) x
 |_=>C?
theorem sS{x:V}(r:RelV y u)(f:jF y=B?):eqU x u=eqV y x:=by
 cases y with
 |non=>cases r;rfl
 |bl b=>cases r;rfl
 |int i=>obtain⟨t,rfl⟩:=r;rfl
 |str z=>obtain⟨t,rfl⟩:=r;rfl
 |_=>exact g! (show C?=B? from f) VY
theorem m4{x:V}:∀{xs:List V}{us:List Vz},Vals xs us->xs.all jF=B?->us.any (eqU x)=xs.any λy=>eqV y x
 |_,_,.nil,_=>rfl
 | y::xs,u::us,.cons r t,f=>by
   rw[List.all_cons,XM]at f;rw[List.any_cons,List.any_cons,sS r f.1,m4 t f.2]
theorem lB{x:V}{v:Vz}(rx:RelV x v)(fx:jF x=B?):∀{xs:List V}{us:List Vz},Vals xs us->xs.all jF=B?->∀u∈us,SeqAt.EqAt A s u v (eqU x u)
 |_,_,.nil,_=>λu hu=>by cases hu
 | y::xs,u::us,.cons r t,f=>λu' hu=>by
   rw[List.all_cons,XM]at f;rcases VS.mp hu with rfl|hu
   .rw[sS r f.1];exact wF r rx f.1 fx
   .exact lB rx fx t f.2 u' hu
def inV(x:V)(xs:List V):Bool:=xs.any λy=>eqV y x
def rIn(K:VD)(neg:Bool):R2:=λx y H Q=>∃p xs,y=.ref p/\(SqL K H p xs\/SqT K H p xs)/\jF x=B?/\xs.all jF=B?/\Q (.bl (if neg then !inV x xs else inV x xs)) H
theorem mC:OpR X (Xv .In) (rIn X.K C?):=by
 intro Y s σ H x y v u Q I rx ry h;obtain⟨p,xs,rfl,hq,fx,fs,q⟩:=h;cases ry;rcases hq with hq|hq
 .obtain⟨its,r,pl,hz⟩:=I.list hq;refine SeqAt.in_listAt (eqU x) pl.isList (λw hw=>lB rx fx r fs w (by simpa using hw)) ⟨.bl _,H,I,rfl,?_⟩;rw[show its.toArray.any (eqU x)=its.any (eqU x)by simp,m4 r fs];exact q
 .obtain⟨its,r,pl,hz⟩:=I.tuple hq;refine SeqAt.in_tupleAt (eqU x) pl (λw hw=>lB rx fx r fs w (by simpa using hw)) ⟨.bl _,H,I,rfl,?_⟩;rw[show its.toArray.any (eqU x)=its.any (eqU x)by simp,m4 r fs];exact q
inductive vV(K:VD)(xs:List V)(H:Hp)(Q:VK):Prop
 |mk (p:Vy) (ys:List V) (AS:xs=[.ref p]) (AU:SqL K H p ys\/SqT K H p ys) (Cj:Q (.int ys.length) H):vV K xs H Q
theorem aA:fZ X (.builtin "len") (vV X.K):=by
 intro Y s σ H xs us Q I r h;obtain⟨p,ys,rfl,hq,q⟩:=h;obtain⟨u,rfl,rx⟩:=vals1 r;cases rx;have hn:=jr;rcases hq with hq|hq
 .obtain⟨its,r',pl,hz⟩:=I.list hq;have hlen:=r'.length;exact Calls.call_len_list pl.isList (by simp only[VM] <;> lia) ⟨.int ys.length,H,I.tok _,⟨s.toks+1,by rw[VM,hlen]⟩,q⟩
 .obtain⟨its,r',pl,hz⟩:=I.tuple hq;have hlen:=r'.length;exact len_tuple pl (by simp only[VM] <;> lia) ⟨.int ys.length,H,I.tok _,⟨s.toks+1,by rw[VM,hlen]⟩,q⟩
theorem bz:fZ X (.type "tuple") (λxs H Q=>∃p ys,xs=[.ref p]/\((SqL X.K H p ys/\∀l,H l=AQ->Q (.ref l) (upd H l (.tup ys)))\/(SqT X.K H p ys/\Q (.ref p) H))):=by
 intro Y s σ H xs us Q I r h;obtain⟨p,ys,rfl,h⟩:=h;obtain⟨u,rfl,rx⟩:=vals1 r;cases rx;rcases h with⟨hq,q⟩|⟨hq,q⟩
 .obtain⟨its,r',pl,hz⟩:=I.list hq;have hlen:=r'.length;refine call_tuple_list pl.isList (λh' kp=>?_) (by simp only[VM] <;> lia);have I1:Inv X Y σ H {s with heap:=h'}:=I.kept (t':=s.toks) kp
  have I2:Inv X Y σ (upd H h'.objs.size (.tup ys)) {s with heap:=h'.push {cls:=.type "tuple",data:=.seq its.toArray}} :=
   I1.laid (t':=s.toks) (λb o e=>VB _ e) (VG _) (show ObjOk X.prog X.w _ _ _ (.tup ys)from⟨hz,its,0,r',VI _ rfl⟩)
  exact⟨.ref h'.objs.size,_,I2,D?,q _ (I1.hok.fresh (VG _))⟩
 .obtain⟨its,r',pl,hz⟩:=I.tuple hq;exact call_tuple_same pl ⟨.ref p,H,I,rfl,q⟩
def tyV(K:VD)(T:String)(x:V)(H:Hp):Prop:=match x with
 |.str _=>T="str"
 |.int _=>T="int"
 |.ref p=>(T="list"/\∃xs,SqL K H p xs)\/(T="tuple"/\∃o,K.lookup p=A? o/\o.cls=.type "tuple"/\o.dict=AQ) \/
  (T="dict"/\((∃kvs,H p=A? (.dK kvs))\/∃kvs,H p=A? (.dT kvs)))\/(T="set"/\∃S n,H p=A? (.set S n))
 |_=>False
theorem tF{T:String}{x:V}{v:Vz}(I:Inv X Y σ H s)(r:RelV x v)(ty:tyV X.K T x H) :
 s.TypeIs v T/\∀a,v=.ref a->∃ob,s.1.get? a=A? ob/\ob.dict=none:=by
 cases x with
 | str z =>
   obtain⟨t,rfl⟩:=r;cases(show T="str" from ty);exact⟨typeIs_str s z t,λ_ e=>nomatch e⟩
 | int i =>
   obtain⟨t,rfl⟩:=r;cases(show T="int" from ty);exact⟨typeIs_int s i t,λ_ e=>nomatch e⟩
 | ref p =>
   cases r;rcases ty with⟨rfl,xs,hq⟩|⟨rfl,o,hk,hc,hd⟩|⟨rfl,hk⟩|⟨rfl,S,n,hk⟩
   .obtain⟨its,_,pl,_⟩:=I.list hq;refine⟨pl.isList.typeIs,λa e=>?_⟩;cases e;obtain⟨o,n,e,c,hd,_⟩:=pl;exact⟨o,e,hd⟩
   .refine⟨⟨o,I.kIn p o hk,hc⟩,λa e=>?_⟩;cases e;exact⟨o,I.kIn _ o hk,hd⟩
   .have z:∃o,s.1.get? p=A? o/\o.ExactDict:=by
     rcases hk with⟨kvs,hk⟩|⟨kvs,hk⟩
     .obtain⟨_,_,_,_,o,_,_,e,ex,_⟩:=I.hok p _ hk;exact⟨o,e,ex⟩
     .obtain⟨_,_,_,_,o,_,_,e,ex,_⟩:=I.hok p _ hk;exact⟨o,e,ex⟩
    obtain⟨o,e,ex⟩:=z;refine⟨⟨o,e,ex.1⟩,λa e2=>?_⟩;cases e2;exact⟨o,e,ex.2.1⟩
   .obtain⟨o,_,_,_,e,ex,_⟩:=I.hok p _ hk;refine⟨⟨o,e,ex.1⟩,λa e2=>?_⟩;cases e2;exact⟨o,e,ex.2.1⟩
 |_=>exact XA ty
def yu(K:VD)(T:String)(r:V->List V->Hp->VK->Prop)(to:TE):TE:=λσ H Q=>to σ H λx H1=>tyV K T x H1/\r x [] H1 Q
def tBM(K:VD)(T:String)(r:V->List V->Hp->VK->Prop)(to:TE)(t:TA):TE:=λσ H Q=>to σ H λx H1=>tyV K T x H1/\t σ H1 λxs H2=>r x xs H2 Q
variable{o:WB}{es:List WB}{to:TE}{t:TA}{apos zf:YF}{T id:String}{r:V->List V->Hp->VK->Prop}
theorem lg(pa:PlainAttrs T)(slot:Slot T name id)(LB:typeOf (.builtin id)=pure (.type "method_descriptor"))(hm:MtR X id r)(ho:PE X o to)
 (Av:Zg o name X.env (XD o X.env)=XD o X.env:=by rfl) (Aw:(apos.endLine == zf.line)=true:=by rfl):PE X (.Call (.Attribute o name apos) [] [] zf) (yu X.K T r to):=by
 intro Y s σ H Q I h;refine wpAny_Call_method0_late Av Aw (thn (ho Y s σ H _ I h) λv s1⟨x,H1,I1,r1,ty,q1⟩=>?_);obtain⟨h1,h2⟩:=tF I1 r1 ty;exact⟨T,id,pa,slot,LB,h1,h2,Zx rfl (PySem.evalArgs_none (hm Y s1 σ H1 x [] v [] Q I1 r1 .nil q1))⟩
theorem cB(pa:PlainAttrs T)(slot:Slot T name id)(LB:typeOf (.builtin id)=pure (.type "method_descriptor"))(hm:MtR X id r)(ho:PE X o to)(ha:PA X (e::es) t)
 (Av:Zg o name X.env (XD o X.env)=XD o X.env:=by rfl)
 (LC:((Yy zf (Wu (e::es) X.env)).all (λx=>!x.1) && (backToKw zf (keywordEach [] X.env)).all (λx=>x.1.isSome)
  && decide ((e::es).length+([]:List Keyword).length+(if([]:List Keyword).isEmpty then 0 else 1)<30))=true:=by rfl)
 (Aw:(apos.endLine == zf.line)=true:=by rfl) (hs:Wu (e::es) X.env=(C?,XD e X.env)::Wu es X.env:=by rfl) (Fj:(Yy zf (Wu es X.env)).any (·.1)=false:=by rfl) :
 PE X (.Call (.Attribute o name apos) (e::es) [] zf) (tBM X.K T r to t):=by
 intro Y s σ H Q I h;refine wpAny_Call_method_late Av LC Aw rfl (thn (ho Y s σ H _ I h) λv s1⟨x,H1,I1,r1,ty,q1⟩=>?_);obtain⟨h1,h2⟩:=tF I1 r1 ty;refine⟨T,id,pa,slot,LB,h1,h2,?_⟩;have hA:=ha zf Y s1 σ H1 _ I1 q1;rw[hs]at hA |-;refine Zx (by show(C? ||(Yy zf (Wu es X.env)).any (·.1))=C?;rw[Fj] <;> rfl) (Calls.evalArgs_plain ?_);exact thn hA λus s2⟨vs,H2,I2,r2,q2⟩=>hm Y s2 σ H2 x vs v us Q I2 r1 r2 q2
end
def MtM(X:Cx)(id:String)(r:V->List V->Hp->VK->Prop):Prop :=
 ∀(Y:List (Vy×Xw))(s:VF)(σ:St)(H:Hp)(x:V)(xs:List V)(v:Vz)(us:List Vz)(Q:VK),Inv X Y σ H s->RelV x v->Vals xs us->r x xs H Q ->
   VW (Wb X.prog X.w) X.A (call (.builtin id) (v::us)) (EP X Y σ Q) X.xe s
theorem Vals.one:∀{x:V}{us:List Vz},Vals [x] us->∃u,us=[u]/\RelV x u
 |_,_,.cons r .nil=>⟨_,rfl,r⟩
theorem Vals.zero:∀{us:List Vz},Vals [] us->us=[]
 |_,.nil=>rfl
theorem Vals.dropLast(h:Vals xs us):Vals xs.dropLast us.dropLast:=by
 induction h with
 |nil=>exact .nil
 | cons r t ih =>
   cases t with
   |nil=>exact .nil
   |cons q t'=>exact .cons r ih
theorem Vals.rep(h:Vals xs us):∀k:Nat,Vals (Wv k xs).flatten (Wv k us).flatten
 |0=>.nil
 | k+1=>by
   rw[Xs,Xs,YO,YO];exact Vals.append h (Vals.rep h k)
theorem oY(l:List α):l.eraseIdx (l.length - 1)=l.dropLast:=by
 induction l with
 |nil=>rfl
 | cons a r ih =>
   cases r with
   |nil=>rfl
   | cons b r =>
     have e:(a::b::r).length - 1=((b::r).length - 1)+1:=by
      have h1:(a::b::r).length=r.length+2:=rfl;have h2:(b::r).length=r.length+1:=rfl;lia
     rw[e,List.eraseIdx_cons_succ,ih]
     all_goals rfl
theorem foldl_rep(its:List Vz):∀(k:Nat)(acc:List Vz),
 List.foldl (λx1 x2=>x1++x2) acc.toArray (Wv k its.toArray)=(acc++(Wv k its).flatten).toArray
 |0,acc=>by simp
 | k+1,acc=>by
   have e:acc.toArray++its.toArray=(acc++its).toArray:=by simp
   have e2:(acc++its)++(Wv k its).flatten=acc++(Wv (k+1) its).flatten:=by
    rw[Xs,YO,Yj]
   rw[<-e2,<-foldl_rep its k (acc++its),<-e,Xs,List.foldl_cons]
section
variable{X:Cx}{ys zs:List V}
theorem Inv.lset{its':List Vz}{f:Array Vz->Array Vz}(I:Inv X Y σ H s)(hH:H l=A? (.lst xs))
 (e:s.1.get? l=A? {cls:=.type "list",data:=.seq its.toArray n}) (hf:f its.toArray=its'.toArray) (hv:Vals ys its') (hz:ys.length<=V4) :
 Inv X Y σ (upd H l (.lst ys)) {s with heap:=s.1.update l (WV f),toks:=t'}:=by
 have q:=PySem.IsL.update e f;rw[hf]at q;refine I.write (x:=l) (e:=l) (by rw[hH];exact trivial) (.inl rfl) (λb' u hb hu=>(W8 s.1 (WV f) (XC hb)).trans hu) ⟨_,q⟩ ?_;exact⟨hz,its',_,hv,q⟩
theorem Inv.lnew(I:Inv X Y σ H s)(hv:Vals ys its)(hz:ys.length<=V4) :
 Inv X Y σ (upd H s.1.1.size (.lst ys)) {s with heap:=s.1.push {cls:=.type "list",data:=.seq its.toArray},toks:=t'} :=
 I.laid (λ_ _ q=>VB _ q) (VG _) ⟨hz,its,0,hv,VI _ rfl⟩
theorem Inv.fresh(I:Inv X Y σ H s):H s.1.1.size=none:=I.hok.fresh (VG _)
theorem Inv.lstM(I:Inv X Y σ H s)(hH:H l=A? (.lst xs)):xs.length<=V4/\∃(its:List Vz)(n:Nat),Vals xs its/\xs.length=its.length/\s.1.get? l=A? {cls:=.type "list",data:=.seq its.toArray n}:=by
 obtain⟨z,its,n,r,e⟩:=I.hok l _ hH;exact⟨z,its,n,r,r.length,e⟩
theorem lf(h:n<=V4):XU n=false:=by
 unfold XU;exact c! (by lia)
end
section
variable{X:Cx}
inductive ow(x:V)(vs:List V)(H:Hp)(Q:VK):Prop
 |mk (l:_) (xs:_) (y:_) (AS:x=.ref l) (AU:vs=[y]) (Cj:H l=A? (.lst xs)) (D8:xs.length<V4) (GB:Q .non (upd H l (.lst (xs++[y])))):ow  x vs H Q
def rh:V->List V->Hp->VK->Prop:=ow
theorem bq:MtM X "list.append" rh:=by
 intro Y s σ H x vs v us Q I rx rv h;obtain⟨l,xs,y,rfl,rfl,hH,hz,q⟩:=h;cases rx;obtain⟨u,rfl,ru⟩:=rv.one;obtain⟨z,its,n,r,hl,e⟩:=I.lstM hH;refine call_meets F.slot_list_append ⟨_,e,rfl⟩ F.entry_list_append (F.args_list_append_2 _ _) (PySem.list_append l its.toArray n u (by rw[VM];lia)) ⟨e,?_⟩;refine⟨.non,_,I.lset (its':=its++[u]) hH e (by simp) (r.append (.cons ru .nil)) ?_,D?,q⟩;rw[VJ,Wa];lia
inductive nR(x:V)(vs:List V)(H:Hp)(Q:VK):Prop
 |mk (l:_) (b:_) (xs:_) (zs:_) (AS:x=.ref l) (AU:vs=[.ref b]) (Cj:H l=A? (.lst xs)) (D8:H b=A? (.lst zs)) (GB:xs.length+zs.length<=V4) (QN:Q .non (upd H l (.lst (xs++zs)))):nR  x vs H Q
def uZ:V->List V->Hp->VK->Prop:=nR
theorem rM:MtM X "list.extend" uZ:=by
 intro Y s σ H x vs v us Q I rx rv h;obtain⟨l,b,xs,zs,rfl,rfl,hH,hB,hz,q⟩:=h;cases rx;obtain⟨u,rfl,ru⟩:=rv.one;cases ru;obtain⟨z,its,n,r,hl,e⟩:=I.lstM hH;obtain⟨z2,zc,n2,r2,Ae,e2⟩:=I.lstM hB;have hsz:its.toArray.size+zc.toArray.size<=V4:=by rw[VM,VM];lia
 have Bw:¬(!its.toArray.isEmpty && XU (its.toArray.size+zc.toArray.size))=true:=by
  rw[lf hsz,Bool.and_false];exact VY
 refine call_meets F.slot_list_extend ⟨_,e,rfl⟩ F.entry_list_extend (F.args_list_extend_2 _ _)
  (AutoSeq1.list_extend_list_list_0 l its.toArray n b zc.toArray n2 Bw (by rw[VM];lia) (by lia)) ⟨e,e2,?_⟩
 refine⟨.non,_,I.lset (its':=its++zc) hH e (by simp) (r.append r2) ?_,D?,q⟩;rw[VJ];lia
inductive vP(x:V)(vs:List V)(H:Hp)(Q:VK):Prop
 |mk (l:_) (xs:_) (y:_) (AS:x=.ref l) (AU:vs=[]) (Cj:H l=A? (.lst xs)) (D8:xs[xs.length - 1]?=A? y) (GB:Q y (upd H l (.lst xs.dropLast))):vP  x vs H Q
def xW:V->List V->Hp->VK->Prop:=vP
theorem ko:MtM X "list.pop" xW:=by
 intro Y s σ H x vs v us Q I rx rv h;obtain⟨l,xs,y,rfl,rfl,hH,hy,q⟩:=h;cases rx;have GC:=rv.zero;subst GC;obtain⟨z,its,n,r,hl,e⟩:=I.lstM hH;obtain⟨u,hu,ru⟩:=r.get hy
 have B0:its.toArray[its.toArray.size - 1]?=A? u:=by
  show its.toArray[its.length - 1]?=A? u;rw[<-YM,<-hl];exact hu
 refine call_meets F.slot_list_pop ⟨_,e,rfl⟩ F.entry_list_pop (F.args_list_pop_1 _) (MeetsSeq.list_pop_last l its.toArray n u B0 (by rw[VM];lia)) ⟨e,?_⟩;refine⟨y,_,I.lset (its':=its.dropLast) hH e ?_ r.dropLast ?_,ru,q⟩
 .show its.toArray.eraseIdxIfInBounds (its.toArray.size - 1)=its.dropLast.toArray;rw[VM,List.eraseIdxIfInBounds_toArray,oY]
 .rw[List.length_dropLast];lia
def yS:R2:=λx y H Q=>∃l k xs,x=.ref l/\y=.int k/\H l=A? (.lst xs)/\-(2 ^ 63)<=k/\k<2 ^ 63/\xs.length * k.toNat<=V4 /\
 ∀p,H p=AQ->Q (.ref p) (upd H p (.lst (Wv k.toNat xs).flatten))
theorem len_rep(xs:List α)(k:Nat):(Wv k xs).flatten.length=k * xs.length:=by
 induction k with
 |zero=>simp
 |succ k ih=>rw[Xs,YO,VJ,ih,ZH,Nat.add_comm]
theorem sL:OpR X (Yr .Mult) yS:=by
 intro Y s σ H x y v u Q I rx ry h;obtain⟨l,k,xs,rfl,rfl,hH,h1,h2,hz,q⟩:=h;cases rx;obtain⟨t,rfl⟩:=ry;obtain⟨z,its,n,r,hl,e⟩:=I.lstM hH;have hlen:its.toArray.size * k.toNat<=V4:=by rw[VM,<-hl];exact hz
 have LD:¬its.toArray.size * k.toNat > (2 ^ 63 - 1) / 8:=by
  have:(V4:Nat)<=(2 ^ 63 - 1) / 8:=by decide
  lia
 have zK:¬(!Builtin.List.listFitsIndex k)=true:=by
  rw[fitsIndex_both h1 h2];exact VY
 have Bw:¬XU (its.toArray.size * k.toNat)=true:=by
  rw[lf hlen];exact VY
 have Fl:List.foldl (λx1 x2=>x1++x2) #[] (Wv (if its.toArray.isEmpty=B? then 0 else k.toNat) its.toArray)=(Wv k.toNat its).flatten.toArray:=by
  have f0:∀m:Nat,List.foldl (λx1 x2=>x1++x2) #[] (Wv m its.toArray)=(Wv m its).flatten.toArray:=λm=>by
   have:=foldl_rep its m [];rw[List.nil_append]at this;exact this
  rw[f0];cases its with
  |nil=>simp
  |cons a r'=>rw[a! (by simp)]
 refine wpAny_binaryOp_repeat_ref (T:="list") (U:="int") (by decide) ⟨_,e,rfl⟩ (λs'=>typeIs_int s' k t) noFill_list_mul F.fills_int_mul F.slot_int_rmul repeat_list F.slot_int_index.lookup
  (call_meets F.slot_int_rmul (typeIs_int s k t) F.entry_int_rmul (F.args_int_rmul_2 _ _) (int___rmul___int_list k t l its.toArray n)
   ⟨e,rfl,⟨_,e,rfl⟩,call_meets F.slot_list_mul ⟨_,e,rfl⟩ F.entry_list_mul (F.args_list_mul_2 _ _) (AutoListH.list___mul___list_int_3 l its.toArray n k t zK LD Bw) ⟨e,?_⟩⟩)
 rw[Fl];exact⟨.ref _,_,I.lnew (t':=s.toks) (r.rep k.toNat) (by rw[len_rep,Nat.mul_comm];exact hz),D?,q _ I.fresh⟩
end
section
variable{X:Cx}
end
end L2
namespace Att
open PySem PySem.W PySem.Calls PyProof.Rows
theorem ints_of_wellAll{P:Params}:∀(ns:List Int)(vs:List Vz),WellAll P h vs (ns.map WData.int)->IntsAre vs ns:=by
 intro ns;induction ns with
 | nil =>
   intro vs w;rw[XI]at w;cases w;exact .nil
 | cons n ns ih =>
   intro vs w;rw[V6]at w;cases w with
   | cons a b =>
     cases a;exact .cons _ _ (ih _ b)
theorem script_of{l:OpenLaw}(hn:l.most=A? n){P:Params}{args:List WData}{vals:List Vz}
 (Af:l.row.toRowW.claim.pre args=B?) (B1:WellAll P h vals args) :
 ∃a vs ns,vals=[Wf a]/\args=[WData.list (ns.map WData.int)]/\h.get? a=A? {cls:=.type "list",data:=.seq vs.toArray}/\IntsAre vs ns/\ns.length<=n:=by
 have Eb:WShape.hasAll [] args [.list .int]=true:=(pre_splitW Af).1;have hc:l.pre.holds [] {args:=args}=true:=(pre_splitW Af).2;obtain⟨d,r,rfl,h1,h2⟩:=hasAllW_cons Eb;obtain rfl:=hasAllW_nil h2;obtain⟨xs,rfl,h3⟩:=hasW_list h1;obtain⟨ns,rfl⟩:=items_int h3
 have hlen:ns.length<=n:=by
  unfold OpenLaw.pre at hc
  have h4:(WTm.not (.lt (.lit (.int (n:Int))) (.len (.arg 0)))).holds [] {args:=[.list (ns.map .int)]}=true:=by
   have h4:=(holds_andW hc).1;rw[hn]at h4;exact h4
  have h5:=condW_of h4 (w_not (w_lt w_lit (w_len_list (w_arg rfl))));rw[Vu]at h5;refine Nat.le_of_not_lt λq=>?_;have q':(n:Int)<((ns.length:Nat):Int):=by lia
  first
   |(rw[d! q']at h5;exact g! h5 (by decide))
   |(simp at h5;lia)
 cases B1 with
 | cons w1 w2 =>
   cases w2;cases w1 with
   |list ho y8=>exact⟨_,_,ns,D?,D?,ho,ints_of_wellAll ns _ y8,hlen⟩
theorem post_true(l:OpenLaw)(args:List WData):l.row.toRowW.claim.post args (.bool B?) args=B? :=
 postW_of (r:=l.row.toRowW) (X:=(B? == B?))
  (show WShape.has [] (.bool B?) .bool=B? by first|rfl|decide|simp[WShape.has,WShape.arms,WShape.armsAll])
  (show(WTm.eq .res (.lit (.bool B?))).value [] {args:=args,res:=A? (.bool B?),after:=args}=A? (.bool (B? == B?))from w_eq_bool (w_res rfl) w_lit) rfl
theorem attach_call{l:OpenLaw}{q:V8}{d:DefRec}
 (hn:l.most=A? n) (Ec:d.params.defaults=[])
 (call:∀(w:Wm)(s₀ l':VF)(mg mb:V5->Option Vz)(fa:Vy)(o:Xw)(pm cd doc:Vz)(a:Vy)(vs:List Vz)(ns:List Int),
  Ground q loose [] XP w s₀ mg mb l'.heap->YP w l'.heap ->
  l'.heap.get? fa=A? o->o.data=.func (docDef d.name d.params d.body d.scope pm cd doc)->l'.heap.CodeRec cd d.name->mg d.name=A? (.ref fa) ->
  l'.heap.get? a=A? {cls:=.type "list",data:=.seq vs.toArray}->IntsAre vs ns->ns.length<=n->l'.gens=#[] ->
  Y0 (Wb l.prog w) callerA (.call (.ref fa) ⟨[.ref a],[]⟩) (λr s'=>r=.ok (.ret (.bool B?))/\OldK l'.heap s'.1/\s'.os=l'.os/\AllBare s'.gens) l') :
 WalkO q loose XP YP l.row.toRowW d [] (λf vs=>PySem.call f vs):=by
 intro w s₀ l' mg mb G Y fa o pm cd doc dV kV ho hd Bm hD HF hg args vals as Af QO GD B1 QP;obtain rfl:dV=.none:=Dflts.none hD Ec;obtain rfl:kV=.none:=Dflts.noKw hD;obtain⟨a,vs,ns,rfl,rfl,Fm,hints,hlen⟩:=script_of hn Af B1;refine enter_call (Z6 (call w s₀ l' mg mb fa o pm cd doc a vs ns G Y ho (fd_plain hd) Bm HF Fm hints hlen hg) λr s' hq=>?_);obtain⟨rfl,h2,h3,h4⟩:=hq;exact⟨.inl ⟨.bool B?,.bool B?,[],D?,λ_=>rfl,.bool B?,post_true l _,λ_=>⟨List.Pairwise.nil,λ_ hm=>(nomatch hm)⟩⟩,h2,h3,h4⟩
section
variable{K:Frag}
end
end Att
namespace L2
open PySem PySem.Spec PyProof.Rows
theorem mj:∀{vs:List Vz}{ns:List Int},IntsAre vs ns->Vals (ns.map o!) vs
 |_,_,.nil=>.nil
 |_,_,.cons n t h=>.cons ⟨t,rfl⟩ (mj h)
def inClass(s:Zv)(j:Nat):Zv:=match s with
 |.ClassDef _ _ _ body _ _ _ _ _ _ _=>body.getD j (.Pass ⟨0,0,0,0⟩)
 |_=>.Pass ⟨0,0,0,0⟩
def cA(s:Zv):Arguments:=match s with
 |.FunctionDef _ a _ _ _ _ _ _ _ _=>a
 |_=>{posonlyargs:=[],args:=[],vararg:=AQ,kwonlyargs:=[],kw_defaults:=[],kwarg:=AQ,defaults:=[]}
def bR(s:Zv):List Zv:=match s with
 |.FunctionDef _ _ b _ _ _ _ _ _ _=>b
 |_=>[]
def aD(s:Zv):Yz:=match s with
 |.FunctionDef _ _ _ _ _ _ sc _ _ _=>sc
 |_=>{kind:=.function,names:=[],isGenerator:=C?,isCoroutine:=C?}
abbrev CX0:CXT:=λ_ _ _ _ _ _=>False
abbrev E0:XK:=λ_ _ _=>False
theorem cV{X:Cx}:Passes CX0 X E0:=λ_ _ _ _ _ _ _ h=>h.elim
structure Fun(K:VD)(x qual:V5)(st:Zv)(f:Vy)(fd:Yk):Prop where
 ex:∃(oc:Vz)(od:Option Vy)(kV doc pm:Vz)(an:Option Vy)(zb ct:Vz)(DN:Array (Option Vz)),
  fd=ZG x qual (cA st) (bR st) (aD st) .none kV doc pm an zb ct/\K.lookup f=A? ⟨oc,od,.func fd,DN⟩/\PySem.W.codeIn K zb qual=B?
 kp:Ys K (.ref f)=B?
theorem Fun.ok{k:Nat}(F:Fun K x qual st f fd)(S:bS N ps (aD st))(len:∀vs H Q E,sp vs H Q E->vs.length=ps.length)
 (zG:∀(zb:Vz)(A:Wr)(outer:List Env)(s:VF)(H:Hp)(vs:List V)(Q:VK)(E:XK),Room k (A.deeper (Yw qual (aD st) s.1.1.size f zb))->sp vs H Q E ->
  ∃t,PSs (jX CX0 P w K mg base N qual (aD st) f zb A outer s H E).nox (bR st) t/\t {nx:=λ_ H'=>Q .non H',rt:=Q} (start N vs) H):bj P w K mg base CX0 (k+1) f fd ps sp:=by
 obtain⟨oc,od,kV,doc,pm,an,zb,ct,DN,rfl,lk,Bm⟩:=F.ex;refine tR lk Bm S len λA outer s H vs Q E hr AK=>?_;obtain⟨t,h,q⟩:=zG zb A outer s H vs Q E hr AK;exact⟨t,h.nox,q⟩
theorem Fun.okA{k:Nat}(F:Fun K x qual st f fd)(S:bS N ps (aD st))
 (zG:∀(zb:Vz)(A:Wr)(outer:List Env)(s:VF)(H:Hp)(vs:List V)(Q:VK)(E:XK),Room k (A.deeper (Yw qual (aD st) s.1.1.size f zb))->sp vs H Q E ->
  ∃t,PSs (jX CX0 P w K mg base N qual (aD st) f zb A outer s H E).nox (bR st) t/\t {nx:=λ_ H'=>Q .non H',rt:=Q} (start N vs) H) (len:∀vs H Q E,sp vs H Q E->vs.length=ps.length:=by intro _ _ _ _ h;cases h;subst_vars;rfl):bj P w K mg base CX0 (k+1) f fd ps sp:=F.ok S len zG
theorem pgN{X:Cx}(i:Nat)(hN:X.N.Nodup)(hi:X.N[i]?=A? x:=by rfl)(hx:Loc X.env.scope x:=by first|exact .inl rfl|exact .inr rfl)(hf:X.fn x=B?\/X.env.scope.names.lookup x=A? .local:=by first|exact .inl rfl|exact .inr rfl|assumption):PG X (.Name x pos) (av i):=vE hN hi hx hf
theorem am{X:Cx}(i:Nat){te:TE}(hN:X.N.Nodup)(he:PE X e te)(hi:X.N[i]?=A? x:=by rfl)(hx:Loc X.env.scope x:=by first|exact .inl rfl|exact .inr rfl)(hs:swapsWith e (A? (.Name x pos')) pos.line X.env=pure false:=by rfl)(hf:X.fn x=B?\/X.env.scope.names.lookup x=A? .local:=by first|exact .inl rfl|exact .inr rfl|assumption):PS X (.Assign [.Name x pos'] e pos) (qc te (av i)):=xp hN hi hx he hs hf
theorem Fun.binds(F:Fun K x qual st f fd)
 (h:∀(kV doc pm:Vz)(an:Option Vy)(zb ct:Vz)(us:List Vz),us.length=ps.length->ZP (ZG x qual (cA st) (bR st) (aD st) .none kV doc pm an zb ct) ⟨us,[]⟩=pure (ps.zip us)):Binds K fd ps []:=by
 obtain⟨oc,od,kV,doc,pm,an,zb,ct,DN,rfl,lk,Bm⟩:=F.ex;exact .all (h kV doc pm an zb ct)
theorem ny{oc:Vz}{od an:Option Vy}{DN:Array (Option Vz)}{kV doc pm zb ct:Vz}(l:K.lookup f=A? ⟨oc,od,.func (ZG x qual (cA st) (bR st) (aD st) .none kV doc pm an zb ct),DN⟩)
 (c:PySem.W.codeIn K zb qual=B?) (k:Ys K (.ref f)=B?):Fun K x qual st f (ZG x qual (cA st) (bR st) (aD st) .none kV doc pm an zb ct):=⟨⟨oc,od,kV,doc,pm,an,zb,ct,DN,rfl,l,c⟩,k⟩
theorem dA{k:Nat}(hr:Room k A):A.units+1<Yd:=Nat.lt_of_le_of_lt (Nat.add_le_add_left (by decide:1<=64) _) hr.units
section
variable{X:Cx}
theorem pv(i:Nat)(hN:X.N[i]?=A? x:=by rfl)(hv:Vis X.env.scope x:=by first|exact Z9 rfl|exact Or.inr (Z9 rfl)|exact Or.inr (Or.inr rfl))(hd:(x == ("__debug__":V5))=false:=by decide)
 (Bm:(x == ("__classdict__":V5))=false:=by decide):PE X (.Name x pos) (bB i):=wL hN hv hd Bm
end
theorem cz{A B:Prop}(h:B):if C?=B? then A else B:=by
 rw[a! VY];exact h
theorem dm{A B:Prop}(h:A):if B?=B? then A else B:=by
 rw[b! rfl];exact h
theorem eS{c A B:Prop}[Decidable c](h1:c->A)(h2:¬c->B):if c then A else B:=by
 by_cases h:c
 .rw[b! h];exact h1 h
 .rw[a! h];exact h2 h
def Same(H H':Hp):Prop:=∀b o,H b=A? o->H' b=A? o
theorem Same.refl(H:Hp):Same H H:=λ_ _ h=>h
theorem Same.trans(a:Same H H1)(b:Same H1 H2):Same H H2:=λc o h=>b c o (a c o h)
theorem Same.free(e:Same H H')(h:H' l=Option.none):H l=Option.none:=by
 cases q:H l with
 |none=>rfl
 | some o =>
   rw[e l o q]at h;cases h
theorem Same.seq(e:Same H H')(h:SqL K H a xs):SqL K H' a xs:=by
 rcases h with(h|⟨o,h⟩)|h
 .exact .inl (.inl (e _ _ h))
 .exact .inl (.inr ⟨o,e _ _ h⟩)
 .exact .inr h
theorem ip(env:Env):∀(ns:List (V5×X5))(acc:List (V5×Vy)),(∀n,(n,W4)∈ns->∃c,env.cells.lookup n=A? c) ->
 (∀x c,acc.lookup x=A? c->env.cells.lookup x=A? c) ->
 ∃cl,(forIn ns acc λ(x:V5×X5)(cs:List (V5×Vy))=>(if(x.2 == W4)=B? then(do let a <-cellOf env x.1;pure (Yc ((x.1,a)::cs)))else pure (Yc cs):Sem _))=pure cl /\
   (∀x c,cl.lookup x=A? c->env.cells.lookup x=A? c)/\(∀n,(n,W4)∈ns->∃c,cl.lookup n=A? c)/\∀n c,acc.lookup n=A? c->cl.lookup n=A? c
 | [],acc,_,ha=>⟨acc,rfl,ha,λ_ h=>by simp at h,λ_ _ h=>h⟩
 | (n,k)::r,acc,hf,ha=>by
   by_cases hk:k=W4
   .subst hk;obtain⟨c,hc⟩:=hf n VO
    have QQ:∀x c',((n,c)::acc).lookup x=A? c'->env.cells.lookup x=A? c':=λx c' e=>by
     rw[Xl]at e;cases hx:x == n with
     | true =>
       rw[hx]at e;have e1:x=n:=by simpa using hx
       cases e;rw[e1];exact hc
     |false=>rw[hx]at e;exact ha x c' e
    obtain⟨cl,h1,h2,h3,h4⟩:=ip env r ((n,c)::acc) (λm hm=>hf m (VR _ hm)) QQ;have up:∀m c',((n,c)::acc).lookup m=A? c'->cl.lookup m=A? c':=h4;refine⟨cl,?_,h2,?_,?_⟩
    .rw[Y8];have e0:cellOf env n=pure c:=by unfold cellOf;rw[hc]
     simp only[beq_self_eq_true,if_true,e0,pure_bind];exact h1
    .intro m hm;rcases VS.mp hm with e|e
     .have:m=n:=by simpa using(Prod.mk.inj e).1
      subst this;exact⟨c,up m c (by rw[Xl];simp)⟩
     .exact h3 m e
    .intro m c' e;by_cases hm:m=n
     .subst hm;have:=ha m c' e;rw[hc]at this;cases this;exact up m c (by rw[Xl];simp)
     .have QR:(m == n)=false:=by simpa using hm
      exact up m c' (by rw[Xl,QR];exact e)
   .have hb:(k == W4)=false:=by simpa using hk
    obtain⟨cl,h1,h2,h3,h4⟩:=ip env r acc (λm hm=>hf m (VR _ hm)) ha;refine⟨cl,?_,h2,?_,h4⟩
    .rw[Y8];simp only[hb,X7,if_false,pure_bind];exact h1
    .intro m hm;rcases VS.mp hm with e|e
     .exact g! (Prod.mk.inj e).2.symm hk
     .exact h3 m e
theorem kP(hf:∀n,(n,W4)∈sc.names->∃c,env.cells.lookup n=A? c) :
 ∃cl,closureFor sc env=pure cl/\(∀x c,cl.lookup x=A? c->env.cells.lookup x=A? c)/\∀n,(n,W4)∈sc.names->∃c,cl.lookup n=A? c:=by
 obtain⟨cl,h1,h2,h3,_⟩:=ip env sc.names [] hf (λx c e=>by simp at e);refine⟨cl,?_,h2,h3⟩;unfold closureFor;have e:(forIn sc.names ([]:List (V5×Vy)) λ(x:V5×X5)(cs:List (V5×Vy))=>(do if(x.2 == W4)=B? then(do let a <-cellOf env x.1;pure (Yc ((x.1,a)::cs)))else pure (Yc cs):Sem _))=pure cl:=h1
 first
  |(rw[show(forIn sc.names ([]:List (V5×Vy)) _:Sem _)=pure cl from h1];rfl)
  |(simp only[h1,pure_bind])
theorem kq{f:V5×X5->V5×X5}(hf:∀p,(f p).1=p.1):∀{l:List (V5×X5)}{x:V5}{k:X5},l.lookup x=A? k->(l.map f).lookup x=A? (f (x,k)).2
 | [],_,_,h=>by simp at h
 | (n,k0)::r,x,k,h=>by
   have ih:=@kq f hf r x k;rw[V6];obtain⟨a,b,e⟩:∃a b,f (n,k0)=(a,b):=⟨_,_,rfl⟩;have ea:a=n:=by have:=hf (n,k0);rw[e]at this;exact this
   subst ea;rw[e,Xl];cases hx:x == a with
   | true =>
     rw[Xl,hx]at h;cases h;have:x=a:=by simpa using hx
     subst this;rw[e]
   |false=>rw[Xl,hx]at h;exact ih h
theorem eW{f:V5×X5->V5×X5}(hf:∀p,(f p).1=p.1):∀{l:List (V5×X5)}{x:V5}{k:X5},(l.map f).lookup x=A? k->∃k0,(x,k0)∈l/\(f (x,k0)).2=k
 | [],_,_,h=>by simp at h
 | (n,k0)::r,x,k,h=>by
   have ih:=@eW f hf r x k;rw[V6]at h;obtain⟨a,b,e⟩:∃a b,f (n,k0)=(a,b):=⟨_,_,rfl⟩;have ea:a=n:=by have:=hf (n,k0);rw[e]at this;exact this
   subst ea;rw[e,Xl]at h;cases hx:x == a with
   | true =>
     rw[hx]at h;cases h;have:x=a:=by simpa using hx
     subst this;exact⟨k0,VO,by rw[e]⟩
   | false =>
     rw[hx]at h;obtain⟨k1,h1,h2⟩:=ih h;exact⟨k1,VR _ h1,h2⟩
def rlb(env:Env)(p:V5×X5):V5×X5:=if(p.2 == W4 && env.scope.kind == .function && env.kindOf p.1 == A? .cell)then(p.1,ZN)else(p.1,p.2)
theorem nJ(env:Env)(p:V5×X5):(rlb env p).1=p.1:=by unfold rlb;split <;> rfl
theorem gX(sc:Yz)(env:Env):(relabel sc env).names=sc.names.map (rlb env):=rfl
theorem iP(h:sc.names.lookup x=A? .free):(relabel sc env).names.lookup x=A? .cell\/(relabel sc env).names.lookup x=A? .free:=by
 rw[gX,kq (nJ env) h];unfold rlb;split
 .exact .inl rfl
 .exact .inr rfl
theorem kf(hn:∀y∈sc.names,y.2≠ZN)(h:(relabel sc env).names.lookup x=A? .cell\/(relabel sc env).names.lookup x=A? .free):(x,W4)∈sc.names:=by
 rw[gX]at h
 have:∃k0,(x,k0)∈sc.names/\((rlb env (x,k0)).2=.cell\/(rlb env (x,k0)).2=.free):=by
  rcases h with h|h
  .obtain⟨k0,a,b⟩:=eW (nJ env) h;exact⟨k0,a,.inl b⟩
  .obtain⟨k0,a,b⟩:=eW (nJ env) h;exact⟨k0,a,.inr b⟩
 obtain⟨k0,hm,hk⟩:=this;have nc:=hn _ hm;cases k0 with
 |free=>exact hm
 |cell=>exact g! rfl nc
 |_=>simp[rlb]at hk
def cj(X:Cx)(N:List V5)(sc:Yz)(cl:List (V5×Vy))(C:Vy)(s:VF)(H:Hp)(fp:List Vy)(Y:List (Vy×Xw)):Cx :=
 {X with N:=N,s₀:=s,H₀:=H,env:=compEnvC sc cl C X.env,outer:=X.stack,ex:=fp,fn:=λ_=>C?,pn:=X.pn++Y,xe:=λ_ _=>False}
def cσ(js:List (Option Nat))(σ:St):St:=js.map λo=>o.bind λj=>(σ[j]?).join
structure fg(X:Cx)(sc:Yz)(N:List V5)(js:List (Option Nat)):Prop where
 kind:sc.kind=.function
 nocell:∀y∈sc.names,y.2≠ZN
 names:∀y∈sc.names,y.2=NameKind.local->sc.names.lookup y.1=A? .local
 frees:∀y∈sc.names,y.2=W4->X.env.kindOf y.1=A? .cell\/X.env.kindOf y.1=A? .free
 len:js.length=N.length
 slots:∀(i j:Nat)(x:V5),js[i]?=A? (A? j)->N[i]?=A? x->X.N[j]?=A? x/\sc.names.lookup x=A? .free/\(X.env.kindOf x=A? .cell\/X.env.kindOf x=A? .free)
theorem bK{X:Cx}(k:sc.kind=.function)(nc:∀y∈sc.names,y.2≠ZN)(nm:∀y∈sc.names,y.2=NameKind.local->sc.names.lookup y.1=A? .local)
 (fr:(sc.names.all λy=>y.2 != W4 ||X.env.kindOf y.1 == A? ZN ||X.env.kindOf y.1 == A? W4)=B?) (ln:js.length=N.length)
 (sl:((js.zip N).all λp=>match p.1 with|none=>B?|some j=>X.N[j]? == A? p.2 && sc.names.lookup p.2 == A? W4 && (X.env.kindOf p.2 == A? ZN ||X.env.kindOf p.2 == A? W4))=B?):fg X sc N js:=by
 refine⟨k,nc,nm,λy hy hf=>?_,ln,λi j x e1 e2=>?_⟩
 .have h:=X2.mp fr y hy;rw[hf]at h;simpa using h
 .have hm:(A? j,x)∈js.zip N:=by
   have:(js.zip N)[i]?=A? (A? j,x):=by rw[Xp];exact⟨e1,e2⟩
   exact Vx this
  have h:=X2.mp sl _ hm;simp at h;exact⟨h.1.1,h.1.2,h.2⟩
def PTs(X:Cx)(ifs:List WB)(t:TT):Prop :=
 ∀(Y:List (Vy×Xw))(s:VF)(σ:St)(H:Hp)(Q:Bool->Hp->Prop),Inv X Y σ H s->t σ H Q ->
   VW (Wb X.prog X.w) X.A (forIn ifs B? λc r=>if r=B? then do let ok <-isTrue c X.env (XD c X.env);pure (Yc ok)else pure (Yc r)) (TP X Y σ Q) X.xe s
def aR:TT:=λ_ H Q=>Q B? H
theorem aU{X:Cx}:PTs X [] aR:=λ_ _ _ H _ I h=>wpAny_tests_nil ⟨H,I,h⟩
theorem iI{X:Cx}{c:WB}{t:TT}(h:PT X c t):PTs X [c] t:=λY s σ H Q I q=>wpAny_tests_one (h Y s σ H Q I q)
def Keep(σ i':St):Prop:=σ.length=i'.length/\∀(i:Nat)(v:V),σ[i]?=A? (A? v)->i'[i]?=A? (A? v)
def mO(js:List (Option Nat))(g:TG):Prop:=∀(σ zA:St)(x:V)(H:Hp)(Q:St->Hp->Prop),Keep (cσ js σ) zA->g x zA H Q->g x zA H λzg H2=>Keep (cσ js σ) zg/\Q zg H2
def nF(js:List (Option Nat))(g:TGs):Prop:=∀(σ zA:St)(x:List V)(H:Hp)(Q:St->Hp->Prop),Keep (cσ js σ) zA->g x zA H Q->g x zA H λzg H2=>Keep (cσ js σ) zg/\Q zg H2
theorem Keep.refl(σ:St):Keep σ σ:=⟨rfl,λ_ _ h=>h⟩
theorem ux(h:js[i]?=A? AQ):(cσ js σ)[i]?=A? none:=by
 unfold cσ;rw[VA,h];rfl
theorem aE(h:js[i]?=A? AQ):mO js (av i):=λσ zA x H Q k q=>by
 refine⟨⟨by rw[XR];exact k.1,λj v e=>?_⟩,q⟩;by_cases hj:i=j
 .subst hj;rw[ux h]at e;cases e
 .rw[W6 hj];exact k.2 j v e
theorem jf:nF js lH:=λσ zA x H Q k⟨e,q⟩=>⟨e,k,q⟩
theorem ck{t:TG}{u:TGs}(mono:∀x σ H(Q Q':St->Hp->Prop),(∀a b,Q a b->Q' a b)->t x σ H Q->t x σ H Q')(h1:mO js t)(h2:nF js u):nF js (cJ t u):=λσ zA x H Q k⟨v,r,e,q⟩ =>
 ⟨v,r,e,mono _ _ _ _ _ (λa b⟨k',q'⟩=>h2 σ a r b Q k' q') (h1 σ zA v H _ k q)⟩
theorem bA:∀x σ H(Q Q':St->Hp->Prop),(∀a b,Q a b->Q' a b)->av i x σ H Q->av i x σ H Q':=λ_ _ _ _ _ h q=>h _ _ q
theorem jj{t:TGs}(h:nF js t):mO js (lI K n t):=λσ zA x H Q k⟨a,xs,e,hs,hl,q⟩=>⟨a,xs,e,hs,hl,h σ zA xs H Q k q⟩
def fU(js:List (Option Nat))(g:TG)(tt:TT)(te:TE)(σ:St)(J:It)(D:Vy)(n:Nat)(W:Nat->Hp->Prop)(fin:Hp->Prop):Prop :=
 ∀i H,W i H->(J.stop i H/\fin H)\/(i<n/\J.go i H/\∀x H1,J.yld i H x H1->g x (cσ js σ) H1 λzg H2=>tt zg H2 λb H3 =>
   if b=B? then te zg H3 λv H4=>∃ys,H4 D=A? (.lst ys)/\ys.length<V4/\W (i+1) (upd H4 D (.lst (ys++[v])))else W (i+1) H3)
def qT(js:List (Option Nat))(wi:TI)(g:TG)(tt:TT)(te:TE):TE:=λσ H Q=>wi σ H λJ H1=>∀D,H1 D=AQ ->
 ∃(n:Nat)(W:Nat->Hp->Prop),W 0 (upd H1 D (.lst []))/\fU js g tt te σ J D n W λH'=>Q (.ref D) H'
section
variable{X:Cx}
theorem ul{h1:WS}(S:fg X sc N js)(I:Inv X Y σ H s)
 (zj:∀x c,cl.lookup x=A? c->X.env.cells.lookup x=A? c) (B2:∀n,(n,W4)∈sc.names->∃c,cl.lookup n=A? c)
 (hf:∀b∈fp,FpOk X Y H b) (yZ:∀b∈fp,b<s.1.1.size) (AE:h1.Ns s.1.1.size λx=>Zd x ([]:List (V5×Vz)))
 (Bn:∀b o,s.1.get? b=A? o->h1.get? b=A? o) :
 Inv (cj X N sc cl s.1.1.size s H fp Y) [] (cσ js σ) H {s with heap:=h1,toks:=t'}:=by
 have hok:(cj X N sc cl s.1.1.size s H fp Y).Ok :=
  { mod:=I.ok.mod
    kind:=S.kind
    glob:=I.ok.glob
    blt:=I.ok.blt
    above:=VG _
    inj:=λx y c a b=>I.ok.inj x y c (zj x c a) (zj y c b)
    has:=λx h=>B2 x (kf S.nocell h)
    cab:=λx c h=>by cases h
    hd:=I.ok.hd
    frames:=I.ok.frames
    stk:=.inl rfl
    exf:=λb hb=>⟨λe=>g! (yZ b hb) (by rw[e];exact W0 _),λx c e z=>(hf b hb).2.2.2.2.1 x c (zj x c e) z⟩
    bs:=I.bs
    bsz:=Wz I.ok.bsz I.sz
    noex:=λb o e hb=>by
     rcases(hf b hb).2.2.2.1 with h|h
     .exact I.ok.noex b o e h
     .exact g! (Wx (Wx (V2 e) I.ok.bsz) h) (W0 _)
    exfs:=λb hb hm=>by
     rcases VS.mp (I.stkSub b hm)with e|e
     .exact(hf b hb).2.1 e
     .exact(hf b hb).2.2.1 e
    funs:=I.stack
    frf:=I.stkFree }
 have hC:H s.1.1.size=none:=I.hok.fresh (VG _);obtain⟨m0,Km,HG⟩:=I.loc
 exact
  { ok:=hok
    os:=rfl
    bare:=I.bare
    base:=Un.kept Bn
    loc:=⟨_,AE,λi x v e1 e2 Ou=>by
     have B3:∃j,js[i]?=A? (A? j)/\σ[j]?=A? (A? v):=by
      unfold cσ at e2;rw[VA]at e2;cases q:js[i]? with
      |none=>rw[q]at e2;cases e2
      | some o =>
        rw[q]at e2;cases o with
        |none=>cases e2
        | some j =>
          refine⟨j,D?,?_⟩;have e3:(σ[j]?).join=A? v:=VN e2;cases r:σ[j]? with
          |none=>rw[r]at e3;cases e3
          |some z=>rw[r]at e3;exact h! A? e3
     obtain⟨j,q1,q2⟩:=B3;obtain⟨n1,n2,n3⟩:=S.slots i j x q1 e1;obtain⟨u,ru,look⟩:=HG j x v n1 q2 (by rcases n3 with z|z;exact .inr (.inl z);exact .inr (.inr z));refine⟨u,ru,.inr ⟨iP n2,?_⟩⟩;have hm:(x,W4)∈sc.names:=kf (env:=X.env) S.nocell (iP n2);obtain⟨c,hc⟩:=B2 x hm;refine⟨c,hc,?_⟩;rcases look with⟨k1,_⟩|⟨_,c',zV,ic⟩
     .rcases n3 with z|z <;> (rw[k1]at z;cases z)
     .have:=zj x c hc;rw[zV]at this;cases this;exact ic.keeps Bn⟩
    cell:=λx c e=>by
     obtain⟨v,q⟩:=I.cell x c (zj x c e);exact⟨v,q.keeps Bn⟩
    free:=hC
    freeC:=λx c e=>I.freeC x c (zj x c e)
    pin:=λp hp=>by
     have BQ:p∈X.pn++Y:=by simpa[cj]using hp
     obtain⟨a1,a2,a3,a4,a5⟩:=I.pin p BQ;refine⟨Bn _ _ a1,a2,λe=>?_,λhm=>?_,a5⟩
     .have e':p.1=s.1.1.size:=e;exact g! (V2 a1) (by rw[e'];exact W0 _)
     .rcases VS.mp (I.stkSub p.1 hm)with e|e
      .exact a3 e
      .exact a4 e
    hok:=I.hok.kept Bn
    len:=by
     show(cσ js σ).length=N.length;unfold cσ;rw[Vu];exact S.len }
theorem r8{R:Result->VF->Prop}{target:WB}{it acc:Vz}(J:Nat->VF->Prop)
 (turn:∀n s,J n s->VW (Wb prog w) A (YE it) (λr l'=>(r=AQ/\R (.ok .next) l')\/∃v,r=A? v /\
  VW (Wb prog w) A (letOwnedTupleGo target it v) (λ_ zR=>VW (Wb prog w) A (assign target env v) (λ_ Ba =>
   VW (Wb prog w) A (forIn ifs B? λc r=>if r=B? then do let ok <-isTrue c env (XD c env);pure (Yc ok)else pure (Yc r)) (λok C9 =>
    (ok=C?/\∃m,m<n/\J m C9)\/(ok=B?/\VW (Wb prog w) A (XD elt env) (λx HH=>VW (Wb prog w) A (call (.builtin "list.append") [acc,x]) (λ_ HI=>∃m,m<n/\J m HI) (λ_ _=>False) HH) (λ_ _=>False) C9))
    (λ_ _=>False) Ba) (λ_ _=>False) zR) (λ_ _=>False) l') (λ_ _=>False) s)
 (n:Nat) (h:J n s):Y0 (Wb prog w) A (.compLoop (.ListComp elt [⟨target,iter,ifs,0⟩] scope pos) 0 it acc env) R s:=by
 refine codeAny_loop rfl J (λn s hJ=>?_) n h;show VW _ A ((compTurn (.ListComp elt [⟨target,iter,ifs,0⟩] scope pos) 0 it acc env).onRaise _) _ _ s;refine wpAny_noted ?_;rw[compTurn_list];have up:∀{α:Type}{m:Sem α}{Q:α->VF->Prop}{E:Vz->VF->Prop}{s:VF},VW (Wb prog w) A m Q (λ_ _=>False) s->VW (Wb prog w) A m Q E s:=λq=>Xm q (λ_ _ z=>z) λ_ _ z=>z.elim;refine Vv (wpAny_standAt (Vv (Xm (up (turn n s hJ)) (λr l' ze=>?_) λ_ _ z=>z)));rcases ze with⟨rfl,ze⟩|⟨v,rfl,ze⟩
 .exact VC ze
 .refine Vv (Xm (up ze) (λ_ zR zY=>?_) λ_ _ z=>z);refine Vv (Xm (up zY) (λ_ Ba Bx=>?_) λ_ _ z=>z);refine Vv (Xm (up Bx) (λok C9 zL=>?_) λ_ _ z=>z);rcases zL with⟨rfl,zL⟩|⟨rfl,zL⟩
  .exact VC ⟨rfl,zL⟩
  .exact Vv (Vv (Xm (up zL) (λx HH zM=>Vv (Xm (up zM) (λ_ HI LF=>VC (VC ⟨rfl,LF⟩)) λ_ _ z=>z)) λ_ _ z=>z))
theorem lD{g:TG}{te:TE}{tn:Nat->WS->Prop}{W:Nat->Hp->Prop}{fin:Hp->Prop}
 {R:Vz->Vy->Result->VF->Prop} (hc:X.calm=B?) (S:fg X sc N js) (I:Inv X Y σ H s) (T:Turn X.prog X.w X.K tg J fp it tn) (st:tn 0 s.1) (hf:∀b∈fp,FpOk X Y H b)
 (zj:∀x c,cl.lookup x=A? c->X.env.cells.lookup x=A? c) (B2:∀n,(n,W4)∈sc.names->∃c,cl.lookup n=A? c)
 (hg:∀cl C s H fp Y,PG (cj X N sc cl C s H fp Y) tg g) (gk:mO js g) (ht:∀cl C s H fp Y,PTs (cj X N sc cl C s H fp Y) ifs tt) (he:∀cl C s H fp Y,PE (cj X N sc cl C s H fp Y) elt te)
 (w0:W 0 (upd H s.1.1.size (.lst []))) (turn:fU js g tt te σ J s.1.1.size n W fin)
 (hR:∀C H' s',C≠X.env.locals->s.1.1.size<C->(∃m,s'.1.Ns C m)->H' C=AQ->(∀h' t',W3 C s'.1 h'->Inv X Y σ H' {s' with heap:=h',toks:=t'})->fin H'->R (.ref s.1.1.size) C (.ok .next) s') :
 VW (Wb X.prog X.w) X.A (newList []) (λacc Ba=>VW (Wb X.prog X.w) X.A (newFunctionEnv sc X.env.globals cl [] X.env.qual AQ .none (A? X.env)) (λHJ C9 =>
  Y0 (Wb X.prog X.w) X.A (.compStart (.ListComp elt [⟨tg,iter,ifs,0⟩] sc pos) 0 (.ref it) acc {HJ with scope:=relabel sc X.env}) (R acc HJ.locals) C9) E Ba) E s:=by
 refine WC (wpAny_newFunctionEnv S.nocell (by intro y hy;simp at hy) (λze B4 B5=>?_) S.kind);dsimp only at B4 B5 |-;have I3:Inv X Y σ (upd H s.1.1.size (.lst [])) {s with heap:=s.1.push {cls:=.type "list",dict:=AQ,data:=.seq ([]:List Vz).toArray}}:=I.lnew (t':=s.toks) (its:=[]) .nil (by decide)
 have yZ:∀b∈fp,b<s.1.1.size:=λb hb=>by
  obtain⟨o,ho,_⟩:=T.obj _ _ st b hb;exact V2 ho
 have EI:∀b o,s.1.get? b=A? o->(s.1.push {cls:=.type "list",dict:=AQ,data:=.seq ([]:List Vz).toArray}).get? b=A? o:=λb o e=>VB _ e;have hsz:(s.1.push {cls:=.type "list",dict:=AQ,data:=.seq ([]:List Vz).toArray}).objs.size=s.1.1.size+1:=WY ..;generalize Kn:({s with heap:=s.1.push {cls:=.type "list",dict:=AQ,data:=.seq ([]:List Vz).toArray}}:VF)=s3 at I3;have HK:s.1.push {cls:=.type "list",dict:=AQ,data:=.seq ([]:List Vz).toArray}=s3.1:=by rw[<-Kn]
 rw[HK]at B4 B5 EI hsz;rw[HK];have QS:∀t',({s with heap:=ze,toks:=t'}:VF)={s3 with heap:=ze,toks:=t'}:=λt'=>by rw[<-Kn]
 rw[QS];have Bn:∀b o,s3.1.get? b=A? o->ze.get? b=A? o:=λb o e=>B5.extBut b o (We (V2 e)) (VB _ e);have LG:∀b∈fp,FpOk X Y (upd H s.1.1.size (.lst [])) b:=λb hb=>⟨by rw[af (We (yZ b hb))];exact(hf b hb).1,(hf b hb).2⟩;have I4:=ul (t':=s.toks+([]:List (V5×Vz)).length) S I3 zj B2 LG (λb hb=>by rw[hsz];exact Nat.lt_succ_of_lt (yZ b hb)) B4 Bn;generalize UN:upd H s.1.1.size (.lst [])=H3 at I3 I4 LG w0;have zF:tn 0 ze:=T.keep _ _ _ st λb hb o e=>Bn _ _ (EI _ _ e)
 have BZ:∀{H':Hp},(∀b∈fp,H' b=AQ)->∀b∈fp,FpOk (cj X N sc cl s3.1.1.size s3 H3 fp Y) [] H' b:=λ{H'}hn b hb=>by
  obtain⟨f0,f1,f2,f3,f4,f5⟩:=hf b hb;refine⟨hn b hb,λe=>?_,λhm=>?_,.inl hb,λx c e=>f4 x c (zj x c e),λp hp=>f5 p (by simpa[cj]using hp)⟩
  .have e':b=s3.1.1.size:=e;have h9:b<s.1.1.size:=yZ b hb;rw[e',hsz]at h9;exact g! h9 (ZS.mpr (Nat.le_succ _))
  .rcases VS.mp (I.stkSub b hm)with e|e
   .exact f1 e
   .exact f2 e
 have loop:Y0 (Wb X.prog X.w) X.A (.compLoop (.ListComp elt [⟨tg,iter,ifs,0⟩] sc pos) 0 (.ref it) (.ref s.1.1.size) (compEnvC sc cl s3.1.1.size X.env)) (R (.ref s.1.1.size) s3.1.1.size)
  {s3 with heap:=ze,toks:=s.toks+([]:List (V5×Vz)).length}:=by
  refine r8 (λk s'=>∃i H',Inv (cj X N sc cl s3.1.1.size s3 H3 fp Y) [] (cσ js σ) H' s'/\tn i s'.1/\(∀b∈fp,H' b=AQ)/\W i H'/\k=n - i) ?_ n ⟨0,H3,I4,zF,λb hb=>(LG b hb).1,w0,rfl⟩;rintro k s5 ⟨i,H5,I5,Gy,Ki,w5,rfl⟩;rcases turn i H5 w5 with⟨stop,qn⟩|⟨zW,go,step⟩
  .refine thn (T.done (cj X N sc cl s3.1.1.size s3 H3 fp Y) rfl rfl rfl hc i [] s5 (cσ js σ) H5 _ I5 (BZ Ki) Gy stop) λr s6⟨hr,I6⟩=>.inl ⟨hr,?_⟩;have I7:Inv X Y σ H5 s6:=I3.call' (ch:=fp) (I6.os.trans rfl) I6.base I6.hok I6.bare λb hb=>⟨(hf b hb).2.2.2.1,(hf b hb).2.1,(hf b hb).2.2.2.2.1,(hf b hb).2.2.2.2.2⟩;have Oy:H5 s3.1.1.size=none:=I6.free;have Oz:s3.1.1.size≠X.env.locals:=YA I3.lt;obtain⟨m6,QT,_⟩:=I6.loc;refine hR s3.1.1.size H5 s6 Oz (by lia) ⟨m6,QT⟩ Oy (λh' t' sb=>?_) qn;refine I7.turned (it:=s3.1.1.size) (λb o hb e=>sb.extBut b o hb e) Oy Oz (.inr I3.sz) (λx c e z=>?_) λp hp z=>?_
   .obtain⟨v,q⟩:=I3.cell x c e;exact g! q.lt (by rw[z];exact W0 _)
   .exact g! (V2 (I3.pin p hp).1) (by rw[z];exact W0 _)
  .refine thn (T.item (cj X N sc cl s3.1.1.size s3 H3 fp Y) rfl rfl rfl hc i [] s5 (cσ js σ) H5 _ I5 (BZ Ki) Gy go) λr s6⟨u,hr,h6⟩=>.inr ⟨u,hr,?_⟩;refine thn h6 λ_ s7⟨x,H7,I7,r7,y7,LH,QU⟩=>?_;have QV:=I7.pinned (BZ QU) (T.obj _ _ LH);refine thn (hg cl s3.1.1.size s3 H3 fp Y _ s7 (cσ js σ) H7 x u _ QV r7 (gk σ (cσ js σ) x H7 _ (.refl _) (step x H7 y7))) λ_ s8⟨Fn,H8,I8,k8,q8⟩=>?_;refine thn (ht cl s3.1.1.size s3 H3 fp Y _ s8 Fn H8 _ I8 q8) λok s9⟨H9,I9,q9⟩=>?_
   have again:∀{s':VF}{i':St}{H':Hp},Keep (cσ js σ) i'->Inv (cj X N sc cl s3.1.1.size s3 H3 fp Y) ([]++kC fp s7.1) i' H' s'->W (i+1) H'->∃m,m<n - i/\∃i H',Inv (cj X N sc cl s3.1.1.size s3 H3 fp Y) [] (cσ js σ) H' s'/\tn i s'.1/\(∀b∈fp,H' b=AQ)/\W i H'/\m=n - i:=λ{s' i' H'}kp I' w'=>by
    refine⟨n - (i+1),by lia,i+1,H',(I'.unpinned).weak kp.1 kp.2,T.keep _ _ _ LH λb hb o e=>(I'.pin (b,o) (V9 _ (V9 _ (cY hb e)))).1,λb hb=>?_,w',D?⟩;obtain⟨o,e,d⟩:=T.obj _ _ LH b hb;exact(I'.pin (b,o) (V9 _ (V9 _ (cY hb e)))).2.1
   cases ok with
   | false =>
     refine .inl ⟨rfl,again k8 I9 ?_⟩;have OA:if C?=B? then _ else W (i+1) H9:=q9
     rw[a! VY]at OA;exact OA
   | true =>
     refine .inr ⟨rfl,?_⟩;rw[b! rfl]at q9;refine thn (he cl s3.1.1.size s3 H3 fp Y _ s9 Fn H9 _ I9 q9) λvv EJ⟨v,GF,QW,rv,ys,hD,Cn,QX⟩=>?_;refine thn (bq _ EJ Fn GF (.ref s.1.1.size) [v] (.ref s.1.1.size) [vv] (λ_ H'=>W (i+1) H') QW rfl (.cons rv .nil) ⟨_,ys,v,rfl,rfl,hD,Cn,QX⟩) λ_ UO⟨_,QY,QZ,_,Q0⟩=>?_;exact again k8 QZ Q0
 exact codeAny_compStart_list loop (T.self X.A 0 _ _ _ zF loop)
theorem bd{g:TG}{te:TE}(hc:X.calm=B?)(S:fg X sc N js)(hi:PI X tg iter wi)
 (hg:∀cl C s H fp Y,PG (cj X N sc cl C s H fp Y) tg g) (gk:mO js g) (ht:∀cl C s H fp Y,PTs (cj X N sc cl C s H fp Y) ifs tt) (he:∀cl C s H fp Y,PE (cj X N sc cl C s H fp Y) elt te)
 (hs:∀x,foldedSetIterable iter X.env x=pure x:=by intro _;rfl):PE X (.ListComp elt [⟨tg,iter,ifs,0⟩] sc pos) (qT js wi g tt te):=by
 intro Y s σ H Q I h;obtain⟨cl,e1,e2,e3⟩:=kP (env:=X.env) (sc:=sc) λn hn=>I.ok.has n (S.frees _ hn rfl);rw[eval_ListComp];refine wpAny_comprehension_free (use:=AQ) rfl hs e1 S.kind S.names (thn (hi Y s σ H _ I h) λv s1 h1=>thn h1 λKh s2 h2=>?_);obtain⟨it,fp,tn,J,H2,rfl,I2,T,D6,f2,R2⟩:=h2;obtain⟨n,W,w0,turn⟩:=R2 s2.1.1.size I2.fresh;refine lD (R:=λacc C=>compPost (Wb X.prog X.w) X.A X.xe AQ (EP X Y σ Q) acc C) hc S I2 T D6 f2 e2 e3 hg gk ht he w0 turn λC H' s' _ _ hn _ inv fi=>?_;obtain⟨m,hm⟩:=hn;exact⟨m,hm,λh' sb=>⟨.ref s2.1.1.size,H',inv h' s'.toks sb,D?,fi⟩⟩
theorem dC{y:V5}{HL py:YF}{g:TG}{te:TE}(hN:X.N.Nodup)(hy:X.N[i]?=A? y)(Q1:Loc X.env.scope y)(hc:X.calm=B?)(S:fg X sc N js)(hi:PI X tg iter wi)
 (hg:∀cl C s H fp Y,PG (cj X N sc cl C s H fp Y) tg g) (gk:mO js g) (ht:∀cl C s H fp Y,PTs (cj X N sc cl C s H fp Y) ifs tt) (he:∀cl C s H fp Y,PE (cj X N sc cl C s H fp Y) elt te)
 (Q2:swapsWith (.ListComp elt [⟨tg,iter,ifs,0⟩] sc pos) (A? (.Name y py)) HL.line X.env=pure true:=by rfl)
 (hs:∀x,foldedSetIterable iter X.env x=pure x:=by intro _;rfl) (hf:X.fn y=B?\/X.env.scope.names.lookup y=A? .local:=by first|exact .inl rfl|exact .inr rfl|assumption) :
 PS X (.Assign [.Name y py] (.ListComp elt [⟨tg,iter,ifs,0⟩] sc pos) HL) (qc (qT js wi g tt te) (av i)):=by
 intro Y s σ H D I h;obtain⟨cl,e1,e2,e3⟩:=kP (env:=X.env) (sc:=sc) λn hn=>I.ok.has n (S.frees _ hn rfl);rw[exec_Assign_Name_used _ _ _ _ Q2];refine Vv (wpAny_standAt (Vv ?_));show VW _ X.A (do let _ <-comprehension (.ListComp elt [⟨tg,iter,ifs,0⟩] sc pos) sc X.env _ (newList []) C? (XD iter X.env) (A? (assign (.Name y py) X.env))) _ _ s;refine Vv (Xm (wpAny_comprehension_free (use:=A? (assign (.Name y py) X.env)) (Q:=λ_ s'=>SP X Y D .next s') rfl hs e1 S.kind S.names (thn (hi Y s σ H _ I h) λv s1 h1=>thn h1 λKh s2 h2=>?_)) (λ_ s' hq=>VC (VC hq)) λ_ _ z=>z);obtain⟨it,fp,tn,J,H2,rfl,I2,T,D6,f2,R2⟩:=h2;obtain⟨n,W,w0,turn⟩:=R2 s2.1.1.size I2.fresh;refine lD (R:=λacc C=>compPost (Wb X.prog X.w) X.A X.xe (A? (assign (.Name y py) X.env)) (λ_ s'=>SP X Y D .next s') acc C) hc S I2 T D6 f2 e2 e3 hg gk ht he w0 turn λC H' s' OB hC hn LI inv fi=>?_;obtain⟨m,hm⟩:=hn
 have I5:Inv X Y σ H' s':=by
  have q:=inv s'.1 s'.toks (.refl ..);exact q
 refine wpAny_assign_Name (mr (v:=.ref s2.1.1.size) I5 hN hy Q1 rfl (λs6 I6⟨a,sb,ha⟩=>?_) hf)
 have Q3:C≠a:=by
  rcases ha with ha|ha
  .rw[ha];exact OB
  .intro z;obtain⟨v,q⟩:=I2.cell y a ha;exact g! (YZ q.lt hC) (by rw[z];exact W0 _)
 refine⟨m,hm.sameBut sb Q3,λh' HM=>⟨_,H',I6.turned (it:=C) (t':=s6.toks) (λb o hb e=>HM.extBut b o hb e) LI OB (.inr (Wz I2.sz (XH hC))) (λx c e z=>?_) λp hp z=>?_,fi⟩⟩
 .obtain⟨v,q⟩:=I2.cell x c e;exact g! (YZ q.lt hC) (by rw[z];exact W0 _)
 .exact g! (YZ (V2 (I2.pin p hp).1) hC) (by rw[z];exact W0 _)
end
def lN{α:Type}(xs:List α)(lo hi:Option Int):List α:=(xs.drop (p! xs.length 0 lo)).take (p! xs.length xs.length hi - p! xs.length 0 lo)
def fO(z:V5)(lo hi:Option Int):V5:=⟨(lN z.cps.toList lo hi).toArray⟩
theorem sT(xs:List α)(a n:Nat):((Xf n).map λ(k:Nat)=>a+k).filterMap (xs[·]?)=(xs.drop a).take n:=by
 induction n with
 |zero=>simp
 | succ n ih =>
   rw[List.range_succ,V3,List.filterMap_append,ih,Xu];congr 1;rw[List.getElem?_drop];cases h:xs[a+n]? <;> simp[h]
theorem rF(n d:Nat)(i:Int):max 0 (min (if i<0 then i+(n:Int)else i) (n:Int))=((p! n d (A? i):Nat):Int):=by
 show max 0 (min (if i<0 then i+(n:Int)else i) (n:Int))=(((if i<0 then(i+(n:Int)).toNat else min i.toNat n):Nat):Int);by_cases h:i<0
 .rw[b! h,b! h];lia
 .rw[a! h,a! h];lia
theorem ur(A B:Int)(a b:Nat)(hA:A=(a:Int))(hB:B=(b:Int)):sliceRange A B 1=(Xf (b - a)).map λ(k:Nat)=>a+k:=by
 subst hA;subst hB;unfold sliceRange;simp only[show(1:Int) > 0 by decide,if_true]
 have c:(if(a:Int)<(b:Int)then((b:Int) - a+1 - 1) / 1 else 0).toNat=b - a:=by
  split
  .rw[Int.ediv_one];lia
  .lia
 rw[c];refine ZD λk _=>?_;lia
theorem qA(lo hi:Option Int)(n:Nat):Builtin.Str.strSliceIndices lo hi 1 n=(Xf (p! n n hi - p! n 0 lo)).map λ(k:Nat)=>p! n 0 lo+k:=by
 unfold Builtin.Str.strSliceIndices;simp only[show(1:Int) > 0 by decide,if_true];cases lo <;> cases hi <;> refine ur _ _ _ _ ?_ ?_ <;> first|rfl|exact rF _ _ _
theorem eM(z:V5)(lo hi:Option Int):(fO z lo hi).length<=z.length:=by
 show(lN z.cps.toList lo hi).toArray.size<=z.cps.size;unfold lN;rw[VM,WA,WO,Wd];lia
theorem lP(x:V5)(t:Tok)(l u:Option (Int×Tok))(hz:x.length<=V4)(h:∀t' k,Q (.str (fO x (l.map (·.1)) (u.map (·.1))) t') {s with toks:=k}):(sliceMade x t l u AQ).post Q s:=by
 have e:(slicePicked x l u AQ).filterMap (x.cps[·]?)=lN x.cps.toList (l.map (·.1)) (u.map (·.1)):=by
  unfold slicePicked lN;show(Builtin.Str.strSliceIndices (l.map (·.1)) (u.map (·.1)) 1 x.length).filterMap (x.cps[·]?)=_;rw[qA,show(x.cps[·]?)=(x.cps.toList[·]?)from funext λi=>(YM ..).symm,sT,Wd];rfl
 unfold sliceMade;split
 .rename_i hc
  have hl:(slicePicked x l u AQ).length=x.length:=by
   have:=(XM _ _ ▸ hc).2;simpa using this
  have hw:fO x (l.map (·.1)) (u.map (·.1))=x:=by
   have e2:(lN x.cps.toList (l.map (·.1)) (u.map (·.1)))=x.cps.toList:=by
    have hp:slicePicked x l u AQ=(Xf (p! x.length x.length (u.map (·.1)) - p! x.length 0 (l.map (·.1)))).map λ(k:Nat)=>p! x.length 0 (l.map (·.1))+k:=qA _ _ _;rw[hp,Vu,List.length_range]at hl;have b1:=HT.sIx_le x.length x.length (VG _) (u.map (·.1));have hx:x.cps.toList.length=x.length:=Wd;unfold lN;rw[hx,hl];have LJ:p! x.length 0 (l.map (·.1))=0\/x.length=0:=by lia
    rcases LJ with h0|h0
    .rw[h0,Zi,WX (by rw[hx];exact VG _)]
    .have:x.cps.toList=[]:=XO.mp (by rw[hx];exact h0);rw[this];simp
   unfold fO;rw[e2]
  have:=h t s.toks;rw[hw]at this;exact this
 .show(⟨((slicePicked x l u AQ).filterMap (x.cps[·]?)).toArray⟩:V5).length<=V4/\Q _ _;rw[e];exact⟨Wz (eM x _ _) hz,h s.toks (s.toks+1)⟩
section
variable{X:Cx}
inductive vO(x:V)(lo:Option Int)(hi:Option Int)(H:Hp)(Q:VK):Prop
 |mk (z:_) (AS:x=.str z) (AU:z.length<=V4) (Cj:Q (.str (fO z lo hi)) H):vO  x lo hi H Q
def yH:V->Option Int->Option Int->Hp->VK->Prop:=vO
theorem part_of{v:Vz}{o:Option Int}(h:IsPart v o):∃l:Option (Int×Tok),v=partValue l/\l.map (·.1)=o:=by
 cases h with
 |none=>exact⟨AQ,D?,D?⟩
 |int i t=>exact⟨A? (i,t),D?,D?⟩
theorem pD:SlR X yH:=by
 intro Y s σ H x v vl vu lo hi sl Q I rx hs pl pu h;obtain⟨z,rfl,hz,q⟩:=h;obtain⟨t,rfl⟩:=rx;obtain⟨l,rfl,rfl⟩:=part_of pl;obtain⟨u,rfl,rfl⟩:=part_of pu;refine⟨"str",_,F.slot_str_getitem.lookup,typeIs_str s z t,wpAny_getItem_str_slice (l:=l) (u:=u) (st:=AQ) ?_ rfl (lP z t l u hz λt' k=>?_)⟩
 .obtain⟨o,ho,hc,hd⟩:=hs;exact⟨o,ho,hc,hd⟩
 .exact⟨.str (fO z (l.map (·.1)) (u.map (·.1))),H,I.tok k,⟨_,D?⟩,q⟩
def xc:V->List V->Hp->VK->Prop:=λx vs H Q=>∃z y i r,x=.str z/\vs=[.str y]/\Builtin.Str.occurrences z y 0 z.length 1=i::r/\Q (.int (i:Nat)) H
theorem sU:MtR X "str.index" xc:=by
 intro Y s σ H x vs v us Q I rx rv h;obtain⟨z,y,i,r,rfl,rfl,ho,q⟩:=h;obtain⟨t,rfl⟩:=rx;obtain⟨u,rfl,u',rfl⟩:=rv.one;exact SC.index ho ⟨.int (i:Nat),H,I.tok _,⟨_,rfl⟩,q⟩
theorem gC(hc:X.calm=B?):fZ X (.builtin "sum") (λxs H Q=>∃(p:Vy)(ns:List Int),xs=[.ref p]/\SqL X.K H p (ns.map o!)/\Q (.int ns.sum) H):=by
 intro Y s σ H xs us Q I r h;obtain⟨p,ns,rfl,hl,q⟩:=h;obtain⟨u,rfl,rx⟩:=vals1 r;cases rx;obtain⟨its,rv,pl,_⟩:=I.list hl;have hi:=intsAre_of rv;obtain⟨ys,e⟩:=(hi.allInts).items;have CU:s.1.IsList p (intItems ys):=by rw[<-e];exact pl.isList
 refine sum_intListG (I.ok.hd hc) CU λh' tk t' hk=>?_
 have e3:preSum (numAt ys) ys.size=ns.sum:=by
  rw[preSum_eq,WX (by simp),<-nums_intItems,<-e];show(numsOf its).sum=_;rw[hi.numsOf]
 rw[e3];exact⟨.int ns.sum,H,I.kept hk,⟨_,D?⟩,q⟩
theorem lX(hc:X.calm=B?):fZ X (.builtin "max") (λxs H Q=>∃(p:Vy)(ns:List Int),xs=[.ref p]/\SqL X.K H p (ns.map o!)/\ns≠[]/\∀M,M∈ns->(∀a,a∈ns->a<=M)->Q (.int M) H):=by
 intro Y s σ H xs us Q I r h;obtain⟨p,ns,rfl,hl,zk,q⟩:=h;obtain⟨u,rfl,rx⟩:=vals1 r;cases rx;obtain⟨its,rv,pl,_⟩:=I.list hl;have hi:=intsAre_of rv;have hlen:=hi.length;obtain⟨ys,e⟩:=(hi.allInts).items;have CU:s.1.IsList p (intItems ys):=by rw[<-e];exact pl.isList
 have hn:ys.toList.map (·.1)=ns:=by rw[<-nums_intItems,<-e];exact hi.numsOf
 have hsz:0<ys.size:=by
  have:ns.length=ys.size:=by rw[<-hn];simp
  have:=List.length_pos_iff.mpr zk;lia
 refine max_intList (I.ok.hd hc) CU hsz λv h' tk hv hk=>?_;obtain⟨t,rfl⟩:=intItems_at hv;obtain⟨h1,h2⟩:=argBest_gt (numAt ys) (ys.size - 1);refine⟨.int _,H,I.kept hk,⟨_,D?⟩,q _ ?_ λa ha=>?_⟩
 .rw[numAt_eq,<-hn];exact getD_mem (by rw[Vu,Wd];lia)
 .rw[<-hn]at ha;obtain⟨j,hj,rfl⟩:=mem_getD ha;rw[Vu,Wd]at hj;rw[<-numAt_eq];exact h2 j (by lia)
theorem t7{T:String}{b:Bool}{t:Vz}:fZ X (.builtin "isinstance") (λxs H Q=>∃x,xs=[x,.ty T]/\iL X.K H x t/\PySem.W.kitOne X.K t (.type T)=A? b/\Q (.bl b) H):=by
 intro Y s σ H xs us Q I r h;obtain⟨x,rfl,ty,k,q⟩:=h;obtain⟨u,w',rfl,r1,r2⟩:=vals2 r;cases r2;exact rT I r1 ty k λtk=>⟨.bl b,H,I.tok tk,rfl,q⟩
end
end L2
open L2 renaming Same->j!
namespace PySem
namespace F
end F
open Sem (wp)
end PySem
namespace L2
open PySem PySem.Spec PyProof.Rows
section
variable{X:Cx}{te:TE}{p p2 zq:YF}
def Itv(K:VD)(a:Vy)(n:Nat):It:=⟨λi H=>i<n/\∃xs,SqL K H a xs/\xs.length=n,λi H x H'=>H'=H/\∀xs,SqL K H a xs->xs[n - 1 - i]?=A? x,λi _=>i=n⟩
theorem tL(a it:Vy)(n:Nat):Turn P w K tg (Itv K a n) [it] it (λi h=>h.IsRevIter it a ((n:Int) - 1 - (i:Nat))) where
 mem:=by simp
 obj:=λi h st b hb=>by
  have e:b=it:=by simpa using hb
  subst e;obtain⟨o,e,c,d⟩:=st;exact⟨o,e,λv z=>by rw[d]at z;cases z⟩
 keep:=λi h h' st k=>st.at λo e=>k it (by simp) o e
 item:=by
  intro X hP hw hK hc i Y s σ H E I hf st hg;subst hP hw hK;obtain⟨hi,xs,hq,hx⟩:=hg;obtain⟨its,rv,p,hz⟩:=I.list hq;have hl:=rv.length;obtain⟨x,Bc⟩:∃x,xs[n - 1 - i]?=A? x:=⟨_,Vw (by lia)⟩;obtain⟨u,hu,ru⟩:=rv.get Bc;obtain⟨f0,f1,f2,f3,f4,f5⟩:=hf it (by simp);have e1:(n:Int) - 1 - (i:Nat)=((n - 1 - i:Nat):Int):=by lia
  rw[e1]at st;refine wpAny_pyNext_rev_item st p.isList (x:=u) (by simpa using hu) λh' CV sb=>?_;have I1:Inv X Y σ H {s with heap:=h'}:=I.turned (t':=s.toks) (λb o hb e=>(sb.2 b hb).trans e) f0 f1 f3 f4 f5;have e2:((n - 1 - i:Nat):Int) - 1=(n:Int) - 1 - ((i+1:Nat):Int):=by lia
  rw[e2]at CV;obtain⟨o,e,c,d⟩:=id CV;exact⟨u,D?,qG (s:={s with heap:=h'}) e c d (by decide) ⟨x,H,I1,ru,⟨D?,λys hy=>by rw[I.list_inj hy hq];exact Bc⟩,CV,λb hb=>(hf b hb).1⟩⟩
 done:=by
  intro X hP hw hK hc i Y s σ H E I hf st hg;subst hP hw hK;have Q4:i=n:=hg;subst Q4;obtain⟨f0,f1,f2,f3,f4,f5⟩:=hf it (by simp);rw[show(i:Int) - 1 - (i:Nat)=-1 by lia]at st;exact wpAny_pyNext_rev_end (I.ok.hd hc) st λh' eb=>⟨rfl,I.turned (t':=s.toks) (λb o hb e=>eb b o hb e) f0 f1 f3 f4 f5⟩
 self:=λ_ _ _ _ _ st h=>wpAny_pyIter_revIter st h
def yJ(K:VD)(tl:TE):TI:=λσ H R=>tl σ H λx H1=>∃a xs,x=.ref a/\SqL K H1 a xs/\R (Itv K a xs.length) H1
theorem xg(g2:Gl X "reversed")(m2:X.mg "reversed"=AQ)(he:PE X e te)(h2:Wu [e] X.env=[(C?,XD e X.env)]:=by rfl):PI X tg (.Call (.Name "reversed" p2) [e] [] zq) (yJ X.K te):=by
 intro Y s σ H R I h;refine W2 (dz I g2 m2 boot_reversed (WW ?_ h2 rfl));rw[h2];show VW _ _ (spliced ((C?,XD e X.env)::[])) _ _ s;refine XE (thn (he Y s σ H _ I h) λu s1⟨x,H1,I1,r1,a,ys,ex,hq,q⟩=>X1 ?_);subst ex;cases r1;obtain⟨its,rv,p,hz⟩:=I1.list hq;have hl:=rv.length;refine call_reversed_list p.isList ?_
 have hit:(s1.1.push (revObj a ((its.toArray.size:Int) - 1))).IsRevIter s1.1.1.size a ((ys.length:Int) - 1 - ((0:Nat):Int)):=by
  rw[hl,show(its.length:Int) - 1 - ((0:Nat):Int)=(its.toArray.size:Int) - 1 by rw[VM];lia];exact⟨_,VI _ rfl,D?,D?⟩
 refine wpAny_pyIter_revIter (s:={s1 with heap:=s1.1.push (revObj a ((its.toArray.size:Int) - 1))}) hit ?_;refine⟨s1.1.1.size,[s1.1.1.size],_,_,H1,D?,I1.kept (t':=s1.toks) λb o e=>VB _ e,tL a _ ys.length,hit,λb hb=>?_,q⟩;have e:b=s1.1.1.size:=by simpa using hb
 subst e;exact I1.fpOk (VG _) (I1.hok.fresh (VG _))
theorem uY{g:TG}(Pv:Nat->St->Hp->Prop)(h0:Pv 0 σ H)(hl:∀i σ H,i<=xs.length->Pv i σ H->SqL K H a xs)
 (hs:∀i x σ H,i<xs.length->xs[xs.length - 1 - i]?=A? x->Pv i σ H->g x σ H λzg H2=>tb {D with nx:=Pv (i+1),ct:=Pv (i+1),bk:=D.nx} zg H2) (hd:∀σ H,Pv xs.length σ H->D.nx σ H) :
 ∃W:Nat->Nat->St->Hp->Prop,(∃m,W 0 m σ H)/\∀i m σ H,W i m σ H ->
   ((Itv K a xs.length).stop i H/\D.nx σ H)\/((Itv K a xs.length).go i H/\∃N:St->Hp->Prop,(∀i' H',N i' H'->∃m',m'<m/\W (i+1) m' i' H')/\∀x H',(Itv K a xs.length).yld i H x H'->g x σ H' λzg H2=>tb {D with nx:=N,ct:=N,bk:=D.nx} zg H2):=by
 refine⟨λi m σ H=>i<=xs.length/\m=xs.length - i/\Pv i σ H,⟨xs.length,Wh _,D?,h0⟩,?_⟩;rintro i m σ H ⟨hi,rfl,p⟩;by_cases h:i=xs.length
 .left;exact⟨h,hd σ H (by rw[<-h];exact p)⟩
 .right;have By:i<xs.length:=by lia
  refine⟨⟨By,xs,hl i σ H hi p,D?⟩,Pv (i+1),λi' H' q=>⟨xs.length - (i+1),by lia,by lia,D?,q⟩,?_⟩;rintro x H' ⟨rfl,hx⟩;exact hs i x σ H' By (hx xs (hl i σ H' hi p)) p
end
end L2
namespace BB
open PySem L2
set_option genInjectivity true in
inductive Th where
 |knot (n:V5) (ks:List Th)
 |call (s k:Int)
def q:V5:=VE "?"
def Th.kids:Th->List Th
 |.knot _ ks=>ks
 |.call _ _=>[]
mutual
def Th.size:Th->Nat
 |.knot _ ks=>au ks+1
 |.call _ _=>1
def au:List Th->Nat
 | []=>0
 |t::ts=>t.size+au ts
end
mutual
def Th.tall:Th->Nat
 |.knot _ ks=>bw ks+1
 |.call _ _=>1
def bw:List Th->Nat
 | []=>0
 |t::ts=>max t.tall (bw ts)
end
mutual
def Th.walk:Th->List Th
 |.knot n ks=>.knot n ks::walks ks
 |.call s k=>[.call s k]
def walks:List Th->List Th
 | []=>[]
 |t::ts=>t.walk++walks ts
end
theorem Th.walk_eq(t:Th):t.walk=t::walks t.kids:=by
 cases t with
 |knot n ks=>rw[Th.walk];rfl
 |call s k=>rw[Th.walk];simp[Th.kids,walks]
theorem Th.size_eq(t:Th):t.size=au t.kids+1:=by
 cases t with
 |knot n ks=>rw[Th.size];rfl
 |call s k=>rw[Th.size];simp[Th.kids,au]
theorem Th.tall_eq(t:Th):t.tall=bw t.kids+1:=by
 cases t with
 |knot n ks=>rw[Th.tall];rfl
 |call s k=>rw[Th.tall];simp[Th.kids,bw]
theorem iD:∀a b:List Th,walks (a++b)=walks a++walks b
 | [],b=>by simp[walks]
 |t::a,b=>by rw[List.cons_append,walks,walks,iD a b,Yj]
theorem cf:∀a b:List Th,au (a++b)=au a+au b
 | [],b=>by simp[au]
 |t::a,b=>by rw[List.cons_append,au,au,cf a b,Nat.add_assoc]
mutual
theorem Th.walk_len:∀t:Th,t.walk.length=t.size
 |.knot n ks=>by rw[Th.walk,Th.size,VU,jy ks]
 |.call s k=>by rw[Th.walk,Th.size];rfl
theorem jy:∀ts:List Th,(walks ts).length=au ts
 | []=>rfl
 |t::ts=>by rw[walks,au,VJ,t.walk_len,jy ts]
end
theorem Th.size_pos(t:Th):1<=t.size:=by rw[t.size_eq];lia
mutual
def At(H:Hp):Th->Vy->Prop
 |.knot n ks,a=>n≠q/\∃as:List Vy,H a=A? (.tup (.str n::as.map k!))/\Ats H ks as
 |.call s k,a=>H a=A? (.tup [.str q,.int s,.int k])
def Ats(H:Hp):List Th->List Vy->Prop
 | [],as=>as=[]
 |t::ts,as=>∃a r,as=a::r/\At H t a/\Ats H ts r
end
def KT(H H':Hp):Prop:=∀b xs,H b=A? (.tup xs)->H' b=A? (.tup xs)
theorem KT.trans(a:KT H H1)(b:KT H1 H2):KT H H2:=λc o h=>b c o (a c o h)
theorem Same.kt(h:j! H H'):KT H H':=λb xs e=>h b _ e
theorem iq(h:H l=AQ):KT H (upd H l o):=λb xs e=>by rw[af (aw e h)];exact e
theorem cH(h:H l=A? (.lst xs)):KT H (upd H l o):=λb ys e=>by rw[af (aH e h (by intro z;cases z))];exact e
mutual
theorem At.mono(k:KT H H'):∀{t:Th}{a:Vy},At H t a->At H' t a
 | .knot n ks,a,h=>by
   rw[At]at h |-;obtain⟨h0,as,h1,h2⟩:=h;exact⟨h0,as,k _ _ h1,Ats.mono k h2⟩
 | .call s c,a,h=>by
   rw[At]at h |-;exact k _ _ h
theorem Ats.mono(k:KT H H'):∀{ts:List Th}{as:List Vy},Ats H ts as->Ats H' ts as
 | [],as,h=>by rw[Ats]at h |-;exact h
 | t::ts,as,h=>by
   rw[Ats]at h |-;obtain⟨a,r,e,h1,h2⟩:=h;exact⟨a,r,e,At.mono k h1,Ats.mono k h2⟩
end
theorem Ats.nil:Ats H [] []:=by rw[Ats]
theorem Ats.cons{t:Th}{ts:List Th}(h1:At H t a)(h2:Ats H ts as):Ats H (t::ts) (a::as):=by rw[Ats];exact⟨a,as,D?,h1,h2⟩
theorem Ats.append:∀{ts us:List Th}{as bs:List Vy},Ats H ts as->Ats H us bs->Ats H (ts++us) (as++bs)
 | [],us,as,bs,h,g=>by rw[Ats]at h;subst h;exact g
 | t::ts,us,as,bs,h,g=>by
   rw[Ats]at h;obtain⟨a,r,rfl,h1,h2⟩:=h;exact .cons h1 (h2.append g)
theorem Ats.length:∀{ts:List Th}{as:List Vy},Ats H ts as->as.length=ts.length
 | [],as,h=>by rw[Ats]at h;subst h;rfl
 | t::ts,as,h=>by
   rw[Ats]at h;obtain⟨a,r,rfl,h1,h2⟩:=h;rw[VU,VU,h2.length]
theorem Ats.reverse:∀{ts:List Th}{as:List Vy},Ats H ts as->Ats H ts.reverse as.reverse
 | [],as,h=>by rw[Ats]at h;subst h;exact .nil
 | t::ts,as,h=>by
   rw[Ats]at h;obtain⟨a,r,rfl,h1,h2⟩:=h;rw[WZ,WZ];exact h2.reverse.append (.cons h1 .nil)
theorem Ats.get:∀{ts:List Th}{as:List Vy}{i:Nat}{a:Vy},Ats H ts as->as[i]?=A? a->∃t,ts[i]?=A? t/\At H t a
 | [],as,i,a,h,e=>by rw[Ats]at h;subst h;simp at e
 | t::ts,as,i,a,h,e=>by
   rw[Ats]at h;obtain⟨b,r,rfl,h1,h2⟩:=h;cases i with
   |zero=>simp at e;subst e;exact⟨t,D?,h1⟩
   |succ i=>exact h2.get (i:=i) (by simpa using e)
theorem Ats.at:∀{ts:List Th}{as:List Vy}{i:Nat}{t:Th},Ats H ts as->ts[i]?=A? t->∃a,as[i]?=A? a/\At H t a
 | [],as,i,a,h,e=>by simp at e
 | t::ts,as,i,a,h,e=>by
   rw[Ats]at h;obtain⟨b,r,rfl,h1,h2⟩:=h;cases i with
   |zero=>simp at e;subst e;exact⟨b,D?,h1⟩
   |succ i=>exact h2.at (i:=i) (by simpa using e)
theorem Ats.snoc_inv{ts:List Th}(h:Ats H ts (as++[a])):∃us t,ts=us++[t]/\Ats H us as/\At H t a:=by
 have r:=h.reverse;rw[XY,YB,YL]at r;cases e:ts.reverse with
 |nil=>rw[e,Ats]at r;cases r
 | cons t us =>
   rw[e,Ats]at r;obtain⟨b,z,e1,h1,h2⟩:=r;cases e1;refine⟨us.reverse,t,?_,?_,h1⟩
   .rw[<-WZ,<-e,Yh]
   .have:=h2.reverse;rw[Yh]at this;exact this
end BB
open BB.Same renaming kt->n!
open BB.Th renaming call->q!,knot->r!,tall->w!,walk->G!,size_pos->J!,size->L!
variable{p head:BB.Th}{L row Ts Ls pats:List BB.Th}{rows:List (List BB.Th)}{As:List (BB.Th×Nat)}
namespace BB
open PySem L2
mutual
def Th.Nm(L:Nat):Th->Prop
 |.knot n ks=>n.length<=L/\Nms L ks
 |.call _ _=>True
def Nms(L:Nat):List Th->Prop
 | []=>True
 |t::ts=>t.Nm L/\Nms L ts
end
def dB:V5:=VE "abcdefghijklmnopqrstuvwxyz"
theorem qk:dB.cps.toList=(Xf 26).map (97+·):=by decide +kernel
theorem jC:dB.length=26:=by decide +kernel
theorem at_nonneg{xs:List α}{i:Int}{v:α}(h0:0<=i)(h:xs[i.toNat]?=A? v):atI xs i=A? v:=by
 have e:i=((i.toNat:Nat):Int):=by lia
 rw[e];exact bu h
theorem mI{i:Int}(h0:0<=i)(h1:i<26):atI dB.cps.toList i=A? (97+i.toNat):=by
 refine at_nonneg h0 ?_;rw[qk,VA,List.getElem?_range (by lia)];rfl
theorem rJ:∀i<26,Builtin.Str.occurrences dB ⟨#[97+i]⟩ 0 dB.length 1=[i]:=by decide +kernel
def fR(r:Int)(k:Nat):List Nat:=(Xf k).map λj=>97+((r / 26 ^ j)%26).toNat
def cM(r:Int)(k:Nat):V5:=⟨(fR r k).toArray⟩
theorem rS(r:Int)(k:Nat):(fR r k).length=k:=by unfold fR;rw[Vu,List.length_range]
theorem dI(r:Int)(k:Nat):(cM r k).length=k:=by show(fR r k).toArray.size=k;rw[VM,rS]
theorem qe(r:Int)(k:Nat):fR r (k+1)=fR r k++[97+((r / 26 ^ k)%26).toNat]:=by unfold fR;rw[List.range_succ,V3];rfl
theorem pO(r:Int)(k:Nat):cM r (k+1)=cM r k++⟨#[97+((r / 26 ^ k)%26).toNat]⟩:=by
 show(⟨(fR r (k+1)).toArray⟩:V5)=⟨(fR r k).toArray++#[97+((r / 26 ^ k)%26).toNat]⟩;rw[qe];simp
def Low(x:V5):Prop:=∀c∈x.cps.toList,97<=c/\c<=122
theorem rN(r:Int)(k:Nat):∀c∈fR r k,97<=c/\c<=122:=by
 intro c hc;obtain⟨j,_,rfl⟩:=VX.mp hc;have:=Wl (r / 26 ^ j) (by decide:(26:Int)≠0);have:=Wg (r / 26 ^ j) (by decide:(0:Int)<26);lia
theorem nI(h:Low x)(lo hi:Option Int):Low (fO x lo hi):=by
 intro c hc;have zV:c∈lN x.cps.toList lo hi:=by simpa[fO]using hc
 exact h c (List.mem_of_mem_drop (List.mem_of_mem_take zV))
theorem qH{y:V5}(hx:Low x)(hy:Low y):Low (x++y):=by
 intro c hc;have zV:c∈(x.cps++y.cps).toList:=hc;rw[Array.toList_append,VP]at zV;rcases zV with h|h
 .exact hx c h
 .exact hy c h
theorem vi{c:Nat}(h1:97<=c)(h2:c<=122):Low ⟨#[c]⟩:=by
 intro d hd;have:d=c:=by simpa using hd
 lia
theorem oM(h:Low x):x≠q:=by
 intro e;subst e;have:=h 63 (by decide +kernel);lia
def eI(base:Int):Int:=1+base / 2%8
def nAt(base:Int):Int:=base / 16%7%eI base
def kj(base n:Int):Nat:=97+(((((base / 112) / 26 ^ (nAt base).toNat)%26).toNat+n)%26).toNat
def nameOf(base n:Int):V5 :=
 if base%2=1 then fO (cM (base / 112) 8) AQ (A? (n+1))
 else fO (cM (base / 112) 8) AQ (A? (nAt base))++⟨#[kj base n]⟩++fO (cM (base / 112) 8) (A? (nAt base+1)) (A? (eI base))
theorem jq(base:Int):1<=eI base/\eI base<=8:=by
 have:=Wl (base / 2) (by decide:(8:Int)≠0);have:=Wg (base / 2) (by decide:(0:Int)<8);unfold eI;lia
theorem t9(base:Int):0<=nAt base/\nAt base<eI base:=by
 have:=jq base;unfold nAt;exact⟨Wl _ (by lia),Wg _ (by lia)⟩
theorem mF(base n:Int):97<=kj base n/\kj base n<=122:=by
 unfold kj;have h1:=Wl (((((base / 112) / 26 ^ (nAt base).toNat)%26).toNat:Int)+n) (by decide:(26:Int)≠0);have h2:=Wg (((((base / 112) / 26 ^ (nAt base).toNat)%26).toNat:Int)+n) (by decide:(0:Int)<26);lia
theorem ls(base:Int):Low (cM (base / 112) 8):=by
 intro c hc;exact rN _ _ c (by simpa[cM]using hc)
theorem p9(base n:Int):Low (nameOf base n):=by
 unfold nameOf;split
 .exact nI (ls base) _ _
 .exact qH (qH (nI (ls base) _ _) (vi (mF base n).1 (mF base n).2)) (nI (ls base) _ _)
theorem lr(z:V5)(lo hi:Option Int):(fO z lo hi).length=min (p! z.length z.length hi - p! z.length 0 lo) (z.length - p! z.length 0 lo):=by
 show(lN z.cps.toList lo hi).toArray.size=_;unfold lN;rw[VM,WA,WO,Wd];rfl
theorem qq(base n:Int):(nameOf base n).length<=8:=by
 unfold nameOf;split
 .have:=eM (cM (base / 112) 8) AQ (A? (n+1));rw[dI]at this;exact this
 .have h1:=jq base;have h2:=t9 base;rw[strLen_append,strLen_append,lr,lr,dI]
  have e1:p! 8 8 (A? (nAt base))=(nAt base).toNat:=by
   show(if nAt base<0 then _ else min (nAt base).toNat 8)=_;rw[a! (by lia)];lia
  have e2:p! 8 0 (A? (nAt base+1))=(nAt base+1).toNat:=by
   show(if nAt base+1<0 then _ else min (nAt base+1).toNat 8)=_;rw[a! (by lia)];lia
  have e3:p! 8 8 (A? (eI base))=(eI base).toNat:=by
   show(if eI base<0 then _ else min (eI base).toNat 8)=_;rw[a! (by lia)];lia
  have e4:p! 8 0 AQ=0:=rfl;have e5:(⟨#[kj base n]⟩:V5).length=1:=rfl;rw[e1,e2,e3,e4,e5];lia
end BB
namespace L2
open PySem PySem.Spec PyProof.Rows
theorem Same.seqT(e:Same H H')(h:SqT K H a xs):SqT K H' a xs:=by
 rcases h with(h|⟨o,h⟩)|h
 .exact .inl (.inl (e _ _ h))
 .exact .inl (.inr ⟨o,e _ _ h⟩)
 .exact .inr h
theorem ao{p:Vy}(h:H p=AQ)(o:HO):Same H (upd H p o):=λb u q=>by rw[af (aw q h)];exact q
@[elab_as_elim] theorem gU{G:Hp->Prop}(h:H a=AQ)(k:∀H',j! H H'->H' a=A? o->G H'):G (upd H a o):=k _ (ao h _) ac
theorem aK(h:Same H H1)(n:H l=AQ):Same H (upd H1 l o):=λb u e=>by rw[af (aw e n)];exact h b u e
theorem rm{te:TE}(zs:List α)(p:α->Bool)(f:α->V)(hz:zs.length=xs.length)(hn:xs.length<=1000000)
 (Fo:∀i H2,Same H H2->i<xs.length->J.go i H2) (Ax:∀H2,Same H H2->J.stop xs.length H2) (B6:∀(i:Nat)H2 x H3,Same H H2->i<xs.length->J.yld i H2 x H3->H3=H2/\xs[i]?=A? x)
 (CC:∀(i:Nat)x z H2(R:Bool->Hp->Prop),xs[i]?=A? x->zs[i]?=A? z->Same H H2->R (p z) H2->tt ((cσ js σ).set 0 (A? x)) H2 R)
 (Bz:∀(i:Nat)x z H2(R:VK),xs[i]?=A? x->zs[i]?=A? z->p z=B?->Same H H2->R (f z) H2->te ((cσ js σ).set 0 (A? x)) H2 R)
 (q:∀D,H D=AQ->fin D (upd H D (.lst ((zs.filter p).map f)))) :
 ∀D,H D=AQ->∃(n:Nat)(W:Nat->Hp->Prop),W 0 (upd H D (.lst []))/\fU js (av 0) tt te σ J D n W λH'=>fin D H':=by
 intro D hD;refine⟨xs.length,λi H2=>i<=xs.length/\H2=upd H D (.lst (((zs.take i).filter p).map f)),⟨Wh _,by simp⟩,?_⟩;rintro i H2 ⟨hi,rfl⟩;have sm:∀o,Same H (upd H D o):=λo=>ao hD o;by_cases h:i=xs.length
 .left;subst h;refine⟨Ax _ (sm _),?_⟩;rw[<-hz,XJ];exact q D hD
 .right;have By:i<xs.length:=by lia
  refine⟨By,Fo i _ (sm _) By,λx H1 hy=>?_⟩;obtain⟨rfl,hx⟩:=B6 i _ x H1 (sm _) By hy;have Q5:i<zs.length:=by lia
  have e1:zs[i]?=A? zs[i]:=Vw Q5
  have e2:(zs.take (i+1)).filter p=(zs.take i).filter p++(if p zs[i]=B? then[zs[i]]else[]):=by
   rw[Xu,e1,List.filter_append];show _++List.filter p [zs[i]]=_;rw[Zn,List.filter_nil]
  refine CC i x zs[i] _ _ hx e1 (sm _) ?_
  have hlen:(((zs.take i).filter p).map f).length<=1000000:=by
   rw[Vu];have:=List.length_filter_le p (zs.take i);rw[WA]at this;lia
  by_cases hp:p zs[i]=B?
  .rw[b! hp];refine Bz i x zs[i] _ _ hx e1 hp (sm _) ⟨_,ac,Nat.lt_of_le_of_lt hlen (by decide),By,?_⟩;rw[uQ,e2,b! hp,V3];rfl
  .rw[a! hp];refine⟨By,?_⟩;rw[e2,a! hp,Za]
theorem cF{te:TE}(zs:List α)(p:α->Bool)(f:α->V)(hS:SqL K H a xs)(hz:zs.length=xs.length)(hn:xs.length<=1000000)
 (CC:∀(i:Nat)x z H2(R:Bool->Hp->Prop),xs[i]?=A? x->zs[i]?=A? z->Same H H2->R (p z) H2->tt ((cσ js σ).set 0 (A? x)) H2 R)
 (Bz:∀(i:Nat)x z H2(R:VK),xs[i]?=A? x->zs[i]?=A? z->p z=B?->Same H H2->R (f z) H2->te ((cσ js σ).set 0 (A? x)) H2 R)
 (q:∀D,H D=AQ->fin D (upd H D (.lst ((zs.filter p).map f)))) :
 ∀D,H D=AQ->∃(n:Nat)(W:Nat->Hp->Prop),W 0 (upd H D (.lst []))/\fU js (av 0) tt te σ (Itl K a) D n W λH'=>fin D H' :=
 rm zs p f hz hn (λi H2 s hi=>⟨xs,xs[i],s.seq hS,Vw hi⟩) (λH2 s=>⟨xs,s.seq hS,VG _⟩) (λi H2 x H3 s hi hy=>⟨hy.1,hy.2 xs (s.seq hS)⟩) CC Bz q
theorem ej{te:TE}(zs:List α)(p:α->Bool)(f:α->V)(hS:SqT K H a xs)(hz:zs.length=xs.length)(hn:xs.length<=1000000)
 (CC:∀(i:Nat)x z H2(R:Bool->Hp->Prop),xs[i]?=A? x->zs[i]?=A? z->Same H H2->R (p z) H2->tt ((cσ js σ).set 0 (A? x)) H2 R)
 (Bz:∀(i:Nat)x z H2(R:VK),xs[i]?=A? x->zs[i]?=A? z->p z=B?->Same H H2->R (f z) H2->te ((cσ js σ).set 0 (A? x)) H2 R)
 (q:∀D,H D=AQ->fin D (upd H D (.lst ((zs.filter p).map f)))) :
 ∀D,H D=AQ->∃(n:Nat)(W:Nat->Hp->Prop),W 0 (upd H D (.lst []))/\fU js (av 0) tt te σ (Itt K a) D n W λH'=>fin D H' :=
 rm zs p f hz hn (λi H2 s hi=>⟨xs,xs[i],s.seqT hS,Vw hi⟩) (λH2 s=>⟨xs,s.seqT hS,VG _⟩) (λi H2 x H3 s hi hy=>⟨hy.1,hy.2 xs (s.seqT hS)⟩) CC Bz q
end L2
namespace BB
open PySem L2
theorem at0{x:α}{xs:List α}:atI (x::xs) 0=A? x:=bu (j:=0) rfl
theorem at1{x y:α}{xs:List α}:atI (x::y::xs) 1=A? y:=bu (j:=1) rfl
theorem at2{x y z:α}{xs:List α}:atI (x::y::z::xs) 2=A? z:=bu (j:=2) rfl
theorem at3{x y z u:α}{xs:List α}:atI (x::y::z::u::xs) 3=A? u:=bu (j:=3) rfl
theorem cr(x:V)(xs:List V):dw (x::xs) (A? 1) AQ=xs:=by
 unfold dw;simp[p!]
theorem dH:∀ts:List Th,ts.length<=au ts
 | []=>Wh _
 | t::ts=>by
   have:=t.size_pos;have:=dH ts;rw[VU,au];lia
theorem l9(ts:List Th):au ts.reverse=au ts:=by
 induction ts with
 |nil=>rfl
 |cons x xs ih=>rw[WZ,cf,ih,au,au,au];lia
theorem bp(h:n<=1000000):n<V4:=Nat.lt_of_le_of_lt h (by decide)
theorem cG(h:n<=1000000):n<=V4:=XH (bp h)
theorem lnE(h:Nat.ble n 1000000=B?):n<=V4:=cG (Nat.le_of_ble_eq_true h)
theorem uAE:(upd H a (.lst (as.map k!++[.ref b]))) a=A? (.lst ((as++[b]).map k!)):=by rw[ac,V3];rfl
theorem lbE{f:α->β}{l:List α}(h:l.length<=1000000):(l.map f).length<V4:=bp (by rw[Vu];exact h)
theorem int_at{k:Int}(h0:0<=k)(h:k<(ns.length:Int)):atI (ns.map o!) k=A? (.int (ns.getD k.toNat 0)):=by
 refine at_nonneg h0 ?_;have hk:k.toNat<ns.length:=by lia
 rw[VA,Vw hk,V0,Vw hk];rfl
def cellAt(ns:List Int)(k:Int):Int:=if k<(ns.length:Int)then ns.getD k.toNat 0%10 ^ 60 else 0
theorem mL(ns:List Int)(k:Int):0<=cellAt ns k:=by
 unfold cellAt;split
 .exact Wl _ (by decide)
 .exact Int.le_refl _
section
variable{F G:α->β->Prop}
theorem P2.append:∀{a c:List α}{b d:List β},Wc F a b->Wc F c d->Wc F (a++c) (b++d)
 |_,_,_,_,.nil,h=>h
 |_,_,_,_,.cons r t,h=>.cons r (P2.append t h)
theorem P2.get:∀{a:List α}{b:List β}{i:Nat}{x:α},Wc F a b->a[i]?=A? x->∃y,b[i]?=A? y/\F x y
 |_,_,_,_,.nil,e=>by simp at e
 |_,_,0,_,.cons r _,e=>by simp at e;subst e;exact⟨_,D?,r⟩
 | _,_,i+1,x,.cons _ t,e=>by
   obtain⟨u,h1,h2⟩:=P2.get (i:=i) (x:=x) t (by simpa using e);exact⟨u,by simpa using h1,h2⟩
theorem P2.get':∀{a:List α}{b:List β}{i:Nat}{y:β},Wc F a b->b[i]?=A? y->∃x,a[i]?=A? x/\F x y
 |_,_,_,_,.nil,e=>by simp at e
 |_,_,0,_,.cons r _,e=>by simp at e;subst e;exact⟨_,D?,r⟩
 | _,_,i+1,y,.cons _ t,e=>by
   obtain⟨u,h1,h2⟩:=P2.get' (i:=i) (y:=y) t (by simpa using e);exact⟨u,by simpa using h1,h2⟩
theorem P2.set{x:α}{y:β}(r:F x y):∀{a:List α}{b:List β}(i:Nat),Wc F a b->Wc F (a.set i x) (b.set i y)
 |_,_,_,.nil=>.nil
 |_,_,0,.cons _ t=>.cons r t
 |_,_,i+1,.cons h t=>.cons h (P2.set r i t)
theorem P2.take:∀{a:List α}{b:List β}(n:Nat),Wc F a b->Wc F (a.take n) (b.take n)
 |_,_,0,_=>.nil
 |_,_,_+1,.nil=>.nil
 |_,_,n+1,.cons r t=>.cons r (P2.take n t)
theorem P2.drop:∀{a:List α}{b:List β}(n:Nat),Wc F a b->Wc F (a.drop n) (b.drop n)
 |_,_,0,r=>r
 |_,_,_+1,.nil=>.nil
 |_,_,n+1,.cons _ t=>P2.drop n t
theorem P2.mp(f:∀x y,F x y->G x y):∀{a:List α}{b:List β},Wc F a b->Wc G a b
 |_,_,.nil=>.nil
 |_,_,.cons r t=>.cons (f _ _ r) (P2.mp f t)
end
def KAt(H:Hp)(k:V5×Int)(a:Vy):Prop:=H a=A? (.tup [.str k.1,.int k.2])
def KsAt(H:Hp)(ks:List (V5×Int))(as:List Vy):Prop:=Wc (KAt H) ks as
theorem KsAt.mono(k:KT H H'){ks:List (V5×Int)}(h:KsAt H ks as):KsAt H' ks as:=P2.mp (λx y e=>k _ _ e) h
def eQ(cell:Int):Int:=cell * 1000003+4421
structure gQ(ks:List (V5×Int)):Prop where
 ne:1<=ks.length
 le:ks.length<=6
 low:∀k∈ks,Low k.1/\k.1.length<=8
 num:∀k∈ks,0<=k.2/\k.2<=3
 zero:∃k∈ks,k.2=0
theorem uw(h:0<=cell):0<=eQ cell:=by unfold eQ;lia
end BB
open BB.P2 renaming mp->t!,get->u!,append->v!,get'->H!
namespace L2
open PySem
theorem aN{t u:TS}(R:St->Hp->Prop)(h1:∀k:St->Hp->Prop,(∀i' H',R i' H'->k i' H')->t {D with nx:=k} σ H)(h2:∀i' H',R i' H'->u D i' H'):w6 t u D σ H:=h1 _ h2
theorem cn{c:TT}{t u:TS}(R:Bool->Hp->Prop)(h1:∀k:Bool->Hp->Prop,(∀b H',R b H'->k b H')->c σ H k)(h2:∀H',R B? H'->t D σ H')(h3:∀H',R C? H'->u D σ H'):yl c t u D σ H :=
 h1 _ λb H' r=>by
  cases b with
  |true=>rw[b! rfl];exact h2 H' r
  |false=>rw[a! VY];exact h3 H' r
end L2
namespace BB
open PySem L2
mutual
def Th.Fit(ks:List (V5×Int)):Th->Prop
 |.knot n ts=>(n,(ts.length:Int))∈ks/\Fits ks ts
 |.call _ _=>False
def Fits(ks:List (V5×Int)):List Th->Prop
 | []=>True
 |t::ts=>t.Fit ks/\Fits ks ts
end
mutual
theorem Th.Fit.nms{ks:List (V5×Int)}(g:gQ ks):∀{t:Th},t.Fit ks->t.Nm 8
 | .knot n ts,h=>by
   rw[Th.Fit]at h;rw[Th.Nm];exact⟨(g.low _ h.1).2,Fits.nms g h.2⟩
 |.call _ _,h=>by rw[Th.Fit]at h;exact h.elim
theorem Fits.nms{ks:List (V5×Int)}(g:gQ ks):∀{ts:List Th},Fits ks ts->Nms 8 ts
 | [],_=>by rw[Nms];trivial
 | t::ts,h=>by
   rw[Fits]at h;rw[Nms];exact⟨Th.Fit.nms g h.1,Fits.nms g h.2⟩
end
theorem Fits.of{ks:List (V5×Int)}:∀{ts:List Th},(∀t∈ts,t.Fit ks)->Fits ks ts
 | [],_=>by rw[Fits];trivial
 | t::ts,h=>by
   rw[Fits];exact⟨h t (VO ..),Fits.of λu hu=>h u (VR _ hu)⟩
def EAt(ext:Th->List V)(H:Hp)(t:Th)(a:Vy):Prop:=∃b,H a=A? (.tup (.ref b::.int (t.tall:Nat)::.int (t.size:Nat)::ext t))/\At H t b
def EsAt(ext:Th->List V)(H:Hp)(ts:List Th)(es:List Vy):Prop:=Wc (EAt ext H) ts es
section
variable{ext:Th->List V}{t:Th}{ts:List Th}{es:List Vy}
theorem EAt.mono(k:KT H H')(h:EAt ext H t a):EAt ext H' t a:=by
 obtain⟨b,h1,h2⟩:=h;exact⟨b,k _ _ h1,h2.mono k⟩
theorem EsAt.mono(k:KT H H')(h:EsAt ext H ts es):EsAt ext H' ts es:=t! (λ_ _ e=>EAt.mono k e) h
theorem EsAt.at{x:V}{z:Th}(h:EsAt ext H ts es)(hx:(es.map k!)[i]?=A? x)(hz:ts[i]?=A? z):∃a b,x=.ref a/\es[i]?=A? a/\H a=A? (.tup (.ref b::.int (z.tall:Nat)::.int (z.size:Nat)::ext z))/\At H z b:=by
 obtain⟨a,e,b,h1,h2⟩:=u! h hz;rw[VA,e]at hx;exact⟨a,b,(VN hx).symm,e,h1,h2⟩
theorem oK:∀{ts:List Th}{es:List Vy},Wc (EAt ext H) ts es->∃bs,Ats H ts bs/\bs.length=es.length/\∀(i:Nat)x b,(es.map k!)[i]?=A? x->bs[i]?=A? b->∃a r,x=.ref a/\H a=A? (.tup (.ref b::r))
 |_,_,.nil=>⟨[],.nil,rfl,λi x b h=>by simp at h⟩
 | _,_,.cons (b:=e) (l₂:=es) r h=>by
   obtain⟨b,h1,h2⟩:=r;obtain⟨bs,g1,g2,g3⟩:=oK h;refine⟨b::bs,.cons h2 g1,by rw[VU,VU,g2],λi x c hx hc=>?_⟩;cases i with
   | zero =>
     simp at hx hc;subst hc;exact⟨e,_,hx.symm,h1⟩
   |succ i=>exact g3 i x c (by simpa using hx) (by simpa using hc)
end
theorem filter_tt(xs:List α):xs.filter (λ_=>B?)=xs:=by
 induction xs with
 |nil=>rfl
 |cons x xs ih=>rw[Zn,b! rfl,ih]
theorem dh:∀{ts:List Th}{t:Th},t∈ts->t.tall<=bw ts
 | u::ts,t,h=>by
   rw[bw];rcases VS.mp h with rfl|h
   .lia
   .have:=dh h;lia
theorem lZ:∀{ts:List Th},ts≠[]->∃t∈ts,t.tall=bw ts
 | [],h=>g! rfl h
 | [u],_=>⟨u,VO ..,by rw[bw,bw];lia⟩
 | u::v::ts,_=>by
   obtain⟨t,h1,h2⟩:=lZ (ts:=v::ts) (by simp);rw[bw];by_cases c:bw (v::ts)<=u.tall
   .exact⟨u,VO ..,by lia⟩
   .exact⟨t,VR _ h1,by lia⟩
theorem l7{ts:List Th}{M:Int}(h1:M∈ts.map λt=>((t.tall:Nat):Int))(h2:∀a∈ts.map (λt=>((t.tall:Nat):Int)),a<=M):M=((bw ts:Nat):Int):=by
 obtain⟨t,ht,rfl⟩:=VX.mp h1;have zk:ts≠[]:=λz=>by rw[z]at ht;cases ht
 obtain⟨u,hu,e⟩:=lZ zk;have a1:=h2 _ (VX.mpr ⟨u,hu,rfl⟩);have a2:=dh ht;show((t.tall:Nat):Int)=_;lia
theorem jk:∀ts:List Th,(ts.map λt=>((t.size:Nat):Int)).sum=((au ts:Nat):Int)
 | []=>rfl
 | t::ts=>by
   rw[V6,List.sum_cons,jk ts,au];lia
theorem ints_map(ts:List Th)(f:Th->Int):(ts.map λt=>o! (f t))=(ts.map f).map o!:=by rw[Wk];rfl
structure GT(ks:List (V5×Int))(top most:Int)(t:Th):Prop where
 fit:t.Fit ks
 tall:(t.tall:Int)<=top
 size:(t.size:Int)<=most
def cK(ks:List (V5×Int)):List (V5×Int):=ks.filter λk=>decide (o! k.2=o! 0)
theorem sG{ks:List (V5×Int)}(g:gQ ks):1<=(cK ks).length:=by
 obtain⟨k,hk,h0⟩:=g.zero;have:k∈cK ks:=Xy.mpr ⟨hk,by rw[h0];rfl⟩;exact List.length_pos_of_mem this
theorem qC{ks:List (V5×Int)}{top most:Int}(h1:1<=top)(h2:1<=most){k:V5×Int}(h:k∈cK ks):GT ks top most (.knot k.1 []):=by
 obtain⟨hk,h0⟩:=Xy.mp h;have e:k.2=0:=V.int.inj (e! h0);refine⟨?_,?_,?_⟩
 .rw[Th.Fit,Fits];refine⟨?_,trivial⟩
  have:k=(k.1,((([]:List Th).length:Nat):Int)):=by
   obtain⟨k1,k2⟩:=k;simp only at e;subst e;rfl
  rw[<-this];exact hk
 .rw[w!,bw];exact h1
 .rw[L!,au];exact h2
theorem rn{ks:List (V5×Int)}(g:gQ ks){i:Int}(h0:0<=i)(h1:i<((cK ks).length:Int)):∃k∈cK ks,atI ((cK ks).map λk=>D! k.1) i=A? (.str k.1)/\k.1≠q/\k.1.length<=8:=by
 have hi:i.toNat<(cK ks).length:=by lia
 refine⟨(cK ks)[i.toNat],WQ hi,at_nonneg h0 ?_,?_,?_⟩
 .rw[VA,Vw hi];rfl
 .exact oM (g.low _ (Xy.mp (WQ hi)).1).1
 .exact(g.low _ (Xy.mp (WQ hi)).1).2
theorem ss(h:n<=xs.length):dw xs (A? (n:Int)) AQ=xs.drop n:=by
 unfold dw;rw[x!,HT.sIx_none,Nat.min_eq_left h];exact WX (by rw[WO];exact VG _)
theorem take_snoc{xs:List α}{x:α}(h:xs[n]?=A? x):xs.take (n+1)=xs.take n++[x]:=by rw[Xu,h];rfl
theorem cD{xs:List Vy}{x:V}(h:(xs.map k!)[i]?=A? x):∃a,x=.ref a/\xs[i]?=A? a:=by
 rw[VA]at h;obtain⟨a,h1,h2⟩:=V1.mp h;exact⟨a,h2.symm,h1⟩
end BB
open BB.Th renaming Fit->A!
namespace PySem
open Sem (wp)
theorem bb_tupNext{cur:Vy}{x:Vz}(g:s.1.IsTupleIter cur tp i)(gt:s.1.IsTuple tp items)(hx:items[i]?=A? x)
 (fin:∀h',h'.IsTupleIter cur tp (i+1)->W3 cur s.1 h'->Q x {s with heap:=h'}):VW (Wb prog w) A (WD (.ref cur)) Q E s:=by
 obtain⟨ob,e1,e2,e3⟩:=id g;obtain⟨ot,e4,_,nt,e5⟩:=gt;unfold WD;refine Vv (WJ (name:=VE "__next__") g.typeIs Y3 (WM Y3 g.typeIs F.entry_tuple_iterator_next ?_ (F.args_tuple_iterator_next_1 _)));show VW _ _ (field (.ref cur) 0 >>= _) _ _ s;refine Vv (WE e1 e3 (x:=.ref tp) rfl ?_);show VW _ _ (if(Wf tp == W7)=B? then _ else _) _ _ s;rw[a! (show¬((Wf tp == W7)=B?)from VY)];show VW _ _ (field (.ref cur) 1 >>= _) _ _ s;refine Vv (WE e1 e3 (x:=.int i 0) rfl ?_);show VW _ _ (seqItems? (.ref tp) >>= _) _ _ s;refine Vv (Xc e4 e5 ?_);simp only[VQ,hx];refine Vv (wpAny_setField e1 e3 (by simp) (VC ⟨x,rfl,VC (fin _ ?_ (Xb ..))⟩));exact⟨_,WU _ e1 (Obj.isFreed_of_fields (Obj.data_mapFields e3 _)),(Obj.cls_mapFields ..).trans e2,by rw[Obj.data_mapFields e3];simp[XX]⟩
theorem bb_tupEnd{cur:Vy}(calm:A.handled=AQ)(g:s.1.IsTupleIter cur tp i)(gt:s.1.IsTuple tp items)(hx:items[i]?=AQ)
 (fin:∀h' e,Heap.ExtBut cur s.1 h'->(∃o,h'.get? e=A? o/\o.cls=.type "StopIteration")->E (.ref e) {s with heap:=h'}):VW (Wb prog w) A (WD (.ref cur)) Q E s:=by
 obtain⟨ob,e1,e2,e3⟩:=id g;obtain⟨ot,e4,_,nt,e5⟩:=gt;unfold WD;refine Vv (WJ (name:=VE "__next__") g.typeIs Y3 (WM Y3 g.typeIs F.entry_tuple_iterator_next ?_ (F.args_tuple_iterator_next_1 _)));show VW _ _ (field (.ref cur) 0 >>= _) _ _ s;refine Vv (WE e1 e3 (x:=.ref tp) rfl ?_);show VW _ _ (if(Wf tp == W7)=B? then _ else _) _ _ s;rw[a! (show¬((Wf tp == W7)=B?)from VY)];show VW _ _ (field (.ref cur) 1 >>= _) _ _ s;refine Vv (WE e1 e3 (x:=.int i 0) rfl ?_);show VW _ _ (seqItems? (.ref tp) >>= _) _ _ s;refine Vv (Xc e4 e5 ?_);simp only[VQ,hx];refine Vv (ZF (Vv (wpAny_setField e1 e3 (by simp) ?_)));show VW _ _ (newExc (.type "StopIteration") [] >>= _) _ _ _;refine Vv ?_;simp only[newExc,newTuple];refine Vv (WC ?_ (by size_fits));refine Vv (m:=Zu _ _) (wpAny_of_eq (a:=W7) (by first|rfl|(simp only[Zu];rfl)) ?_);refine WC ?_ (by size_fits);simp only[raiseNew];refine Vv (wpAny_handled ?_)
 first|rw[show A.in1.handled=AQ from calm]|rw[calm]
 refine Vv (VC (wpAny_throw ?_));exact fin _ _ (((Xb ..).extBut.push _).push _) ⟨_,VI _ rfl,rfl⟩
theorem bb_drawsT(calm:A.handled=AQ)(cur tp:Vy)(ne:tp≠cur)(items:Array Vz) :
 Draws prog w A cur [cur,tp] items.size (λi v=>items[i]?=A? v) (λi h=>h.IsTupleIter cur tp i/\h.IsTuple tp items) where
 live:=λ_ _ st=>let⟨o,e,_⟩:=st.1;⟨o,e⟩
 frame:=λ_ _ _ st k=>⟨let⟨o,e,r⟩:=st.1;⟨o,k cur (by simp) o e,r⟩,let⟨o,e,r⟩:=st.2;⟨o,k tp (by simp) o e,r⟩⟩
 item:=λi s Q E hi st q=>by
  refine bb_tupNext st.1 st.2 (x:=items[i]) (by simp[hi]) λh' g' sb=>?_;exact q _ h' s.toks (by simp[hi]) ⟨g',st.2.extBut sb.extBut ne⟩ sb
 done:=λs Q E st e=>bb_tupEnd calm st.1 st.2 (by simp) e
theorem bb_meetsEnumT(tp:Vy)(items:Array Vz)(n:Nat)(LK:Option Vy)(sl:Array (Option Vz)) :
 Meets (YC.«enumerate.__new__» ⟨[.type "enumerate",.ref tp],[]⟩) (λ_ R s=>s.1.get? tp=A? {cls:=.type "tuple",dict:=LK,data:=.seq items n,slots:=sl} /\
  R (.ok (.ret (.ref (s.1.push {cls:=.type "tuple_iterator",data:=.fields #[.ref tp,.int 0 0]}).objs.size)))
    {s with heap:=(s.1.push {cls:=.type "tuple_iterator",data:=.fields #[.ref tp,.int 0 0]}).push {cls:=.type "enumerate",data:=.fields #[.none,.bool C?,.ref s.1.1.size,XX 0,.none,.none]}}) :=
 .of_wp λprog w A R s h=>by
  obtain⟨hp,g,d,tk,os⟩:=s;obtain⟨gt,fin⟩:=h;have su:=sub_enumerate;have gT:Heap.IsTuple (Shared.heap ⟨hp,g,d,tk,os⟩) tp items:=⟨_,gt,rfl,n,rfl⟩
  wp_walk using XW gt
  refine wpAny_stack_any λst=>VC ?_;split
  .rename_i c _ _ _ _ _
   cases(c == YS "enumerate")
   .wp_walk using XW gt,YR gT
    exact⟨_,D?,fin⟩
   .wp_walk using XW gt,YR gT
    exact⟨_,D?,fin⟩
  .wp_walk using XW gt,YR gT
   exact⟨_,D?,fin⟩
theorem bb_callEnumT(gT:s.1.IsTuple tp items)
 (fin:∀h',IsEnum h' (s.1.1.size+1) s.1.1.size 0 .none->h'.IsTupleIter s.1.1.size tp 0->h'.objs.size=s.1.1.size+2 ->
  (∀b o,s.1.get? b=A? o->h'.get? b=A? o)->Q (.ref (s.1.1.size+1)) {s with heap:=h'}):VW (Wb prog w) A (call (.type "enumerate") [.ref tp]) Q E s:=by
 obtain⟨⟨c,LK,dt,sl⟩,e1,e2,n,e3⟩:=gT;replace e2:c=.type "tuple":=e2;replace e3:dt=.seq items n:=e3;subst e2 e3;refine callType_new F.called_enumerate (by decide) (F.typeCall_enumerate_1 _) (F.newCall_enumerate_1 _) (λobj=>F.args_object_init_2 obj _) F.entry_enumerate_new (bb_meetsEnumT tp items n LK sl) ⟨e1,?_⟩;have z:(s.1.push {cls:=.type "tuple_iterator",data:=.fields #[.ref tp,.int 0 0]}).objs.size=s.1.1.size+1:=WY ..;show _/\_;rw[z]
 have ge:IsEnum ((s.1.push {cls:=.type "tuple_iterator",data:=.fields #[.ref tp,.int 0 0]}).push {cls:=.type "enumerate",data:=.fields #[.none,.bool C?,.ref s.1.1.size,XX 0,.none,.none]}) (s.1.1.size+1) s.1.1.size 0 .none:=by
  have t:=VI (s.1.push {cls:=.type "tuple_iterator",data:=.fields #[.ref tp,.int 0 0]}) (o:={cls:=.type "enumerate",data:=.fields #[.none,.bool C?,.ref s.1.1.size,XX 0,.none,.none]}) rfl;rw[z]at t;exact t
 exact⟨⟨_,ge,D?⟩,fin _ ge ⟨_,VB _ (VI _ rfl),D?,D?⟩ (by rw[WY,z]) λb o x=>VB _ (VB _ x)⟩
end PySem
namespace L2
open PySem PySem.Spec PyProof.Rows
theorem Inv.turnedL{X:Cx}(I:Inv X Y σ H s)(k:∀b o,b∉fp->s.1.get? b=A? o->h'.get? b=A? o)(hf:∀b∈fp,FpOk X Y H b) :
 Inv X Y σ H {s with heap:=h',toks:=t'}:=by
 have Hq:∀b u,H b=A? u->b∉fp:=λb u e z=>by rw[(hf b z).1]at e;cases e
 refine I.step (g':=s.gens) (d':=s.drawn) (ch:=fp) (λb hb=>?_) (λb o _ _ hc e _=>k b o hc e) (λb o _ _ hc e _=>⟨o.slots,k b o hc e⟩) (λ_ _ _ _ n=>n)
  (λb o hc e=>⟨o,k b o hc e⟩) (λ_ _ e=>e) (λ_ _ _ e=>e) (λb ps e=>⟨#[],by rw[e];simp⟩) (λm hm=>?_) (λb u e=>?_) I.bare
 .obtain⟨f0,f1,f2,f3,f4,f5⟩:=hf b hb;exact⟨f3,f1,f4,f5⟩
 .obtain⟨o,es,ep,ho,r⟩:=hm;exact⟨o,es,ep,k _ o (λz=>(hf _ z).2.1 rfl) ho,r⟩
 .refine(I.hok b u e).stay (λc v hc q=>k c v ?_ q) (λ_ q=>q) λ_ _ q=>q;rcases hc with z|z
  .rw[z];exact Hq b u e
  .exact Hq c _ z
def Ite(K:VD)(a:Vy):It:=⟨λi H=>∃xs x,SqT K H a xs/\xs[i]?=A? x,λi H x H'=>∃p y,H p=AQ/\x=.ref p/\H'=upd H p (.tup [.int (i:Nat),y])/\∀xs,SqT K H a xs->xs[i]?=A? y,λi H=>∃xs,SqT K H a xs/\xs.length=i⟩
theorem r6{k1}(a e it:Vy):Turn P w K (.Tuple elts k1 pos) (Ite K a) [e,it] e (λi h=>(∃old,IsEnum h e it ((i:Nat):Int) old)/\h.IsTupleIter it a i) where
 mem:=by simp
 obj:=λi h st b hb=>by
  obtain⟨⟨old,he⟩,o,e1,e2,e3⟩:=st;rcases VS.mp hb with rfl|hb
  .exact⟨_,he,λv z=>by cases z⟩
  .have:b=it:=by simpa using hb
   subst this;exact⟨o,e1,λv z=>by rw[e3]at z;cases z⟩
 keep:=λi h h' st k=>by
  obtain⟨⟨old,he⟩,o,e1,e2⟩:=st;exact⟨⟨old,k e (by simp) _ he⟩,o,k it (by simp) _ e1,e2⟩
 item:=by
  intro X hP hw hK hc i Y s σ H E I hf st hg;subst hP hw hK;obtain⟨xs,x,hq,hx⟩:=hg;obtain⟨its,rv,p,hz⟩:=I.tuple hq;obtain⟨u,hu,ru⟩:=rv.get hx;obtain⟨⟨old,he⟩,hi⟩:=st
  have Fp:e≠it:=by
   rintro rfl;obtain⟨o,e1,e2,_⟩:=hi;rw[he]at e1;cases e1;exact g! (Xo e2) (by decide)
  have Ed:a≠it:=by
   rintro rfl;obtain⟨o,e1,e2,_⟩:=hi;obtain⟨o',CD,B3,_⟩:=p;rw[CD]at e1;cases e1;rw[B3]at e2;exact g! (Xo e2) (by decide)
  have LL:a≠e:=by
   rintro rfl;obtain⟨o',CD,B3,_⟩:=p;rw[he]at CD;cases CD;exact g! (Xo B3) (by decide)
  have yZ:i<its.toArray.size:=by
   have:=(glE hu);simpa using this
  have CF:e<s.1.1.size:=V2 he;have Ab:it<s.1.1.size:=by obtain⟨o,e1,_⟩:=hi;exact V2 e1
  refine wpAny_pyNext_enum_itemD (bb_drawsT (A:=X.A.in1) (show X.A.in1.handled=AQ from I.ok.hd hc) it a Ed its.toArray) he ⟨hi,p⟩ yZ Fp (by simp[Fp,LL.symm]) λy h1 tk hy ho LM hT hsz hk=>?_
  have LN:y=u:=by
   have:its[i]?=A? y:=by simpa using hy
   rw[hu]at this;exact(VN this).symm
  subst LN;refine⟨_,D?,wpAny_letOwnedTupleGo_enum ho λh2 LO Dc=>?_⟩;replace Dc:W3 e h1 h2:=Dc
  have zk:∀b∈[e,it],b<s.1.1.size:=λb hb=>by
   rcases VS.mp hb with rfl|hb
   .exact CF
   .have:b=it:=by simpa using hb
    subst this;exact Ab
  have Fq:H s.1.1.size=none:=I.hok.fresh (VG _)
  have IA:Inv X Y σ (upd H s.1.1.size (.tup [.int (i:Nat),x])) {s with heap:=s.1.push {cls:=.type "tuple",data:=.seq #[.int (i:Nat) tk,y]},toks:=tk} :=
   I.laid (o:=.tup [.int (i:Nat),x]) (λb ob q=>VB _ q) (VG _) ⟨by show 2<=V4;decide,[.int (i:Nat) tk,y],0,.cons ⟨tk,rfl⟩ (.cons ru .nil),VI _ rfl⟩
  refine⟨.ref s.1.1.size,upd H s.1.1.size (.tup [.int (i:Nat),x]),?_,D?,⟨_,x,Fq,D?,D?,λys Cn=>by rw[I.tuple_inj Cn hq];exact hx⟩,⟨⟨y,by simpa using LO⟩,?_⟩,λb hb=>?_⟩
  .have IB:Inv X Y σ (upd H s.1.1.size (.tup [.int (i:Nat),x])) {s with heap:=h2,toks:=tk+1}:=by
    refine Inv.turnedL (s:={s with heap:=s.1.push {cls:=.type "tuple",data:=.seq #[.int (i:Nat) tk,y]},toks:=tk}) (h':=h2) (fp:=[e,it]) (t':=tk+1) IA (λb o hb q=>?_) λb hb=>?_
    .have CA:b≠e:=λz=>hb (by simp[z]);have HN:b≠it:=λz=>hb (by simp[z]);rw[Dc.2 b CA];by_cases hb2:b=s.1.1.size
     .subst hb2;rw[hT];have q':(s.1.push {cls:=.type "tuple",data:=.seq #[.int (i:Nat) tk,y]}).get? s.1.1.size=A? o:=q;rw[VI _ rfl]at q';exact q'
     .have AF:b<(s.1.push {cls:=.type "tuple",data:=.seq #[.int (i:Nat) tk,y]}).objs.size:=V2 q;rw[WY]at AF;refine hk b o CA HN ?_;have q':(s.1.push {cls:=.type "tuple",data:=.seq #[.int (i:Nat) tk,y]}).get? b=A? o:=q;rw[Heap.get?_push_ne _ _ _ hb2]at q';exact q'
    .obtain⟨f0,f1⟩:=hf b hb;exact⟨by rw[af (We (zk b hb))];exact f0,f1⟩
   exact IB
  .obtain⟨o,e1,r⟩:=LM.1;exact⟨o,(Dc.2 it (XC Fp)).trans e1,r⟩
  .rw[af (We (zk b hb))];exact(hf b hb).1
 done:=by
  intro X hP hw hK hc i Y s σ H E I hf st hg;subst hP hw hK;obtain⟨xs,hq,hx⟩:=hg;obtain⟨its,rv,p,hz⟩:=I.tuple hq;obtain⟨⟨old,he⟩,hi⟩:=st
  have Ed:a≠it:=by
   rintro rfl;obtain⟨o,e1,e2,_⟩:=hi;obtain⟨o',CD,B3,_⟩:=p;rw[CD]at e1;cases e1;rw[B3]at e2;exact g! (Xo e2) (by decide)
  have hn:its.toArray.size=i:=by
   have:=rv.length;rw[VM];lia
  refine wpAny_pyNext_enum_endD (bb_drawsT (A:=X.A.in1) (show X.A.in1.handled=AQ from I.ok.hd hc) it a Ed its.toArray) he (by rw[hn];exact⟨hi,p⟩) λh' eb=>⟨rfl,?_⟩;exact I.turnedL (fp:=[e,it]) (t':=s.toks) (λb o hb q=>eb b o (λz=>hb (by simp[z])) q) hf
 self:=λ_ _ _ _ _ st h=>by
  obtain⟨⟨old,he⟩,_⟩:=st;exact wpAny_pyIter_enum he h
section
variable{X:Cx}{te:TE}{p2 zq:YF}
def xE(K:VD)(tl:TE):TI:=λσ H R=>tl σ H λx H1=>∃a,x=.ref a/\(∃xs,SqT K H1 a xs)/\R (Ite K a) H1
theorem vD{k1}(g2:Gl X "enumerate")(m2:X.mg "enumerate"=AQ)(he:PE X e te)(h2:Wu [e] X.env=[(C?,XD e X.env)]:=by rfl):PI X (.Tuple elts k1 pos) (.Call (.Name "enumerate" p2) [e] [] zq) (xE X.K te):=by
 intro Y s σ H R I h;refine W2 (dz I g2 m2 boot_enumerate (WW ?_ h2 rfl));rw[h2];show VW _ _ (spliced ((C?,XD e X.env)::[])) _ _ s;refine XE (thn (he Y s σ H _ I h) λu s1⟨x,H1,I1,r1,a,ex,⟨xs,hq⟩,q⟩=>X1 ?_);subst ex;cases r1;obtain⟨its,rv,p,hz⟩:=I1.tuple hq;refine bb_callEnumT (show s1.1.IsTuple a its.toArray from p) λh' g1 g2 g3 g4=>?_;refine wpAny_pyIter_enum (s:={s1 with heap:=h'}) g1 ?_;refine⟨s1.1.1.size+1,[s1.1.1.size+1,s1.1.1.size],_,_,H1,D?,I1.kept (t':=s1.toks) g4,r6 a _ _,⟨⟨_,g1⟩,g2⟩,λb hb=>?_,q⟩
 have zB:s1.1.1.size<=b:=by
  rcases VS.mp hb with rfl|hb
  .lia
  .have:b=s1.1.1.size:=by simpa using hb
   exact Nat.le_of_eq this.symm
 exact I1.fpOk zB (I1.hok.fresh zB)
inductive t5(K:VD)(x:V)(y:V)(H:Hp)(Q:VK):Prop
 |mk (a:_) (b:_) (xs:_) (ys:_) (AS:x=.ref a) (AU:y=.ref b) (Cj:SqT K H a xs) (D8:SqT K H b ys) (GB:xs.length+ys.length<=V4) (QN:(xs=[]->Q (.ref b) H)) (UP:(xs≠[]->ys=[]->Q (.ref a) H)) (UQ:(xs≠[]->ys≠[]->∀p,H p=AQ->Q (.ref p) (upd H p (.tup (xs++ys))))):t5 K x y H Q
def we(K:VD):R2:=t5 K
theorem eN:OpR X (Yr .Add) (we X.K):=by
 intro Y s σ H x y v u Q I rx ry h;obtain⟨a,b,xs,ys,e1,e2,ha,hb,hz,q0,q1,q2⟩:=h;by_cases hx:xs=[]
 .subst e1 e2;cases rx;cases ry;obtain⟨its,r1,p1,_⟩:=I.tuple ha;obtain⟨zc,r2,p2,_⟩:=I.tuple hb;have hi:its=[]:=r1.nil_iff.mpr hx;obtain⟨⟨cls,dd,data,sl⟩,ho,hc,n,hd⟩:=p1;obtain⟨⟨Ea,Ck,data2,Cm⟩,CB,AX,n2,hd2⟩:=p2;simp only at hc hd AX hd2;subst hc hd AX hd2;exact concat_meets ⟨_,ho,rfl⟩ ⟨_,CB,rfl⟩ noFill_tuple_add seq_tuple_add PySem.F.slot_tuple_add PySem.F.entry_tuple_add (Z8 _ _) (tuple_addW0 a b its.toArray zc.toArray n n2 dd Ck sl Cm (by simp[hi])) ⟨ho,CB,⟨.ref b,H,I,rfl,q0 hx⟩⟩
 .exact m9 Y s σ H x y v u Q I rx ry ⟨a,b,xs,ys,e1,e2,ha,hb,hx,hz,q1 hx,q2 hx⟩
end
end L2
namespace PySem
open Sem (wp)
abbrev tzH1(h:WS)(l1:Vy):WS:=h.push {cls:=.type "tuple_iterator",data:=.fields #[.ref l1,.int 0 0]}
abbrev tzH2(h:WS)(l1 l2:Vy):WS:=(tzH1 h l1).push {cls:=.type "tuple_iterator",data:=.fields #[.ref l2,.int 0 0]}
abbrev tzH3(h:WS)(l1 l2:Vy):WS:=(tzH2 h l1 l2).push {cls:=.type "tuple",data:=.seq #[.ref h.objs.size,.ref (tzH1 h l1).objs.size]}
abbrev tzH4(h:WS)(l1 l2:Vy):WS:=(tzH3 h l1 l2).push {cls:=.type "tuple",data:=.seq #[.none,.none]}
abbrev tzH5(h:WS)(l1 l2:Vy):WS:=(tzH4 h l1 l2).push {cls:=.type "zip",data:=.fields #[.none,.bool C?,.bool C?,.ref (tzH2 h l1 l2).objs.size,.ref (tzH3 h l1 l2).objs.size]}
theorem IsTuple.push'{xs:Array Vz}(x:h.IsTuple l xs)(o:Xw):(h.push o).IsTuple l xs:=let⟨ob,e,r⟩:=x;⟨ob,VB _ e,r⟩
theorem bb_meets_zip(l1 l2:Vy)(xs ys:Array Vz) :
 Meets (YC.«zip.__new__» ⟨[.type "zip",.ref l1,.ref l2],[]⟩) (λ_ R s=>s.1.IsTuple l1 xs/\s.1.IsTuple l2 ys /\
  R (.ok (.ret (.ref (tzH4 s.1 l1 l2).objs.size))) {s with heap:=tzH5 s.1 l1 l2}) :=
 .of_wp λprog w A R s h=>by
  obtain⟨hp,g,d,tk,os⟩:=s;obtain⟨Bd,Ae,h⟩:=h;have Ay:=sub_zip;have Q6:Heap.IsTuple (Shared.heap ⟨hp,g,d,tk,os⟩) l1 xs:=Bd;have Q7:Heap.IsTuple (Shared.heap ⟨hp.push {cls:=.type "tuple_iterator",data:=.fields #[.ref l1,.int 0 0]},g,d,tk,os⟩) l2 ys:=IsTuple.push' Ae _
  wp_walk using YR Q6,YR Q7
  exact⟨_,D?,h⟩
theorem bb_call_zip{xs:Array Vz}(Bd:s.1.IsTuple l1 xs)(Ae:s.1.IsTuple l2 ys)
 (h:∀h',IsZip h' (s.1.1.size+4) (s.1.1.size+2) (s.1.1.size+3) .none->Yl h' (s.1.1.size+2) (.ref s.1.1.size) (.ref (s.1.1.size+1)) ->
  Yl h' (s.1.1.size+3) .none .none->h'.IsTupleIter s.1.1.size l1 0->h'.IsTupleIter (s.1.1.size+1) l2 0->h'.objs.size=s.1.1.size+5 ->
  (∀c o,s.1.get? c=A? o->h'.get? c=A? o)->Q (.ref (s.1.1.size+4)) {s with heap:=h'}) :
 VW (Wb prog w) A (call (.type "zip") [.ref l1,.ref l2]) Q E s:=by
 refine callType_new F.called_zip (by decide) (F.typeCall_zip_2 _ _) (F.newCall_zip_2 _ _) (λobj=>F.args_object_init_3 obj _ _) F.entry_zip_new
  (bb_meets_zip l1 l2 xs ys) ⟨Bd,Ae,?_⟩
 have z1:(tzH1 s.1 l1).objs.size=s.1.1.size+1:=WY ..;have z2:(tzH2 s.1 l1 l2).objs.size=s.1.1.size+2:=by rw[WY,z1]
 have z3:(tzH3 s.1 l1 l2).objs.size=s.1.1.size+3:=by rw[WY,z2]
 have z4:(tzH4 s.1 l1 l2).objs.size=s.1.1.size+4:=by rw[WY,z3]
 have z5:(tzH5 s.1 l1 l2).objs.size=s.1.1.size+5:=by rw[WY,z4]
 have g5:(tzH5 s.1 l1 l2).get? (tzH4 s.1 l1 l2).objs.size=A? _:=VI _ rfl;have g4:(tzH5 s.1 l1 l2).get? (tzH3 s.1 l1 l2).objs.size=A? _:=VB _ (VI _ rfl);have g3:(tzH5 s.1 l1 l2).get? (tzH2 s.1 l1 l2).objs.size=A? _:=VB _ (VB _ (VI _ rfl));have g2:(tzH5 s.1 l1 l2).get? (tzH1 s.1 l1).objs.size=A? _:=VB _ (VB _ (VB _ (VI _ rfl)));have g1:(tzH5 s.1 l1 l2).get? s.1.1.size=A? _:=VB _ (VB _ (VB _ (VB _ (VI _ rfl))));show _/\_;rw[z2,z3,z4]at g5;rw[z1,z2]at g3;rw[z3]at g4;rw[z1]at g2;rw[z4]
 exact⟨⟨_,g5,D?⟩,h _ g5 g3 g4 ⟨_,g1,D?,D?⟩ ⟨_,g2,D?,D?⟩ z5 λc o x =>
  VB _ (VB _ (VB _ (VB _ (VB _ x))))⟩
structure ZSt(xs ys:Array Vz)(z TI TO i1 i2 l1 l2:Vy)(k:Nat)(h:WS):Prop where
 ap:ZipApart z TI TO i1 i2 l1 l2
 zip:IsZip h z TI TO .none\/∃(T:Vy)(b:Bool)(x y:Vz),h.get? z=A? {cls:=.type "zip",data:=.fields #[XX T,.bool b,.bool C?,.ref TI,.ref TO]}/\Yl h T x y/\T≠TO
 hTI:Yl h TI (.ref i1) (.ref i2)
 hTO:∃a b,Yl h TO a b
 h1:h.IsTupleIter i1 l1 k
 h2:h.IsTupleIter i2 l2 k
 t1:h.IsTuple l1 xs
 t2:h.IsTuple l2 ys
theorem ZSt.typeIs{xs:Array Vz}{TI TO:Vy}{k:Nat}(x:ZSt xs ys z TI TO i1 i2 l1 l2 k s.1):s.TypeIs (.ref z) "zip":=by
 rcases x.zip with e|⟨T,b,u,v,e,_⟩
 .exact⟨_,e,D?⟩
 .exact⟨_,e,D?⟩
theorem IsTuple.but{xs:Array Vz}(x:h.IsTuple l xs)(e:Heap.ExtBut c h h')(n:l≠c):h'.IsTuple l xs:=let⟨ob,q,r⟩:=x;⟨ob,e _ _ n q,r⟩
theorem IsTupleIter.but{i:Vy}{k:Nat}(x:h.IsTupleIter i l k)(e:Heap.ExtBut c h h')(n:i≠c):h'.IsTupleIter i l k:=let⟨ob,q,r⟩:=x;⟨ob,e _ _ n q,r⟩
theorem ZSt.frame{xs:Array Vz}{TI TO:Vy}{k:Nat}(x:ZSt xs ys z TI TO i1 i2 l1 l2 k h)
 (e:∀b o,o.cls≠.type "list"->h.get? b=A? o->h'.get? b=A? o):ZSt xs ys z TI TO i1 i2 l1 l2 k h':=by
 obtain⟨D,hz,hTI,⟨a,b,hTO⟩,⟨o1,a1,a2,a3⟩,⟨o2,b1,b2,b3⟩,⟨o3,c1,c2,c3⟩,⟨o4,d1,d2,d3⟩⟩:=x;refine⟨D,?_,e _ _ (by simp) hTI,⟨a,b,e _ _ (by simp) hTO⟩,⟨o1,e _ _ (by rw[a2];simp) a1,a2,a3⟩,⟨o2,e _ _ (by rw[b2];simp) b1,b2,b3⟩,⟨o3,e _ _ (by rw[c2];simp) c1,c2,c3⟩,⟨o4,e _ _ (by rw[d2];simp) d1,d2,d3⟩⟩;rcases hz with g|⟨T,b,u,v,g,g2,g3⟩
 .exact .inl (e _ _ (by simp) g)
 .exact .inr ⟨T,b,u,v,e _ _ (by simp) g,e _ _ (by simp) g2,g3⟩
open Sem (wp)
theorem bb_zip_itemA{TI TO:Vy}{k:Nat}{xs:Array Vz}{x y a b:Vz}(D:ZipApart z TI TO i1 i2 l1 l2)
 (hz:IsZip s.1 z TI TO .none) (hTI:Yl s.1 TI (.ref i1) (.ref i2)) (hTO:Yl s.1 TO a b)
 (h1:s.1.IsTupleIter i1 l1 k) (h2:s.1.IsTupleIter i2 l2 k) (Bd:s.1.IsTuple l1 xs) (Ae:s.1.IsTuple l2 ys) (hx:xs[k]?=A? x) (hy:ys[k]?=A? y)
 (hQ:∀h',IsZip h' z TI TO (XX s.1.1.size)->Yl h' TO x y->h'.IsTupleIter i1 l1 (k+1)->h'.IsTupleIter i2 l2 (k+1)->Yl h' s.1.1.size x y->h'.objs.size=s.1.1.size+1 ->
  (∀c o,c≠z->c≠TO->c≠i1->c≠i2->s.1.get? c=A? o->h'.get? c=A? o)->Q (.ref s.1.1.size) {s with heap:=h'}) :
 VW (Wb prog w) A (YC.«zip.__next__» ⟨[.ref z],[]⟩) (λfin s'=>∃v,fin=.done (.ret v)/\Q v s') E s:=by
 show VW _ _ (field (.ref z) 2 >>= _) _ _ _;refine Vv (WE hz rfl (x:=.bool C?) rfl ?_);show VW _ _ (field (.ref z) 3 >>= _) _ _ _;refine Vv (WE hz rfl (x:=.ref TI) rfl ?_);refine Vv (Xc hTI rfl ?_);show VW _ _ (WK (.ref z) >>= _) _ _ _;refine Vv ?_;unfold WK;refine Vv (WE hz rfl (x:=.none) rfl (VC ?_));simp only[if_true];refine Vv (ZF ?_);refine Vv (WE hz rfl (x:=.ref TO) rfl ?_);refine Vv (XN hz (by simp) λze zH yX=>?_);replace zH:IsZip ze z TI TO .ellipsis:=zH;refine Vv ?_;simp only[List.zipIdx_cons,List.zipIdx_nil,Y8,List.forIn_nil];refine Vv (Vv (wpAny_onRaise ?_));show VW _ _ (WD (.ref i1) >>= _) _ _ _;refine Vv (bb_tupNext (IsTupleIter.but h1 yX.extBut D.i1z) (IsTuple.but Bd yX.extBut D.l1z) hx λzY BA y9=>VC ?_);have Az:Yl zY TO a b:=y9.extBut _ _ D.TOi1 (yX.extBut _ _ D.TOz hTO);refine Vv (Xc Az rfl ?_);refine Vv (wpAny_updateSeq_pair Az λBx Be zE=>?_);replace Be:Yl Bx TO x b:=Be;refine Vv (Yq (VC ?_));refine Vv (Vv (wpAny_onRaise ?_));show VW _ _ (WD (.ref i2) >>= _) _ _ _
 refine Vv (bb_tupNext (IsTupleIter.but (IsTupleIter.but (IsTupleIter.but h2 yX.extBut D.i2z) y9.extBut D.i12.symm) zE.extBut D.TOi2.symm)
  (IsTuple.but (IsTuple.but (IsTuple.but Ae yX.extBut D.l2z) y9.extBut D.l2i1) zE.extBut D.l2TO) hy λzL Dd zw=>VC ?_)
 have De:Yl zL TO x b:=zw.extBut _ _ D.TOi2 Be;refine Vv (Xc De rfl ?_);refine Vv (wpAny_updateSeq_pair De λzM Bf Ak=>?_);replace Bf:Yl zM TO x y:=Bf;refine Vv (Yq (VC (VC ?_)));refine Vv (Xc Bf rfl ?_);refine Vv (wpAny_newTuple ?_);have hsz:zM.objs.size=s.1.1.size:=by rw[Ak.1,zw.1,zE.1,y9.1,yX.1]
 have EK:IsZip zM z TI TO .ellipsis:=Ak.extBut _ _ D.TOz.symm (zw.extBut _ _ D.i2z.symm (zE.extBut _ _ D.TOz.symm (y9.extBut _ _ D.i1z.symm zH)))
 have HP:∀c o,c≠z->c≠TO->c≠i1->c≠i2->s.1.get? c=A? o->zM.get? c=A? o:=λc o c1 c2 c3 c4 e =>
  Ak.extBut _ _ c2 (zw.extBut _ _ c4 (zE.extBut _ _ c2 (y9.extBut _ _ c3 (yX.extBut _ _ c1 e))))
 have HQ:zM.IsTupleIter i1 l1 (k+1):=IsTupleIter.but (IsTupleIter.but (IsTupleIter.but BA zE.extBut D.TOi1.symm) zw.extBut D.i12) Ak.extBut D.TOi1.symm;have HR:zM.IsTupleIter i2 l2 (k+1):=IsTupleIter.but Dd Ak.extBut D.TOi2.symm;have HS:z<zM.objs.size:=V2 EK;show VW _ _ (Builtin.SmallTypes.ownedTupleHandOut (.ref z) (.ref zM.objs.size) >>= _) _ _ _;refine Vv ?_;unfold Builtin.SmallTypes.ownedTupleHandOut;have HU:IsZip (zM.push {cls:=.type "tuple",data:=.seq #[x,y]}) z TI TO .ellipsis:=VB _ EK;refine Vv (XN HU (by simp) λLP Df Dg=>?_);replace Df:IsZip LP z TI TO (XX zM.objs.size):=Df;refine XN Df (by simp) λDh Co Di=>?_;replace Co:IsZip Dh z TI TO (XX zM.objs.size):=Co;have up:∀c o,c≠z->zM.get? c=A? o->Dh.get? c=A? o:=λc o c1 e=>Di.extBut _ _ c1 (Dg.extBut _ _ c1 (VB _ e));have EL:Yl Dh zM.objs.size x y:=Di.extBut _ _ (YA HS) (Dg.extBut _ _ (YA HS) (VI _ rfl));have OC:Dh.objs.size=zM.objs.size+1:=by rw[Di.1,Dg.1,WY]
 rw[hsz]at Co EL OC;refine VC ⟨_,rfl,?_⟩;show Q (.ref zM.objs.size) _;rw[hsz];refine hQ Dh Co (up _ _ D.TOz Bf) ?_ ?_ EL OC λc o c1 c2 c3 c4 e=>up c o c1 (HP c o c1 c2 c3 c4 e)
 .obtain⟨o,e,r⟩:=HQ;exact⟨o,up _ o D.i1z e,r⟩
 .obtain⟨o,e,r⟩:=HR;exact⟨o,up _ o D.i2z e,r⟩
theorem bb_loadIfAlive{o:Xw}{Q:Option Xw->VF->Prop}(hQ:∀u,A? o=A? u->Q (A? u) s)(h:s.1.get? a=A? o):VW (Wb prog w) A (loadIfAlive a) Q E s:=by
 intro Γ p UR;show Sem.wp _ _ (.loadIfAlive a .pure) _ _ _ _;rw[Sem.wp_loadIfAlive,h];exact hQ o rfl
theorem bb_notfree{T:Vy}{b:Bool}{f2 TI TO v:Vz}(hz:s.1.get? z=A? {cls:=.type "zip",data:=.fields #[XX T,.bool b,f2,TI,TO]})(hT:Yl s.1 T u v) :
 VW (Wb prog w) A (WK (.ref z)) (λa s1=>a=C?/\∃ze,s1={s with heap:=ze}/\ze.get? z=A? {cls:=.type "zip",data:=.fields #[XX T,.bool B?,f2,TI,TO]}/\W3 z s.1 ze) E s:=by
 unfold WK;refine Vv (WE hz rfl (x:=XX T) rfl ?_);show VW _ _ (loadIfAlive (T:Int).toNat >>= _) _ _ _;rw[VQ];refine Vv (bb_loadIfAlive (λo(e:A? _=A? o)=>?_) hT);cases e;show VW _ _ (if(A? _:Option Xw).isNone=B? then _ else _) _ _ _;rw[a! (show¬((A? _:Option Xw).isNone=B?)from VY)];refine Vv (WE hz rfl (x:=.bool b) rfl ?_);cases b with
 |true=>exact VC ⟨rfl,s.1,rfl,hz,rfl,λ_ _=>rfl⟩
 |false=>exact Vv (XN hz (by simp) λze zH yX=>VC ⟨rfl,ze,rfl,zH,yX⟩)
theorem bb_zip_itemB{TI TO T:Vy}{k:Nat}{xs:Array Vz}{x y v:Vz}{b:Bool}(D:ZipApart z TI TO i1 i2 l1 l2)
 (hz:s.1.get? z=A? {cls:=.type "zip",data:=.fields #[XX T,.bool b,.bool C?,.ref TI,.ref TO]}) (hT:Yl s.1 T u v) (hTI:Yl s.1 TI (.ref i1) (.ref i2))
 (h1:s.1.IsTupleIter i1 l1 k) (h2:s.1.IsTupleIter i2 l2 k) (Bd:s.1.IsTuple l1 xs) (Ae:s.1.IsTuple l2 ys) (hx:xs[k]?=A? x) (hy:ys[k]?=A? y)
 (hQ:∀h',h'.get? z=A? {cls:=.type "zip",data:=.fields #[XX T,.bool B?,.bool C?,.ref TI,.ref TO]}->h'.IsTupleIter i1 l1 (k+1)->h'.IsTupleIter i2 l2 (k+1)->Yl h' s.1.1.size x y->h'.objs.size=s.1.1.size+1 ->
  (∀c o,c≠z->c≠i1->c≠i2->s.1.get? c=A? o->h'.get? c=A? o)->Q (.ref s.1.1.size) {s with heap:=h'}) :
 VW (Wb prog w) A (YC.«zip.__next__» ⟨[.ref z],[]⟩) (λfin s'=>∃v,fin=.done (.ret v)/\Q v s') E s:=by
 show VW _ _ (field (.ref z) 2 >>= _) _ _ _;refine Vv (WE hz rfl (x:=.bool C?) rfl ?_);show VW _ _ (field (.ref z) 3 >>= _) _ _ _;refine Vv (WE hz rfl (x:=.ref TI) rfl ?_);refine Vv (Xc hTI rfl ?_);show VW _ _ (WK (.ref z) >>= _) _ _ _;refine Vv (Xm (bb_notfree hz hT) (λa s1⟨e1,ze,e2,zH,yX⟩=>?_) λ_ _ x=>x);subst e1 e2;simp only[X7,if_false];rw[<-Array.forIn_toList];refine Vv ?_;simp only[Y8,List.forIn_nil];refine Vv (Vv (WT ?_));show VW _ _ (WD (.ref i1) >>= _) _ _ _;refine Vv (bb_tupNext (IsTupleIter.but h1 yX.extBut D.i1z) (IsTuple.but Bd yX.extBut D.l1z) hx λzY BA y9=>VC (VC ?_));refine Vv (Vv (WT ?_));show VW _ _ (WD (.ref i2) >>= _) _ _ _;refine Vv (bb_tupNext (IsTupleIter.but (IsTupleIter.but h2 yX.extBut D.i2z) y9.extBut D.i12.symm) (IsTuple.but (IsTuple.but Ae yX.extBut D.l2z) y9.extBut D.l2i1) hy λzL Dd zw=>VC (VC (VC ?_)));refine Vv (wpAny_newTuple (hsz:=by show 2<=V4;decide) (VC ⟨_,rfl,?_⟩));have hsz:zL.objs.size=s.1.1.size:=by rw[zw.1,y9.1,yX.1]
 show Q (.ref zL.objs.size) {s with heap:=zL.push {cls:=.type "tuple",data:=.seq #[x,y]}};have EM:Yl (zL.push {cls:=.type "tuple",data:=.seq #[x,y]}) zL.objs.size x y:=VI _ rfl;have Dj:(zL.push {cls:=.type "tuple",data:=.seq #[x,y]}).objs.size=zL.objs.size+1:=WY ..;have HV:=IsTupleIter.but BA zw.extBut D.i12;rw[hsz]at EM Dj;rw[hsz];refine hQ _ (VB _ (zw.extBut _ _ D.i2z.symm (y9.extBut _ _ D.i1z.symm zH))) ?_ ?_ EM Dj λc o c1 c3 c4 e=>VB _ (zw.extBut _ _ c4 (y9.extBut _ _ c3 (yX.extBut _ _ c1 e)))
 .obtain⟨o,e,r⟩:=HV;exact⟨o,VB _ e,r⟩
 .obtain⟨o,e,r⟩:=Dd;exact⟨o,VB _ e,r⟩
theorem bb_zip_end{TI TO:Vy}{k:Nat}{xs:Array Vz}{Q:Fin->VF->Prop}(hh:A.handled=AQ)
 (S:ZSt xs ys z TI TO i1 i2 l1 l2 k s.1) (CG:xs[k]?=AQ\/ys[k]?=AQ)
 (hE:∀h' e,(∀c o,c≠z->c≠TO->c≠i1->c≠i2->s.1.get? c=A? o->h'.get? c=A? o)->(∃o,h'.get? e=A? o/\o.cls=.type "StopIteration")->E (.ref e) {s with heap:=h'}) :
 VW (Wb prog w) A (YC.«zip.__next__» ⟨[.ref z],[]⟩) Q E s:=by
 obtain⟨D,hz,hTI,⟨a,b,hTO⟩,h1,h2,Bd,Ae⟩:=S;rcases hz with hz|⟨T,bb,u,v,hz,hT,OD⟩
 .show VW _ _ (field (.ref z) 2 >>= _) _ _ _;refine Vv (WE hz rfl (x:=.bool C?) rfl ?_);show VW _ _ (field (.ref z) 3 >>= _) _ _ _;refine Vv (WE hz rfl (x:=.ref TI) rfl ?_);refine Vv (Xc hTI rfl ?_);show VW _ _ (WK (.ref z) >>= _) _ _ _;refine Vv ?_;unfold WK;refine Vv (WE hz rfl (x:=.none) rfl (VC ?_));simp only[if_true];refine Vv (ZF ?_);refine Vv (WE hz rfl (x:=.ref TO) rfl ?_);refine Vv (XN hz (by simp) λze zH yX=>?_);replace zH:IsZip ze z TI TO .ellipsis:=zH;refine Vv ?_;simp only[List.zipIdx_cons,List.zipIdx_nil,Y8,List.forIn_nil];refine Vv (Vv (wpAny_onRaise ?_));show VW _ _ (WD (.ref i1) >>= _) _ _ _;cases hx:xs[k]? with
  | none =>
    refine Vv (bb_tupEnd hh (IsTupleIter.but h1 yX.extBut D.i1z) (IsTuple.but Bd yX.extBut D.l1z) hx λzY e y9 he=>?_);obtain⟨oe,DO,Fs⟩:=he;have EN:IsZip zY z TI TO .ellipsis:=y9 _ _ D.i1z.symm zH;have LQ:e≠z:=λx=>by subst x;rw[EN]at DO;cases DO;simp at Fs
    refine XN EN (by simp) λBx _ zE=>hE Bx e (λc o c1 _ c3 _ x=>zE.extBut _ _ c1 (y9 _ _ c3 (yX.extBut _ _ c1 x))) ⟨oe,zE.extBut _ _ LQ DO,Fs⟩
  | some x =>
    have hy:ys[k]?=none:=by rcases CG with h|h;rw[hx]at h;cases h;exact h
    refine Vv (bb_tupNext (IsTupleIter.but h1 yX.extBut D.i1z) (IsTuple.but Bd yX.extBut D.l1z) hx λzY BA y9=>VC ?_);have Az:Yl zY TO a b:=y9.extBut _ _ D.TOi1 (yX.extBut _ _ D.TOz hTO);refine Vv (Xc Az rfl ?_);refine Vv (wpAny_updateSeq_pair Az λBx Be zE=>?_);refine Vv (Yq (VC ?_));refine Vv (Vv (wpAny_onRaise ?_));show VW _ _ (WD (.ref i2) >>= _) _ _ _
    refine Vv (bb_tupEnd hh (IsTupleIter.but (IsTupleIter.but (IsTupleIter.but h2 yX.extBut D.i2z) y9.extBut D.i12.symm) zE.extBut D.TOi2.symm)
     (IsTuple.but (IsTuple.but (IsTuple.but Ae yX.extBut D.l2z) y9.extBut D.l2i1) zE.extBut D.l2TO) hy λzL e zw he=>?_)
    obtain⟨oe,DO,Fs⟩:=he;have EO:IsZip zL z TI TO .ellipsis:=zw _ _ D.i2z.symm (zE.extBut _ _ D.TOz.symm (y9.extBut _ _ D.i1z.symm zH));have LQ:e≠z:=λx=>by subst x;rw[EO]at DO;cases DO;simp at Fs
    refine XN EO (by simp) λzM _ Ak=>hE zM e (λc o c1 c2 c3 c4 x=>Ak.extBut _ _ c1 (zw _ _ c4 (zE.extBut _ _ c2 (y9.extBut _ _ c3 (yX.extBut _ _ c1 x))))) ⟨oe,Ak.extBut _ _ LQ DO,Fs⟩
 .show VW _ _ (field (.ref z) 2 >>= _) _ _ _;refine Vv (WE hz rfl (x:=.bool C?) rfl ?_);show VW _ _ (field (.ref z) 3 >>= _) _ _ _;refine Vv (WE hz rfl (x:=.ref TI) rfl ?_);refine Vv (Xc hTI rfl ?_);show VW _ _ (WK (.ref z) >>= _) _ _ _;refine Vv (Xm (bb_notfree hz hT) (λa s1⟨e1,ze,e2,zH,yX⟩=>?_) λ_ _ x=>x);subst e1 e2;simp only[X7,if_false];rw[<-Array.forIn_toList];refine Vv ?_;simp only[Y8,List.forIn_nil];refine Vv (Vv (WT ?_));show VW _ _ (WD (.ref i1) >>= _) _ _ _;cases hx:xs[k]? with
  | none =>
    refine Vv (bb_tupEnd hh (IsTupleIter.but h1 yX.extBut D.i1z) (IsTuple.but Bd yX.extBut D.l1z) hx λzY e y9 he=>?_);exact hE zY e (λc o c1 _ c3 _ x=>y9 _ _ c3 (yX.extBut _ _ c1 x)) he
  | some x =>
    have hy:ys[k]?=none:=by rcases CG with h|h;rw[hx]at h;cases h;exact h
    refine Vv (bb_tupNext (IsTupleIter.but h1 yX.extBut D.i1z) (IsTuple.but Bd yX.extBut D.l1z) hx λzY BA y9=>VC (VC ?_));refine Vv (Vv (WT ?_));show VW _ _ (WD (.ref i2) >>= _) _ _ _;refine Vv (bb_tupEnd hh (IsTupleIter.but (IsTupleIter.but h2 yX.extBut D.i2z) y9.extBut D.i12.symm) (IsTuple.but (IsTuple.but Ae yX.extBut D.l2z) y9.extBut D.l2i1) hy λzL e zw he=>?_);exact hE zL e (λc o c1 _ c3 c4 x=>zw _ _ c4 (y9.extBut _ _ c3 (yX.extBut _ _ c1 x))) he
theorem bb_zip_next{TI TO:Vy}{k:Nat}{xs:Array Vz}{x y:Vz}{Q:Option Vz->VF->Prop}(S:ZSt xs ys z TI TO i1 i2 l1 l2 k s.1)(hx:xs[k]?=A? x)(hy:ys[k]?=A? y)
 (hQ:∀h',ZSt xs ys z TI TO i1 i2 l1 l2 (k+1) h'->Yl h' s.1.1.size x y->h'.objs.size=s.1.1.size+1 ->
  (∀c o,c∉[z,TO,i1,i2]->s.1.get? c=A? o->h'.get? c=A? o)->Q (A? (.ref s.1.1.size)) {s with heap:=h'}) :
 VW (Wb prog w) A (YE (.ref z)) Q E s:=by
 have hT:=S.typeIs;obtain⟨D,hz,hTI,⟨a,b,hTO⟩,h1,h2,Bd,Ae⟩:=S;have n1:s.1.1.size≠TO:=YA (V2 hTO);unfold YE;refine Vv (ZL (WJ (name:=VE "__next__") hT Z0 (WM Z0 hT F.entry_zip_next ?_ (F.args_zip_next_1 _))));rcases hz with hz|⟨T,bb,u,v,hz,EM,OD⟩
 .refine bb_zip_itemA D hz hTI hTO h1 h2 Bd Ae hx hy λh' a1 a2 a3 a4 a5 a6 a7=>VC ?_;refine hQ h' ⟨D,.inr ⟨_,_,_,_,a1,a5,n1⟩,a7 _ _ D.TIz D.TITO D.TIi1 D.TIi2 hTI,⟨_,_,a2⟩,a3,a4,?_,?_⟩ a5 a6 λc o hc e=>a7 c o (λq=>hc (by simp[q])) (λq=>hc (by simp[q])) (λq=>hc (by simp[q])) (λq=>hc (by simp[q])) e
  .obtain⟨o,e,r⟩:=Bd;exact⟨o,a7 _ _ D.l1z D.l1TO D.l1i1 D.l1i2 e,r⟩
  .obtain⟨o,e,r⟩:=Ae;exact⟨o,a7 _ _ D.l2z D.l2TO D.l2i1 D.l2i2 e,r⟩
 .refine bb_zip_itemB D hz EM hTI h1 h2 Bd Ae hx hy λh' a1 a3 a4 a5 a6 a7=>VC ?_;have Q8:T≠z:=by rintro rfl;exact g! (Xo (h! Obj.cls (VN (hz.symm.trans EM)))) (by decide)
  have LR:T≠i1:=by rintro rfl;obtain⟨o,e,c,_⟩:=h1;have e2:=VN (EM.symm.trans e);rw[<-e2]at c;exact g! (Xo c) (by decide)
  have LS:T≠i2:=by rintro rfl;obtain⟨o,e,c,_⟩:=h2;have e2:=VN (EM.symm.trans e);rw[<-e2]at c;exact g! (Xo c) (by decide)
  refine hQ h' ⟨D,.inr ⟨T,B?,u,v,a1,a7 _ _ Q8 LR LS EM,OD⟩,a7 _ _ D.TIz D.TIi1 D.TIi2 hTI,⟨a,b,a7 _ _ D.TOz D.TOi1 D.TOi2 hTO⟩,a3,a4,?_,?_⟩ a5 a6 λc o hc e=>a7 c o (λq=>hc (by simp[q])) (λq=>hc (by simp[q])) (λq=>hc (by simp[q])) e
  .obtain⟨o,e,r⟩:=Bd;exact⟨o,a7 _ _ D.l1z D.l1i1 D.l1i2 e,r⟩
  .obtain⟨o,e,r⟩:=Ae;exact⟨o,a7 _ _ D.l2z D.l2i1 D.l2i2 e,r⟩
theorem bb_zip_done{TI TO:Vy}{k:Nat}{xs:Array Vz}{Q:Option Vz->VF->Prop}(hh:A.handled=AQ)(S:ZSt xs ys z TI TO i1 i2 l1 l2 k s.1)(CG:xs[k]?=AQ\/ys[k]?=AQ)
 (hQ:∀h',(∀c o,c∉[z,TO,i1,i2]->s.1.get? c=A? o->h'.get? c=A? o)->Q AQ {s with heap:=h'}):VW (Wb prog w) A (YE (.ref z)) Q E s:=by
 have hT:=S.typeIs;unfold YE
 refine Vv (ZL (WJ (name:=VE "__next__") hT Z0
  (WM Z0 hT F.entry_zip_next (bb_zip_end hh S CG λh' e hk he=>?_) (F.args_zip_next_1 _))))
 obtain⟨o,ho,hc⟩:=he;refine Vv (wpAny_isInstance (T:="StopIteration") (b:=B?) ⟨o,ho,hc⟩ isSubtype_stop ?_);exact VC (hQ _ λc o hc=>hk c o (λq=>hc (by simp[q])) (λq=>hc (by simp[q])) (λq=>hc (by simp[q])) (λq=>hc (by simp[q])))
theorem bb_zip_iter{TI TO:Vy}{k:Nat}{xs:Array Vz}(S:ZSt xs ys z TI TO i1 i2 l1 l2 k s.1)(h:Q (.ref z) s):VW (Wb prog w) A (pyIter (.ref z)) Q E s:=by
 have hT:=S.typeIs;refine Zs hT F.slot_zip_iter (WM F.slot_zip_iter hT F.entry_zip_iter ?_ (F.args_zip_iter_1 _));show VW _ _ (ret (.ref z)) _ _ s;exact VC ⟨_,rfl,"zip",_,hT,Z0.lookup,h⟩
open Sem (wp)
namespace F
theorem bb_nolen_zip:typeLookup (.type "zip") "__len__"=pure none:=by rw[typeLookup_type,builtinLookup_eq_fast];kernel_rfl
theorem bb_nohint_zip:typeLookup (.type "zip") "__length_hint__"=pure none:=by rw[typeLookup_type,builtinLookup_eq_fast];kernel_rfl
end F
def ZIt(xs ys:Array Vz)(n0:Nat)(h:WS)(acc:Array Vz)(k:Nat):Prop:=acc.size=k/\∀(j:Nat)(v:Vz),acc[j]?=A? v->∃(T:Vy)(x y:Vz),v=Wf T/\n0<=T/\Yl h T x y/\xs[j]?=A? x/\ys[j]?=A? y
section
variable{R:Result->VF->Prop}
theorem bb_zip_loop{TI TO S:Vy}{xs:Array Vz}{n0:Nat}(hh:A.in1.handled=AQ)(hn:n=min xs.size ys.size)(hz:n<=V4)(OE:S∉[z,TO,i1,i2])(hf:∀c∈[z,TO,i1,i2],c<n0)(res:Vz) :
 ∀(k i:Nat)(s:VF)(acc:Array Vz)(c:Nat),n - i=k->i<=n->ZSt xs ys z TI TO i1 i2 l1 l2 i s.1->n0<=s.1.1.size->s.1.get? S=A? {cls:=.type "list",dict:=AQ,data:=.seq acc c,slots:=#[]}->ZIt xs ys n0 s.1 acc i ->
 (∀h' Ag c',(∀b o,b≠S->b∉[z,TO,i1,i2]->s.1.get? b=A? o->h'.get? b=A? o)->h'.get? S=A? {cls:=.type "list",dict:=AQ,data:=.seq Ag c',slots:=#[]}->ZIt xs ys n0 h' Ag n->R (.ok (.ret res)) {s with heap:=h'}) ->
 Y0 (Wb prog w) A (.builtin "list.extend.loop" ⟨[.ref S,.ref z,res],[]⟩) R s:=by
 intro k;have ER:∀{T:Vy},n0<=T->T∉[z,TO,i1,i2]:=λh m=>g! (hf _ m) (ZS.mpr h);induction k with
 | zero =>
   intro i s acc c hk hi zF h0 hS zr hR;have zW:i=n:=by lia
   subst zW;refine YU Z3 ?_;rw[XZ Xz _];show VW _ A.in1 (YE (.ref z) >>= _) _ _ s
   have CG:xs[i]?=AQ\/ys[i]?=none:=by
    rcases Nat.le_total xs.size ys.size with h|h
    .exact .inl (Zk (by lia))
    .exact .inr (Zk (by lia))
   refine Vv (bb_zip_done hh zF CG λh' zt=>VC ?_);refine hR h' acc c (λb o _ hb e=>zt b o hb e) (zt _ _ OE hS) ⟨zr.1,λj v hv=>?_⟩;obtain⟨T,x,y,e1,e2,e3,e4⟩:=zr.2 j v hv;exact⟨T,x,y,e1,e2,zt _ _ (ER e2) e3,e4⟩
 | succ k ih =>
   intro i s acc c hk hi zF h0 hS zr hR;have yZ:i<n:=by lia
   refine YU Z3 ?_;rw[XZ Xz _];show VW _ A.in1 (YE (.ref z) >>= _) _ _ s;have hx:xs[i]?=A? xs[i]:=X8 (by lia);have hy:ys[i]?=A? ys[i]:=X8 (by lia);refine Vv (bb_zip_next zF hx hy λh' Dk hT hsz zt=>?_);have DQ:=zt S _ OE hS;have LU:S<s.1.1.size:=V2 hS;show VW _ A.in1 (updateSeq S (·.push (.ref s.1.1.size)) >>= _) _ _ _;refine Vv ?_;have Cp:∀b o,b≠S->h'.get? b=A? o->(h'.update S (WV (·.push (Wf s.1.1.size)))).get? b=A? o:=λb o hb e=>(W8 _ _ (XC hb)).trans e
   refine Xq DQ rfl (VC ⟨Yx Xz _,ih (i+1) _ (acc.push (.ref s.1.1.size)) _ (by lia) yZ (Dk.frame λb o ho e=>Cp b o (λz=>?_) e) ?_ (WU _ DQ rfl) ?_ λGH Ag c' Ft Fu Dl=>?_⟩)
    (by rw[zr.1];lia) (by show(acc.push _).size<=V4+1;rw[Array.size_push,zr.1];lia)
   .rw[z,DQ]at e;cases e;exact ho rfl
   .show n0<=(h'.update S _).objs.size;rw[ZJ];lia
   .refine⟨by rw[Array.size_push,zr.1],λj v hv=>?_⟩;rw[Array.getElem?_push]at hv;split at hv
    .rename_i e
     rw[zr.1]at e;cases hv;subst e;exact⟨_,_,_,D?,h0,Cp _ _ (YA LU) hT,hx,hy⟩
    .obtain⟨T,x,y,e1,e2,e3,e4⟩:=zr.2 j v hv
     have Q9:T≠S:=by
      rintro rfl;exact g! (Xo (h! Obj.cls (VN (e3.symm.trans hS)))) (by decide)
     exact⟨T,x,y,e1,e2,Cp _ _ Q9 (zt _ _ (ER e2) e3),e4⟩
   .exact hR GH Ag c' (λb o hb hb2 e=>Ft b o hb hb2 (Cp b o hb (zt b o hb2 e))) Fu Dl
end
theorem bb_list_zip{TI TO:Vy}{xs:Array Vz}{n0:Nat}(hh:A.in1.in1.handled=AQ)(zF:ZSt xs ys z TI TO i1 i2 l1 l2 0 s.1)(hn:n=min xs.size ys.size)(hz:n<=V4)(h0:n0<=s.1.1.size)(hf:∀c∈[z,TO,i1,i2],c<n0)
 (hQ:∀h' acc c,(∀b o,b∉[z,TO,i1,i2]->s.1.get? b=A? o->h'.get? b=A? o)->h'.get? s.1.1.size=A? {cls:=.type "list",dict:=AQ,data:=.seq acc c,slots:=#[]}->ZIt xs ys n0 h' acc n->Q (.ref s.1.1.size) {s with heap:=h'}) :
 VW (Wb prog w) A (call (.type "list") [.ref z]) Q E s:=by
 have OF:s.1.1.size∉[z,TO,i1,i2]:=λhm=>g! (hf _ hm) (ZS.mpr h0);have HW:s.1.1.size≠z:=λe=>OF (by simp[e])
 refine callType_codes (Q₁:=λobj l'=>obj=.ref s.1.1.size/\l'={s with heap:=s.1.push {cls:=.type "list",data:=.seq #[]}}) F.called_list (F.typeCall_list_1 _) F.entry_list_init
  (code_list_new _ ⟨rfl,rfl⟩) λobj l' ze=>?_
 obtain⟨rfl,rfl⟩:=ze;have hS:(s.1.push {cls:=.type "list",data:=.seq #[]}).get? s.1.1.size=A? {cls:=.type "list",data:=.seq #[]}:=VI _ rfl;refine⟨⟨_,hS,D?⟩,F.args_list_init_2 _ _,?_⟩;show VW _ A.in1.in1 (do let old <-Zy (.ref s.1.1.size);Builtin.List.listUpdate (.ref s.1.1.size) (λ_=>#[]);letGo old.toList.reverse;Y1 (.ref s.1.1.size) (.ref z) .none) _ _ _;refine Vv ?_;unfold Zy;refine Vv (Xc hS rfl (VC ?_));refine Vv (Xq hS rfl ?_);have BC:=WU (WV (λ_=>(#[]:Array Vz))) hS rfl;refine Vv (Yq ?_);have CH:((s.1.push {cls:=.type "list",data:=.seq #[]}).update s.1.1.size (WV (λ_=>(#[]:Array Vz)))).objs.size=s.1.1.size+1:=by rw[ZJ,WY]
 generalize hH:(s.1.push {cls:=.type "list",data:=.seq #[]}).update s.1.1.size (WV (λ_=>(#[]:Array Vz)))=H2 at BC CH |-
 have old:∀b o,s.1.get? b=A? o->H2.get? b=A? o:=λb o e=>by
  rw[<-hH,W8 _ _ (XC (We (V2 e)))];exact VB _ e
 obtain⟨c2,DR⟩:∃c,H2.get? s.1.1.size=A? {cls:=.type "list",data:=.seq #[] c}:=⟨_,BC⟩;have D6:ZSt xs ys z TI TO i1 i2 l1 l2 0 H2:=zF.frame λb o _ e=>old b o e;have HX:({s with heap:=H2}:VF).TypeIs (.ref z) "zip":=D6.typeIs;unfold Y1;refine Vv (Zq HX ?_);have h1:Zj (.ref s.1.1.size) (.ref z)=false:=by simp[Zj,HW]
 have h2:(YS "zip" == YS "list")=false:=by decide
 have h3:(YS "zip" == YS "tuple")=false:=by decide
 simp only[h1,h2,h3,Bool.or_false,X7,if_false];refine Vv (bb_zip_iter D6 ?_);refine Vv (WT ?_);unfold Builtin.List.listLengthHint;refine Vv (wpAny_specialOf HX F.bb_nolen_zip ?_);show VW _ _ (specialOf (Wf z) (VE "__length_hint__") >>= _) _ _ _;refine Vv (wpAny_specialOf HX F.bb_nohint_zip ?_);refine VC ?_
 have key:∀(h:WS)(c₁:Nat),ZSt xs ys z TI TO i1 i2 l1 l2 0 h->n0<=h.objs.size->(∀b o,b≠s.1.1.size->H2.get? b=A? o->h.get? b=A? o)->h.get? s.1.1.size=A? {cls:=.type "list",data:=.seq #[] c₁} ->
  Y0 (Wb prog w) A.in1 (.builtin "list.extend.loop" ⟨[.ref s.1.1.size,.ref z,.none],[]⟩) (wants (λr zR=>r=.none/\Q (.ref s.1.1.size) zR) E) {s with heap:=h}:=by
  intro h c₁ hs LJ hk Dm;refine bb_zip_loop hh hn hz OF hf .none n 0 _ #[] c₁ rfl (Wh _) hs LJ Dm ⟨rfl,λj v e=>by simp at e⟩ λh' Ag c' hm DQ zr=>?_;exact⟨D?,hQ h' Ag c' (λb o hb e=>hm b o (We (V2 e)) hb (hk b o (We (V2 e)) (old b o e))) DQ zr⟩
 show VW _ _ (rule "list.extend.makes-room" >>= λ_=>Builtin.List.listTouch (.ref s.1.1.size) >>= λ_=>again (.builtin "list.extend.loop" ⟨[.ref s.1.1.size,.ref z,.none],[]⟩)) _ _ _;refine Vv (ZF ?_);refine Vv ?_;show VW _ _ (updateSeq s.1.1.size (·.push .none) >>= λ_=>updateSeq s.1.1.size (·.pop)) _ _ _;refine Vv (Xq DR rfl ?_);have BD:=WU (WV (·.push W7)) DR rfl;refine Xq (hz:=by seq_fits) BD rfl ?_;have Dn:=WU (WV (·.pop)) BD rfl
 have Cp:∀b o,b≠s.1.1.size->H2.get? b=A? o->((H2.update s.1.1.size (WV (·.push W7))).update s.1.1.size (WV (·.pop))).get? b=A? o :=
  λb o hb e=>(W8 _ _ (XC hb)).trans ((W8 _ _ (XC hb)).trans e)
 refine VC ⟨Yx Xz _,key _ _ (D6.frame λb o ho e=>Cp b o (λq=>?_) e) ?_ Cp Dn⟩
 .rw[q,DR]at e;cases e;exact ho rfl
 .rw[ZJ,ZJ];show n0<=H2.objs.size;lia
end PySem
namespace L2
open PySem PySem.Spec PyProof.Rows
theorem Inv.laidAll{X:Cx}(I:Inv X Y σ H s)(k:∀b u,s.1.get? b=A? u->h'.get? b=A? u)
 (old:∀b,b<s.1.1.size->H' b=H b) (new:∀b u,s.1.1.size<=b->H' b=A? u->ObjOk X.prog X.w H' h' b u):Inv X Y σ H' {s with heap:=h',toks:=t'}:=by
 have sm:∀b u,H b=A? u->H' b=A? u:=λb u e=>by rw[old b (I.hok.lt e)];exact e
 refine I.un ⟨λb u q _ _ _=>k b u q,λb u q _ _ _=>⟨u.slots,k b u q⟩,λb u q n _=>by rw[old b (V2 q)];exact n,λb u q _=>⟨u,k b u q⟩,λb xs q=>sm _ _ q,λb u xs q=>sm _ _ q,λb ps q=>⟨#[],by rw[sm _ _ q];simp⟩⟩ λb u q=>?_;by_cases hb:b<s.1.1.size
 .rw[old b hb]at q;exact(I.hok b u q).stay (λc v _ e=>k c v e) (λc e=>sm _ _ e) λc xs e=>sm _ _ e
 .exact new b u (ZS.mp hb) q
def lE(H:Hp):List Vy->List (V×V)->Hp
 |t::ts,p::ps=>upd (lE H ts ps) t (.tup [p.1,p.2])
 |_,_=>H
theorem lh:∀{ts:List Vy}{ps:List (V×V)},b∉ts->lE H ts ps b=H b
 | [],_,_=>rfl
 |_::_,[],_=>rfl
 | t::ts,p::ps,h=>by
   rw[lE,af (λe=>h (by simp[e]))];exact lh λm=>h (VR _ m)
theorem n6:∀{ts:List Vy}{ps:List (V×V)}{b:Vy}{u:HO},lE H ts ps b=A? u->H b=A? u\/∃(j:Nat)(p:V×V),ts[j]?=A? b/\ps[j]?=A? p/\u=.tup [p.1,p.2]
 | [],_,_,_,h=>.inl h
 |_::_,[],_,_,h=>.inl h
 | t::ts,p::ps,b,u,h=>by
   rw[lE]at h;by_cases e:b=t
   .subst e;rw[ac]at h;exact .inr ⟨0,p,rfl,rfl,(VN h).symm⟩
   .rw[af e]at h;rcases n6 h with q|⟨j,p',q1,q2,q3⟩
    .exact .inl q
    .exact .inr ⟨j+1,p',by simpa using q1,by simpa using q2,q3⟩
theorem oQ{H:Hp}:∀{ts:List Vy}{ps:List (V×V)}{t:Vy},ts.length=ps.length->t∈ts->∃(i:Nat)(p:V×V),ts[i]?=A? t/\ps[i]?=A? p/\lE H ts ps t=A? (.tup [p.1,p.2])
 | [],_,_,_,h=>nomatch h
 |_::_,[],_,hl,_=>by simp at hl
 | u::ts,p::ps,t,hl,h=>by
   by_cases e:t=u
   .subst e;exact⟨0,p,D?,D?,by rw[lE,ac]⟩
   .obtain⟨i,p',q1,q2,q3⟩:=oQ (H:=H) (ts:=ts) (ps:=ps) (t:=t) (by simpa using hl) (by
     rcases VS.mp h with h|h
     .exact g! h e
     .exact h)
    exact⟨i+1,p',by simpa using q1,by simpa using q2,by rw[lE,af e];exact q3⟩
theorem dM{F:α->β->Prop}:∀{ps:List α}{ts:List β},ps.length=ts.length->(∀(j:Nat)p t,ps[j]?=A? p->ts[j]?=A? t->F p t)->Wc F ps ts
 | [],[],_,_=>.nil
 | [],_::_,h,_=>by simp at h
 |_::_,[],h,_=>by simp at h
 |p::ps,t::ts,h,f=>.cons (f 0 p t rfl rfl) (dM (by simpa using h) λj p' t' e1 e2=>f (j+1) p' t' (by simpa using e1) (by simpa using e2))
theorem qS{P:Nat->Vy->Prop}:∀{vs:List Vz}(n:Nat),(∀(j:Nat)v,vs[j]?=A? v->∃T,v=Wf T/\P (n+j) T)->∃ts:List Vy,vs=ts.map Wf/\∀(j:Nat)T,ts[j]?=A? T->P (n+j) T
 | [],n,_=>⟨[],rfl,λj T h=>by simp at h⟩
 | v::vs,n,h=>by
   obtain⟨T,e1,e2⟩:=h 0 v rfl
   obtain⟨ts,q1,q2⟩:=qS (P:=P) (vs:=vs) (n+1) λj v' hv=>by
    have:=h (j+1) v' (by simpa using hv);rw[show n+1+j=n+(j+1)by lia];exact this
   refine⟨T::ts,by rw[e1,q1];rfl,λj T' hT=>?_⟩;cases j with
   |zero=>simp at hT;subst hT;exact e2
   | succ j =>
     have:=q2 j T' (by simpa using hT);rw[show n+1+j=n+(j+1)by lia]at this;exact this
theorem xz{xs:List α}{ys:List β}{p:α×β}(h:(xs.zip ys)[j]?=A? p):xs[j]?=A? p.1/\ys[j]?=A? p.2:=by
 rw[Xp]at h;exact h
def sO(K:VD)(t:TA):TE:=λσ H Q=>t σ H λvs H2=>∃a b xs ys,vs=[.ref a,.ref b]/\SqT K H2 a xs/\SqT K H2 b ys /\
 ∀(l:Vy)(ts:List Vy)(H':Hp),Same H2 H'->H2 l=AQ->H' l=A? (.lst (ts.map k!))->Wc (λ(p:V×V)t=>H' t=A? (.tup [p.1,p.2])) (xs.zip ys) ts->Q (.ref l) H'
section
variable{X:Cx}{e1 e2:WB}{t:TA}{p p2 zq:YF}
theorem ph(hc:X.calm=B?)(g1:Gl X "list")(m1:X.mg "list"=AQ)(g2:Gl X "zip")(m2:X.mg "zip"=AQ)(ha:PA X [e1,e2] t)
 (h1:Wu [.Call (.Name "zip" p2) [e1,e2] [] zq] X.env=[(C?,XD (.Call (.Name "zip" p2) [e1,e2] [] zq) X.env)]:=by rfl) (h2:Wu [e1,e2] X.env=(C?,XD e1 X.env)::Wu [e2] X.env:=by rfl) (h3:(Yy zq (Wu [e2] X.env)).any (·.1)=false:=by rfl) :
 PE X (.Call (.Name "list" p) [.Call (.Name "zip" p2) [e1,e2] [] zq] [] pos) (sO X.K t):=by
 intro Y s σ H Q I h;refine W2 (dz I g1 m1 boot_list (WW ?_ h1 rfl));rw[h1];show VW _ _ (spliced ((C?,XD (.Call (.Name "zip" p2) [e1,e2] [] zq) X.env)::[])) _ _ s;refine XE ?_;refine W2 (dz I g2 m2 boot_zip ?_);refine WW (thn (ha zq Y s σ H _ I h) λus s2⟨vs,H2,I2,r,a,b,xs,ys,ev,Ra,Rb,q⟩=>?_) h2 h3;subst ev;obtain⟨u1,u2,rfl,r1,r2⟩:=vals2 r;cases r1;cases r2;obtain⟨ia,OG,pa,LV⟩:=I2.tuple Ra;obtain⟨ib,OH,pb,US⟩:=I2.tuple Rb;have Ee:=OG.length;have UT:=OH.length;have An:a<s2.1.1.size:=by obtain⟨o,e,_⟩:=pa;exact V2 e
 have AF:b<s2.1.1.size:=by obtain⟨o,e,_⟩:=pb;exact V2 e
 have hh:X.A.in1.in1.handled=none:=I2.ok.hd hc;refine bb_call_zip (show s2.1.IsTuple a ia.toArray from pa) (show s2.1.IsTuple b ib.toArray from pb) λh' z1 z2 z3 z4 z5 z6 z7=>X1 ?_;have D:ZipApart (s2.1.1.size+4) (s2.1.1.size+2) (s2.1.1.size+3) s2.1.1.size (s2.1.1.size+1) a b:=zipApart_new An AF
 have st:ZSt ia.toArray ib.toArray (s2.1.1.size+4) (s2.1.1.size+2) (s2.1.1.size+3) s2.1.1.size (s2.1.1.size+1) a b 0 h':=by
  refine⟨D,.inl z1,z2,⟨_,_,z3⟩,z4,z5,?_,?_⟩
  .obtain⟨o,e,r⟩:=pa;exact⟨o,z7 _ _ e,r⟩
  .obtain⟨o,e,r⟩:=pb;exact⟨o,z7 _ _ e,r⟩
 have hf:∀c∈[s2.1.1.size+4,s2.1.1.size+3,s2.1.1.size,s2.1.1.size+1],s2.1.1.size<=c/\c<h'.objs.size:=λc hc=>by
  simp at hc;rw[z6];have zV:(c:Nat)=s2.1.1.size+4\/(c:Nat)=s2.1.1.size+3\/(c:Nat)=s2.1.1.size\/(c:Nat)=s2.1.1.size+1:=hc;constructor
  .show(s2.1.1.size:Nat)<=(c:Nat);lia
  .show(c:Nat)<s2.1.1.size+5;lia
 refine bb_list_zip (s:={s2 with heap:=h'}) hh st rfl (by rw[VM,VM];lia) (VG _) (λc hc=>(hf c hc).2) λh2 acc c kp hS zr=>?_;replace hS:h2.get? h'.objs.size=A? {cls:=.type "list",dict:=AQ,data:=.seq acc c,slots:=#[]}:=hS;have Rc:∀b o,s2.1.get? b=A? o->h2.get? b=A? o:=λb o e=>kp b o (λm=>g! (V2 e) (ZS.mpr (hf b m).1)) (z7 b o e);obtain⟨hsz,hit⟩:=zr
 obtain⟨ts,et,ht⟩:=qS (P:=λj T=>h'.objs.size<=T/\∃x y,Yl h2 T x y/\ia.toArray[j]?=A? x/\ib.toArray[j]?=A? y) (vs:=acc.toList) 0 (λj v hv=>by
  obtain⟨T,x,y,g1,g2,g3,g4,g5⟩:=hit j v (by simpa using hv);rw[Nat.zero_add];exact⟨T,g1,g2,x,y,g3,g4,g5⟩)
 simp only[Nat.zero_add]at ht
 have zh:ts.length=(xs.zip ys).length:=by
  have e:=h! Xd et;rw[Vu,Wd,hsz,VM,VM]at e;rw[Y7];lia
 have rel:∀(j:Nat)(p:V×V)(T:Vy),(xs.zip ys)[j]?=A? p->ts[j]?=A? T->∃x y,Yl h2 T x y/\RelV p.1 x/\RelV p.2 y:=λj p T hp hT=>by
  obtain⟨_,x,y,g3,g4,g5⟩:=ht j T hT;obtain⟨Aq,zC⟩:=xz hp;obtain⟨x',k1,k2⟩:=OG.get Aq;obtain⟨y',k3,k4⟩:=OH.get zC
  have e1:x'=x:=by
   have:ia[j]?=A? x:=by simpa using g4
   rw[k1]at this;exact VN this
  have e2:y'=y:=by
   have:ib[j]?=A? y:=by simpa using g5
   rw[k3]at this;exact VN this
  subst e1 e2;exact⟨_,_,g3,k2,k4⟩
 have same:∀(i j:Nat)(p p':V×V)(T:Vy),(xs.zip ys)[i]?=A? p->(xs.zip ys)[j]?=A? p'->ts[i]?=A? T->ts[j]?=A? T->p=p':=λi j p p' T h1 h2 h3 h4=>by
  obtain⟨x,y,g1,g2,g3⟩:=rel i p T h1 h3;obtain⟨x',y',k1,k2,k3⟩:=rel j p' T h2 h4;have e:=VN (g1.symm.trans k1);have ed:=h! Obj.data e;injection ed with Rf _;have el:=h! Array.toList Rf;have ex:x=x':=(Zp el).1;have ey:y=y':=(Zp (Zp el).2).1;subst ex ey;obtain⟨p1,p2⟩:=p;obtain⟨q1,q2⟩:=p';have f1:p1=q1:=g2.inj k2;have f2:p2=q2:=g3.inj k3;rw[f1,f2]
 have HY:h'.objs.size∉ts:=λm=>by
  obtain⟨j,hj⟩:=List.getElem?_of_mem m;obtain⟨_,x,y,g3,_⟩:=ht j _ hj;exact g! (Xo (h! Obj.cls (VN (g3.symm.trans hS)))) (by decide)
 have HZ:s2.1.1.size<h'.objs.size:=by rw[z6];lia
 have Ia:∀T∈ts,h'.objs.size<=T:=λT m=>by
  obtain⟨j,hj⟩:=List.getElem?_of_mem m;exact(ht j _ hj).1
 have AY:∀b,s2.1.1.size<=b->H2 b=none:=λb hb=>I2.hok.fresh hb;have Ae:H2 h'.objs.size=none:=AY _ (XH HZ)
 have Rg:∀(j:Nat)(p:V×V)(T:Vy),(xs.zip ys)[j]?=A? p->ts[j]?=A? T->lE H2 ts (xs.zip ys) T=A? (.tup [p.1,p.2]):=λj p T hp hT=>by
  obtain⟨i,p',k1,k2,k3⟩:=oQ (H:=H2) zh (Vx hT);rw[k3,same i j p' p T k2 hp k1 hT]
 have I3:Inv X Y σ (upd (lE H2 ts (xs.zip ys)) h'.objs.size (.lst (ts.map k!))) {s2 with heap:=h2,toks:=s2.toks}:=by
  refine I2.laidAll Rc (λb hb=>?_) λb u hb hu=>?_
  .rw[af (We (YZ hb HZ)),lh];exactλm=>g! (YZ hb HZ) (ZS.mpr (Ia b m))
  .by_cases e:b=h'.objs.size
   .subst e;rw[ac]at hu;cases hu;refine⟨by rw[Vu,zh,Y7];lia,ts.map Wf,c,?_,by rw[<-et];exact hS⟩
    exact dM (by simp) λj p t e1 e2=>by
     rw[VA]at e1 e2;cases q:ts[j]? with
     |none=>rw[q]at e1;cases e1
     |some T=>rw[q]at e1 e2;cases e1;cases e2;rfl
   .rw[af e]at hu;rcases n6 hu with q|⟨j,p,q1,q2,q3⟩
    .rw[AY b hb]at q;cases q
    .subst q3;obtain⟨x,y,g1,g2,g3⟩:=rel j p b q2 q1;exact⟨by show 2<=V4;decide,[x,y],0,.cons g2 (.cons g3 .nil),g1⟩
 refine⟨.ref h'.objs.size,_,I3,D?,q h'.objs.size ts _ (λb o e=>?_) Ae ac ?_⟩
 .have hb:=I2.hok.lt e;rw[af (We (YZ hb HZ)),lh]
  .exact e
  .exactλm=>g! (YZ hb HZ) (ZS.mpr (Ia b m))
 .refine dM zh.symm λj p T hp hT=>?_;rw[af (show T≠h'.objs.size fromλe=>HY (by rw[<-e];exact Vx hT))];exact Rg j p T hp hT
end
section
variable[DecidableEq κ]
def bT(kvs:List (κ×V))(k:κ):Option V:=(kvs.find? λkv=>decide (kv.1=k)).map (·.2)
def putK(kvs:List (κ×V))(k:κ)(v:V):List (κ×V) :=
 if(kvs.any λkv=>decide (kv.1=k))=B? then kvs.map (λkv=>if kv.1=k then(kv.1,v)else kv)else kvs++[(k,v)]
theorem fk{p:κ×V}{r:List (κ×V)}{k:κ}(e:p.1=k):bT (p::r) k=A? p.2:=by simp[bT,Y9,e]
theorem ff{p:κ×V}{r:List (κ×V)}{k:κ}(e:¬p.1=k):bT (p::r) k=bT r k:=by simp[bT,Y9,e]
theorem oj(k:κ):∀kvs:List (κ×V),(kvs.any λkv=>decide (kv.1=k))=(bT kvs k).isSome
 | []=>rfl
 | p::r=>by
   rw[List.any_cons];by_cases e:p.1=k
   .simp only[fk e,d! e,Bool.true_or,Option.isSome_some]
   .rw[ff e,c! e,Bool.false_or];exact oj k r
theorem eJ(kvs:List (κ×V))(k:κ)(v:V):(putK kvs k v).length<=kvs.length+1:=by
 unfold putK;split
 .rw[Vu];lia
 .rw[VJ,VU,YH];lia
theorem RelO.isSome_eq{o:Option V}{u:Option Vz}(r:RelO o u):o.isSome=u.isSome:=by
 cases o with
 | none=>cases u with
   |none=>rfl
   |some _=>exact(show False from r).elim
 | some _=>cases u with
   |none=>exact(show False from r).elim
   |some _=>rfl
theorem RelO.getD{o:Option V}{u:Option Vz}{d:V}{d':Vz}(r:RelO o u)(rd:RelV d d'):RelV (o.getD d) (u.getD d'):=by
 cases o with
 | none=>cases u with
   |none=>exact rd
   |some _=>exact(show False from r).elim
 | some _=>cases u with
   |none=>exact(show False from r).elim
   |some _=>exact r
theorem KV.val{kvs:List (κ×V)}(r:KV kvs vs)(k:κ):RelO (bT kvs k) (valueAt vs k):=by
 unfold KV at r;induction r with
 |nil=>exact XQ
 | @cons p q ps qs h t ih =>
   obtain⟨h1,h2⟩:=h;by_cases e:p.1=k
   .have e':q.1=k:=h1.symm.trans e;have b:valueAt (q::qs) k=A? q.2:=by simp[valueAt,Y9,e']
    rw[fk e,b];exact h2
   .have e':¬q.1=k:=λz=>e (h1.trans z);have b:valueAt (q::qs) k=valueAt qs k:=by simp[valueAt,Y9,e']
    rw[ff e,b];exact ih
theorem KV.any{kvs:List (κ×V)}(r:KV kvs vs)(k:κ):(kvs.any λkv=>decide (kv.1=k))=vs.any λkv=>decide (kv.1=k):=by
 unfold KV at r;induction r with
 |nil=>rfl
 |cons h t ih=>rw[List.any_cons,List.any_cons,ih,h.1]
theorem KV.repl{kvs:List (κ×V)}(r:KV kvs vs)(k:κ)(ry:RelV y u) :
 KV (kvs.map λkv=>if kv.1=k then(kv.1,y)else kv) (vs.map λkv=>if kv.1=k then(kv.1,u)else kv):=by
 unfold KV at r |-;induction r with
 |nil=>exact .nil
 | @cons p q ps qs h t ih =>
   rw[V6,V6];refine .cons ?_ ih;obtain⟨h1,h2⟩:=h;by_cases e:p.1=k
   .rw[b! e,b! (h1.symm.trans e)];exact⟨h1,ry⟩
   .rw[a! e,a! (λz=>e (h1.trans z))];exact⟨h1,h2⟩
theorem KV.put{kvs:List (κ×V)}(r:KV kvs vs)(k:κ)(ry:RelV y u):KV (putK kvs k y) (stored vs k u):=by
 unfold putK stored;rw[r.any k];by_cases e:(vs.any λkv=>decide (kv.1=k))=B?
 .rw[b! e,b! e];exact r.repl k ry
 .rw[a! e,a! e];exact Paired.snoc r ⟨rfl,ry⟩
theorem KV.length{kvs:List (κ×V)}(r:KV kvs vs):kvs.length=vs.length:=VZ r
end
theorem mf{k:Key}(r:RelV (kV k) u):(bv P w).is k u=true:=by
 cases k with
 |inl i=>obtain⟨t,e⟩:=(show∃t,u=Value.int i t from r);subst e;exact oW P w i t
 |inr x=>obtain⟨t,e⟩:=(show∃t,u=Value.str x t from r);subst e;exact oU P w x t
theorem mM:∀{ks:List Key}{us:List Vz},Vals (ks.map kV) us->ItemsAre (bv P w) ks us
 | [],_,r=>by rw[XI]at r;cases r;exact .nil
 | k::ks,_,r=>by
   rw[V6]at r;cases r with
   |cons h t=>exact .cons (mf h) (mM t)
abbrev KTd(H:Hp):List (List Key×V)->List (List Key×Vy×Vz)->Prop:=Wc λp q=>p.1=q.1/\H q.2.1=A? (.tup (p.1.map kV))/\RelV p.2 q.2.2
theorem KTd.val{xs:List (List Key×Vy×Vz)}(r:KTd H kvs xs)(k:List Key):RelO (bT kvs k) ((atKey xs k).map (·.2)):=by
 induction r with
 |nil=>exact XQ
 | @cons p q ps qs h t ih =>
   obtain⟨h1,_,h2⟩:=h;by_cases e:p.1=k
   .have e':q.1=k:=h1.symm.trans e;have b:atKey (q::qs) k=A? q.2:=by simp[atKey,Y9,e']
    rw[fk e,b];exact h2
   .have e':¬q.1=k:=λz=>e (h1.trans z);have b:atKey (q::qs) k=atKey qs k:=by simp[atKey,Y9,e']
    rw[ff e,b];exact ih
theorem KTd.repl{xs:List (List Key×Vy×Vz)}(r:KTd H kvs xs)(k:List Key)(ry:RelV y u) :
 KTd H (kvs.map λkv=>if kv.1=k then(kv.1,y)else kv) (xs.map (putAt k u)):=by
 induction r with
 |nil=>exact .nil
 | @cons p q ps qs h t ih =>
   rw[V6,V6];refine .cons ?_ ih;obtain⟨h1,h2,h3⟩:=h;unfold putAt;by_cases e:p.1=k
   .rw[b! e,b! (h1.symm.trans e)];exact⟨h1,h2,ry⟩
   .rw[a! e,a! (λz=>e (h1.trans z))];exact⟨h1,h2,h3⟩
theorem KTd.put{xs:List (List Key×Vy×Vz)}(r:KTd H kvs xs)(k:List Key)(hb:H b=A? (.tup (k.map kV)))(ry:RelV y u) :
 KTd H (putK kvs k y) (storedH xs k b u):=by
 have e:(kvs.any λkv=>decide (kv.1=k))=(atKey xs k).isSome:=by
  rw[oj,(r.val k).isSome_eq,Option.isSome_map]
 unfold putK storedH;rw[e];by_cases q:(atKey xs k).isSome=B?
 .rw[b! q,b! q];exact r.repl k ry
 .rw[a! q,a! q];exact Paired.snoc r ⟨rfl,hb,ry⟩
theorem KTd.keeps{xs:List (List Key×Vy×Vz)}(r:KTd H kvs xs)(ht:∀b ys,H b=A? (.tup ys)->H' b=A? (.tup ys)):KTd H' kvs xs :=
 Wc.mapP r λ_ _ z=>⟨z.1,ht _ _ z.2.1,z.2.2⟩
theorem vK{u:HO}(ok:HOk P w H h)(e:Rd H a u):ObjOk P w H h a u:=e.ok ok
theorem l5{kvs:List (Key×V)}(ok:HOk P w H h)(e:Rd H a (.dK kvs)):kvs.length<=V4/\(a == Xn)=C?/\∃vs,KV kvs vs/\h.DictOf (bv P w) a vs :=
 show ObjOk P w H h a (.dK kvs)from vK ok e
theorem vY{kvs:List (Key×V)}(ok:HOk P w H h)(e:H a=A? (.dK kvs)):kvs.length<=V4/\(a == Xn)=C?/\∃vs,KV kvs vs/\h.DictOf (bv P w) a vs:=l5 ok (.inl e)
theorem ji{ks:List Key}(ok:HOk P w H h)(e:H a=A? (.tup (ks.map kV))):(tupleKind (bv P w)).is h ks a:=by
 obtain⟨_,its,n,r,h1⟩:=(show ObjOk P w H h a (.tup (ks.map kV))from ok a _ e);exact⟨_,its.toArray,n,h1,D?,D?,by simpa using mM r⟩
theorem mQ(ok:HOk P w H h)(e:Rd H a (.dT kvs)):kvs.length<=V4/\(a == Xn)=C? /\
 ∃xs,KTd H kvs xs/\h.DictOfH (tupleKind (bv P w)) a xs:=by
 obtain⟨z,y,xs,r,o,es,ep,h1,h2,h3,h4,h5⟩:=(show ObjOk P w H h a (.dT kvs)from vK ok e);refine⟨z,y,xs,r,o,es,ep,h1,h2,h3,h4,λx hx=>?_,h5⟩
 have all:∀{l:List (List Key×V)}{m:List (List Key×Vy×Vz)},KTd H l m->∀x∈m,(tupleKind (bv P w)).is h x.1 x.2.1:=by
  intro l m q;induction q with
  |nil=>intro x hx;exact nomatch hx
  | @cons p q ps qs hq t ih =>
    intro x hx;rcases VS.mp hx with e|hx
    .subst e;exact ji ok (by rw[<-hq.1];exact hq.2.1)
    .exact ih x hx
 exact all r x hx
theorem qM(ok:HOk P w H h)(e:H a=A? (.dT kvs)):kvs.length<=V4/\(a == Xn)=C? /\
 ∃xs,KTd H kvs xs/\h.DictOfH (tupleKind (bv P w)) a xs:=mQ ok (.inl e)
def DGet(H:Hp)(a:Vy)(y:V)(r:Option V):Prop :=
 (∃kvs k,Rd H a (.dK kvs)/\y=kV k/\r=bT kvs k)\/∃kvs k b,Rd H a (.dT kvs)/\y=.ref b/\H b=A? (.tup (k.map kV))/\r=bT kvs k
def DPut(H:Hp)(a:Vy)(y v:V)(H':Hp):Prop :=
 (∃kvs k,H a=A? (.dK kvs)/\y=kV k/\kvs.length<V4/\H'=upd H a (.dK (putK kvs k v))) \/
 ∃kvs k b,H a=A? (.dT kvs)/\y=.ref b/\H b=A? (.tup (k.map kV))/\kvs.length<V4/\H'=upd H a (.dT (putK kvs k v))
theorem DGet.k{kvs:List (Key×V)}{k:Key}(e:H a=A? (.dK kvs)):DGet H a (kV k) (bT kvs k):=.inl ⟨kvs,k,.inl e,rfl,rfl⟩
theorem DGet.t{k:List Key}(e:H a=A? (.dT kvs))(eb:H b=A? (.tup (k.map kV))):DGet H a (.ref b) (bT kvs k):=.inr ⟨kvs,k,b,.inl e,rfl,eb,rfl⟩
theorem DPut.k{kvs:List (Key×V)}{k:Key}(e:H a=A? (.dK kvs))(hl:kvs.length<V4):DPut H a (kV k) v (upd H a (.dK (putK kvs k v))):=.inl ⟨kvs,k,e,rfl,hl,rfl⟩
theorem DPut.t{k:List Key}(e:H a=A? (.dT kvs))(eb:H b=A? (.tup (k.map kV)))(hl:kvs.length<V4) :
 DPut H a (.ref b) v (upd H a (.dT (putK kvs k v))):=.inr ⟨kvs,k,b,e,rfl,eb,hl,rfl⟩
section
variable{X:Cx}{r:Vz}{o:Option V}
theorem Inv.big(I:Inv X Y σ H s):Xn<s.1.1.size:=by
 have h:Xg<s.1.1.size:=(I.mod.glob.keeps I.bk).lt;exact YZ (by decide) h
theorem rZ(hu:A.units+1<Yd)(I:Inv X Y σ H s)(g:DGet H a y (A? v))(ry:RelV y u)(h:∀w' s',Inv X Y σ H s'->RelV v w'->Q w' s') :
 VW (Wb X.prog X.w) A (Zt (.ref a) u) Q E s:=by
 rcases g with⟨kvs,k,e,ey,l⟩|⟨kvs,k,b,e,ey,eb,l⟩
 .subst ey;obtain⟨z,hd,vs,rel,dd⟩:=l5 I.hok e;obtain⟨w',hw,C8⟩:=RelO.some_of (v:=v) (o:=valueAt vs k) (by rw[l];exact rel.val k);exact wpAny_getItem_of (mf ry) dd.mapOf hw (h w' _ (I.tok _) C8)
 .subst ey;cases(show u=Wf b from ry);obtain⟨z,hd,xs,rel,dd⟩:=mQ I.hok e;obtain⟨w',hw,C8⟩:=RelO.some_of (v:=v) (o:=(atKey xs k).map (·.2)) (by rw[l];exact rel.val k);obtain⟨p,hp,zC⟩:=V1.mp hw;refine wpAny_getItem_heap (Zm hu) (ji I.hok eb) dd hp ?_;rw[zC];exact h w' _ (I.tok _) C8
theorem uP(hu:A.units+1<Yd)(I:Inv X Y σ H s)(g:DGet H a y o)(ry:RelV y u)(h:∀s',Inv X Y σ H s'->Q (.bool (!o.isSome)) s') :
 VW (Wb X.prog X.w) A (Xv .NotIn u (.ref a)) Q E s:=by
 rcases g with⟨kvs,k,e,ey,l⟩|⟨kvs,k,b,e,ey,eb,l⟩
 .subst ey;obtain⟨z,hd,vs,rel,dd⟩:=l5 I.hok e;refine wpAny_notIn_of (mf ry) hd dd.mapOf ?_;rw[<-(rel.val k).isSome_eq,<-l];exact h _ (I.tok _)
 .subst ey;cases(show u=Wf b from ry);obtain⟨z,hd,xs,rel,dd⟩:=mQ I.hok e;refine wpAny_notIn_heap (Zm hu) (ji I.hok eb) hd dd ?_;have q:=(rel.val k).isSome_eq;rw[Option.isSome_map]at q;rw[<-q,<-l];exact h _ (I.tok _)
theorem j2{ob:HO}(I:Inv X Y σ H s)(mu:Mut (H a))(hs:W3 a s.1 h')(he:∃q,h'.get? a=A? q)(new:ObjOk X.prog X.w (upd H a ob) h' a ob) :
 Inv X Y σ (upd H a ob) {s with heap:=h',toks:=t'} :=
 I.write (x:=a) (e:=a) mu (.inl rfl) (λb q hb z=>(hs.2 b hb).trans z) he new
theorem tU{kvs:List (Key×V)}{vs:List (Key×Vz)}(z:kvs.length<=V4)(hd:(a == Xn)=C?)(rel:KV kvs vs)(dd:h'.DictOf (bv P w) a vs) :
 ObjOk P w H' h' a (.dK kvs):=⟨z,hd,vs,rel,dd⟩
theorem rH{Q:Unit->VF->Prop}(hu:A.units+1<Yd)(I:Inv X Y σ H s)(g:DPut H a y v H')(ry:RelV y u)(rv:RelV v r)(h:∀s',Inv X Y σ H' s'->Q () s') :
 VW (Wb X.prog X.w) A (setItem (.ref a) u r) Q E s:=by
 rcases g with⟨kvs,k,e,ey,l,eH⟩|⟨kvs,k,b,e,ey,eb,l,eH⟩
 .subst ey eH;obtain⟨z,hd,vs,rel,dd⟩:=vY I.hok e;have hz:vs.length<=V4:=by rw[<-rel.length];exact z
  have hl:(putK kvs k v).length<=V4:=by have:=eJ kvs k v;lia
  refine wpAny_setItem_pairs (hsz:=hz) (mf ry) dd λh' Ef hs=>h _ ?_;have he:∃q,h'.get? a=A? q:=let⟨q,_,_,hq,_⟩:=Ef;⟨q,hq⟩
  exact j2 I (by rw[e];exact XQ) hs he (tU hl hd (rel.put k rv) Ef)
 .subst ey eH;cases(show u=Wf b from ry);obtain⟨z,hd,xs,rel,dd⟩:=qM I.hok e;have hz:xs.length<=V4:=by rw[<-VZ rel];exact z
  have hl:(putK kvs k v).length<=V4:=by have:=eJ kvs k v;lia
  refine wpAny_setItem_heap (hsz:=hz) (Zm hu) (ji I.hok eb) dd λh' Ef hs=>h _ ?_;obtain⟨q,es,ep,hq,h2,h3,h4,_,h5⟩:=Ef;refine j2 I (by rw[e];exact XQ) hs ⟨q,hq⟩ ⟨hl,hd,_,(rel.put k eb rv).keeps λc ys ec=>?_,q,es,ep,hq,h2,h3,h4,h5⟩;rw[af (aH ec e (λz=>nomatch z))];exact ec
end
section
variable{X:Cx}{kvs:List (Key×V)}{k:Key}
end
def xJ(i:WB):Prop:=∀ov iv,subscripted i C? ov iv=operate [ov,iv] (Zt ov iv)
theorem uA{value slice:WB}{T id:String}
 (hl:typeLookup (.type T) "__getitem__"=pure (A? (.builtin id))) (hs:xJ slice)
 (h:VW (Wb prog w) A (XD value env) (λo l'=>VW (Wb prog w) A (XD slice env) (λi zR=>zR.TypeIs o T/\VW (Wb prog w) A (Zt o i) Q E zR) E l') E s) :
 VW (Wb prog w) A (XD (.Subscript value slice pos) env) Q E s:=by
 refine Subscript_ (Xm h (λo l' ze=>Xm ze (λi zR zY=>?_) λ_ _ x=>x) λ_ _ x=>x);obtain⟨hT,zY⟩:=zY;unfold subscriptTail;refine Vv ?_;rw[getitemInPython_of_ne hT.not_modules];refine Vv (wpAny_specialOf hT hl ?_)
 have fin:VW (Wb prog w) A (subscripted slice C? o i) (λr Ba=>VW (Wb prog w) A (letTemporaryGo value o r >>= λ_=>pure r) Q E Ba) E zR:=by
  rw[hs o i];exact wpAny_operating (Xm zY (λr Ba Bx=>Vv (wpAny_letTemporaryGo (VC Bx))) λ_ _ x=>x)
 first
  |exact VC (Vv fin)
  |exact Vv (VC (Vv fin))
  |exact Vv fin
theorem oi{X:Cx}{o:Option V}(I:Inv X Y σ H s)(g:DGet H a y o):s.TypeIs (.ref a) "dict":=by
 rcases g with⟨kvs,k,e,_,_⟩|⟨kvs,k,b,e,_,_,_⟩
 .obtain⟨_,_,vs,_,dd⟩:=l5 I.hok e;exact dd.typeIs
 .obtain⟨_,_,xs,_,dd⟩:=mQ I.hok e;exact dd.typeIs
def vS(td ty:TE):TE:=λσ H Q=>td σ H λx H1=>ty σ H1 λy H2=>∃a v,x=.ref a/\DGet H2 a y (A? v)/\Q v H2
def qu(ty td:TE):TE:=λσ H Q=>ty σ H λy H1=>td σ H1 λx H2=>∃a o,x=.ref a/\DGet H2 a y o/\Q (.bl (!o.isSome)) H2
def yn(td ty tv:TE):TS:=λD σ H=>tv σ H λv H1=>td σ H1 λx H2=>ty σ H2 λy H3=>∃a H4,x=.ref a/\DPut H3 a y v H4/\D.nx σ H4
section
variable{X:Cx}{o i value:WB}{Lw:YF}{td ty tv:TE}
theorem iE(hu:X.A.units+1<Yd)(ho:PE X o td)(hi:PE X i ty)(hs:xJ i):PE X (.Subscript o i pos) (vS td ty):=by
 intro Y s σ H Q I h;refine uA PySem.F.slot_dict_getitem.lookup hs (thn (ho Y s σ H _ I h) λu s1⟨x,H1,I1,rx,q1⟩=>thn (hi Y s1 σ H1 _ I1 q1) λiv s2⟨y,H2,I2,ry,a,v,ex,g,q2⟩=>?_);subst ex;obtain rfl:u=Wf a:=rx;exact⟨oi I2 g,rZ hu I2 g ry λw' s3 I3 C8=>⟨v,H2,I3,C8,q2⟩⟩
theorem gE(hu:X.A.units+1<Yd)(hi:PE X i ty)(ho:PE X o td):PC X .NotIn i o (qu ty td):=by
 intro Y s σ H Q I h;refine thn (hi Y s σ H _ I h) λiv s1⟨y,H1,I1,ry,q1⟩=>thn (ho Y s1 σ H1 _ I1 q1) λu s2⟨x,H2,I2,rx,a,ov,ex,g,q2⟩=>?_;subst ex;obtain rfl:u=Wf a:=rx;exact uP hu I2 g ry λs3 I3=>⟨.bl (!ov.isSome),H2,I3,rfl,q2⟩
theorem jZ(hu:X.A.units+1<Yd)(ho:PE X o td)(hi:PE X i ty)(hv:PE X value tv)(hs:swapsWith value (A? (.Subscript o i pos')) pos.line X.env=pure C?) :
 PS X (.Assign [.Subscript o i pos'] value pos) (yn td ty tv):=by
 intro Y s σ H D I h;refine wpAny_Assign_Subscript (thn (hv Y s σ H _ I h) λr s1⟨v,H1,I1,rv,q1⟩=>thn (ho Y s1 σ H1 _ I1 q1) λu s2⟨x,H2,I2,rx,q2⟩=>thn (hi Y s2 σ H2 _ I2 q2) λiv s3⟨y,H3,I3,ry,a,H4,ex,g,q3⟩=>?_) hs;subst ex;obtain rfl:u=Wf a:=rx;exact rH hu I3 g ry rv λs4 I4=>⟨σ,H4,I4,q3⟩
end
theorem nT(h:WS)(hb:Xn<h.objs.size):ObjOk P w H (h.push {cls:=.type "dict",data:=.dict #[]}) h.objs.size (.dK []) :=
 ⟨Wh _,beq_eq_false_iff_ne.mpr (XC (We hb)),[],.nil,Heap.DictOf.new h⟩
theorem sP(h:WS)(hb:Xn<h.objs.size):ObjOk P w H (h.push {cls:=.type "dict",data:=.dict #[]}) h.objs.size (.dT []) :=
 ⟨Wh _,beq_eq_false_iff_ne.mpr (XC (We hb)),[],.nil,_,#[],0,VI _ rfl,⟨rfl,rfl,rfl⟩,rfl,rfl,Yt⟩
def xw:TE:=λ_ H Q=>∀p,H p=AQ->Q (.ref p) (upd H p (.dK []))
def sZ:TE:=λ_ H Q=>∀p,H p=AQ->Q (.ref p) (upd H p (.dT []))
section
variable{X:Cx}
theorem kg:PE X (.Dict [] [] pos) xw:=λY s σ H Q I h =>
 wpAny_Dict_empty ⟨.ref s.1.1.size,_,I.laid (a:=s.1.1.size) (o:=.dK []) (t':=s.toks) (λ_ _ q=>VB _ q) (VG _) (nT s.1 I.big),rfl,h _ (I.hok.fresh (VG _))⟩
theorem gu:PE X (.Dict [] [] pos) sZ:=λY s σ H Q I h =>
 wpAny_Dict_empty ⟨.ref s.1.1.size,_,I.laid (a:=s.1.1.size) (o:=.dT []) (t':=s.toks) (λ_ _ q=>VB _ q) (VG _) (sP s.1 I.big),rfl,h _ (I.hok.fresh (VG _))⟩
end
def pF:List (TE×TE)->St->Hp->(List (V×V)->Hp->Prop)->Prop
 | [],_,H,Q=>Q [] H
 |(tk,tv)::r,σ,H,Q=>tk σ H λx H1=>tv σ H1 λy H2=>pF r σ H2 λps H3=>Q ((x,y)::ps) H3
abbrev VV:List (V×V)->List (Vz×Vz)->Prop:=Wc λp q=>RelV p.1 q.1/\RelV p.2 q.2
def PPs(X:Cx)(pos:YF)(keys:List (Option WB))(values:List WB)(Eg:List (TE×TE)):Prop :=
 ∀(Y:List (Vy×Xw))(s:VF)(σ:St)(H:Hp)(Q:List (V×V)->Hp->Prop),Inv X Y σ H s->pF Eg σ H Q ->
   VW (Wb X.prog X.w) X.A (evalPairs (pairTrees keys values X.env pos)) (λvs s'=>∃ps H',Inv X Y σ H' s'/\VV ps vs/\Q ps H') X.xe s
theorem uE{X:Cx}:PPs X pos [] [] []:=λY s σ H Q I h=>pairTrees_nil_walk ⟨[],H,I,.nil,h⟩
theorem tq{X:Cx}{k v:WB}{ks:List (Option WB)}{vs:List WB}{tk tv:TE}{Eg:List (TE×TE)}(hk:PE X k tk)(hv:PE X v tv)(hr:PPs X pos ks vs Eg) :
 PPs X pos (A? k::ks) (v::vs) ((tk,tv)::Eg):=λY s σ H Q I h =>
 pairTrees_cons_walk (thn (hk Y s σ H _ I h) λu s1⟨x,H1,I1,rx,q1⟩=>thn (hv Y s1 σ H1 _ I1 q1) λw2 s2⟨y,H2,I2,ry,q2⟩ =>
  thn (hr Y s2 σ H2 _ I2 q2) λws s3⟨ps,H3,I3,rel,q3⟩=>⟨(x,y)::ps,H3,I3,.cons ⟨rx,ry⟩ rel,q3⟩)
def jz(kvs more:List (Key×V)):List (Key×V):=more.foldl (λacc kv=>putK acc kv.1 kv.2) kvs
theorem KV.merge:∀{more:List (Key×V)}{rs:List (Key×Vz)}{kvs:List (Key×V)}{vs:List (Key×Vz)},KV more rs->KV kvs vs->KV (jz kvs more) (merged vs rs):=by
 intro more rs kvs vs r;unfold KV at r;induction r generalizing kvs vs with
 |nil=>intro q;exact q
 | @cons p q ps qs h t ih =>
   intro r0
   have e:KV (putK kvs p.1 p.2) (stored vs q.1 q.2):=by
    have:=r0.put p.1 h.2;rw[<-h.1];exact this
   exact ih e
theorem gR:∀(more kvs:List (Key×V)),(jz kvs more).length<=kvs.length+more.length
 | [],kvs=>by show kvs.length<=kvs.length+0;lia
 | p::r,kvs=>by
   have h1:=gR r (putK kvs p.1 p.2);have h2:=eJ kvs p.1 p.2;show(jz (putK kvs p.1 p.2) r).length<=_;rw[VU];lia
theorem ku{P:V8}{w:Wm}:∀{kvs:List (Key×V)}{ws:List (Vz×Vz)},VV (kvs.map λkv=>(kV kv.1,kv.2)) ws->∃rs,Carries (bv P w) ws rs/\KV kvs rs
 | [],_,r=>by rw[XI]at r;cases r;exact⟨[],XQ,.nil⟩
 | p::kvs,_,r=>by
   rw[V6]at r;cases r with
   | @cons a b as bs h t =>
     obtain⟨rs,c,q⟩:=ku (P:=P) (w:=w) t;obtain⟨b1,b2⟩:=b;exact⟨(p.1,b2)::rs,⟨mf h.1,D?,c⟩,.cons ⟨D?,h.2⟩ q⟩
def xS(Eg:List (TE×TE)):TE:=λσ H Q=>∀p,H p=AQ->pF Eg σ (upd H p (.dK [])) λps H2=>H2 p=A? (.dK [])/\∃kvs:List (Key×V),ps=kvs.map (λkv=>(kV kv.1,kv.2))/\kvs.length<=15/\Q (.ref p) (upd H2 p (.dK (jz [] kvs)))
theorem uG{X:Cx}{keys:List (Option WB)}{values:List WB}{Eg:List (TE×TE)}(h:PPs X pos keys values Eg)(y8:keys.all (·.isSome)=B?)(hl:keys.length=values.length)(h0:keys≠[])
 (Rh:keys.length<=15):PE X (.Dict keys values pos) (xS Eg):=by
 intro Y s σ H Q I q;have hn:=I.hok.fresh (VG s.1.1.size);have I1:=I.laid (a:=s.1.1.size) (o:=.dK []) (h':=s.1.push {cls:=.type "dict",data:=.dict #[]}) (t':=s.toks) (λ_ _ q=>VB _ q) (VG _) (nT s.1 I.big);refine wpAny_Dict_walk (knd:=bv X.prog X.w) y8 hl h0 Rh (thn (h Y _ σ _ _ I1 (q _ hn)) λws s2⟨ps,H2,I2,rel,e,kvs,ep,lk,q2⟩=>?_);subst ep;obtain⟨rs,c,rk⟩:=ku (P:=X.prog) (w:=X.w) rel;obtain⟨z,hd,UU,r0,dd⟩:=vY I2.hok e;cases r0;refine⟨rs,c,dd,λh' Ef hs=>⟨.ref s.1.1.size,_,?_,D?,q2⟩⟩
 have hz:(jz [] kvs).length<=V4:=by
  have h1:=gR kvs [];rw[YH]at h1;rw[Y2];lia
 have he:∃q,h'.get? s.1.1.size=A? q:=let⟨q,_,_,hq,_⟩:=Ef;⟨q,hq⟩
 exact j2 I2 (by rw[e];exact XQ) hs he (tU hz hd (rk.merge .nil) Ef)
structure M2(X:Cx)(o:WB)(m:V5)(apos:YF)(e f:WB)(zf:YF):Prop where
 base:Zg o m X.env (XD o X.env)=XD o X.env
 few:((Yy zf (Wu [e,f] X.env)).all (λx=>!x.1) && (backToKw zf (keywordEach [] X.env)).all (λx=>x.1.isSome)
  && decide (([e,f]:List WB).length+([]:List Keyword).length+(if([]:List Keyword).isEmpty then 0 else 1)<30))=B?
 line:(apos.endLine == zf.line)=B?
 trees:Yy zf (Wu [e,f] X.env)=[(C?,XD e X.env),(C?,XD f X.env)]
def IsD(H:Hp)(a:Vy):Prop:=(∃kvs,Rd H a (.dK kvs))\/∃kvs,Rd H a (.dT kvs)
theorem xo{X:Cx}(I:Inv X Y σ H s)(d:IsD H a) :
 s.TypeIs (.ref a) "dict"/\(∀b,Wf a=.ref b->∃ob,s.1.get? b=A? ob/\ob.dict=AQ)/\(a == Xn)=false:=by
 rcases d with⟨kvs,e⟩|⟨kvs,e⟩
 .obtain⟨_,hd,vs,_,dd⟩:=l5 I.hok e;refine⟨dd.typeIs,λb q=>?_,hd⟩;cases q;obtain⟨ob,_,_,h1,h2,_⟩:=dd;exact⟨ob,h1,h2.2.1⟩
 .obtain⟨_,hd,xs,_,dd⟩:=mQ I.hok e;refine⟨dd.typeIs,λb q=>?_,hd⟩;cases q;obtain⟨ob,_,_,h1,h2,_⟩:=dd;exact⟨ob,h1,h2.2.1⟩
section
variable{X:Cx}{d:V}{r:Vz}{o:Option V}
theorem wZ(hu:A.units+1<Yd)(I:Inv X Y σ H s)(g:DGet H a y o)(ry:RelV y u)(rd:RelV d r)(h:∀w' s',Inv X Y σ H s'->RelV (o.getD d) w'->Q w' s') :
 VW (Wb X.prog X.w) A (call (.builtin "dict.get") [.ref a,u,r]) Q E s:=by
 rcases g with⟨kvs,k,e,ey,l⟩|⟨kvs,k,b,e,ey,eb,l⟩
 .subst ey;obtain⟨z,hd,vs,rel,dd⟩:=l5 I.hok e;refine call_meetsIn PySem.F.slot_dict_get dd.typeIs PySem.F.entry_dict_get (PySem.F.args_dict_get_3 _ _ _) (meets_dict_get_default (bv X.prog X.w) a (mf ry) hd r) ⟨_,dd.mapOf,h _ _ (I.tok _) ?_⟩;rw[l];exact(rel.val k).getD rd
 .subst ey;cases(show u=Wf b from ry);obtain⟨z,hd,xs,rel,dd⟩:=mQ I.hok e;refine call_meetsIn PySem.F.slot_dict_get dd.typeIs PySem.F.entry_dict_get (PySem.F.args_dict_get_3 _ _ _) (meetsH_dict_get_default (tupleKind (bv X.prog X.w)) a b hd r) ⟨Zm hu,k,xs,ji I.hok eb,dd,h _ _ (I.tok _) ?_⟩;rw[l];exact(rel.val k).getD rd
end
def xA(td ty tx:TE):TE:=λσ H Q=>td σ H λx H1=>∃a,x=.ref a/\IsD H1 a/\ty σ H1 λy H2=>tx σ H2 λz H3=>∃o,DGet H3 a y o/\Q (o.getD z) H3
section
variable{X:Cx}{o f:WB}{apos zf:YF}{td ty tx:TE}
theorem sQ(hu:X.A.units+1<Yd)(ho:PE X o td)(he:PE X e ty)(hf:PE X f tx)(m:M2 X o "get" apos e f zf):PE X (.Call (.Attribute o "get" apos) [e,f] [] zf) (xA td ty tx):=by
 intro Y s σ H Q I h;refine wpAny_Call_method m.base m.few m.line PySem.F.plainAttrs_dict PySem.F.slot_dict_get PySem.F.type_dict_get (thn (ho Y s σ H _ I h) λu s1⟨x,H1,I1,rx,a,ex,d,q1⟩=>?_);subst ex;obtain rfl:u=Wf a:=rx;obtain⟨t1,t2,_⟩:=xo I1 d;refine⟨t1,t2,?_⟩;rw[m.trees]
 refine Zx rfl (Calls.evalArgs_plain (XE (thn (he Y s1 σ H1 _ I1 q1) λiv s2⟨y,H2,I2,ry,q2⟩ =>
  XE (thn (hf Y s2 σ H2 _ I2 q2) λfv s3⟨z,H3,I3,rz,ov,g,q3⟩=>X1 ?_))))
 exact wZ hu I3 g ry rz λw' s4 I4 C8=>⟨_,H3,I4,C8,q3⟩
end
section
variable{X:Cx}{kvs:List (Key×V)}
end
section
variable{X:Cx}
end
inductive vR(K:VD)(T:String)(xs:List V)(H:Hp)(Q:VK):Prop
 |mk (x:_) (b:_) (t:_) (AS:xs=[x,.ty T]) (AU:iL K H x t) (Cj:PySem.W.kitOne K t (.type T)=A? b) (D8:Q (.bl b) H):vR K T xs H Q
def yC(K:VD)(T:String):List V->Hp->VK->Prop:=vR K T
theorem rW{X:Cx}{T:String}:fZ X (.builtin "isinstance") (yC X.K T):=by
 intro Y s σ H xs us Q I r h;obtain⟨x,b,t,e,ty,k,q⟩:=h;exact t7 (T:=T) (b:=b) (t:=t) Y s σ H xs us Q I r ⟨x,e,ty,k,q⟩
theorem wU:PySem.W.kitOne K (.type "tuple") (.type "tuple")=A? true:=rfl
end L2
namespace BB
open PySem L2
set_option genInjectivity true in
inductive Dv where
 |int (i:Int)
 |str (x:V5)
 |tup (ds:List Dv)
mutual
def Dv.deep:Dv->Nat
 |.int _=>0
 |.str _=>0
 |.tup ds=>cb ds+1
def cb:List Dv->Nat
 | []=>0
 |d::ds=>max d.deep (cb ds)
end
mutual
def Dv.tot:Dv->Nat
 |.int _=>1
 |.str _=>1
 |.tup ds=>u6 ds+1
def u6:List Dv->Nat
 | []=>0
 |d::ds=>d.tot+u6 ds
end
mutual
def DAt(H:Hp):Dv->V->Prop
 |.int i,v=>v=.int i
 |.str x,v=>v=.str x
 |.tup ds,v=>∃a vs,v=.ref a/\H a=A? (.tup vs)/\DAts H ds vs
def DAts(H:Hp):List Dv->List V->Prop
 | [],vs=>vs=[]
 |d::ds,vs=>∃v r,vs=v::r/\DAt H d v/\DAts H ds r
end
theorem DAts.nil:DAts H [] []:=by rw[DAts]
theorem DAts.cons{d:Dv}{ds:List Dv}{vs:List V}(h1:DAt H d v)(h2:DAts H ds vs):DAts H (d::ds) (v::vs):=by rw[DAts];exact⟨v,vs,D?,h1,h2⟩
theorem DAts.length:∀{ds:List Dv}{vs:List V},DAts H ds vs->vs.length=ds.length
 | [],vs,h=>by rw[DAts]at h;subst h;rfl
 | d::ds,vs,h=>by
   rw[DAts]at h;obtain⟨v,r,rfl,h1,h2⟩:=h;rw[VU,VU,h2.length]
theorem DAts.at:∀{ds:List Dv}{vs:List V}{i:Nat}{d:Dv},DAts H ds vs->ds[i]?=A? d->∃v,vs[i]?=A? v/\DAt H d v
 | [],vs,i,d,h,e=>by simp at e
 | d0::ds,vs,i,d,h,e=>by
   rw[DAts]at h;obtain⟨v,r,rfl,h1,h2⟩:=h;cases i with
   |zero=>simp at e;subst e;exact⟨v,D?,h1⟩
   | succ i =>
     obtain⟨u,g1,g2⟩:=h2.at (i:=i) (by simpa using e);exact⟨u,by simpa using g1,g2⟩
theorem fq:∀{ds:List Dv}{i:Nat}{d:Dv},ds[i]?=A? d->d.deep<=cb ds
 | [],i,d,e=>by simp at e
 | d0::ds,i,d,e=>by
   rw[cb];cases i with
   |zero=>simp at e;subst e;lia
   | succ i =>
     have:=fq (ds:=ds) (i:=i) (by simpa using e);lia
theorem qU:∀{ds:List Dv}{i:Nat}{d:Dv},ds[i]?=A? d->d.tot<=u6 ds
 | [],i,d,e=>by simp at e
 | d0::ds,i,d,e=>by
   rw[u6];cases i with
   |zero=>simp at e;subst e;lia
   | succ i =>
     have:=qU (ds:=ds) (i:=i) (by simpa using e);lia
theorem Dv.tot_pos(d:Dv):1<=d.tot:=by
 cases d with
 |int i=>rw[Dv.tot];lia
 |str x=>rw[Dv.tot];lia
 |tup ds=>rw[Dv.tot];lia
mutual
def Th.dv:Th->Dv
 |.knot n ks=>.tup (.str n::dvs ks)
 |.call s k=>.tup [.str q,.int s,.int k]
def dvs:List Th->List Dv
 | []=>[]
 |t::ts=>t.dv::dvs ts
end
mutual
theorem At.dv:∀{t:Th}{a:Vy},At H t a->DAt H t.dv (.ref a)
 | .knot n ks,a,h=>by
   rw[At]at h;obtain⟨_,as,h1,h2⟩:=h;rw[Th.dv,DAt];exact⟨a,_,D?,h1,.cons (by rw[DAt]) (Ats.dvs h2)⟩
 | .call s k,a,h=>by
   rw[At]at h;rw[Th.dv,DAt];exact⟨a,_,D?,h,.cons (by rw[DAt]) (.cons (by rw[DAt]) (.cons (by rw[DAt]) .nil))⟩
theorem Ats.dvs:∀{ts:List Th}{as:List Vy},Ats H ts as->DAts H (dvs ts) (as.map k!)
 | [],as,h=>by rw[Ats]at h;subst h;rw[BB.dvs];exact .nil
 | t::ts,as,h=>by
   rw[Ats]at h;obtain⟨a,r,rfl,h1,h2⟩:=h;rw[BB.dvs,V6];exact .cons (At.dv h1) (Ats.dvs h2)
end
mutual
theorem Th.dv_deep:∀t:Th,t.dv.deep<=t.tall
 | .knot n ks=>by
   have:=oX ks;rw[Th.dv,Dv.deep,cb,Dv.deep,w!];lia
 |.call s k=>by rw[Th.dv,w!];simp[Dv.deep,cb]
theorem oX:∀ts:List Th,cb (dvs ts)<=bw ts
 | []=>by rw[dvs,cb];exact Wh _
 | t::ts=>by
   have:=t.dv_deep;have:=oX ts;rw[dvs,cb,bw];lia
end
theorem pX{ys:List V}{Q:VK}(ha:H a=A? (.tup xs))(hb:H b=A? (.tup ys))(hz:xs.length+ys.length<=1000000)(q:∀p H',j! H H'->H' p=A? (.tup (xs++ys))->Q (.ref p) H'):we K (.ref a) (.ref b) H Q:=by
 refine⟨a,b,xs,ys,D?,D?,i! ha,i! hb,cG hz,λe=>?_,λ_ e=>?_,λ_ _ p hp=>?_⟩
 .exact q b H (.refl _) (by rw[e];exact hb)
 .exact q a H (.refl _) (by rw[e,Za];exact ha)
 .exact q p _ (ao hp _) ac
theorem P2.reverse{F:α->β->Prop}:∀{a:List α}{b:List β},Wc F a b->Wc F a.reverse b.reverse
 |_,_,.nil=>.nil
 | _,_,.cons r t=>by
   rw[WZ,WZ];exact v! (P2.reverse t) (.cons r .nil)
theorem P2.snoc_inv{F:α->β->Prop}{a:List α}{b:List β}{y:β}(h:Wc F a (b++[y])):∃us x,a=us++[x]/\Wc F us b/\F x y:=by
 have r:=P2.reverse h;rw[XY,YB,YL]at r;cases e:a.reverse with
 |nil=>rw[e]at r;cases r
 | cons x us =>
   rw[e]at r;cases r with
   | cons h1 h2 =>
     refine⟨us.reverse,x,?_,?_,h1⟩
     .rw[<-WZ,<-e,Yh]
     .have:=P2.reverse h2;rw[Yh]at this;exact this
theorem dJ:∀{ts:List Th}{t:Th},t∈ts->t.size<=au ts
 | u::ts,t,h=>by
   rw[au];rcases VS.mp h with rfl|h
   .lia
   .have:=dJ h;lia
end BB
open BB.Dv renaming int->y!,tup->E!,deep->Q!
open BB.Th renaming dv->P!
variable{ds:List BB.Dv}
namespace BB
open PySem L2
section
variable{ext:Th->List V}{t:Th}{ts:List Th}{es:List Vy}
end
def Th.isCall:Th->Bool
 |.knot _ _=>C?
 |.call _ _=>B?
def TK(K:VD)(H:Hp)(a:Vy)(xs:List V):Prop:=H a=A? (.tup xs)\/(xs=[.str (VE "*")]/\∃(o:Xw)(its:Array Vz)(n:Nat),K.lookup a=A? o/\o.cls=.type "tuple"/\o.data=.seq its n/\its.size<=V4/\Vals xs its.toList)
theorem TK.of(h:H a=A? (.tup xs)):TK K H a xs:=.inl h
theorem TK.sq(h:TK K H a xs):SqT K H a xs:=by
 rcases h with h|h
 .exact i! h
 .exact .inr h.2
mutual
def DAtK(K:VD)(H:Hp):Dv->V->Prop
 |.int i,v=>v=.int i
 |.str x,v=>v=.str x
 |.tup ds,v=>∃a vs,v=.ref a/\TK K H a vs/\DAtsK K H ds vs
def DAtsK(K:VD)(H:Hp):List Dv->List V->Prop
 | [],vs=>vs=[]
 |d::ds,vs=>∃v r,vs=v::r/\DAtK K H d v/\DAtsK K H ds r
end
theorem DAtsK.length:∀{ds:List Dv}{vs:List V},DAtsK K H ds vs->vs.length=ds.length
 | [],vs,h=>by rw[DAtsK]at h;subst h;rfl
 | d::ds,vs,h=>by
   rw[DAtsK]at h;obtain⟨v,r,rfl,h1,h2⟩:=h;rw[VU,VU,h2.length]
theorem DAtsK.at:∀{ds:List Dv}{vs:List V}{i:Nat}{d:Dv},DAtsK K H ds vs->ds[i]?=A? d->∃v,vs[i]?=A? v/\DAtK K H d v
 | [],vs,i,d,h,e=>by simp at e
 | d0::ds,vs,i,d,h,e=>by
   rw[DAtsK]at h;obtain⟨v,r,rfl,h1,h2⟩:=h;cases i with
   |zero=>simp at e;subst e;exact⟨v,D?,h1⟩
   | succ i =>
     obtain⟨u,g1,g2⟩:=h2.at (i:=i) (by simpa using e);exact⟨u,by simpa using g1,g2⟩
mutual
theorem DAt.k:∀{d:Dv}{v:V},DAt H d v->DAtK K H d v
 |.int i,v,h=>by rw[DAt]at h;rw[DAtK];exact h
 |.str x,v,h=>by rw[DAt]at h;rw[DAtK];exact h
 | .tup ds,v,h=>by
   rw[DAt]at h;rw[DAtK];obtain⟨a,vs,e,h1,h2⟩:=h;exact⟨a,vs,e,.of h1,DAts.k h2⟩
theorem DAts.k:∀{ds:List Dv}{vs:List V},DAts H ds vs->DAtsK K H ds vs
 | [],vs,h=>by rw[DAts]at h;rw[DAtsK];exact h
 | d::ds,vs,h=>by
   rw[DAts]at h;rw[DAtsK];obtain⟨v,r,e,h1,h2⟩:=h;exact⟨v,r,e,DAt.k h1,DAts.k h2⟩
end
mutual
theorem DAtK.inj{X:Cx}(I:Inv X Y σ H s):∀{d e:Dv}{v:V},DAtK X.K H d v->DAtK X.K H e v->d=e
 |.int i,.int j,v,h,g=>by rw[DAtK]at h;rw[DAtK]at g;rw[h]at g;cases g;rfl
 |.int i,.str y,v,h,g=>by rw[DAtK]at h;rw[DAtK]at g;rw[h]at g;cases g
 |.int i,.tup es,v,h,g=>by rw[DAtK]at h;rw[DAtK]at g;obtain⟨a,vs,e,_⟩:=g;rw[h]at e;cases e
 |.str x,.int j,v,h,g=>by rw[DAtK]at h;rw[DAtK]at g;rw[h]at g;cases g
 |.str x,.str y,v,h,g=>by rw[DAtK]at h;rw[DAtK]at g;rw[h]at g;cases g;rfl
 |.str x,.tup es,v,h,g=>by rw[DAtK]at h;rw[DAtK]at g;obtain⟨a,vs,e,_⟩:=g;rw[h]at e;cases e
 |.tup ds,.int j,v,h,g=>by rw[DAtK]at h;rw[DAtK]at g;obtain⟨a,vs,e,_⟩:=h;rw[e]at g;cases g
 |.tup ds,.str y,v,h,g=>by rw[DAtK]at h;rw[DAtK]at g;obtain⟨a,vs,e,_⟩:=h;rw[e]at g;cases g
 | .tup ds,.tup es,v,h,g=>by
   rw[DAtK]at h;rw[DAtK]at g;obtain⟨a,vs,e1,h1,h2⟩:=h;obtain⟨b,ws,e2,g1,g2⟩:=g;rw[e1]at e2;cases e2;have e3:=I.tuple_inj h1.sq g1.sq;subst e3;rw[DAtsK.inj I h2 g2]
theorem DAtsK.inj{X:Cx}(I:Inv X Y σ H s):∀{ds es:List Dv}{vs:List V},DAtsK X.K H ds vs->DAtsK X.K H es vs->ds=es
 | [],[],vs,h,g=>rfl
 | [],e::es,vs,h,g=>by rw[DAtsK]at h;rw[DAtsK]at g;obtain⟨v,r,z,_⟩:=g;rw[h]at z;cases z
 |d::ds,[],vs,h,g=>by rw[DAtsK]at h;rw[DAtsK]at g;obtain⟨v,r,z,_⟩:=h;rw[g]at z;cases z
 | d::ds,e::es,vs,h,g=>by
   rw[DAtsK]at h;rw[DAtsK]at g;obtain⟨v,r,z,h1,h2⟩:=h;obtain⟨v',r',z',g1,g2⟩:=g;rw[z]at z';cases z';rw[DAtK.inj I h1 g1,DAtsK.inj I h2 g2]
end
end BB
namespace L2
open PySem PySem.Spec PySem.SeqAt PyProof.Rows BB
open Classical in
theorem pR[DecidableEq α]{zc:List Vz}{ds es:List α}(p1:s.1.IsTuple a its.toArray)(p2:s.1.IsTuple b zc.toArray)(l1:its.length=ds.length)(l2:zc.length=es.length)(hu:A.units<Yd)
 (ih:∀(j:Nat)(d e:α)(u v:Vz),ds[j]?=A? d->es[j]?=A? e->its[j]?=A? u->zc[j]?=A? v->EqAt A.in1 s u v (decide (d=e))):RcAt A s (.ref a) (.ref b) (decide (ds=es)):=by
 have LW:RcAt A s (.ref a) (.ref b) ((Xf (min its.toArray.size zc.toArray.size)).all (λj=>decide (ds[j]?=es[j]?)) && its.toArray.size == zc.toArray.size):=by
  refine RcAt.tuples p1 p2 hu λj h1 h2=>?_;have Ib:j<ds.length:=by rw[<-l1];simpa using h1
  have Ic:j<es.length:=by rw[<-l2];simpa using h2
  have e1:ds[j]?=A? ds[j]:=Vw Ib;have e2:es[j]?=A? es[j]:=Vw Ic;have e3:decide (ds[j]?=es[j]?)=decide (ds[j]=es[j]):=by rw[e1,e2];simp
  have g1:its[j]?=A? its[j]:=Vw (by rw[l1];exact Ib);have g2:zc[j]?=A? zc[j]:=Vw (by rw[l2];exact Ic);rw[e3];exact ih j ds[j] es[j] its[j] zc[j] e1 e2 g1 g2
 have e:decide (ds=es)=((Xf (min its.toArray.size zc.toArray.size)).all (λj=>decide (ds[j]?=es[j]?)) && its.toArray.size == zc.toArray.size):=by
  rw[VM,VM,l1,l2];by_cases h:ds=es
  .subst h;rw[d! rfl];symm;simp
  .rw[c! h];symm;by_cases hl:ds.length=es.length
   .rw[hl,Nat.min_self]
    have:¬((Xf es.length).all (λj=>decide (ds[j]?=es[j]?)))=true:=by
     intro z;apply h;apply Yi;intro j;by_cases hj:j<es.length
     .exact e! (X2.mp z j (ZT.mpr hj))
     .rw[WR (by lia),WR (by lia)]
    rw[Z5.mpr this];rfl
   .have:(ds.length == es.length)=false:=by simpa using hl
    rw[this,Bool.and_false]
 rw[e];exact LW
open Classical in
theorem mE{X:Cx}(I:Inv X Y σ H s){es:List Dv}{vs ws:List V}(ha:SqT X.K H a vs)(hb:SqT X.K H b ws)(CY:DAtsK X.K H ds vs)(Ah:DAtsK X.K H es ws)(hu:A.units<Yd)
 (ih:∀(j:Nat)(d e:Dv)(x y:V)(u v:Vz),ds[j]?=A? d->DAtK X.K H d x->DAtK X.K H e y->RelV x u->RelV y v->EqAt A.in1 s u v (decide (d=e))):RcAt A s (.ref a) (.ref b) (decide (E! ds=E! es)):=by
 obtain⟨its,r1,p1,_⟩:=I.tuple ha;obtain⟨zc,r2,p2,_⟩:=I.tuple hb;rw[show decide (E! ds=E! es)=decide (ds=es)from decide_eq_decide.mpr ⟨λz=>Dv.tup.inj z,λz=>h! _ z⟩];refine pR (show s.1.IsTuple a its.toArray from p1) (show s.1.IsTuple b zc.toArray from p2) (by rw[<-r1.length,CY.length]) (by rw[<-r2.length,Ah.length]) hu λj d e u v e1 e2 e3 e4=>?_;obtain⟨x',Bc,dx⟩:=CY.at e1;obtain⟨y',B0,dy⟩:=Ah.at e2;obtain⟨u',Cq,Fv⟩:=r1.get Bc;obtain⟨v',AW,B7⟩:=r2.get B0;rw[Cq]at e3;rw[AW]at e4;cases e3;cases e4;exact ih j d e x' y' _ _ e1 dx dy Fv B7
open Classical in
theorem kK{X:Cx}(I:Inv X Y σ H s):∀(n:Nat)(d e:Dv),d.tot<=n->∀(x y:V)(u v:Vz)(A:Wr),DAtK X.K H d x->DAtK X.K H e y->RelV x u->RelV y v->A.units+d.deep<Yd->EqAt A s u v (decide (d=e))
 |0,d,e,hn,x,y,u,v,A,hd,he,ru,rv,hu=>by have:=d.tot_pos;lia
 | n+1,.int i,.int j,hn,x,y,u,v,A,hd,he,ru,rv,hu=>by
   rw[DAtK]at hd;rw[DAtK]at he;subst hd he;obtain⟨t,rfl⟩:=ru;obtain⟨t',rfl⟩:=rv
   have e:decide (y! i=y! j)=(i == j):=by
    by_cases h:i=j
    .subst h;simp
    .rw[c! (λz=>h (Dv.int.inj z))];simp[h]
   rw[e];exact EqAt.int_int i t j t'
 | n+1,.int i,.str b,hn,x,y,u,v,A,hd,he,ru,rv,hu=>by
   rw[DAtK]at hd;rw[DAtK]at he;subst hd he;obtain⟨t,rfl⟩:=ru;obtain⟨t',rfl⟩:=rv;rw[c! (λz=>by cases z)];exact EqAt.int_str i t b t'
 | n+1,.int i,.tup es,hn,x,y,u,v,A,hd,he,ru,rv,hu=>by
   rw[DAtK]at hd;rw[DAtK]at he;obtain⟨a,vs,rfl,ha,_⟩:=he;subst hd;obtain⟨t,rfl⟩:=ru;cases rv;obtain⟨its,_,p,_⟩:=I.tuple (ha.sq);rw[c! (λz=>by cases z)];exact EqAt.int_tuple i t (show s.1.IsTuple a its.toArray from p) (by lia)
 | n+1,.str b,.int j,hn,x,y,u,v,A,hd,he,ru,rv,hu=>by
   rw[DAtK]at hd;rw[DAtK]at he;subst hd he;obtain⟨t,rfl⟩:=ru;obtain⟨t',rfl⟩:=rv;rw[c! (λz=>by cases z)];exact EqAt.str_int b t j t'
 | n+1,.str b,.str c,hn,x,y,u,v,A,hd,he,ru,rv,hu=>by
   rw[DAtK]at hd;rw[DAtK]at he;subst hd he;obtain⟨t,rfl⟩:=ru;obtain⟨t',rfl⟩:=rv
   have e:decide (Dv.str b=Dv.str c)=(b == c):=by
    by_cases h:b=c
    .subst h;simp
    .rw[c! (λz=>h (Dv.str.inj z))];simp[h]
   rw[e];exact EqAt.str_str b t c t'
 | n+1,.str b,.tup es,hn,x,y,u,v,A,hd,he,ru,rv,hu=>by
   rw[DAtK]at hd;rw[DAtK]at he;obtain⟨a,vs,rfl,ha,_⟩:=he;subst hd;obtain⟨t,rfl⟩:=ru;cases rv;obtain⟨its,_,p,_⟩:=I.tuple (ha.sq);rw[c! (λz=>by cases z)];exact EqAt.str_tuple b t (show s.1.IsTuple a its.toArray from p) (by lia)
 | n+1,.tup ds,.int j,hn,x,y,u,v,A,hd,he,ru,rv,hu=>by
   rw[DAtK]at hd;rw[DAtK]at he;obtain⟨a,vs,rfl,ha,_⟩:=hd;subst he;cases ru;obtain⟨t,rfl⟩:=rv;obtain⟨its,_,p,_⟩:=I.tuple (ha.sq);rw[c! (λz=>by cases z)];exact EqAt.tuple_int j t (show s.1.IsTuple a its.toArray from p) (by lia)
 | n+1,.tup ds,.str b,hn,x,y,u,v,A,hd,he,ru,rv,hu=>by
   rw[DAtK]at hd;rw[DAtK]at he;obtain⟨a,vs,rfl,ha,_⟩:=hd;subst he;cases ru;obtain⟨t,rfl⟩:=rv;obtain⟨its,_,p,_⟩:=I.tuple (ha.sq);rw[c! (λz=>by cases z)];exact EqAt.tuple_str b t (show s.1.IsTuple a its.toArray from p) (by lia)
 | n+1,.tup ds,.tup es,hn,x,y,u,v,A,hd,he,ru,rv,hu=>by
   have Ri:=hd;have GI:=he;rw[DAtK]at hd;rw[DAtK]at he;obtain⟨a,vs,rfl,ha,CY⟩:=hd;obtain⟨b,ws,rfl,hb,Ah⟩:=he;cases ru;cases rv;by_cases GJ:a=b
   .subst GJ;rw[d! (DAtK.inj I Ri GI)];exact EqAt.same _
   rw[Dv.tot]at hn;rw[Q!]at hu;refine EqAt.of_refs GJ (mE I ha.sq hb.sq CY Ah (by lia) λj d e x' y' u' v' e1 dx dy Fv B7=>?_);have q1:=qU e1;have q2:=fq e1;refine kK I n d e (by lia) x' y' u' v' A.in1 dx dy Fv B7 ?_;show A.units+1+_<Yd;lia
end L2
namespace BB
open PySem PySem.Spec PyProof.Rows L2
mutual
theorem DAt.inj:∀{d e:Dv}{v:V},DAt H d v->DAt H e v->d=e
 |.int i,.int j,v,h,g=>by rw[DAt]at h;rw[DAt]at g;rw[h]at g;cases g;rfl
 |.int i,.str y,v,h,g=>by rw[DAt]at h;rw[DAt]at g;rw[h]at g;cases g
 |.int i,.tup es,v,h,g=>by rw[DAt]at h;rw[DAt]at g;obtain⟨a,vs,e,_⟩:=g;rw[h]at e;cases e
 |.str x,.int j,v,h,g=>by rw[DAt]at h;rw[DAt]at g;rw[h]at g;cases g
 |.str x,.str y,v,h,g=>by rw[DAt]at h;rw[DAt]at g;rw[h]at g;cases g;rfl
 |.str x,.tup es,v,h,g=>by rw[DAt]at h;rw[DAt]at g;obtain⟨a,vs,e,_⟩:=g;rw[h]at e;cases e
 |.tup ds,.int j,v,h,g=>by rw[DAt]at h;rw[DAt]at g;obtain⟨a,vs,e,_⟩:=h;rw[e]at g;cases g
 |.tup ds,.str y,v,h,g=>by rw[DAt]at h;rw[DAt]at g;obtain⟨a,vs,e,_⟩:=h;rw[e]at g;cases g
 | .tup ds,.tup es,v,h,g=>by
   rw[DAt]at h;rw[DAt]at g;obtain⟨a,vs,e1,h1,h2⟩:=h;obtain⟨b,ws,e2,g1,g2⟩:=g;rw[e1]at e2;cases e2;rw[h1]at g1;cases g1;rw[DAts.inj h2 g2]
theorem DAts.inj:∀{ds es:List Dv}{vs:List V},DAts H ds vs->DAts H es vs->ds=es
 | [],[],vs,h,g=>rfl
 | [],e::es,vs,h,g=>by rw[DAts]at h;rw[DAts]at g;obtain⟨v,r,z,_⟩:=g;rw[h]at z;cases z
 |d::ds,[],vs,h,g=>by rw[DAts]at h;rw[DAts]at g;obtain⟨v,r,z,_⟩:=h;rw[g]at z;cases z
 | d::ds,e::es,vs,h,g=>by
   rw[DAts]at h;rw[DAts]at g;obtain⟨v,r,z,h1,h2⟩:=h;obtain⟨v',r',z',g1,g2⟩:=g;rw[z]at z';cases z';rw[DAt.inj h1 g1,DAts.inj h2 g2]
end
end BB
namespace L2
open PySem PySem.Spec PySem.SeqAt PyProof.Rows BB
open Classical in
theorem j1{X:Cx}(I:Inv X Y σ H s):∀(n:Nat)(d e:Dv),d.tot<=n->∀(x y:V)(u v:Vz)(A:Wr),DAt H d x->DAt H e y->RelV x u->RelV y v->A.units+d.deep<Yd->EqAt A s u v (decide (d=e)):=λn d e hn x y u v A hd he=>kK I n d e hn x y u v A hd.k he.k
def yK(K:VD)(B:Nat):R2:=λx y H Q=>∃a b vs ws ds es,x=.ref a/\y=.ref b/\SqT K H a vs/\SqT K H b ws/\DAts H ds vs/\DAts H es ws/\cb ds<=B/\∀b:Bool,(b=B?↔ds=es)->Q (.bl b) H
open Classical in
theorem wz{X:Cx}(hu:X.A.units+B+2<Yd):OpR X (Xv .Eq) (yK X.K B):=by
 intro Y s σ H x y v u Q I rx ry h;obtain⟨a,b,vs,ws,ds,es,rfl,rfl,ha,hb,CY,Ah,hB,q⟩:=h;cases rx;cases ry
 have r:RcAt X.A s (.ref a) (.ref b) (decide (E! ds=E! es)):=mE I ha hb CY.k Ah.k (by lia) λj d e x' y' u' v' e1 dx dy Fv B7=>by
  have q2:=fq e1;refine kK I _ d e (VG _) x' y' u' v' X.A.in1 dx dy Fv B7 ?_;show X.A.units+1+_<Yd;lia
 refine r X.prog X.w X.xe _ ⟨.bl (decide (E! ds=E! es)),H,I,rfl,q _ ?_⟩;constructor
 .intro z;exact Dv.tup.inj (e! z)
 .intro z;rw[z];exact d! rfl
def uL(K:VD)(B:Nat):R2:=λx y H Q=>∃b ws d es,y=.ref b/\SqT K H b ws/\DAt H d x/\DAts H es ws/\cb es<=B/\∀r:Bool,(r=B?↔d∉es)->Q (.bl r) H
open Classical in
theorem sw{X:Cx}(hu:X.A.units+B+2<Yd):OpR X (Xv .NotIn) (uL X.K B):=by
 intro Y s σ H x y v u Q I rx ry h;obtain⟨b,ws,d,es,rfl,hb,hd,Ah,hB,q⟩:=h;cases ry;obtain⟨its,r1,p1,_⟩:=I.tuple hb
 have key:∀(j:Nat)(z:Vz),its[j]?=A? z->∃e y',es[j]?=A? e/\DAt H e y'/\RelV y' z:=by
  intro j z hz;have hj:j<its.length:=(glE hz);have l1:=r1.length;have l2:=Ah.length;have CI:j<es.length:=by lia
  obtain⟨y',B0,dy⟩:=Ah.at (Vw CI);obtain⟨v',AW,B7⟩:=r1.get B0;rw[hz]at AW;cases AW;exact⟨_,y',Vw CI,dy,B7⟩
 have uniq:∀(z:Vz)(e e':Dv)(y' CZ:V),DAt H e y'->RelV y' z->DAt H e' CZ->RelV CZ z->e=e':=by
  intro z e e' y' CZ h1 h2 h3 h4;have:=h2.inj h4;subst this;exact h1.inj h3
 refine notIn_tupleAt (λz=>decide (∃y',DAt H d y'/\RelV y' z)) (show s.1.IsTuple b its.toArray from p1) (λz hz=>?_) ⟨.bl _,H,I,rfl,q _ ?_⟩
 .obtain⟨j,hj⟩:=VL.mp (show z∈its by simpa using hz);obtain⟨e,y',he,dy,ry⟩:=key j z hj;have hq:=fq he
  have e3:decide (∃y',DAt H d y'/\RelV y' z)=decide (e=d):=by
   by_cases h:e=d
   .rw[d! h,d! ⟨y',h ▸ dy,ry⟩]
   .rw[c! h,c!];rintro⟨CZ,h1,h2⟩;exact h (uniq z e d y' CZ dy ry h1 h2)
  rw[e3];refine j1 I _ e d (VG _) y' x z v X.A.in1 dy hd ry rx ?_;show X.A.units+1+_<Yd;lia
 .rw[Z4,<-Bool.not_eq_true];refine not_congr ?_;constructor
  .intro z;obtain⟨v',h1,h2⟩:=ZW.mp z;obtain⟨j,hj⟩:=VL.mp (show v'∈its by simpa using h1);obtain⟨e,y',he,dy,ry⟩:=key j v' hj;obtain⟨CZ,h3,h4⟩:=e! h2;rw[<-uniq v' e d y' CZ dy ry h3 h4];exact Vx he
  .intro z;obtain⟨j,hj⟩:=VL.mp z;obtain⟨y',B0,dy⟩:=Ah.at hj;obtain⟨v',AW,B7⟩:=r1.get B0;refine ZW.mpr ⟨v',?_,d! ⟨y',dy,B7⟩⟩;have:=Vx AW;simpa using this
end L2
namespace BB
open PySem L2
end BB
namespace PySem
theorem bb_extendT(l:Vy)(items:Array Vz)(n:Nat)(b:Vy)(zd:Array Vz)(n2:Nat)(dd:Option Vy)(sl:Array (Option Vz))(g0:¬(!items.isEmpty && XU (items.size+zd.size))=B?)(g1:items.size<=V4)(g2:items.size+zd.size<=V4+1) :
 Meets (YC.«list.extend» ⟨[.ref l,.ref b],[]⟩) (λ_ R s=>s.1.get? l=A? {cls:=.type "list",dict:=AQ,data:=.seq items n,slots:=#[]}/\s.1.get? b=A? {cls:=.type "tuple",dict:=dd,data:=.seq zd n2,slots:=sl}/\R (.ok (.ret W7)) {s with heap:=s.1.update l (WV λx=>x++zd),toks:=s.toks}) :=
 .of_wp λprog w A R s h=>by
  obtain⟨hp,g,d,tk,os⟩:=s;obtain⟨hl,hb,h⟩:=h;have f1:=AutoSeq1.idx_int;have f2:=AutoSeq1.sub_tuple_tuple;have f3:=AutoSeq1.sub_list_list;have f4:=AutoSeq1.sub_tuple_list;have f5:=AutoSeq1.sub_list_tuple;have z2:(items++zd).size<=V4+1:=by rw[Array.size_append];exact g2
  wp_walk using(Xq hl rfl (hz:=g1) (_hz':=z2)),XW hl,XW hb
  exact⟨_,D?,h⟩
end PySem
namespace L2
open PySem PySem.Spec PyProof.Rows
section
variable{X:Cx}
def tE(K:VD):V->List V->Hp->VK->Prop:=λx vs H Q=>∃l b xs zs,x=.ref l/\vs=[.ref b]/\H l=A? (.lst xs)/\SqT K H b zs/\xs.length+zs.length<=V4/\Q .non (upd H l (.lst (xs++zs)))
theorem pM:MtM X "list.extend" (tE X.K):=by
 intro Y s σ H x vs v us Q I rx rv h;obtain⟨l,b,xs,zs,rfl,rfl,hH,hB,hz,q⟩:=h;cases rx;obtain⟨u,rfl,ru⟩:=rv.one;cases ru;obtain⟨z,its,n,r,hl,e⟩:=I.lstM hH;obtain⟨zc,r2,p2,_⟩:=I.tuple hB;have Ae:=r2.length;obtain⟨⟨Ea,Ck,data2,Cm⟩,e2,AX,n2,hd2⟩:=p2;simp only at AX hd2;subst AX hd2;have hsz:its.toArray.size+zc.toArray.size<=V4:=by rw[VM,VM];lia
 have Bw:¬(!its.toArray.isEmpty && XU (its.toArray.size+zc.toArray.size))=true:=by
  rw[lf hsz,Bool.and_false];exact VY
 refine call_meets F.slot_list_extend ⟨_,e,rfl⟩ F.entry_list_extend (F.args_list_extend_2 _ _)
  (bb_extendT l its.toArray n b zc.toArray n2 Ck Cm Bw (by rw[VM];lia) (by lia)) ⟨e,e2,?_⟩
 refine⟨.non,_,I.lset (its':=its++zc) hH e (by simp) (r.append r2) ?_,D?,q⟩;rw[VJ];lia
theorem rE{bs:List Bool}(r:Vals (bs.map V.bl) its){v:Vz}(h:its[i]?=A? v):∃b,bs[i]?=A? b/\v=.bool b:=by
 have hl:=r.length;have hi:i<its.length:=(glE h);rw[Vu]at hl;obtain⟨u,hu,ru⟩:=r.get (i:=i) (x:=.bl bs[i]) (by rw[VA,Vw (by lia)];rfl);rw[h]at hu;cases hu;cases ru;exact⟨_,Vw (by lia),D?⟩
def yB(K:VD):List V->Hp->VK->Prop:=λxs H Q=>∃(p:Vy)(bs:List Bool),xs=[.ref p]/\SqL K H p (bs.map V.bl)/\Q (.bl (bs.all id)) H
theorem oH(hc:X.calm=B?):fZ X (.builtin "all") (yB X.K):=by
 intro Y s σ H xs us Q I r h;obtain⟨p,bs,rfl,hl,q⟩:=h;obtain⟨u,rfl,rx⟩:=vals1 r;cases rx;obtain⟨its,rv,pl,_⟩:=I.list hl;have hlen:=rv.length;rw[Vu]at hlen;have yZ:p<s.1.1.size:=by obtain⟨_,_,e,_⟩:=pl;exact V2 e
 refine call_all_walk (wpAny_pyIter_list pl.isList ?_);refine⟨s.1.1.size,[s.1.1.size,p],[s.1.1.size],its.toArray.size,_,_,λi=>(bs[i]?).getD B?,D?,Walks.list (A:=X.A.in1) (I.ok.hd hc) _ p (We yZ) its.toArray,⟨⟨_,VI _ rfl,D?,D?⟩,pl.isList.push _⟩,λi v s' Q' E' hP hQ=>?_,λh' tk hk=>?_⟩
 .obtain⟨b,e,rfl⟩:=rE rv (i:=i) (v:=v) (by simpa using hP);simp only[e,Option.getD_some]at hQ;exact Yp hQ
 .have e:((Xf its.toArray.size).all λi=>(bs[i]?).getD B?)=bs.all id:=by
   rw[VM,<-hlen];exact LSm.range_all bs
  rw[e];exact⟨.bl (bs.all id),H,I.kept (LSm.kept_iter hk),D?,q⟩
end
end L2
namespace BB
open PySem L2
theorem mw{w:V5}{n:Int}(h0:0<=n)(h:n+1<=(w.length:Int)):(fO w AQ (A? (n+1))).length=n.toNat+1:=by
 rw[lr]
 have e1:p! w.length w.length (A? (n+1))=n.toNat+1:=by
  show(if n+1<0 then _ else min (n+1).toNat w.length)=_;rw[a! (by lia)];lia
 have e2:p! w.length 0 AQ=0:=rfl;rw[e1,e2];lia
theorem uJ{A B:V5}{c d:Nat}(h:A++⟨#[c]⟩++B=A++⟨#[d]⟩++B):c=d:=by
 have h1:(A.cps++#[c]++B.cps)=(A.cps++#[d]++B.cps):=h! Str.cps h;have h2:=h! Array.toList h1;simp at h2;exact h2
theorem oZ{base i j:Int}(hi:0<=i)(Rj:i<8)(hj:0<=j)(UW:j<8)(h:nameOf base i=nameOf base j):i=j:=by
 unfold nameOf at h;split at h
 .have h1:=h! Str.length h;rw[mw hi (by rw[dI];lia),mw hj (by rw[dI];lia)]at h1;lia
 .have h1:=uJ h;unfold kj at h1;have a1:=Wl (((((base / 112) / 26 ^ (nAt base).toNat)%26).toNat:Int)+i) (by decide:(26:Int)≠0);have a2:=Wl (((((base / 112) / 26 ^ (nAt base).toNat)%26).toNat:Int)+j) (by decide:(26:Int)≠0);generalize((((base / 112) / 26 ^ (nAt base).toNat)%26).toNat:Int)=l at h1 a1 a2;lia
def kDv(k:V5×Int):Dv:=.tup [.str k.1,.int k.2]
theorem vH:∀{ks:List (V5×Int)}{as:List Vy},Wc (KAt H) ks as->DAts H (ks.map kDv) (as.map k!)
 |_,_,.nil=>.nil
 | _,_,.cons r h=>by
   rw[V6,V6];refine .cons ?_ (vH h);rw[kDv,DAt];exact⟨_,_,D?,r,.cons (by rw[DAt]) (.cons (by rw[DAt]) .nil)⟩
theorem ou:∀ks:List (V5×Int),cb (ks.map kDv)<=1
 | []=>by rw[XI,cb];exact Wh _
 | k::ks=>by
   have:=ou ks;rw[V6,cb,kDv];simp only[Q!,cb];lia
theorem vj{k:Nat}(hr:L2.Room k A):A.units+50+2<Yd:=by
 have:=hr.units;lia
end BB
namespace PySem
open Sem (wp)
namespace F
end F
section
variable{xs:Array Vz}{k:Nat}
end
end PySem
namespace L2
open PySem PySem.Spec PyProof.Rows BB
section
variable{X:Cx}
end
end L2
namespace BB
open PySem L2
end BB
namespace HT
open PySem PySem.Spec PyProof.Rows
theorem getItem_tuple_whole{t:Vy}(ht:IsTup s.1 t items)(hs:s.1.IsSliceOf sl vl vu .none)(pl:IsPart vl lo)(pu:IsPart vu hi)
 (hw:sIx items.size 0 lo=0/\sIx items.size items.size hi=items.size) (h:Q (.ref t) s):VW (Wb prog w) A (Zt (.ref t) (.ref sl)) Q E s:=by
 obtain⟨os,Bv,EH,AD⟩:=id hs;have HE:s.TypeIs (.ref sl) "slice":=⟨os,Bv,EH⟩;have hT:s.TypeIs (.ref t) "tuple":=ht.typeIs;unfold Zt
 try with_reducible refine WT ?_
 first|refine Vv (VC ?_)|skip
 refine Vv (wpAny_sequenceKey ht.typeIs (by decide) ?_)
 refine Vv (WJ (name:=VE "__getitem__") ht.typeIs WH
  (WM WH ht.typeIs entry_tuple_getitem ?_ (args_tuple_getitem _ _)))
 show VW _ _ (Builtin.Tuple.tupleItemsOf (.ref t) >>= _) _ _ s;refine Vv (tupleItemsOf_ ht ?_);refine Vv (Zq HE ?_);rw[b! (by decide)];refine Vv (sliceApplied_gen hs pl pu ?_)
 have LX:(((sIx items.size 0 lo:Nat):Int) == 0 && (1:Int) == 1 && (sIx items.size items.size hi - sIx items.size 0 lo) == items.size)=true:=by
  rw[hw.1,hw.2];simp
 show VW _ _ (if(((sIx items.size 0 lo:Nat):Int) == 0 && (1:Int) == 1 && (sIx items.size items.size hi - sIx items.size 0 lo) == items.size)=B? then _ else _) _ _ s;rw[b! LX];refine Vv (m:=Builtin.Tuple.tupleIsExact _) ?_;unfold Builtin.Tuple.tupleIsExact;refine Vv (Zq hT (VC ?_));rw[b! (by decide)];exact Vv (ZF (VC ⟨_,rfl,VC h⟩))
end HT
namespace L2
open PySem PySem.Spec PyProof.Rows
inductive wg(x:V)(lo:Option Int)(hi:Option Int)(H:Hp)(Q:VK):Prop
 |mk (a:_) (xs:_) (AS:x=.ref a) (AU:H a=A? (.tup xs)) (Cj:∀p H',Same H H'->H' p=A? (.tup (dw xs lo hi))->Q (.ref p) H'):wg  x lo hi H Q
def yP:V->Option Int->Option Int->Hp->VK->Prop:=wg
theorem rf{X:Cx}:SlR X yP:=by
 intro Y s σ H x v vl vu lo hi sl Q I rx hs pl pu h;obtain⟨a,xs,rfl,ha,q⟩:=h;by_cases hw:p! xs.length 0 lo=0/\p! xs.length xs.length hi=xs.length
 .obtain⟨its,r,p1,hz⟩:=I.tuple (i! (K:=X.K) ha);have hl:=r.length;cases rx
  have e:dw xs lo hi=xs:=by
   unfold dw;rw[hw.1,hw.2,Zi,Nat.sub_zero,XJ]
  refine⟨"tuple",_,WH.lookup,p1.typeIs,HT.getItem_tuple_whole p1 hs pl pu (by rw[VM,<-hl];exact hw) ⟨.ref a,H,I,D?,q a H (.refl _) (by rw[e];exact ha)⟩⟩
 .exact cR Y s σ H _ v vl vu lo hi sl Q I rx hs pl pu ⟨a,xs,rfl,i! ha,hw,λp hp=>q p _ (ao hp _) ac⟩
end L2
namespace PySem
open Sem (wp)
section
variable{od:Xw}{es:Array ZK}
theorem bb_keyNext{en:ZK}{Q:Option Vz->VF->Prop}(g:s.1.IsKeyIter it d i es.size ep)(g1:s.1.get? d=A? od)(g2:od.data=.dict es ep)(hx:es[i]?=A? en)
 (fin:∀h',h'.IsKeyIter it d (i+1) es.size ep->W3 it s.1 h'->Q (A? en.key) {s with heap:=h'}):VW (Wb prog w) A (YE (.ref it)) Q E s:=by
 obtain⟨o,q1,q2,q3⟩:=id g;unfold YE;refine Vv (ZL (WJ (name:=VE "__next__") g.typeIs X3 (WM X3 g.typeIs F.entry_dict_keyiterator_next ?_ (F.args_dict_keyiterator_next_1 _))));refine Vv (VC ?_);refine Vv ?_;refine Vv ?_
 first|refine Vv (YN g.typeIs (VC ?_))|refine Vv (Zf g.typeIs (VC ?_))
 refine Vv (wpAny_fieldsOf q1 q3 ?_);have own:X4 "dict_keyiterator"=false:=by decide
 simp only[own,X7,if_false];show VW _ _ (if(Wf d == W7)=B? then _ else _) _ _ s;rw[a! (show¬((Wf d == W7)=B?)from VY)];refine Vv (VC ?_);refine Vv (X0 g1 g2 ?_);rw[a! (by simp)];refine Vv (VC ?_);refine Vv (Zl g1 g2 ?_);rw[a! (by simp)];refine VC ?_;have lt:i<es.size:=(YX.mp hx).1;have ee:es[i]=en:=(YX.mp hx).2;simp only[show¬((i:Int)<0)from by lia,if_false,VQ,X8 lt];refine Vv ?_
 first|refine Vv (YN g.typeIs (VC ?_))|refine Vv (Zf g.typeIs (VC ?_))
 refine Vv (wpAny_isOneOf_keyiter g.typeIs ?_);show VW _ _ (setField (.ref it) 1 (XX ((i:Int)+1)) >>= _) _ _ s;refine Vv (wpAny_setField q1 q3 (by simp) ?_);have g':(s.1.update it (Obj.mapFields (·.setIfInBounds 1 (XX ((i:Int)+1))))).IsKeyIter it d (i+1) es.size ep:=⟨_,WU _ q1 (Obj.isFreed_of_fields (Obj.data_mapFields q3 _)),(Obj.cls_mapFields ..).trans q2,by rw[Obj.data_mapFields q3];simp[XX]⟩;refine Vv (WT ?_);refine Vv (wpAny_isOneOf_keyiter (s:={s with heap:=s.1.update it (Obj.mapFields (·.setIfInBounds 1 (XX ((i:Int)+1))))}) g'.typeIs ?_);show VW _ _ (pure es[i].key) _ _ _;rw[ee];exact VC (VC ⟨_,rfl,VC (fin _ g' (Xb ..))⟩)
theorem bb_keyEnd{Q:Option Vz->VF->Prop}(calm:A.handled=AQ)(g:s.1.IsKeyIter it d i es.size ep)(g1:s.1.get? d=A? od)(g2:od.data=.dict es ep)(hx:es.size<=i)
 (fin:∀h',Heap.ExtBut it s.1 h'->Q AQ {s with heap:=h'}):VW (Wb prog w) A (YE (.ref it)) Q E s:=by
 obtain⟨o,q1,q2,q3⟩:=id g;unfold YE;refine Vv (ZL (WJ (name:=VE "__next__") g.typeIs X3 (WM X3 g.typeIs F.entry_dict_keyiterator_next ?_ (F.args_dict_keyiterator_next_1 _))));refine Vv (VC ?_);refine Vv ?_;refine Vv ?_
 first|refine Vv (YN g.typeIs (VC ?_))|refine Vv (Zf g.typeIs (VC ?_))
 refine Vv (wpAny_fieldsOf q1 q3 ?_);have own:X4 "dict_keyiterator"=false:=by decide
 simp only[own,X7,if_false];show VW _ _ (if(Wf d == W7)=B? then _ else _) _ _ s;rw[a! (show¬((Wf d == W7)=B?)from VY)];refine Vv (VC ?_);refine Vv (X0 g1 g2 ?_);rw[a! (by simp)];refine Vv (VC ?_);refine Vv (Zl g1 g2 ?_);rw[a! (by simp)];refine VC ?_;simp only[show¬((i:Int)<0)from by lia,if_false,VQ,Zk hx];refine Vv ?_
 first|refine Vv (YN g.typeIs (VC ?_))|refine Vv (Zf g.typeIs (VC ?_))
 show VW _ _ (setField (.ref it) 0 .none >>= _) _ _ s;refine Vv (wpAny_setField q1 q3 (by simp) ?_);show VW _ _ (newExc (.type "StopIteration") [] >>= _) _ _ _;refine Vv ?_;simp only[newExc,newTuple];refine Vv (WC ?_ (by size_fits));refine Vv (m:=Zu _ _) (wpAny_of_eq (a:=W7) (by first|rfl|(simp only[Zu];rfl)) ?_);refine WC ?_ (by size_fits);simp only[raiseNew];refine Vv (wpAny_handled ?_)
 first|rw[show A.in1.handled=AQ from calm]|rw[calm]
 refine Vv (VC (wpAny_throw ?_));refine Vv (wpAny_isInstance (T:="StopIteration") (b:=B?) ⟨_,VI _ rfl,rfl⟩ isSubtype_stop ?_);exact VC (fin _ (((Xb ..).extBut.push _).push _))
theorem bb_keyIter(ns:(d == Xn)=C?)(g1:s.1.get? d=A? od)(gc:od.cls=.type "dict")(g2:od.data=.dict es ep)
 (fin:Q (.ref s.1.1.size) {s with heap:=s.1.push {cls:=.type "dict_keyiterator",data:=.fields #[.ref d,.int 0 0,.int es.size 0,.int ep 0]}}):VW (Wb prog w) A (pyIter (.ref d)) Q E s:=by
 have gT:s.TypeIs (.ref d) "dict":=⟨_,g1,gc⟩;refine Zs gT F.slot_dict_iter (WM F.slot_dict_iter gT F.entry_dict_iter ?_ (F.args_dict_iter_1 _));unfold YC.«dict.__iter__»;refine Vv ?_;unfold Builtin.Dict.dictSlotNone;refine Vv (wpAny_notOrdered_dict gT ?_);show VW _ _ (pure (Wf d)) _ _ s;refine VC ?_;show VW _ _ (ZE d >>= _) _ _ s;unfold ZE;rw[a! (by rw[ns];exact VY)];refine Vv (VC ?_);refine Vv (X0 g1 g2 ?_);refine Vv (Zl g1 g2 ?_);refine Vv (WC (VC ⟨_,rfl,"dict_keyiterator",_,⟨_,VI _ rfl,rfl⟩,X3.lookup,?_⟩));simpa[XX]using fin
end
end PySem
namespace L2
open PySem PySem.Spec PyProof.Rows
theorem Inv.freeze{X:Cx}{o:Xw}(I:Inv X Y σ H s)(ha:H a=A? (.dT kvs))(ho:s.1.get? a=A? o):Inv X Y σ (upd H a (.frz o (.dT kvs))) s:=by
 have ne:∀b u,H b=A? u->u≠.dT kvs->b≠a:=λb u e d z=>by rw[z,ha]at e;exact d (VN e).symm
 have ht:∀b xs,H b=A? (.tup xs)->upd H a (.frz o (.dT kvs)) b=A? (.tup xs):=λb xs e=>by rw[af (ne b _ e (by intro z;cases z))];exact e
 have hw:∀c b,H b=A? (.own c)->upd H a (.frz o (.dT kvs)) b=A? (.own c):=λc b e=>by rw[af (ne b _ e (by intro z;cases z))];exact e
 have st:∀b u,H b=A? u->ObjOk X.prog X.w (upd H a (.frz o (.dT kvs))) s.1 b u:=λb u e=>(I.hok b u e).stay (λ_ _ _ q=>q) (hw b) ht;refine I.step (g':=s.gens) (d':=s.drawn) (t':=s.toks) (ch:=[]) (λ_ z=>nomatch z) (λb ob _ _ _ e _=>e) (λb ob _ _ _ e _=>⟨ob.slots,e⟩) (λb ob _ e n=>?_) (λb ob _ e=>⟨ob,e⟩) ht (λb ob u e=>?_) (λb ps e=>⟨#[],?_⟩) (λm hm=>hm) (λb u e=>?_) I.bare
 .rw[af (λz=>by rw[z,ha]at n;cases n)];exact n
 .rw[af (ne b _ e (by intro z;cases z))];exact e
 .rw[af (ne b _ e (by intro z;cases z)),e];simp
 .by_cases hb:b=a
  .subst hb;rw[ac]at e;cases e;exact⟨ho,st _ _ ha⟩
  .rw[af hb]at e;exact st b u e
section
variable{X:Cx}{te:TE}
end
end L2
namespace BB
open PySem L2
inductive Top where
 |nm (n:V5) (m:Nat)
 |th (t:Th)
def bl:List Top->List Th
 | []=>[]
 |.nm n m::S=>.knot n ((bl S).take m)::(bl S).drop m
 |.th t::S=>t::bl S
def TopsOk:List Top->Prop
 | []=>True
 |.nm _ m::S=>m<=(bl S).length/\TopsOk S
 |.th _::S=>TopsOk S
theorem TopsOk.drop:∀{l:List Top}(i:Nat),TopsOk l->TopsOk (l.drop i)
 |l,0,h=>by rw[Zi];exact h
 | [],i+1,h=>by rw[List.drop_nil];exact h
 | .nm n m::S,i+1,h=>by
   rw[TopsOk]at h;rw[List.drop_succ_cons];exact TopsOk.drop i h.2
 | .th t::S,i+1,h=>by
   rw[TopsOk]at h;rw[List.drop_succ_cons];exact TopsOk.drop i h
theorem pC:∀l:List Top,(bl l).length<=l.length
 | []=>VG _
 | .nm n m::S=>by
   have:=pC S;rw[bl,VU,VU,WO];lia
 | .th t::S=>by
   have:=pC S;rw[bl,VU,VU];lia
mutual
def Th.fill(f:Int->Int->Th):Th->Th
 |.knot n ks=>.knot n (fills f ks)
 |.call s k=>f s k
def fills(f:Int->Int->Th):List Th->List Th
 | []=>[]
 |t::ts=>t.fill f::fills f ts
end
theorem je(f:Int->Int->Th):∀ts:List Th,(fills f ts).length=ts.length
 | []=>by rw[fills]
 |t::ts=>by rw[fills,VU,VU,je f ts]
mutual
theorem qN:∀t:Th,t.fill q!=t
 |.knot n ks=>by rw[Th.fill,nQ ks]
 |.call s k=>by rw[Th.fill]
theorem nQ:∀ts:List Th,fills q! ts=ts
 | []=>by rw[fills]
 |t::ts=>by rw[fills,qN t,nQ ts]
end
def cU(f:Int->Int->Th):Th->Top
 |.knot n ks=>.nm n ks.length
 |.call s k=>.th (f s k)
theorem iz(f:Int->Int->Th):∀(n:Nat)(ts:List Th),au ts<=n->∀S,bl ((walks ts).map (cU f)++S)=fills f ts++bl S/\(TopsOk S->TopsOk ((walks ts).map (cU f)++S))
 |_,[],_,S=>by rw[walks,fills];exact⟨D?,λh=>h⟩
 | 0,t::ts,hn,S=>by
   have:=t.size_pos;rw[au]at hn;lia
 | n+1,t::ts,hn,S=>by
   have hs:=t.size_eq;rw[au]at hn;have h2:=iz f n ts (by lia) S;have e:(walks (t::ts)).map (cU f)++S=cU f t::((walks t.kids).map (cU f)++((walks ts).map (cU f)++S)):=by rw[walks,t.walk_eq];simp
   have h1:=iz f n t.kids (by lia) ((walks ts).map (cU f)++S);rw[e];cases t with
   | knot nm ks =>
     simp only[Th.kids]at h1 |-;refine⟨?_,λhS=>?_⟩
     .show bl (.nm nm ks.length::_)=_;rw[bl,h1.1,h2.1,<-je f ks,List.take_left,List.drop_left,fills,Th.fill];rfl
     .show TopsOk (.nm nm ks.length::_);rw[TopsOk];refine⟨?_,h1.2 (h2.2 hS)⟩;rw[h1.1,VJ,je];exact Nat.le_add_right _ _
   | call s k =>
     simp only[Th.kids,walks,XI,List.nil_append]at h1 |-;refine⟨?_,λhS=>?_⟩
     .show bl (.th (f s k)::_)=_;rw[bl,h2.1,fills,Th.fill];rfl
     .show TopsOk (.th (f s k)::_);rw[TopsOk];exact h2.2 hS
theorem uS(f:Int->Int->Th)(t:Th):bl (t.walk.map (cU f))=[t.fill f]/\TopsOk (t.walk.map (cU f)):=by
 have h:=iz f _ [t] (VG _) [];have e:walks [t]=t.walk:=by simp[walks]
 rw[e,Za]at h;refine⟨?_,h.2 (by rw[TopsOk];trivial)⟩;rw[h.1,fills,fills,bl];rfl
theorem qx(x:V)(xs:List V):dw (x::xs) AQ (A? 1)=[x]:=by
 unfold dw;rw[show(A? (1:Int))=A? ((1:Nat):Int)from rfl,x!,HT.sIx_none,VU,Nat.min_eq_left (by lia)];rfl
end BB
open BB.Th renaming fill->B!
namespace PySem
open Sem (wp)
end PySem
namespace L2
open PySem PySem.Spec PyProof.Rows BB
end L2
namespace BB
open PySem L2
theorem kT{k:Nat}(hr:L2.Room k A):A.units+150+2<Yd:=by
 have:=hr.un;lia
end BB
namespace L2
open PySem PySem.Spec PySem.SeqAt PyProof.Rows BB
open Classical in
theorem tT{X:Cx}(I:Inv X Y σ H s){es:List Dv}{vs ws:List V}{zc:List Vz}(r1:Vals vs its)(r2:Vals ws zc)(CY:DAts H ds vs)(Ah:DAts H es ws)(hu:A.units+cb ds+2<Yd) :
 ∀j(h1:j<its.toArray.size)(h2:j<zc.toArray.size),EqAt A.in1 s its.toArray[j] zc.toArray[j] (decide (ds[j]?=es[j]?)):=by
 intro j h1 h2;have l1:its.length=ds.length:=by rw[<-r1.length,CY.length]
 have l2:zc.length=es.length:=by rw[<-r2.length,Ah.length]
 have Ib:j<ds.length:=by rw[<-l1];simpa using h1
 have Ic:j<es.length:=by rw[<-l2];simpa using h2
 have e1:ds[j]?=A? ds[j]:=Vw Ib;have e2:es[j]?=A? es[j]:=Vw Ic;obtain⟨x',Bc,dx⟩:=CY.at e1;obtain⟨y',B0,dy⟩:=Ah.at e2;obtain⟨u',Cq,Fv⟩:=r1.get Bc;obtain⟨v',AW,B7⟩:=r2.get B0;have e3:decide (ds[j]?=es[j]?)=decide (ds[j]=es[j]):=by rw[e1,e2];simp
 have e4:its.toArray[j]=u':=by
  rw[Vw (by rw[l1];exact Ib)]at Cq;simpa using Cq
 have e5:zc.toArray[j]=v':=by
  rw[Vw (by rw[l2];exact Ic)]at AW;simpa using AW
 rw[e3,e4,e5];have q2:=fq e1;refine j1 I _ ds[j] es[j] (VG _) x' y' u' v' A.in1 dx dy Fv B7 ?_;show A.units+1+_<Yd;lia
open Classical in
theorem pq{es:List Dv}(hl:ds.length=es.length):(Xf ds.length).all (λj=>decide (ds[j]?=es[j]?))=decide (ds=es):=by
 by_cases h:ds=es
 .subst h;rw[d! rfl];simp
 .rw[c! h];refine Z5.mpr λz=>h (Yi λj=>?_);by_cases hj:j<ds.length
  .exact e! (X2.mp z j (ZT.mpr hj))
  .rw[WR (by lia),WR (by lia)]
def yv(K:VD)(B:Nat):R2:=λx y H Q=>∃a b vs ws ds es,x=.ref a/\y=.ref b/\SqT K H a vs/\SqT K H b ws/\DAts H ds vs/\DAts H es ws/\cb ds<=B/\∀b:Bool,(b=B?↔ds≠es)->Q (.bl b) H
open Classical in
theorem wS{X:Cx}(hu:X.A.units+B+2<Yd):OpR X (Xv .NotEq) (yv X.K B):=by
 intro Y s σ H x y v u Q I rx ry h;obtain⟨a,b,vs,ws,ds,es,rfl,rfl,ha,hb,CY,Ah,hB,q⟩:=h;cases rx;cases ry;obtain⟨its,r1,p1,_⟩:=I.tuple ha;obtain⟨zc,r2,p2,_⟩:=I.tuple hb;have l1:its.length=ds.length:=by rw[<-r1.length,CY.length]
 have l2:zc.length=es.length:=by rw[<-r2.length,Ah.length]
 refine RcNeAt.tuples (show s.1.IsTuple a its.toArray from p1) (show s.1.IsTuple b zc.toArray from p2) (by lia) (tT I r1 r2 CY Ah (by lia)) X.prog X.w X.xe _ ?_
 have e:((Xf (min its.toArray.size zc.toArray.size)).all (λj=>decide (ds[j]?=es[j]?)) && its.toArray.size == zc.toArray.size)=decide (ds=es):=by
  rw[VM,VM,l1,l2];by_cases hl:ds.length=es.length
  .rw[<-hl,Nat.min_self,pq hl];simp
  .rw[c! (λz=>hl (by rw[z]))];simp[hl]
 refine⟨.bl (!decide (ds=es)),H,I,by rw[e];rfl,q _ ?_⟩;simp
end L2
namespace BB
open PySem L2
theorem P2.mapl{γ:Type}{R:β->γ->Prop}(f:α->β):∀{xs:List α}{cs:List γ},Wc (λx c=>R (f x) c) xs cs->Wc R (xs.map f) cs
 |_,_,.nil=>.nil
 |_,_,.cons r h=>.cons r (P2.mapl f h)
end BB
namespace L2
open PySem PySem.Spec PySem.SeqAt PyProof.Rows BB
end L2
namespace BB
open PySem L2
end BB
namespace L2
open PySem PySem.Spec PyProof.Rows BB
end L2
namespace BB
open PySem L2
end BB
namespace L2
open PySem PySem.Spec PySem.Calls PyProof.Rows PySem.W
structure vf(K:Frag)(C:Vy):Prop where
 exc:excIn K C [.type "ValueError",.type "Exception",.type "BaseException",.type "object"] "ValueError.__new__"=B?
 ga:findIn K (.ref C) "__getattribute__"=A? (A? (.builtin "BaseException.__getattribute__"))
 gt:findIn K (.ref C) "__getattr__"=A? AQ
 cl:findIn K (.ref C) "__class__"=A? (A? (.builtin "object.__class__"))
 mo:mroIn K C (.type "object")=A? B?
 mb:mroIn K C (.type "BaseException")=A? B?
section
variable{g:Array GenState}{d:Drawn}{t:Nat}{os:ZM}{o:Xw}{K:Frag}
end
theorem ObjOk.there(x:ObjOk P w H h a o):∃ob,h.get? a=A? ob:=by
 cases o with
 |lst xs=>obtain⟨_,_,_,_,e⟩:=x;exact⟨_,e⟩
 |tup xs=>obtain⟨_,_,_,_,e⟩:=x;exact⟨_,e⟩
 |dK kvs=>obtain⟨_,_,_,_,o,_,_,e,_⟩:=x;exact⟨_,e⟩
 |dT kvs=>obtain⟨_,_,_,_,o,_,_,e,_⟩:=x;exact⟨_,e⟩
 |set S n=>obtain⟨o,_,_,_,e,_⟩:=x;exact⟨_,e⟩
 |ins C dx fs=>obtain⟨_,_,_,e,_⟩:=x;exact⟨_,e⟩
 |own y=>obtain⟨_,e⟩:=x;exact⟨_,e⟩
 |xd fs=>obtain⟨_,⟨_,_,_,e,_⟩,_⟩:=x;exact⟨_,e⟩
 |rng lo hi=>obtain⟨_,_,_,e⟩:=x;exact⟨_,e⟩
 |frz ob u=>obtain⟨e,_⟩:=x;exact⟨_,e⟩
 |tbl ps=>exact⟨_,(show h.get? a=A? _ from x)⟩
 |met f y=>exact⟨_,(show h.get? a=A? _ from x)⟩
 |ext φ=>obtain⟨_,⟨_,e⟩,_⟩:=x;exact⟨_,e⟩
def CX1(P:V8)(w:Wm):CXT:=λouter H s E e s'=>∃(ea C:Vy)(a0:Vz)(B:WS)(H':Hp),
 e=.ref ea/\s'.os=s.os/\AllBare s'.gens/\Un (frs outer) [] H H' s.1 s'.1/\HOk P w H' s'.1/\Heap.FlyingW B outer ea (.ref C) a0 s'.1 /\
 (∀b o,s.1.get? b=A? o->b∉frs outer->∃o',B.get? b=A? o'/\(H b=AQ->o'=o))/\(∀b u,H' b=A? u->∃o',B.get? b=A? o')/\E (.ref C) AQ H'
theorem ni{B:WS}(hok:HOk P w H' h)(k1:B.StaysIn h)(k2:B.StaysIn h')(b2:∀b u,H' b=A? u->∃o',B.get? b=A? o'):HOk P w H' h':=λa o e =>
 (hok a o e).stay (λb u hb q=>by
  have ht:∃v,H' b=A? v:=by
   rcases hb with rfl|hb
   .exact⟨_,e⟩
   .exact⟨_,hb⟩
  obtain⟨v,hv⟩:=ht;obtain⟨o',Bl⟩:=b2 b v hv;have:=k1 b o' Bl;rw[q]at this;cases this;exact k2 b _ Bl) (λ_ q=>q) λ_ _ q=>q
theorem pH{fs:List Vy}{h1 h2:WS}{l:List Vy}{B:WS}(u1:Un fs [] H H1 h h1)(u2:Un l [] H1 H' h1 h2)(hl:∀b o,h.get? b=A? o->b∈l->b∈fs)
 (b1:∀b o,h1.get? b=A? o->b∉l->∃o',B.get? b=A? o'/\(H1 b=AQ->o'=o)) (st:B.StaysIn h') (up:h2.UpToSlots h')
 (hf:∀b∈fs,H b=AQ/\∃o,h.get? b=A? o/\∀vs,o.data≠.fields vs) :
 Un fs [] H H' h h'/\∀b o,h.get? b=A? o->b∉fs->∃o',B.get? b=A? o'/\(H b=AQ->o'=o):=by
 have nx:∀b:Vy,b∉([]:List Vy):=λb=>by simp
 have bb:∀b o,h.get? b=A? o->b∉fs->∃o',B.get? b=A? o'/\(H b=AQ->o'=o):=λb o q nf=>by
  obtain⟨o1,e1⟩:=u1.there b o q (nx b);obtain⟨o',e',g⟩:=b1 b o1 e1 λz=>nf (hl b o q z);refine⟨o',e',λn=>?_⟩;have:=u1.keep b o q n nf (nx b);rw[e1]at this;cases this;exact g (u1.free b _ q n (nx b))
 have sl:∀b o,h.get? b=A? o->H b=AQ->b∈fs->∃sl,h'.get? b=A? {o with slots:=sl}:=λb o q n m=>by
  obtain⟨s1,e1⟩:=u1.slot b o q n m (nx b);obtain⟨s2,e2⟩:=u2.any e1 (u1.free b o q n (nx b)) (nx b);obtain⟨_,o0,q0,nf⟩:=hf b m;rw[q]at q0;cases q0;obtain⟨s3,e3⟩:=up b _ e2 nf;exact⟨s3,e3⟩
 refine⟨⟨λb o q n nf _=>?_,λb o q n m _=>sl b o q n m,λb o q n _=>?_,λb o q _=>?_,λb xs q=>u2.tups b xs (u1.tups b xs q),λb o u q=>u2.frzs b o u (u1.frzs b o u q),λb ps q=>?_⟩,bb⟩
 .obtain⟨o',e',g⟩:=bb b o q nf;rw[<-g n];exact st b o' e'
 .obtain⟨o1,e1⟩:=u1.there b o q (nx b);exact u2.free b o1 e1 (u1.free b o q n (nx b)) (nx b)
 .by_cases m:b∈fs
  .obtain⟨n,_⟩:=hf b m;obtain⟨s3,e3⟩:=sl b o q n m;exact⟨_,e3⟩
  .obtain⟨o',e',_⟩:=bb b o q m;exact⟨o',st b o' e'⟩
 .obtain⟨m1,e1⟩:=u1.tbls b ps q;obtain⟨m2,e2⟩:=u2.tbls b _ e1;exact⟨m1++m2,by rw[e2,Array.append_assoc]⟩
section
variable{cd:Vz}{E:XK}
theorem qp{l:List Env}{L:Vy}(hf:env.frame=A? L):frs (env::l)=L::frs l:=by unfold frs;rw[Yo,hf]
theorem n5:Passes (CX1 P w) (jX (CX1 P w) P w K mg base N qual scope f cd A outer s H E) E:=by
 intro Y σ H1 s1 e s2 I h;obtain⟨ea,C,a0,B,H',rfl,Bv,Dq,un,hok,DS,b1,b2,q⟩:=h;show VW _ _ (leaving _ _) _ _ s2;refine wpAny_leaves_onW (E:=λe' Ht=>CX1 P w outer H s E e' Ht) I.ok.frames rfl DS λh' Fw up=>?_
 obtain⟨U,LY⟩:=pH (fs:=frs outer) (H:=H) (h:=s.1) (l:=frs (Yw qual scope s.1.1.size f cd::outer)) (B:=B) (h':=h') I.base un (λb o hb z=>by
  rw[qp (L:=s.1.1.size) rfl]at z;rcases VS.mp z with rfl|z
  .exact g! (V2 hb) (W0 _)
  .exact z) b1 Fw.1 up (λb hb=>⟨I.ok.frf b hb,(I.ok.funs.mem hb).2⟩)
 exact⟨ea,C,a0,B,H',D?,Bv.trans I.os,Dq,U,ni hok DS.1 Fw.1 b2,Fw,LY,b2,q⟩
def xB(te:TE)(C:Vy)(E:XK):TS:=λ_ σ H=>te σ H λ_ H1=>E (.ref C) AQ H1
theorem vx(X:K.In h)(F:vf K C)(hm:mg x=A? (.ref C)):OwnCls x C [.type "ValueError",.type "Exception",.type "BaseException",.type "object"] "ValueError.__new__" mg h:=by
 have q:=F.exc;refine⟨hm,?_⟩;unfold excIn at q;split at q
 .rename_i dd cd sl ho
  split at q
  .rename_i C' bm k0 k1 k2 k3 n k5 hm hs
   simp only[XM,beq_iff_eq,Z4]at q;obtain⟨⟨⟨⟨⟨rfl,rfl⟩,Ie⟩,ht⟩,hok⟩,Ko⟩:=q;obtain⟨nm,bs,mro,ns,qn,hd,sn,sub,ab,col,del⟩:=cd;dsimp only at hm Ie hok Ko;subst hm Ie
   have Fx:sl=#[k0,k1,k2,k3,A? (.builtin "ValueError.__new__"),k5]:=by
    obtain⟨l⟩:=sl;simp only at hs;rw[hs]
   subst Fx;exact⟨bm,ns,nm,qn,bs,hd,sn,sub,ab,col,dd,k0,k1,k2,k3,k5,_,X _ _ ho,.of_isNs (isNs_of_in X hok),nsMap_none_of_in X hok Ko,tail_of_in X ht⟩
  .cases q
 .cases q
theorem tH{e0:WB}{te:TE}{np zf:YF}(F:vf K C)(hm:mg x=A? (.ref C))(he:PE (jX (CX1 P w) P w K mg base N qual scope f cd A outer s H E) e0 te)
 (hx:(Yw qual scope s.1.1.size f cd).kindOf x=A? .globalImplicit:=by rfl)
 (zF:Wu [e0] (Yw qual scope s.1.1.size f cd)=[(C?,XD e0 (Yw qual scope s.1.1.size f cd))]:=by rfl) (hd:(x == ("__debug__":V5))=false:=by decide) :
 PS (jX (CX1 P w) P w K mg base N qual scope f cd A outer s H E) (.Raise (A? (.Call (.Name x np) [e0] [] zf)) AQ pos) (xB te C E):=by
 intro Y s1 σ H1 D I h;obtain⟨tl,N',nm,q,bs,hdct,sn,sub,ab,col,dd,k0,k1,k2,k3,k5,mN,hC,hN,Ko,T⟩:=(vx I.mod.kin F hm).obj
 refine wpAny_Raise_call_subT (C:=C) (nm:=nm) (q:=q) (N:=N') (bs:=bs) (bm:=tl) (hdct:=hdct) (sn:=sn) (sub:=sub) (ab:=ab) (col:=col) (dd:=dd) (k0:=k0) (k1:=k1) (k2:=k2) (k3:=k3) (k5:=k5)
  PySem.F.excBase_ValueError (mN:=mN) (T.hasType PySem.F.excBase_ValueError.hasBase) (I.ok.hd rfl) (by show(Yy zf (Wu [e0] (Yw qual scope s.1.1.size f cd))).any (·.1)=C?;rw[zF];rfl) Ko (iK I hx hm ⟨rfl,?_⟩ hd)
 show VW _ _ (evalArgs _ B? (Yy zf (Wu [e0] (Yw qual scope s.1.1.size f cd))) []) _ _ _;rw[zF];refine Calls.evalArgs_plain (XE (thn (he Y s1 σ H1 _ I h) λv s2⟨y,H2,I2,r2,q2⟩=>X1 ⟨rfl,by show 1<=V4;decide,I2.bk _ _ hC,hN.keeps I2.bk,T.keeps I2.bk,λh' e hx=>?_⟩));show VW _ _ (leaving _ _) _ _ _;have FF:=I2.stack;have hl:∀env∈Yw qual scope s.1.1.size f cd::outer,∀a,env.frame=A? a->a∈frs (Yw qual scope s.1.1.size f cd::outer):=λenv he a ha=>ZU.mpr ⟨env,he,ha⟩;refine wpAny_leaves_madeW (base:=hideAll s2.1 (frs (Yw qual scope s.1.1.size f cd::outer))) (h:=s2.1) I.ok.frames rfl (λb o z=>of_hideAll _ z) (funFrames_hide FF hl) hx λh2 t DS tup tn up=>?_;have nf:∀b u,H2 b=A? u->b∉frs (Yw qual scope s.1.1.size f cd::outer):=λb u e z=>by rw[I2.stkFree b z]at e;cases e
 obtain⟨U,LY⟩:=pH (fs:=frs outer) (H:=H) (H1:=H2) (H':=H2) (h:=s.1) (h1:=s2.1) (h2:=h') (l:=frs (Yw qual scope s.1.1.size f cd::outer)) (B:=hideAll s2.1 (frs (Yw qual scope s.1.1.size f cd::outer))) (h':=h2) I2.base (Un.kept hx.keeps) (λb o hb z=>by
  rw[qp (L:=s.1.1.size) rfl]at z;rcases VS.mp z with rfl|z
  .exact g! (V2 hb) (W0 _)
  .exact z) (λb o hb z=>⟨o,hideAll_get _ hb z,λ_=>rfl⟩) DS.1 up (λb hb=>⟨I.ok.frf b hb,(I.ok.funs.mem hb).2⟩)
 have b2:∀b u,H2 b=A? u->∃o',(hideAll s2.1 (frs (Yw qual scope s.1.1.size f cd::outer))).get? b=A? o':=λb u e=>by
  obtain⟨o,ho⟩:=(I2.hok b u e).there;exact⟨o,hideAll_get _ ho (nf b u e)⟩
 exact⟨e,C,.ref t,_,H2,D?,I2.os,I2.bare,U,ni I2.hok (λb o z=>of_hideAll _ z) DS.1 b2,DS,LY,b2,q2⟩
end
section
variable{X:Cx}
def Cx.tryB(X:Cx)(Y:List (Vy×Xw))(R:St->Vz->Hp->Prop):Cx:={ X with
 pn:=X.pn++Y
 xe:=λe s'=>∃zA H1 s1,Inv X Y zA H1 s1/\CX1 X.prog X.w X.stack H1 s1 (λc _ H'=>R zA c H') e s' }
def Cx.suite(X:Cx)(ea:Vy)(oe:Xw):Cx:={ X with
 A:=X.A.mark (A? (.ref ea))
 calm:=C?
 pn:=X.pn++[(ea,oe)]
 xe:=λ_ _=>False }
theorem Inv.tryB(I:Inv X Y σ H s)(R:St->Vz->Hp->Prop):Inv (X.tryB Y R) [] σ H s :=
 ⟨⟨I.ok.mod,I.ok.kind,I.ok.glob,I.ok.blt,I.ok.above,I.ok.inj,I.ok.has,I.ok.cab,I.ok.hd,I.ok.frames,I.ok.stk,I.ok.exf,I.ok.bs,I.ok.bsz,I.ok.noex,I.ok.exfs,I.ok.funs,I.ok.frf⟩,
   I.os,I.bare,I.base,I.loc,I.cell,I.free,I.freeC,λp hp=>I.pin p (by simpa[Cx.tryB]using hp),I.hok,I.len⟩
theorem Inv.untryB{AR:List (Vy×Xw)}(I:Inv (X.tryB Y R) AR σ H s):Inv X Y σ H s :=
 ⟨⟨I.ok.mod,I.ok.kind,I.ok.glob,I.ok.blt,I.ok.above,I.ok.inj,I.ok.has,I.ok.cab,I.ok.hd,I.ok.frames,I.ok.stk,I.ok.exf,I.ok.bs,I.ok.bsz,I.ok.noex,I.ok.exfs,I.ok.funs,I.ok.frf⟩,
   I.os,I.bare,I.base,I.loc,I.cell,I.free,I.freeC,λp hp=>I.pin p (VT _ hp),I.hok,I.len⟩
theorem Inv.suite{ea:Vy}{oe:Xw}(I:Inv X Y σ H s)(h:s.1.get? ea=A? oe/\H ea=AQ/\ea≠X.env.locals/\ea∉X.fs/\∀v,oe.data≠.cell v):Inv (X.suite ea oe) Y σ H s :=
 ⟨⟨I.ok.mod,I.ok.kind,I.ok.glob,I.ok.blt,I.ok.above,I.ok.inj,I.ok.has,I.ok.cab,(λz=>nomatch z),I.ok.frames,I.ok.stk,I.ok.exf,I.ok.bs,I.ok.bsz,I.ok.noex,I.ok.exfs,I.ok.funs,I.ok.frf⟩,
   I.os,I.bare,I.base,I.loc,I.cell,I.free,I.freeC,λp hp=>by
    have hp:p∈(X.pn++[(ea,oe)])++Y:=hp;rcases VP.mp hp with hp|hp
    .rcases VP.mp hp with hp|hp
     .exact I.pin p (VT _ hp)
     .obtain rfl:=VH.mp hp;exact h
    .exact I.pin p (V9 _ hp),I.hok,I.len⟩
theorem Inv.unsuite{ea:Vy}{oe:Xw}(I:Inv (X.suite ea oe) Y σ H s)(hd:X.calm=B?->X.A.handled=AQ):Inv X Y σ H s :=
 ⟨⟨I.ok.mod,I.ok.kind,I.ok.glob,I.ok.blt,I.ok.above,I.ok.inj,I.ok.has,I.ok.cab,hd,I.ok.frames,I.ok.stk,I.ok.exf,I.ok.bs,I.ok.bsz,I.ok.noex,I.ok.exfs,I.ok.funs,I.ok.frf⟩,
   I.os,I.bare,I.base,I.loc,I.cell,I.free,I.freeC,λp hp=>I.pin p (by
    show p∈(X.pn++[(ea,oe)])++Y;rcases VP.mp hp with hp|hp
    .exact VT _ (VT _ hp)
    .exact V9 _ hp),I.hok,I.len⟩
end
structure Hit(K:Frag)(C Ch:Vy):Prop where
 exc:vf K C
 hit:exmOne K (.ref C) (.ref Ch)=A? B?
theorem SP.untryB{X:Cx}{f:Flow}(h:SP (X.tryB Y R) [] D f s'):SP X Y D f s':=by
 cases f with
 |next=>obtain⟨i',H',I,q⟩:=h;exact⟨i',H',I.untryB,q⟩
 |brk=>obtain⟨i',H',I,q⟩:=h;exact⟨i',H',I.untryB,q⟩
 |cont=>obtain⟨i',H',I,q⟩:=h;exact⟨i',H',I.untryB,q⟩
 |ret u=>obtain⟨v,i',H',I,r,q⟩:=h;exact⟨v,i',H',I.untryB,r,q⟩
theorem Fun.ok1{k:Nat}(F:Fun K x qual st f fd)(S:bS N ps (aD st))(len:∀vs H Q E,sp vs H Q E->vs.length=ps.length)
 (zG:∀(zb:Vz)(A:Wr)(outer:List Env)(s:VF)(H:Hp)(vs:List V)(Q:VK)(E:XK),Room k (A.deeper (Yw qual (aD st) s.1.1.size f zb))->sp vs H Q E ->
  ∃t,PSs (jX (CX1 P w) P w K mg base N qual (aD st) f zb A outer s H E) (bR st) t/\t {nx:=λ_ H'=>Q .non H',rt:=Q} (start N vs) H):bj P w K mg base (CX1 P w) (k+1) f fd ps sp:=by
 obtain⟨oc,od,kV,doc,pm,an,zb,ct,DN,rfl,lk,Bm⟩:=F.ex;exact tR lk Bm S len λA outer s H vs Q E hr AK=>zG zb A outer s H vs Q E hr AK
def ut(sp:Sp)(dvs:List V)(R:St->Vz->Hp->Prop)(t:TA):TE:=λσ H Q=>t σ H λvs H1=>sp (vs++dvs) H1 Q λc _ H'=>R σ c H'
theorem sM{X:Cx}{k:Nat}{dvs:List V}{ds:List Vz}{p:YF}{es:List WB}{t:TA}
 (F:bj X.prog X.w X.K X.mg X.base (CX1 X.prog X.w) k f fd ps sp) (hr:Room k X.A) (hg:Gl X x) (hm:X.mg x=A? (.ref f)) (hk:Ys X.K (.ref f)=B?) (hb:Binds X.K fd ps ds) (hd:Vals dvs ds)
 (ha:PA (X.tryB Y R) (e::es) t) (C7:(x == ("__debug__":V5))=false:=by decide) (he:Wu (e::es) X.env=(C?,XD e X.env)::Wu es X.env:=by rfl) (Am:(Yy pos (Wu es X.env)).any (·.1)=false:=by rfl) :
 PE (X.tryB Y R) (.Call (.Name x p) (e::es) [] pos) (ut sp dvs R t):=by
 intro AR s σ H Q I h;refine W2 (iK I hg hm ?_ C7);refine ZR (h₀:=X.base) I.ok.mod.kin hk (thn (ha pos AR s σ H _ I h) λus s1⟨vs,H1,I1,r,q⟩=>⟨I1.kIn,?_⟩) he Am;have r2:Vals (vs++dvs) (us++ds):=r.append hd;have hl:(us++ds).length=ps.length:=by rw[<-r2.length];exact F.len _ _ _ _ q
 refine wpAny_call (Z6 (F.run X.A X.stack s1 H1 ⟨us,[]⟩ (us++ds) (vs++dvs) Q _ hr I1.env0 (hb s1 us I1.kIn hl) r2 q) λr s' hq=>?_);cases r with
 |error e=>exact⟨σ,H1,s1,I1.untryB,hq⟩
 | ok fl =>
   cases fl with
   |ret u=>exact I1.after hq
   |next=>exact XA hq
   |brk=>exact XA hq
   |cont=>exact XA hq
open PySem.SeqAt
end L2
namespace BB
open PySem
end BB
namespace L2
open PySem PySem.Spec PySem.Calls PyProof.Rows BB
section
variable{R:Result->VF->Prop}
end
end L2
namespace PySem
end PySem
namespace L2
open PySem PySem.Spec PySem.Calls PyProof.Rows BB
section
variable{X:Cx}
end
end L2
namespace BB
open PySem L2
theorem qV{g:TG}{te:TE}(zs:List α)(f:α->V)(hz:zs.length=xs.length)(hn:xs.length<=1000000)
 (Fo:∀i H2,j! H H2->i<xs.length->J.go i H2) (Ax:∀H2,j! H H2->J.stop xs.length H2) (B6:∀(i:Nat)H2 x H3,j! H H2->i<xs.length->J.yld i H2 x H3->H3=H2/\xs[i]?=A? x)
 (hb:∀(i:Nat)x z H2(R:VK)(W':Hp->Prop),xs[i]?=A? x->zs[i]?=A? z->j! H H2->(∀H3,j! H2 H3->R (f z) H3)->g x (cσ js σ) H2 λzg H3=>tt zg H3 λb H4=>if b=B? then te zg H4 R else W' H4)
 (zS:∀D H',H D=AQ->j! H H'->H' D=A? (.lst (zs.map f))->fin D H') :
 ∀D,H D=AQ->∃(n:Nat)(W:Nat->Hp->Prop),W 0 (upd H D (.lst []))/\fU js g tt te σ J D n W λH'=>fin D H':=by
 intro D hD;refine⟨xs.length,λi H'=>i<=xs.length/\j! H H'/\H' D=A? (.lst ((zs.take i).map f)),⟨Wh _,ao hD _,by rw[ac];rfl⟩,?_⟩;rintro i H' ⟨hi,s1,e1⟩;by_cases yZ:i<xs.length
 .refine .inr ⟨yZ,Fo i H' s1 yZ,λv H1 hy=>?_⟩;obtain⟨e,hx⟩:=B6 i H' v H1 s1 yZ hy;subst e;obtain⟨z,Dj⟩:∃z,zs[i]?=A? z:=⟨_,Vw (by lia)⟩;refine hb i v z _ _ _ hx Dj s1 λH3 s3=>⟨_,s3 _ _ e1,?_,yZ,aK (s1.trans s3) hD,?_⟩
  .rw[Vu,WA];have:V4=16777216:=Y2;lia
  .rw[ac,take_snoc Dj,V3];rfl
 .have By:i=xs.length:=by lia
  subst By;refine .inl ⟨Ax _ s1,zS D H' hD s1 ?_⟩;rw[e1,WX (by lia)]
theorem bY{g:TG}{te:TE}(zs:List α)(f:α->V)(hS:SqT K H a xs)(hz:zs.length=xs.length)(hn:xs.length<=1000000)
 (hb:∀(i:Nat)x z H2(R:VK)(W':Hp->Prop),xs[i]?=A? x->zs[i]?=A? z->j! H H2->(∀H3,j! H2 H3->R (f z) H3)->g x (cσ js σ) H2 λzg H3=>tt zg H3 λb H4=>if b=B? then te zg H4 R else W' H4)
 (zS:∀D H',H D=AQ->j! H H'->H' D=A? (.lst (zs.map f))->fin D H') :
 ∀D,H D=AQ->∃(n:Nat)(W:Nat->Hp->Prop),W 0 (upd H D (.lst []))/\fU js g tt te σ (Itt K a) D n W λH'=>fin D H' :=
 qV zs f hz hn (λi H2 s hi=>⟨xs,xs[i],s.seqT hS,Vw hi⟩) (λH2 s=>⟨xs,s.seqT hS,VG _⟩) (λi H2 x H3 s hi hy=>⟨hy.1,hy.2 xs (s.seqT hS)⟩) hb zS
theorem iY{g:TG}{te:TE}(zs:List α)(f:α->V)(hS:SqL K H a xs)(hz:zs.length=xs.length)(hn:xs.length<=1000000)
 (hb:∀(i:Nat)x z H2(R:VK)(W':Hp->Prop),xs[i]?=A? x->zs[i]?=A? z->j! H H2->(∀H3,j! H2 H3->R (f z) H3)->g x (cσ js σ) H2 λzg H3=>tt zg H3 λb H4=>if b=B? then te zg H4 R else W' H4)
 (zS:∀D H',H D=AQ->j! H H'->H' D=A? (.lst (zs.map f))->fin D H') :
 ∀D,H D=AQ->∃(n:Nat)(W:Nat->Hp->Prop),W 0 (upd H D (.lst []))/\fU js g tt te σ (Itl K a) D n W λH'=>fin D H' :=
 qV zs f hz hn (λi H2 s hi=>⟨xs,xs[i],s.seq hS,Vw hi⟩) (λH2 s=>⟨xs,s.seq hS,VG _⟩) (λi H2 x H3 s hi hy=>⟨hy.1,hy.2 xs (s.seq hS)⟩) hb zS
end BB
namespace HT
open PySem PySem.Spec PyProof.Rows
theorem adjust_back(n:Nat):Ym AQ AQ (-1) (n:Int)=((n:Int) - 1,-1):=rfl
theorem places_back(n:Nat):Xi ((n:Int) - 1) (-1) (-1)=n:=by
 unfold Xi;have h1:¬((-1:Int) > 0):=by lia
 simp only[h1,if_false];by_cases h:n=0
 .subst h;decide
 .have h2:((n:Int) - 1) > -1:=by lia
  simp only[h2,if_true];rw[show(- -1:Int)=1 by decide,Int.ediv_one];lia
theorem pick_back(xs:Array Vz):((Xf xs.size).filterMap λ(m:Nat)=>xs[(((xs.size:Nat):Int) - 1+(m:Int) * (-1)).toNat]?).toArray=xs.toList.reverse.toArray:=by
 congr 1
 have e:∀m∈Xf xs.size,xs[(((xs.size:Nat):Int) - 1+(m:Int) * (-1)).toNat]?=xs.toList.reverse[m]?:=by
  intro m hm;have LZ:=ZT.mp hm;rw[List.getElem?_reverse (by rw[Wd];exact LZ),YM,Wd];congr 1;lia
 have f:∀(l:List Nat)(f g:Nat->Option Vz),(∀m∈l,f m=g m)->l.filterMap f=l.filterMap g:=by
  intro l f g;induction l with
  |nil=>intro _;rfl
  | cons y ys ih =>
    intro h;rw[Yo,Yo,h y (by simp),ih (λm hm=>h m (by simp[hm]))]
 rw[f _ _ _ e]
 have gl:∀(ys:List Vz),(Xf ys.length).filterMap (λm=>ys[m]?)=ys:=by
  intro ys;have:=pick_run ys.toArray 0 ys.length;simp only[List.filterMap_map]at this
  have e3:((λx=>ys.toArray[x]?) ∘ λx=>0+x)=λm=>ys[m]?:=by
   funext m;simp
  rw[e3]at this;rw[this];simp
 have:=gl xs.toList.reverse;rw[Yn,Wd]at this;exact this
theorem sliceApplied_back{t:Tok}{Q:Int×Int×Nat->VF->Prop}(hs:s.1.IsSliceOf sl .none .none (.int (-1) t))
 (h:Q ((n:Int) - 1,-1,n) s):VW (Wb prog w) A (Y4 (.ref sl) (pure (n:Int))) Q E s:=by
 obtain⟨os,Bv,EH,AD⟩:=id hs;unfold Y4 Builtin.Slice.sliceFields;refine Vv (Vv (WE Bv AD (x:=.none) rfl (Vv (WE Bv AD (x:=.none) rfl (Vv (WE Bv AD (x:=.int (-1) t) rfl (VC ?_)))))));refine Vv (slicePart_int ?_);show VW _ _ (if((-1:Int) == 0)=B? then _ else _) _ _ s;rw[a! (by decide)];refine Vv (slicePart_none (Vv (slicePart_none (Vv (VC ?_)))));show VW _ _ (match Ym AQ AQ (-1) (n:Int)with|(lo,hi)=>pure (lo,(-1:Int),Xi lo hi (-1))) _ _ s;rw[adjust_back n];show VW _ _ (pure ((n:Int) - 1,(-1:Int),Xi ((n:Int) - 1) (-1) (-1))) _ _ s;rw[places_back];exact VC h
theorem getItem_tuple_back{t:Vy}{tk:Tok}(ht:IsTup s.1 t items)(hs:s.1.IsSliceOf sl .none .none (.int (-1) tk))
 (h:Q (.ref s.1.1.size) {s with heap:=s.1.push {cls:=.type "tuple",data:=.seq items.toList.reverse.toArray}})
 (hsz:items.size<=V4):VW (Wb prog w) A (Zt (.ref t) (.ref sl)) Q E s:=by
 have Aa:sizeOk (.seq items.toList.reverse.toArray):=by
  show items.toList.reverse.toArray.size<=V4;rw[VM,Yn,Wd];exact hsz
 obtain⟨os,Bv,EH,AD⟩:=id hs;have HE:s.TypeIs (.ref sl) "slice":=⟨os,Bv,EH⟩;unfold Zt
 try with_reducible refine WT ?_
 first|refine Vv (VC ?_)|skip
 refine Vv (wpAny_sequenceKey ht.typeIs (by decide) ?_)
 refine Vv (WJ (name:=VE "__getitem__") ht.typeIs WH
  (WM WH ht.typeIs entry_tuple_getitem ?_ (args_tuple_getitem _ _)))
 show VW _ _ (Builtin.Tuple.tupleItemsOf (.ref t) >>= _) _ _ s;refine Vv (tupleItemsOf_ ht ?_);refine Vv (Zq HE ?_);rw[b! (by decide)];refine Vv (sliceApplied_back hs ?_)
 have zp:¬((((items.size:Nat):Int) - 1 == 0 && (-1:Int) == 1 && items.size == items.size)=B?):=by
  simp
 show VW _ _ (if(((items.size:Nat):Int) - 1 == 0 && (-1:Int) == 1 && items.size == items.size)=B? then _ else _) _ _ s;rw[a! zp,pick_back]
 first
  |exact Vv (m:=Xj _) (WC (VC ⟨_,rfl,VC h⟩) Aa)
  |exact Vv (m:=Xj _) (WC (Vv (VC (VC ⟨_,rfl,VC h⟩))) Aa)
  |exact Vv (Vv (m:=Xj _) (WC (VC (VC ⟨_,rfl,VC h⟩)) Aa))
  |exact Vv (Vv (m:=Xj _) (WC (VC ⟨_,rfl,VC h⟩) Aa))
end HT
namespace L2
open PySem PySem.Spec PyProof.Rows
section
variable{X:Cx}{te:TE}{p2 p3 p4:YF}
def BkR(X:Cx)(r:V->Hp->VK->Prop):Prop :=
 ∀(Y:List (Vy×Xw))(s:VF)(σ:St)(H:Hp)(x:V)(v:Vz)(t:Tok)(sl:Vy)(Q:VK),Inv X Y σ H s->RelV x v->s.1.IsSliceOf sl .none .none (.int (-1) t)->r x H Q ->
   ∃T id,typeLookup (.type T) "__getitem__"=pure (A? (.builtin id))/\s.TypeIs v T/\VW (Wb X.prog X.w) X.A (Zt v (.ref sl)) (EP X Y σ Q) X.xe s
def tBk(r:V->Hp->VK->Prop)(te:TE):TE:=λσ H Q=>te σ H λx H1=>r x H1 Q
theorem vo{r:V->Hp->VK->Prop}(hr:BkR X r)(he:PE X e te):PE X (.Subscript e (.Slice AQ AQ (A? (.UnaryOp .USub (.Constant (.int 1) 0 p3) p4)) p2) pos) (tBk r te):=by
 intro Y s σ H Q I h;refine Subscript_ (thn (he Y s σ H _ I h) λv s1⟨x,H1,I1,r1,q1⟩=>?_);refine wpAny_Slice ?_;rw[evalPart_none];refine VC ?_;refine VC ?_;have Kp:PO X (A? (.UnaryOp .USub (.Constant (.int 1) 0 p3) p4)) (vL (tUn (rU λi=>.int (-i)) (tC (.int 1)))):=br (re o6 ad);refine thn (Kp Y s1 σ H1 (λo H'=>o=A? (-1)/\r x H' Q) I1 ⟨1,rfl,_,rfl,rfl,q1⟩) λvs s2⟨o,H2,I2,ps,ho,q2⟩=>?_;subst ho;cases ps with
 | int i t =>
   have I4:Inv X Y σ H2 {s2 with heap:=s2.1.push {cls:=.type "slice",data:=.fields #[.none,.none,.int (-1) t]}}:=I2.kept (t':=s2.toks) λb ob q=>VB _ q;obtain⟨T,id,hT,ht,hg⟩:=hr Y {s2 with heap:=s2.1.push {cls:=.type "slice",data:=.fields #[.none,.none,.int (-1) t]}} σ H2 x v t s2.1.1.size Q I4 r1 (Heap.IsSliceOf.new ..) q2;show VW (Wb X.prog X.w) X.A (subscriptTail e (.Slice AQ AQ (A? (.UnaryOp .USub (.Constant (.int 1) 0 p3) p4)) p2) v (.ref s2.1.1.size)) (EP X Y σ Q) X.xe {s2 with heap:=s2.1.push {cls:=.type "slice",data:=.fields #[.none,.none,.int (-1) t]}};exact tail_any (ops:=[v,.ref s2.1.1.size]) ht hT hg (by with_unfolding_all rfl)
def yD(K:VD):V->Hp->VK->Prop:=λx H Q=>∃a xs,x=.ref a/\SqT K H a xs/\∀p,H p=AQ->Q (.ref p) (upd H p (.tup xs.reverse))
theorem Vals.rev(r:Vals xs us):Vals xs.reverse us.reverse:=by
 induction r with
 |nil=>exact .nil
 |cons r1 r2 ih=>rw[WZ,WZ];exact ih.append (.cons r1 .nil)
theorem xa:BkR X (yD X.K):=by
 intro Y s σ H x v t sl Q I rx hs h;obtain⟨a,xs,rfl,hx,q⟩:=h;cases rx;obtain⟨its,r,ht,hz⟩:=I.tuple hx;have hlen:its.toArray.size=xs.length:=by rw[VM];exact r.length.symm
 refine⟨"tuple",_,WH.lookup,ht.typeIs,?_⟩;refine HT.getItem_tuple_back ht hs ?_ (by rw[hlen];exact hz);refine⟨.ref s.1.1.size,_,I.laid (t':=s.toks) (o:=.tup xs.reverse) (λb ob q=>VB _ q) (VG _) ?_,D?,q _ (I.hok.fresh (VG _))⟩;exact⟨by rw[Yn];exact hz,_,0,r.rev,VI _ rfl⟩
end
open PySem.Calls
section
variable{X:Cx}
end
section
variable{X:Cx}
def isStr(z:V5):Vz->Bool
 |.str y _=>y == z
 |_=>C?
def uT(K:VD):V->List V->Hp->VK->Prop:=λx vs H Q=>∃(l:Vy)(zs:List V5)(z:V5)(j:Nat),x=.ref l/\vs=[.str z]/\SqL K H l (zs.map D!)/\zs[j]?=A? z/\(∀i,i<j->zs[i]?≠A? z)/\zs.length<=100000/\Q (.int (j:Nat)) H
theorem mB:MtM X "list.index" (uT X.K):=by
 intro Y s σ H x vs v us Q I rx rv h;obtain⟨l,zs,z,j,rfl,rfl,hS,hj,zp,hz,q⟩:=h;cases rx;obtain⟨u,rfl,t,rfl⟩:=rv.one;obtain⟨its,r,pl,_⟩:=I.list hS;have hlen:=r.length;rw[Vu]at hlen;obtain⟨⟨cls,dd,data,sl⟩,ho,hc,n,hd⟩:=pl.isList;simp only at hc hd;subst hc hd;have DT:j<zs.length:=(glE hj)
 have get:∀m,m<zs.length->∃y t',its[m]?=A? (.str y t')/\zs[m]?=A? y:=λm hm=>by
  obtain⟨v,hv,rv⟩:=r.get (i:=m) (x:=.str zs[m]) (by rw[VA,Vw hm];rfl);obtain⟨t',rfl⟩:=rv;exact⟨_,t',hv,Vw hm⟩
 refine call_meets PySem.F.slot_list_index ⟨_,ho,rfl⟩ PySem.F.entry_list_index (PySem.F.args_list_index_2 _ _)
  (SeqAt.list_indexAt l its.toArray n dd sl (.str z t) (isStr z) j (by rw[VM];lia) (by lia) ?_ ?_) ⟨ho,λy hy=>?_,⟨.int (j:Nat),H,I.tok _,⟨_,rfl⟩,q⟩⟩
 .obtain⟨y,t',h1,h2⟩:=get j DT;rw[hj]at h2;cases h2
  have h3:its.toArray[j]'(by rw[VM];lia)=.str z t':=by
   rw[Vw (by lia)]at h1;simpa using h1
  rw[h3];show(z == z)=B?;simp
 .intro m hm yZ;obtain⟨y,t',h1,h2⟩:=get m (by lia)
  have h3:its.toArray[m]'hm=.str y t':=by
   rw[Vw (by lia)]at h1;simpa using h1
  rw[h3];show(y == z)=C?;refine Z5.mpr λe=>zp m yZ ?_;rw[h2,beq_iff_eq.mp e]
 .have B0:y∈its:=by simpa using hy
  obtain⟨m,hm,rfl⟩:=List.getElem_of_mem B0;obtain⟨y,t',h1,h2⟩:=get m (by lia);rw[Vw hm]at h1;have h3:=VN h1;rw[h3];exact SeqAt.EqAt.str_str _ _ _ _
end
end L2
namespace BB
open PySem L2
structure GoodN(ks:List (V5×Int)):Prop where
 ne:1<=ks.length
 le:ks.length<=8
 low:∀k∈ks,Low k.1/\k.1.length<=8
 num:∀k∈ks,0<=k.2/\k.2<=3
 zero:∃k∈ks,k.2=0
 nd:∀(i j:Nat)(k l:V5×Int),ks[i]?=A? k->ks[j]?=A? l->k.1=l.1->i=j
mutual
def Th.FitS(ks:List (V5×Int))(S C:Int):Th->Prop
 |.knot n ts=>(n,(ts.length:Int))∈ks/\FitSs ks S C ts
 |.call s k=>0<=s/\s<S/\0<=k/\k<C
def FitSs(ks:List (V5×Int))(S C:Int):List Th->Prop
 | []=>True
 |t::ts=>t.FitS ks S C/\FitSs ks S C ts
end
theorem FitSs.of{ks:List (V5×Int)}{S C:Int}:∀{ts:List Th},(∀t∈ts,t.FitS ks S C)->FitSs ks S C ts
 | [],_=>by rw[FitSs];trivial
 | t::ts,h=>by
   rw[FitSs];exact⟨h t (VO ..),FitSs.of λu hu=>h u (VR _ hu)⟩
theorem l4{ts:List Th}(h:∀t∈ts,t.tall<=n):bw ts<=n:=by
 induction ts with
 |nil=>rw[bw];exact Wh _
 | cons t ts ih =>
   rw[bw];have h1:=h t (VO ..);have h2:=ih λu hu=>h u (VR _ hu);lia
def SameB(l:Vy)(H H':Hp):Prop:=∀b o,b≠l->H b=A? o->H' b=A? o
theorem SameB.refl:SameB l H H:=λ_ _ _ e=>e
theorem SameB.trans{A B C:Hp}(h:SameB l A B)(k:SameB l B C):SameB l A C:=λb o hb e=>k b o hb (h b o hb e)
theorem SameB.of(h:j! H H'):SameB l H H':=λb o _ e=>h b o e
theorem SameB.set:SameB l H (upd H l o):=λb o hb e=>by rw[af hb];exact e
theorem SameB.kt(h:SameB l H H')(e:H l=A? (.lst xs)):KT H H':=λb ys eb=>h b _ (aH eb e (by intro z;cases z)) eb
def RowAt(H:Hp)(row:List Th)(a:Vy):Prop:=∃as:List Vy,H a=A? (.tup (as.map k!))/\Ats H row as
theorem RowAt.mono(k:KT H H')(h:RowAt H row a):RowAt H' row a:=by
 obtain⟨as,h1,h2⟩:=h;exact⟨as,k _ _ h1,h2.mono k⟩
structure BookAt(H:Hp)(ins outs:List (V5×Int))(head:Th)(rows:List (List Th))(r ia oa ha ra:Vy)(zi zD zx:List Vy):Prop where
 bk:H r=A? (.tup [.ref ia,.ref oa,.ref ha,.ref ra])
 inE:H ia=A? (.tup (zi.map k!))
 inK:KsAt H ins zi
 outE:H oa=A? (.tup (zD.map k!))
 outK:KsAt H outs zD
 hd:At H head ha
 rl:H ra=A? (.tup (zx.map k!))
 rw:Wc (RowAt H) rows zx
theorem BookAt.mono(k:KT H H'){r ia oa ha ra:Vy}{zi zD zx:List Vy}(b:BookAt H ins outs head rows r ia oa ha ra zi zD zx):BookAt H' ins outs head rows r ia oa ha ra zi zD zx :=
 ⟨k _ _ b.bk,k _ _ b.inE,b.inK.mono k,k _ _ b.outE,b.outK.mono k,b.hd.mono k,k _ _ b.rl,t! (λ_ _ e=>e.mono k) b.rw⟩
theorem dU{ks:List (V5×Int)}:∀{ts:List Th},Fits ks ts->∀t∈ts,t.Fit ks
 | [],_,t,ht=>by cases ht
 | a::ts,h,t,ht=>by
   rw[Fits]at h;rcases VS.mp ht with rfl|ht
   .exact h.1
   .exact dU h.2 t ht
def Bk(H:Hp)(ins outs:List (V5×Int))(head:Th)(rows:List (List Th))(r:Vy):Prop:=∃ia oa ha ra zi zD zx,BookAt H ins outs head rows r ia oa ha ra zi zD zx
theorem Bk.mono(k:KT H H'){r:Vy}(b:Bk H ins outs head rows r):Bk H' ins outs head rows r:=by
 obtain⟨ia,oa,ha,ra,zi,zD,zx,b⟩:=b;exact⟨ia,oa,ha,ra,zi,zD,zx,b.mono k⟩
end BB
open BB.SameB renaming of->z!,set->C!
open BB.Th renaming FitS->I!
namespace L2
open PySem PySem.Spec PySem.Calls PyProof.Rows PySem.SeqAt
end L2
namespace BB
open PySem L2
end BB
namespace L2
open PySem PySem.Spec PyProof.Rows
section
variable{X:Cx}{te:TE}{p p2 zq:YF}
end
end L2
namespace BB
open PySem L2
theorem gD{F:Hp->α->Vy->Prop}{g:TG}{te:TE}(zs:List α)(hF:∀H1 H2 z p,KT H1 H2->F H1 z p->F H2 z p)(hz:zs.length=xs.length)(hn:xs.length<=1000000)
 (Fo:∀i H2,j! H H2->i<xs.length->J.go i H2) (Ax:∀H2,j! H H2->J.stop xs.length H2) (B6:∀(i:Nat)H2 x H3,j! H H2->i<xs.length->J.yld i H2 x H3->H3=H2/\xs[i]?=A? x)
 (hb:∀(i:Nat)x z H2(R:VK)(W':Hp->Prop),xs[i]?=A? x->zs[i]?=A? z->j! H H2->(∀H3 p,j! H2 H3->F H3 z p->R (.ref p) H3)->g x (cσ js σ) H2 λzg H3=>tt zg H3 λb H4=>if b=B? then te zg H4 R else W' H4)
 (zS:∀D H' as,H D=AQ->j! H H'->H' D=A? (.lst (as.map k!))->Wc (F H') zs as->fin D H') :
 ∀D,H D=AQ->∃(n:Nat)(W:Nat->Hp->Prop),W 0 (upd H D (.lst []))/\fU js g tt te σ J D n W λH'=>fin D H':=by
 intro D hD;refine⟨xs.length,λi H'=>i<=xs.length/\j! H H'/\∃as:List Vy,H' D=A? (.lst (as.map k!))/\Wc (F H') (zs.take i) as,⟨Wh _,ao hD _,[],by rw[ac];rfl,.nil⟩,?_⟩;rintro i H' ⟨hi,s1,as,e1,hp⟩;by_cases yZ:i<xs.length
 .refine .inr ⟨yZ,Fo i H' s1 yZ,λv H1 hy=>?_⟩;obtain⟨e,hx⟩:=B6 i H' v H1 s1 yZ hy;subst e;obtain⟨z,Dj⟩:∃z,zs[i]?=A? z:=⟨_,Vw (by lia)⟩;have hl:(zs.take i).length=as.length:=VZ hp;rw[WA]at hl;refine hb i v z _ _ _ hx Dj s1 λH3 p s3 L0=>⟨_,s3 _ _ e1,?_,yZ,aK (s1.trans s3) hD,as++[p],?_,?_⟩
  .rw[Vu];have:V4=16777216:=Y2;lia
  .rw[ac,V3];rfl
  .have kt:KT H3 (upd H3 D (.lst (as.map k!++[.ref p]))):=cH (s3 _ _ e1);rw[take_snoc Dj];exact v! (t! (λx y e=>hF _ _ _ _ ((n! s3).trans kt) e) hp) (.cons (hF _ _ _ _ kt L0) .nil)
 .have By:i=xs.length:=by lia
  subst By;refine .inl ⟨Ax _ s1,zS D H' as hD s1 e1 ?_⟩;rw[WX (by lia)]at hp;exact hp
theorem qX{F:Hp->α->Vy->Prop}{g:TG}{te:TE}(zs:List α)(hF:∀H1 H2 z p,KT H1 H2->(∀o,H1 p=A? o->H2 p=A? o)->F H1 z p->F H2 z p)(hz:zs.length=xs.length)(hn:xs.length<=1000000)
 (Fo:∀i H2,j! H H2->i<xs.length->J.go i H2) (Ax:∀H2,j! H H2->J.stop xs.length H2) (B6:∀(i:Nat)H2 x H3,j! H H2->i<xs.length->J.yld i H2 x H3->H3=H2/\xs[i]?=A? x)
 (hb:∀(i:Nat)x z H2(R:VK)(W':Hp->Prop),xs[i]?=A? x->zs[i]?=A? z->j! H H2->(∀H3 p,j! H2 H3->H2 p=AQ->F H3 z p->R (.ref p) H3)->g x (cσ js σ) H2 λzg H3=>tt zg H3 λb H4=>if b=B? then te zg H4 R else W' H4)
 (zS:∀D H' as,H D=AQ->j! H H'->H' D=A? (.lst (as.map k!))->Wc (F H') zs as->fin D H') :
 ∀D,H D=AQ->∃(n:Nat)(W:Nat->Hp->Prop),W 0 (upd H D (.lst []))/\fU js g tt te σ J D n W λH'=>fin D H':=by
 intro D hD;refine⟨xs.length,λi H'=>i<=xs.length/\j! H H'/\∃as:List Vy,H' D=A? (.lst (as.map k!))/\Wc (λz a=>F H' z a/\a≠D) (zs.take i) as,⟨Wh _,ao hD _,[],by rw[ac];rfl,.nil⟩,?_⟩;rintro i H' ⟨hi,s1,as,e1,hp⟩;by_cases yZ:i<xs.length
 .refine .inr ⟨yZ,Fo i H' s1 yZ,λv H1 hy=>?_⟩;obtain⟨e,hx⟩:=B6 i H' v H1 s1 yZ hy;subst e;obtain⟨z,Dj⟩:∃z,zs[i]?=A? z:=⟨_,Vw (by lia)⟩;have hl:(zs.take i).length=as.length:=VZ hp;rw[WA]at hl;refine hb i v z _ _ _ hx Dj s1 λH3 p s3 np L0=>⟨_,s3 _ _ e1,?_,yZ,aK (s1.trans s3) hD,as++[p],?_,?_⟩
  .rw[Vu];have:V4=16777216:=Y2;lia
  .rw[ac,V3];rfl
  .have kt:KT H3 (upd H3 D (.lst (as.map k!++[.ref p]))):=cH (s3 _ _ e1);have BR:p≠D:=λz=>by rw[z,e1]at np;cases np
   rw[take_snoc Dj];exact v! (t! (λx y e=>⟨hF _ _ _ _ ((n! s3).trans kt) (λo ho=>by rw[af e.2];exact s3 _ _ ho) e.1,e.2⟩) hp) (.cons ⟨hF _ _ _ _ kt (λo ho=>by rw[af BR];exact ho) L0,BR⟩ .nil)
 .have By:i=xs.length:=by lia
  subst By;refine .inl ⟨Ax _ s1,zS D H' as hD s1 e1 ?_⟩;rw[WX (by lia)]at hp;exact t! (λ_ _ e=>e.1) hp
end BB
namespace L2
open PySem PySem.Spec PyProof.Rows
theorem us1:∀{us:List α},us.length=1->∃a,us=[a]
 | [a],_=>⟨a,rfl⟩
theorem us2:∀{us:List α},us.length=2->∃a b,us=[a,b]
 | [a,b],_=>⟨a,b,rfl⟩
theorem us3:∀{us:List α},us.length=3->∃a b c,us=[a,b,c]
 | [a,b,c],_=>⟨a,b,c,rfl⟩
theorem us4:∀{us:List α},us.length=4->∃a b c d,us=[a,b,c,d]
 | [a,b,c,d],_=>⟨a,b,c,d,rfl⟩
theorem us5:∀{us:List α},us.length=5->∃a b c d e,us=[a,b,c,d,e]
 | [a,b,c,d,e],_=>⟨a,b,c,d,e,rfl⟩
end L2
namespace PySem
open Sem (wp)
section
variable{K:Type}[DecidableEq K]{knd:HeapKind prog w K}
end
end PySem
namespace L2
open PySem PySem.Spec PyProof.Rows BB
end L2
namespace BB
open PySem L2
end BB
namespace PySem
open Sem (wp)
section
variable{I:Vy}{wr:List Vy}{G:Array GenState->Array GenState->Prop}{P:Nat->Vz->Prop}{St:Nat->VF->Prop}
end
end PySem
namespace L2
open PySem PySem.Spec PyProof.Rows
section
variable{X:Cx}{o:WB}{to te:TE}{p2 zq apos zf:YF}
end
end L2
namespace PySem
open Sem (wp)
namespace F
end F
section
variable{xs:Array Vz}{k:Nat}
end
end PySem
namespace L2
open PySem PySem.Spec PyProof.Rows
section
variable{X:Cx}
end
end L2
namespace BB
open PySem L2
end BB
namespace PySem
end PySem
namespace L2
open PySem PySem.Spec PyProof.Rows
section
variable{X:Cx}{e1 e2:WB}{t:TA}{p2 zq:YF}
end
end L2
namespace BB
open PySem L2
noncomputable section
local instance:DecidableEq Th:=λ_ _=>Classical.propDecidable _
mutual
def post:Th->List Th->List Th
 |.knot n ks,L=>if r! n ks∈bh ks L then bh ks L else bh ks L++[.knot n ks]
 |.call s k,L=>if q! s k∈L then L else L++[.call s k]
def bh:List Th->List Th->List Th
 | [],L=>L
 |t::ts,L=>bh ts (post t L)
end
theorem post_eq(t:Th)(L:List Th):post t L=if t∈bh t.kids L then bh t.kids L else bh t.kids L++[t]:=by
 cases t with
 |knot n ks=>rw[post];rfl
 |call s k=>rw[post,Th.kids,bh]
theorem fF:∀(a b:List Th)(L:List Th),bh (a++b) L=bh b (bh a L)
 | [],b,L=>by rw[List.nil_append,bh]
 |t::a,b,L=>by rw[List.cons_append,bh,bh,fF a b]
def bZ(L:List Th):Prop:=∀t∈L,∀u∈t.kids,u∈L
theorem tN{t u:Th}(h:u∈t.kids):u.size<t.size:=by
 rw[t.size_eq]
 have:∀ts:List Th,u∈ts->u.size<=au ts:=by
  intro ts;induction ts with
  |nil=>intro h;cases h
  | cons x ts ih =>
    intro h;rw[au];rcases VS.mp h with rfl|h
    .lia
    .have:=ih h;lia
 have:=this _ h;lia
theorem tw:∀(n:Nat),(∀(t:Th)(L:List Th),t.size<=n->bZ L->L.Nodup->(∃M,post t L=L++M/\∀u∈M,u.size<=t.size)/\bZ (post t L)/\(post t L).Nodup/\t∈post t L) /\
 (∀(ts:List Th)(L:List Th),au ts<=n->bZ L->L.Nodup->(∃M,bh ts L=L++M/\∀u∈M,u.size<=au ts)/\bZ (bh ts L)/\(bh ts L).Nodup/\∀t∈ts,t∈bh ts L):=by
 intro n;induction n with
 | zero =>
   refine⟨λt L h=>?_,λts L h hc hn=>?_⟩
   .have:=t.size_eq;lia
   .cases ts with
    |nil=>rw[bh];exact⟨⟨[],by simp,λu hu=>by cases hu⟩,hc,hn,λt ht=>by cases ht⟩
    | cons t ts =>
      rw[au]at h;have:=t.size_eq;lia
 | succ n ih =>
   have hT:∀(t:Th)(L:List Th),t.size<=n+1->bZ L->L.Nodup->(∃M,post t L=L++M/\∀u∈M,u.size<=t.size)/\bZ (post t L)/\(post t L).Nodup/\t∈post t L:=by
    intro t L h hc hn;have hs:=t.size_eq;obtain⟨⟨M,hM,Kq⟩,h2,h3,h4⟩:=ih.2 t.kids L (by lia) hc hn;rw[post_eq];by_cases hm:t∈bh t.kids L
    .rw[b! hm];exact⟨⟨M,hM,λu hu=>by have:=Kq u hu;lia⟩,h2,h3,hm⟩
    .rw[a! hm];refine⟨⟨M++[t],by rw[hM,Yj],λu hu=>?_⟩,λx hx u hu=>?_,?_,V9 _ (VO ..)⟩
     .rcases VP.mp hu with hu|hu
      .have:=Kq u hu;lia
      .rw[VH.mp hu];exact VG _
     .rcases VP.mp hx with hx|hx
      .exact VT _ (h2 x hx u hu)
      .rw[VH.mp hx]at hu;exact VT _ (h4 u hu)
     .rw[Xa];refine⟨h3,by simp,λa ha b hb=>?_⟩;rw[VH.mp hb];exactλz=>hm (z ▸ ha)
   refine⟨hT,λts=>?_⟩;induction ts with
   |nil=>intro L _ hc hn;rw[bh];exact⟨⟨[],by simp,λu hu=>by cases hu⟩,hc,hn,λt ht=>by cases ht⟩
   | cons t ts Ig =>
     intro L h hc hn;rw[au]at h;obtain⟨⟨M,hM,Kq⟩,h2,h3,h4⟩:=hT t L (by lia) hc hn;obtain⟨⟨N,hN,Rk⟩,g2,g3,g4⟩:=Ig (post t L) (by lia) h2 h3;rw[bh];refine⟨⟨M++N,by rw[hN,hM,Yj],λu hu=>?_⟩,g2,g3,λx hx=>?_⟩
     .rw[au];rcases VP.mp hu with hu|hu
      .have:=Kq u hu;lia
      .have:=Rk u hu;lia
     .rcases VS.mp hx with rfl|hx
      .rw[hN];exact VT _ h4
      .exact g4 x hx
theorem i3(t:Th)(hc:bZ L)(hn:L.Nodup):(∃M,post t L=L++M/\∀u∈M,u.size<=t.size)/\bZ (post t L)/\(post t L).Nodup/\t∈post t L:=(tw t.size).1 t L (VG _) hc hn
theorem jN:∀(n:Nat),(∀(t:Th)(L:List Th),t.size<=n->bZ L->t∈L->post t L=L)/\(∀(ts:List Th)(L:List Th),au ts<=n->bZ L->(∀t∈ts,t∈L)->bh ts L=L):=by
 intro n;induction n with
 | zero =>
   refine⟨λt L h=>?_,λts L h hc hm=>?_⟩
   .have:=t.size_eq;lia
   .cases ts with
    |nil=>rw[bh]
    | cons t ts =>
      rw[au]at h;have:=t.size_eq;lia
 | succ n ih =>
   have hT:∀(t:Th)(L:List Th),t.size<=n+1->bZ L->t∈L->post t L=L:=by
    intro t L h hc hm;have hs:=t.size_eq;rw[post_eq,ih.2 t.kids L (by lia) hc (hc t hm),b! hm]
   refine⟨hT,λts=>?_⟩;induction ts with
   |nil=>intro L _ _ _;rw[bh]
   | cons t ts Ig =>
     intro L h hc hm;rw[au]at h;rw[bh,hT t L (by lia) hc (hm t (VO ..))];exact Ig L (by lia) hc λx hx=>hm x (VR _ hx)
theorem vm{t:Th}(hc:bZ L)(h:t∈L):post t L=L:=(jN t.size).1 t L (VG _) hc h
theorem kJ{ts:List Th}(hc:bZ L)(h:∀t∈ts,t∈L):bh ts L=L:=(jN (au ts)).2 ts L (VG _) hc h
theorem uu{t c:Th}{pre rest:List Th}(hc:bZ L)(hn:L.Nodup)(hk:t.kids=pre++c::rest)(hp:∀u∈pre,u∈L):post t L=post t (post c L):=by
 obtain⟨⟨M,hM,_⟩,h2,h3,h4⟩:=i3 c hc hn;have e1:bh t.kids L=bh rest (post c L):=by rw[hk,fF,kJ hc hp,bh]
 have e2:bh t.kids (post c L)=bh rest (post c L):=by
  rw[hk,fF,kJ h2 (λu hu=>by rw[hM];exact VT _ (hp u hu)),bh,vm h2 h4]
 rw[post_eq,post_eq t (post c L),e1,e2]
theorem rV{t:Th}(hc:bZ L)(hk:∀u∈t.kids,u∈L)(h:t∉L):post t L=L++[t]:=by
 rw[post_eq,kJ hc hk,a! h]
def finish:List Th->List Th->List Th
 | [],L=>L
 |t::ts,L=>finish ts (post t L)
end
end BB
namespace PySem
open Sem (wp)
section
variable{K:Type}[DecidableEq K]{knd:HeapKind prog w K}
theorem bb_setDefault_heap{xs:List (K×Vy×Vz)}{k:K}{v:Vz}(hu:knd.room A)(Bb:knd.is s.1 k a)(hm:s.1.DictOfH knd d xs)
 (Fy:∀p,atKey xs k=A? p->Q p.2 {s with toks:=s.toks+knd.draws k})
 (Fl:atKey xs k=AQ->∀h',h'.DictOfH knd d (storedH xs k a v)->W3 d s.1 h'->Q v {s with heap:=h',toks:=s.toks+knd.draws k})
 (hsz:xs.length<=V4):VW (Wb prog w) A (dictSetDefault d (.ref a) v) Q E s:=by
 obtain⟨o,es,ep,ho,hc,hd,he,Kr,hn⟩:=hm;unfold dictSetDefault
 try with_reducible refine WT ?_
 refine Vv (knd.pyHash hu Bb ?_);refine Vv (wpAny_dictFind_heap (s:={s with toks:=s.toks+knd.draws k}) hu Bb ho hd he Kr hn ?_ ?_)
 .intro zp;have L1:k∉xs.map (·.1):=not_mem_keys_of_get zp
  refine Vv (ZF (Vv (wpAny_updateDictKeys (hz:=by have e:=size_of_entries he;lia) (s:={s with toks:=s.toks+knd.draws k}) ho hd (VC (Fl (atKey_none_of_get zp) _ ⟨_,_,ep+1,WU _ ho (Obj.isFreed_of_dict (Obj.data_mapDictKeys hd _)),
   hc.mapDictKeys _,Obj.data_mapDictKeys hd _,?_,?_,?_⟩ (Xb ..))))))
  .rw[storedH_new (atKey_none_of_get zp)];simp[he,entryOfKey]
  .rw[storedH_new (atKey_none_of_get zp)];intro x hx;rcases VP.mp hx with hx|hx
   .exact knd.keeps (Kr x hx) ho hd (Xb ..)
   .simp only[VH]at hx;subst hx;exact knd.keeps Bb ho hd (Xb ..)
  .rw[storedH_new (atKey_none_of_get zp)];rw[V3,Xa];refine⟨hn,by simp,?_⟩;intro x hx y hy;simp only[V6,XI,VH]at hy;subst hy;exactλe=>L1 (e ▸ hx)
 .intro j p hj;have h1:=Fy _ (atKey_of_get hn hj);refine Vv (X0 (s:={s with toks:=s.toks+knd.draws k}) ho hd ?_);rw[entry_at he j,hj];exact Vv (ZF (VC h1))
theorem bb_meets_setdefault(knd:HeapKind prog w K)(d a:Vy)(dflt:Vz)(hd:(d == Xn)=C?) :
 MeetsIn prog w (YC.«dict.setdefault» ⟨[.ref d,.ref a,dflt],[]⟩) (λA R s=>knd.room A.in1/\∃k xs,knd.is s.1 k a/\s.1.DictOfH knd d xs/\xs.length<=V4 /\
  (∀p,atKey xs k=A? p->R (.ok (.ret p.2)) {s with toks:=s.toks+knd.draws k}) /\
  (atKey xs k=AQ->∀h',h'.DictOfH knd d (storedH xs k a dflt)->W3 d s.1 h'->R (.ok (.ret dflt)) {s with heap:=h',toks:=s.toks+knd.draws k})) :=
 .of_wp λA R s⟨hu,k,xs,Bb,hm,hz,h1,h2⟩=>by
  unfold YC.«dict.setdefault»;refine Vv ?_;unfold Builtin.Dict.keyAndDefault;have hT:s.TypeIs (.ref d) "dict":=hm.typeIs;refine Vv (wpAny_notOrdered_dict hT ?_);show VW _ _ (pure (d,Wf a,A? dflt)) _ _ s;refine VC ?_;show VW _ _ (if(d == Xn)=B? then _ else(dictSetDefault d (.ref a) dflt >>= _)) _ _ s;rw[a! (by rw[hd];exact VY)];exact Vv (bb_setDefault_heap hu Bb hm (λp hp=>VC ⟨_,rfl,h1 p hp⟩) (λhn h' LZ Bo=>VC ⟨_,rfl,h2 hn h' LZ Bo⟩) hz)
end
end PySem
namespace L2
open PySem PySem.Spec PyProof.Rows
def uF:V->List V->Hp->VK->Prop:=λx vs H Q=>∃(a b:Vy)(v:V)(k:List Key)(kvs:List (List Key×V)),x=.ref a/\vs=[.ref b,v]/\H a=A? (.dT kvs)/\H b=A? (.tup (k.map kV))/\kvs.length<V4 /\
 (∀u,bT kvs k=A? u->Q u H)/\(bT kvs k=AQ->Q v (upd H a (.dT (putK kvs k v))))
theorem gY{X:Cx}(hu:X.A.units+1<Yd):MtM X "dict.setdefault" uF:=by
 intro Y s σ H x vs v us Q I rx rv h;obtain⟨a,b,y,k,kvs,rfl,rfl,e,eb,l,q1,q2⟩:=h;cases rx;cases rv with
 |cons r1 rv =>
 cases rv with
 |cons r2 rv =>
 cases rv;cases r1;obtain⟨z,hd,xs,rel,dd⟩:=qM I.hok e;have hz:xs.length<=V4:=by rw[<-VZ rel];exact z
 have hl:(putK kvs k y).length<=V4:=by have:=eJ kvs k y;lia
 have hT:s.TypeIs (.ref a) "dict":=dd.typeIs;refine call_meetsIn Zz hT PySem.F.entry_dict_setdefault (PySem.F.args_dict_setdefault_3 _ _ _) (bb_meets_setdefault (tupleKind (bv X.prog X.w)) a b _ hd) ⟨Zm hu,k,xs,ji I.hok eb,dd,hz,λp hp=>?_,λhn h' Ef hs=>?_⟩
 .have hr:=rel.val k;rw[hp]at hr;cases hv:bT kvs k with
  |none=>rw[hv]at hr;exact hr.elim
  | some u =>
    rw[hv]at hr;exact⟨u,H,I.tok _,hr,q1 u hv⟩
 .have hr:=rel.val k;rw[hn]at hr;cases hv:bT kvs k with
  |some u=>rw[hv]at hr;exact hr.elim
  | none =>
    refine⟨y,_,?_,r2,q2 hv⟩;obtain⟨q,es,ep,hq,h2,h3,h4,_,h5⟩:=Ef;refine j2 I (by rw[e];exact XQ) hs ⟨q,hq⟩ ⟨hl,hd,_,(rel.put k eb r2).keeps λc ys ec=>?_,q,es,ep,hq,h2,h3,h4,h5⟩;rw[af (aH ec e (λz=>nomatch z))];exact ec
end L2
namespace PySem
open Sem (wp)
section
variable{R:Result->VF->Prop}
theorem bb_key_loop{S:Vy}{es:Array ZK}{od:Xw}(hh:A.in1.handled=AQ)(hz:es.size<=V4)(Fz:S≠it)(Ih:S≠d)(Rl:d≠it)(g2:od.data=.dict es ep)(res:Vz) :
 ∀(k i:Nat)(s:VF)(acc:Array Vz)(c:Nat),es.size - i=k->i<=es.size->s.1.IsKeyIter it d i es.size ep->s.1.get? d=A? od->s.1.get? S=A? {cls:=.type "list",dict:=AQ,data:=.seq acc c,slots:=#[]}->acc.toList=(es.toList.take i).map (·.key) ->
 (∀h' Ag c',(∀b o,b≠S->b≠it->s.1.get? b=A? o->h'.get? b=A? o)->h'.get? S=A? {cls:=.type "list",dict:=AQ,data:=.seq Ag c',slots:=#[]}->Ag.toList=es.toList.map (·.key)->R (.ok (.ret res)) {s with heap:=h'}) ->
 Y0 (Wb prog w) A (.builtin "list.extend.loop" ⟨[.ref S,.ref it,res],[]⟩) R s:=by
 intro k;induction k with
 | zero =>
   intro i s acc c hk hi hit hd hS zr hR;have zW:i=es.size:=by lia
   subst zW;refine YU Z3 ?_;rw[XZ Xz _];show VW _ A.in1 (YE (.ref it) >>= _) _ _ s;refine Vv (bb_keyEnd hh hit hd g2 (VG _) λh' zt=>VC ?_);refine hR h' acc c (λb o _ hb e=>zt b o hb e) (zt _ _ Fz hS) ?_;rw[zr,WX (by rw[Wd];lia)]
 | succ k ih =>
   intro i s acc c hk hi hit hd hS zr hR;have yZ:i<es.size:=by lia
   refine YU Z3 ?_;rw[XZ Xz _];show VW _ A.in1 (YE (.ref it) >>= _) _ _ s;have hx:es[i]?=A? es[i]:=X8 yZ
   have An:acc.size=i:=by
    have:=h! Xd zr;rw[Wd,Vu,WA,Wd]at this;lia
   refine Vv (bb_keyNext hit hd g2 hx λh' L3 zt=>?_);have DQ:=(zt.2 S Fz).trans hS;have Hn:=(zt.2 d Rl).trans hd;show VW _ A.in1 (updateSeq S (·.push es[i].key) >>= _) _ _ _;refine Vv ?_;have Cp:∀b o,b≠S->h'.get? b=A? o->(h'.update S (WV (·.push es[i].key))).get? b=A? o:=λb o hb e=>(W8 _ _ (XC hb)).trans e
   refine Xq DQ rfl (VC ⟨Yx Xz _,ih (i+1) _ (acc.push es[i].key) _ (by lia) yZ (L3.at λo e=>Cp _ _ (XC Fz) e) (Cp _ _ (XC Ih) Hn) (WU _ DQ rfl) ?_ λGH Ag c' Ft Fu Dl=>?_⟩)
    (by rw[An];lia) (by show(acc.push _).size<=V4+1;rw[Array.size_push,An];lia)
   .rw[Array.toList_push,zr,Xu,Vw (by rw[Wd];exact yZ),V3];simp
   .exact hR GH Ag c' (λb o hb hb2 e=>Ft b o hb hb2 (Cp b o hb ((zt.2 b hb2).trans e))) Fu Dl
end
theorem bb_list_keys{es:Array ZK}{od:Xw}(hh:A.in1.in1.handled=AQ)(ns:(d == Xn)=C?)(hd:s.1.get? d=A? od)(gc:od.cls=.type "dict")(g2:od.data=.dict es ep)(hz:es.size<=V4)
 (hQ:∀h' acc c,(∀b o,s.1.get? b=A? o->h'.get? b=A? o)->h'.get? s.1.1.size=A? {cls:=.type "list",dict:=AQ,data:=.seq acc c,slots:=#[]}->acc.toList=es.toList.map (·.key)->Q (.ref s.1.1.size) {s with heap:=h'}) :
 VW (Wb prog w) A (call (.type "list") [.ref d]) Q E s:=by
 have B8:=V2 hd;have Ih:s.1.1.size≠d:=YA B8
 refine callType_codes (Q₁:=λobj l'=>obj=.ref s.1.1.size/\l'={s with heap:=s.1.push {cls:=.type "list",data:=.seq #[]}}) F.called_list (F.typeCall_list_1 _) F.entry_list_init
  (code_list_new _ ⟨rfl,rfl⟩) λobj l' ze=>?_
 obtain⟨rfl,rfl⟩:=ze;have hS:(s.1.push {cls:=.type "list",data:=.seq #[]}).get? s.1.1.size=A? {cls:=.type "list",data:=.seq #[]}:=VI _ rfl;refine⟨⟨_,hS,D?⟩,F.args_list_init_2 _ _,?_⟩;show VW _ A.in1.in1 (do let old <-Zy (.ref s.1.1.size);Builtin.List.listUpdate (.ref s.1.1.size) (λ_=>#[]);letGo old.toList.reverse;Y1 (.ref s.1.1.size) (.ref d) .none) _ _ _;refine Vv ?_;unfold Zy;refine Vv (Xc hS rfl (VC ?_));refine Vv (Xq hS rfl ?_);have BC:=WU (WV (λ_=>(#[]:Array Vz))) hS rfl;refine Vv (Yq ?_);have CH:((s.1.push {cls:=.type "list",data:=.seq #[]}).update s.1.1.size (WV (λ_=>(#[]:Array Vz)))).objs.size=s.1.1.size+1:=by rw[ZJ,WY]
 generalize hH:(s.1.push {cls:=.type "list",data:=.seq #[]}).update s.1.1.size (WV (λ_=>(#[]:Array Vz)))=H2 at BC CH |-
 have old:∀b o,s.1.get? b=A? o->H2.get? b=A? o:=λb o e=>by
  rw[<-hH,W8 _ _ (XC (We (V2 e)))];exact VB _ e
 obtain⟨c2,DR⟩:∃c,H2.get? s.1.1.size=A? {cls:=.type "list",data:=.seq #[] c}:=⟨_,BC⟩;have hd2:=old _ _ hd;have HX:({s with heap:=H2}:VF).TypeIs (.ref d) "dict":=⟨_,hd2,gc⟩;unfold Y1;refine Vv (Zq HX ?_);have h1:Zj (.ref s.1.1.size) (.ref d)=false:=by simp[Zj,Ih]
 have h2:(YS "dict" == YS "list")=false:=by decide
 have h3:(YS "dict" == YS "tuple")=false:=by decide
 simp only[h1,h2,h3,Bool.or_false,X7,if_false];refine Vv (bb_keyIter (s:={s with heap:=H2}) ns hd2 gc g2 ?_);refine Vv (WT ?_);have FA:(H2.push {cls:=.type "dict_keyiterator",data:=.fields #[.ref d,.int 0 0,.int es.size 0,.int ep 0]}).IsKeyIter H2.objs.size d 0 es.size ep:=⟨_,VI _ rfl,rfl,rfl⟩;have Ks:∀b o,H2.get? b=A? o->(H2.push {cls:=.type "dict_keyiterator",data:=.fields #[.ref d,.int 0 0,.int es.size 0,.int ep 0]}).get? b=A? o:=λb o e=>VB _ e;have Ii:s.1.1.size≠H2.objs.size:=by rw[CH];lia
 have L4:d≠H2.objs.size:=by rw[CH];exact We (Nat.lt_succ_of_lt B8)
 show VW _ _ _ _ _ ({s with heap:=H2.push {cls:=.type "dict_keyiterator",data:=.fields #[.ref d,.int 0 0,.int es.size 0,.int ep 0]}}:VF);generalize H2.push {cls:=.type "dict_keyiterator",data:=.fields #[.ref d,.int 0 0,.int es.size 0,.int ep 0]}=H3 at FA Ks |-;have OJ:=Ks _ _ hd2;have FC:=Ks _ _ DR;have L5:({s with heap:=H3}:VF).TypeIs (.ref d) "dict":=⟨_,OJ,gc⟩
 have key:∀(h:WS)(c₁:Nat),h.IsKeyIter H2.objs.size d 0 es.size ep->(∀b o,b≠s.1.1.size->H3.get? b=A? o->h.get? b=A? o)->h.get? s.1.1.size=A? {cls:=.type "list",data:=.seq #[] c₁} ->
  Y0 (Wb prog w) A.in1 (.builtin "list.extend.loop" ⟨[.ref s.1.1.size,.ref H2.objs.size,.none],[]⟩) (wants (λr zR=>r=.none/\Q (.ref s.1.1.size) zR) E) {s with heap:=h}:=by
  intro h c₁ hit hk Dm;refine bb_key_loop hh hz Ii Ih L4 g2 .none es.size 0 _ #[] c₁ rfl (Wh _) hit (hk _ _ (XC Ih) OJ) Dm rfl λh' Ag c' hm DQ zr=>?_;refine⟨D?,hQ h' Ag c' (λb o e=>?_) DQ zr⟩;have hb:=We (V2 e);exact hm b o hb (by rw[CH];exact We (Nat.lt_succ_of_lt (V2 e))) (hk b o hb (Ks b o (old b o e)))
 unfold Builtin.List.listLengthHint;refine Vv (wpAny_specialOf L5 F.slot_dict_len.lookup ?_);generalize hid:("dict.__len__":String)=Rm
 wp_delta
 rw[show splitId Rm=A? ("dict","__len__")from by subst hid;decide +kernel];subst hid;refine Vv (wpAny_isInstance (T:="dict") (b:=B?) L5 (by rw[isSubtype_type];kernel_rfl) ?_);refine wpAny_ite_split (λGJ=>g! GJ (by decide)) (λ_=>?_);refine wpAny_ite_split (λ_=>?_) (λGJ=>g! (by decide +kernel) GJ);refine Vv (Zq L5 ?_);refine VC ?_;refine wpAny_ite_split (λ_=>?_) (λ_=>VC ⟨Yx Xz _,key _ c2 FA (λb o _ e=>e) FC⟩);refine Vv (ZF ?_);refine Vv ?_;show VW _ _ (updateSeq s.1.1.size (·.push .none) >>= λ_=>updateSeq s.1.1.size (·.pop)) _ _ _;refine Vv (Xq FC rfl ?_);have BD:=WU (WV (·.push W7)) FC rfl;refine Xq (hz:=by seq_fits) BD rfl ?_;have Dn:=WU (WV (·.pop)) BD rfl
 have Cp:∀b o,b≠s.1.1.size->H3.get? b=A? o->((H3.update s.1.1.size (WV (·.push W7))).update s.1.1.size (WV (·.pop))).get? b=A? o :=
  λb o hb e=>(W8 _ _ (XC hb)).trans ((W8 _ _ (XC hb)).trans e)
 exact VC ⟨Yx Xz _,key _ _ (FA.at λo e=>Cp _ _ (XC Ii) e) Cp Dn⟩
end PySem
namespace L2
open PySem PySem.Spec PyProof.Rows
def wX:List V->Hp->VK->Prop:=λxs H Q=>∃(a:Vy)(kvs:List (List Key×V)),xs=[.ref a]/\H a=A? (.dT kvs)/\∀(l:Vy)(bs:List Vy),H l=AQ->Wc (λkv b=>H b=A? (.tup (kv.1.map kV))) kvs bs->Q (.ref l) (upd H l (.lst (bs.map k!)))
theorem tz{ys:List (List Key×Vy×Vz)}(rel:KTd H kvs ys):Wc (λkv b=>H b=A? (.tup (kv.1.map kV))) kvs (ys.map λy=>y.2.1):=by
 induction rel with
 |nil=>exact .nil
 |cons h t ih=>exact .cons h.2.1 ih
theorem lb{X:Cx}(hc:X.calm=B?):fZ X (.type "list") wX:=by
 intro Y s σ H xs us Q I r h;obtain⟨a,kvs,rfl,e,q⟩:=h;obtain⟨u,rfl,rx⟩:=vals1 r;cases rx;obtain⟨z,hd,ys,rel,dd⟩:=qM I.hok e;have hT:=dd.typeIs;obtain⟨o,es,ep,ho,UY,ES,he,Kr,hn⟩:=dd;obtain⟨o',Bl,zj⟩:=hT;have eo:o'=o:=VN (Bl.symm.trans ho);subst eo;have hl:kvs.length=ys.length:=VZ rel
 have B9:es.toList.map (·.key)=ys.map λy=>Wf y.2.1:=by
  rw[he,Wk];rfl
 have hsz:es.size<=V4:=by
  have:=h! Xd B9;rw[Vu,Vu,Wd]at this;lia
 have hh:X.A.in1.in1.handled=none:=I.ok.hd hc;refine bb_list_keys hh hd Bl zj ES hsz λh' acc c hk hS zr=>?_;have hp:Wc (λkv b=>H b=A? (.tup (kv.1.map kV))) kvs (ys.map λy=>y.2.1):=tz rel;refine⟨.ref s.1.1.size,upd H s.1.1.size (.lst ((ys.map λy=>y.2.1).map k!)),?_,D?,q _ _ I.fresh hp⟩;refine I.laid (t':=s.toks) hk (VG _) ⟨by rw[Vu,Vu];lia,acc.toList,c,?_,hS⟩;rw[zr,B9];clear hn Kr he B9 zr hS hl z rel hp q;induction ys with
 |nil=>exact .nil
 |cons y ys ih=>exact .cons rfl ih
open BB
theorem xI{es:List Dv}{ws:List V}(r1:Vals ws its)(Ah:DAts H es ws)(j:Nat)(z:Vz)(hz:its[j]?=A? z):∃e y',es[j]?=A? e/\DAt H e y'/\RelV y' z:=by
 have hj:j<its.length:=(glE hz);have l1:=r1.length;have l2:=Ah.length;have CI:j<es.length:=by lia
 obtain⟨y',B0,dy⟩:=Ah.at (Vw CI);obtain⟨v',AW,B7⟩:=r1.get B0;rw[hz]at AW;cases AW;exact⟨_,y',Vw CI,dy,B7⟩
theorem vW{z:Vz}{e e':Dv}{y' CZ:V}(h1:DAt H e y')(h2:RelV y' z)(h3:DAt H e' CZ)(h4:RelV CZ z):e=e':=by
 have:=h2.inj h4;subst this;exact h1.inj h3
def qy(K:VD)(B:Nat):R2:=λx y H Q=>∃b ws d es,y=.ref b/\SqL K H b ws/\DAt H d x/\DAts H es ws/\cb es<=B/\∀r:Bool,(r=B?↔d∉es)->Q (.bl r) H
open Classical in
theorem sH{X:Cx}(hu:X.A.units+B+2<Yd):OpR X (Xv .NotIn) (qy X.K B):=by
 intro Y s σ H x y v u Q I rx ry h;obtain⟨b,ws,d,es,rfl,hb,hd,Ah,hB,q⟩:=h;cases ry;obtain⟨its,r1,p1,_⟩:=I.list hb;have l1:=r1.length;have l2:=Ah.length;refine SeqAt.notIn_listAt (λz=>decide (∃y',DAt H d y'/\RelV y' z)) p1.isList (λz hz=>?_) ⟨.bl _,H,I,rfl,q _ ?_⟩
 .obtain⟨j,hj⟩:=VL.mp (show z∈its by simpa using hz);obtain⟨e,y',he,dy,ry⟩:=xI r1 Ah j z hj;have hq:=fq he
  have e3:decide (∃y',DAt H d y'/\RelV y' z)=decide (e=d):=by
   by_cases h:e=d
   .rw[d! h,d! ⟨y',h ▸ dy,ry⟩]
   .rw[c! h,c!];rintro⟨CZ,h1,h2⟩;exact h (vW dy ry h1 h2)
  rw[e3];refine j1 I _ e d (VG _) y' x z v X.A.in1 dy hd ry rx ?_;show X.A.units+1+_<Yd;lia
 .rw[Z4,<-Bool.not_eq_true];refine not_congr ?_;constructor
  .intro z;obtain⟨v',h1,h2⟩:=ZW.mp z;obtain⟨j,hj⟩:=VL.mp (show v'∈its by simpa using h1);obtain⟨e,y',he,dy,ry⟩:=xI r1 Ah j v' hj;obtain⟨CZ,h3,h4⟩:=e! h2;rw[<-vW dy ry h3 h4];exact Vx he
  .intro z;obtain⟨j,hj⟩:=VL.mp z;obtain⟨y',B0,dy⟩:=Ah.at hj;obtain⟨v',AW,B7⟩:=r1.get B0;refine ZW.mpr ⟨v',?_,d! ⟨y',dy,B7⟩⟩;have:=Vx AW;simpa using this
end L2
namespace PySem
open Sem (wp)
section
variable{K:Type}[DecidableEq K](knd:HeapKind prog w K)(d:Vy)
theorem bb_meets_len(hd:(d == Xn)=C?) :
 MeetsIn prog w (YC.«dict.__len__» ⟨[.ref d],[]⟩) (λ_ R s=>∃xs,s.1.DictOfH knd d xs/\R (.ok (.ret (.int xs.length s.toks))) {s with toks:=s.toks+1}) :=
 .of_wp λA R s⟨xs,hm,h⟩=>by
  obtain⟨o,es,ep,ho,hc,L6,he,hp,hn⟩:=hm;show VW _ _ (dictSize d >>= _) _ _ s;unfold dictSize;refine Vv (Vv (X0 ho L6 (VC ?_)));show VW _ _ (Builtin.Dict.pendingCount d >>= _) _ _ s;refine Vv (wpAny_pendingCount_other hd ?_);refine wpAny_ret_mkInt ?_
  have:es.size=xs.length:=by
   have:=h! Xd he;rw[Vu,Wd]at this;exact this
  rw[Nat.add_zero,this];exact h
end
section
variable{K:Type}[DecidableEq K]{knd:HeapKind prog w K}
theorem bb_call_len{xs:List (K×Vy×Vz)}(hd:(d == Xn)=C?)(hm:s.1.DictOfH knd d xs)(zK:(xs.length:Int)<2 ^ 63)
 (h:Q (.int xs.length (s.toks+1)) {s with toks:=s.toks+1+1}):VW (Wb prog w) A (call (.builtin "len") [.ref d]) Q E s:=by
 refine Calls.call_function_entry kind_len plain_len entry_len (args_len1 _) ?_;unfold YC.«len»;refine Vv (m:=oneArg "len" _) (VC ?_)
 refine Vv (m:=callSpecial? (.ref d) (VE "__len__")) (WJ (name:=VE "__len__") hm.typeIs F.slot_dict_len
  (call_meetsIn F.slot_dict_len hm.typeIs F.entry_dict_len (F.args_dict_len_1 _) (bb_meets_len knd d hd) ⟨xs,hm,?_⟩))
 show VW _ _ _ _ _ {s with toks:=s.toks+1};refine Vv (WT (VC ?_));refine Vv (Yq ?_);show VW _ _ (if((xs.length:Nat):Int)<0 then _ else _) _ _ _;rw[a! (by lia)];show VW _ _ (if((xs.length:Nat):Int) >= 2 ^ 63 then _ else _) _ _ _;rw[a! (by lia)];exact Vv (wpAny_mkInt (VC ⟨_,rfl,h⟩))
end
end PySem
namespace L2
open PySem PySem.Spec PyProof.Rows
def xV:List V->Hp->VK->Prop:=λxs H Q=>∃(a:Vy)(kvs:List (List Key×V)),xs=[.ref a]/\H a=A? (.dT kvs)/\Q (.int kvs.length) H
theorem ju{X:Cx}:fZ X (.builtin "len") xV:=by
 intro Y s σ H xs us Q I r h;obtain⟨a,kvs,rfl,e,q⟩:=h;obtain⟨u,rfl,rx⟩:=vals1 r;cases rx;obtain⟨z,hd,ys,rel,dd⟩:=qM I.hok e;have hl:kvs.length=ys.length:=VZ rel;refine bb_call_len hd dd (by rw[Y2]at z;lia) ?_;rw[<-hl];exact⟨.int kvs.length,H,I.tok _,⟨_,D?⟩,q⟩
end L2
namespace BB
open PySem L2
def gM(e:V5×List Nat):List Key:=.inr e.1::e.2.map λ(i:Nat)=>(Wt ((i:Nat):Int):Key)
theorem sI{e f:V5×List Nat}(h:gM e=gM f):e=f:=by
 obtain⟨n,is⟩:=e;obtain⟨m,js⟩:=f;unfold gM at h;obtain⟨h1,h2⟩:=Zp h
 have h3:is=js:=by
  clear h h1;induction is generalizing js with
  | nil=>cases js with
    |nil=>rfl
    |cons j js=>cases h2
  | cons i is ih=>cases js with
    |nil=>cases h2
    | cons j js =>
      rw[V6,V6]at h2;obtain⟨g1,g2⟩:=Zp h2;have g3:=Z2 g1;rw[ih js g2,show i=j by lia]
 rw[h3];cases Sum.inr.inj h1;rfl
def kvsOf(E:List (V5×List Nat)):List (List Key×V):=E.zipIdx.map λz=>(gM z.1,o! (z.2:Nat))
theorem jp(E:List (V5×List Nat)):(kvsOf E).length=E.length:=by unfold kvsOf;rw[Vu,List.length_zipIdx]
theorem o7(E:List (V5×List Nat))(e:V5×List Nat):kvsOf (E++[e])=kvsOf E++[(gM e,o! (E.length:Nat))]:=by
 unfold kvsOf;rw[List.zipIdx_append,V3];simp
theorem rG{E:List (V5×List Nat)}{p:List Key×V}(h:p∈kvsOf E):∃i e,p=(gM e,o! (i:Nat))/\E[i]?=A? e:=by
 unfold kvsOf at h;obtain⟨z,hz,rfl⟩:=VX.mp h;exact⟨z.2,z.1,D?,YG.mp hz⟩
theorem px{E:List (V5×List Nat)}{e:V5×List Nat}{u:V}(h:bT (kvsOf E) (gM e)=A? u):∃i:Nat,u=.int (i:Nat)/\E[i]?=A? e:=by
 unfold bT at h;obtain⟨p,hp,rfl⟩:=V1.mp h;obtain⟨i,f,rfl,hf⟩:=rG (List.mem_of_find?_eq_some hp);have hq:=List.find?_some hp;have:=e! (show decide (gM f=gM e)=B? from hq);rw[sI this]at hf;exact⟨i,D?,hf⟩
theorem pj{E:List (V5×List Nat)}{e:V5×List Nat}(h:bT (kvsOf E) (gM e)=AQ):e∉E/\putK (kvsOf E) (gM e) (.int (E.length:Nat))=kvsOf (E++[e]):=by
 unfold bT at h;have h1:=Option.map_eq_none_iff.mp h;rw[List.find?_eq_none]at h1;refine⟨λhm=>?_,?_⟩
 .obtain⟨i,hi⟩:=VL.mp hm;refine h1 (gM e,o! (i:Nat)) ?_ (d! rfl);unfold kvsOf;exact VX.mpr ⟨(e,i),YG.mpr hi,rfl⟩
 .rw[o7];unfold putK;rw[a!];intro z;obtain⟨p,hp,zC⟩:=Zo.mp z;exact h1 p hp zC
structure Cl(E:List (V5×List Nat))(Ts:List Th):Prop where
 len:E.length=Ts.length
 nd:Ts.Nodup
 ent:∀(i:Nat)(e:V5×List Nat),E[i]?=A? e->∃kids,Ts[i]?=A? (.knot e.1 kids)/\Wc (λid u=>id<i/\Ts[id]?=A? u) e.2 kids
theorem dQ{l:List α}(h:l.Nodup){x:α}(hi:l[i]?=A? x)(hj:l[j]?=A? x):i=j:=by
 obtain⟨h1,e1⟩:=Xe.mp hi;obtain⟨h2,e2⟩:=Xe.mp hj;rcases Nat.lt_trichotomy i j with z|z|z
 .exact g! (e1.trans e2.symm) (ZY.mp h i j h1 h2 z)
 .exact z
 .exact g! (e2.trans e1.symm) (ZY.mp h j i h2 h1 z)
theorem qw(h:Ts.Nodup):∀{ids js:List Nat}{kids:List Th},Wc (λid u=>Ts[id]?=A? u) ids kids->Wc (λid u=>Ts[id]?=A? u) js kids->ids=js
 |_,_,_,.nil,.nil=>rfl
 |_,_,_,.cons a b,.cons c d=>by rw[dQ h a c,qw h b d]
theorem oh:∀{ids:List Nat}{ks js:List Th},Wc (λid u=>Ts[id]?=A? u) ids ks->Wc (λid u=>Ts[id]?=A? u) ids js->ks=js
 |_,_,_,.nil,.nil=>rfl
 | _,_,_,.cons a b,.cons c d=>by
   rw[a]at c;cases c;rw[oh b d]
theorem Cl.found{E:List (V5×List Nat)}(c:Cl E Ts){n:V5}{kids:List Th}(h:E[i]?=A? (n,ids))(hp:Wc (λid u=>Ts[id]?=A? u) ids kids):Ts[i]?=A? (.knot n kids):=by
 obtain⟨ks,h1,h2⟩:=c.ent i _ h;rw[oh hp (t! (λ_ _ z=>z.2) h2)];exact h1
theorem Cl.snoc{E:List (V5×List Nat)}(c:Cl E Ts){n:V5}{kids:List Th}(hn:(n,ids)∉E)(hp:Wc (λid u=>Ts[id]?=A? u) ids kids):Cl (E++[(n,ids)]) (Ts++[.knot n kids]):=by
 have up:∀{id:Nat}{u:Th},Ts[id]?=A? u->(Ts++[r! n kids])[id]?=A? u:=λ{id u}h=>by
  rw[Wj (glE h)];exact h
 refine⟨by rw[VJ,VJ,c.len];rfl,?_,λi e he=>?_⟩
 .rw[Xa];refine⟨c.nd,by simp,λa ha b hb z=>?_⟩;rw[VH.mp hb]at z;subst z;obtain⟨i,hi⟩:=VL.mp ha;have Ab:i<E.length:=by rw[c.len];exact(glE hi)
  obtain⟨ks,h1,h2⟩:=c.ent i _ (Vw Ab);rw[hi]at h1;have h3:=VN h1;injection h3 with h4 h5;subst h5;have h6:=qw c.nd hp (t! (λ_ _ z=>z.2) h2);refine hn ?_;have:(n,ids)=E[i]:=Prod.ext h4 h6;rw[this];exact WQ Ab
 .by_cases hi:i<E.length
  .rw[Wj hi]at he;obtain⟨ks,h1,h2⟩:=c.ent i e he;exact⟨ks,up h1,t! (λ_ _ z=>⟨z.1,up z.2⟩) h2⟩
  .rw[Ww (by lia)]at he
   have h0:i - E.length=0:=by
    have:=(glE he);simp at this;lia
   rw[h0]at he;cases he;have L7:i=Ts.length:=by have:=c.len;lia
   subst L7;refine⟨kids,by simp,t! (λid u z=>⟨(glE z),up z⟩) hp⟩
def fkv(F:List Nat):List (Key×V):=F.zipIdx.map λz=>((Wt ((z.1:Nat):Int):Key),o! (z.2:Nat))
theorem va(F:List Nat):(fkv F).length=F.length:=by unfold fkv;rw[Vu,List.length_zipIdx]
theorem tJ(F:List Nat)(i:Nat):fkv (F++[i])=fkv F++[((Wt ((i:Nat):Int):Key),o! (F.length:Nat))]:=by
 unfold fkv;rw[List.zipIdx_append,V3];simp
theorem vd{F:List Nat}{p:Key×V}(h:p∈fkv F):∃i id,p=((Wt ((id:Nat):Int):Key),o! (i:Nat))/\F[i]?=A? id:=by
 unfold fkv at h;obtain⟨z,hz,rfl⟩:=VX.mp h;exact⟨z.2,z.1,D?,YG.mp hz⟩
theorem uB{a b:Nat}(h:(Wt ((a:Nat):Int):Key)=Wt ((b:Nat):Int)):a=b:=by
 have:=Z2 h;lia
theorem i5{F:List Nat}{id:Nat}{u:V}(h:bT (fkv F) (Wt ((id:Nat):Int):Key)=A? u):∃i:Nat,u=.int (i:Nat)/\F[i]?=A? id:=by
 unfold bT at h;obtain⟨p,hp,rfl⟩:=V1.mp h;obtain⟨i,f,rfl,hf⟩:=vd (List.mem_of_find?_eq_some hp);have hq:=List.find?_some hp;have:=e! (show decide ((Wt ((f:Nat):Int):Key)=Wt ((id:Nat):Int))=B? from hq);rw[uB this]at hf;exact⟨i,D?,hf⟩
theorem iQ{F:List Nat}{id:Nat}(h:bT (fkv F) (Wt ((id:Nat):Int):Key)=AQ):id∉F/\∀v,putK (fkv F) (Wt ((id:Nat):Int):Key) v=fkv F++[(Wt ((id:Nat):Int),v)]:=by
 unfold bT at h;have h1:=Option.map_eq_none_iff.mp h;rw[List.find?_eq_none]at h1;refine⟨λhm=>?_,λv=>?_⟩
 .obtain⟨i,hi⟩:=VL.mp hm;refine h1 (Wt ((id:Nat):Int),o! (i:Nat)) ?_ (d! rfl);unfold fkv;exact VX.mpr ⟨(id,i),YG.mpr hi,rfl⟩
 .unfold putK;rw[a!];intro z;obtain⟨p,hp,zC⟩:=Zo.mp z;exact h1 p hp zC
theorem u8{F:List Nat}{id:Nat}(h:id∉F):bT (fkv F) (Wt ((id:Nat):Int):Key)=none:=by
 cases hv:bT (fkv F) (Wt ((id:Nat):Int):Key)with
 |none=>rfl
 | some u =>
   obtain⟨i,_,hi⟩:=i5 hv;exact g! (Vx hi) h
theorem qj(F:List Nat)(id:Nat):(bT (fkv F) (Wt ((id:Nat):Int):Key)).isSome=decide (id∈F):=by
 cases hv:bT (fkv F) (Wt ((id:Nat):Int):Key)with
 |none=>rw[c! (iQ hv).1];rfl
 | some u =>
   obtain⟨i,_,hi⟩:=i5 hv;rw[d! (Vx hi)];rfl
def unt(N:Nat)(F:List Nat):Nat:=((Xf N).filter λi=>decide (i∉F)).length
theorem w9{N:Nat}{F:List Nat}{a:Nat}(h1:a<N)(h2:a∉F):unt N (F++[a])<unt N F:=by
 unfold unt
 have e:((Xf N).filter λi=>decide (i∉F++[a]))=(((Xf N).filter λi=>decide (i∉F)).filter λi=>decide (i≠a)):=by
  rw[List.filter_filter];congr 1;funext i;simp only[VP,VH,not_or];by_cases h3:i∈F <;> by_cases h4:i=a <;> simp[h3,h4]
 rw[e];refine List.length_filter_lt_length_iff_exists.mpr ⟨a,?_,by simp⟩;exact Xy.mpr ⟨ZT.mpr h1,d! h2⟩
theorem mU:∀(n:Nat),(∀(t:Th)(L:List Th),t.size<=n->L.length<=(post t L).length/\(post t L).length<=L.length+t.size)/\(∀(ts:List Th)(L:List Th),au ts<=n->L.length<=(bh ts L).length/\(bh ts L).length<=L.length+au ts):=by
 intro n;induction n with
 | zero =>
   refine⟨λt L h=>?_,λts L h=>?_⟩
   .have:=t.size_eq;lia
   .cases ts with
    |nil=>rw[bh,au];exact⟨VG _,VG _⟩
    | cons t ts =>
      rw[au]at h;have:=t.size_eq;lia
 | succ n ih =>
   have hT:∀(t:Th)(L:List Th),t.size<=n+1->L.length<=(post t L).length/\(post t L).length<=L.length+t.size:=by
    intro t L h;have hs:=t.size_eq;obtain⟨h1,h2⟩:=ih.2 t.kids L (by lia);rw[post_eq];split
    .lia
    .rw[VJ];show L.length<=_+1/\_+1<=_;lia
   refine⟨hT,λts=>?_⟩;induction ts with
   |nil=>intro L _;rw[bh,au];exact⟨VG _,VG _⟩
   | cons t ts Ig =>
     intro L h;rw[au]at h;obtain⟨h1,h2⟩:=hT t L (by lia);obtain⟨h3,h4⟩:=Ig (post t L) (by lia);rw[bh,au];lia
theorem tI(t:Th)(L:List Th):L.length<=(post t L).length/\(post t L).length<=L.length+t.size:=(mU t.size).1 t L (VG _)
mutual
theorem fC:∀t:Th,t.tall<=t.size
 |.knot n ts=>by rw[w!,L!];have:=jH ts;lia
 |.call _ _=>by rw[w!,L!];lia
theorem jH:∀ts:List Th,bw ts<=au ts
 | []=>by rw[bw,au];lia
 |t::ts=>by rw[bw,au];have:=fC t;have:=jH ts;lia
end
open PySem.Builtin PySem.Builtin.Str
end BB
namespace L2
open PySem PySem.Spec PySem.Calls PyProof.Rows BB
section
variable{X:Cx}{σ:List (Option V)}
end
open PySem.Builtin PySem.Builtin.Str
variable{X:Cx}
end L2
namespace BB
open PySem L2
section
variable{t:Th}{ts:List Th}{es:List Vy}
end
end BB
namespace L2
open PySem PySem.Spec PyProof.Rows BB
variable{X:Cx}
end L2
namespace L2
open PySem PySem.Spec PyProof.Rows PySem.W
def t8(K:Frag)(Ch:Vy)(ts:TS)(D:Ends):St->Vz->Hp->Prop:=λzA c H'=>∃C,c=.ref C/\Hit K C Ch/\ts D zA H'
def vF(K:Frag)(Ch:Vy)(tb:(St->Vz->Hp->Prop)->TS)(ts:TS):TS:=λD σ H=>tb (t8 K Ch ts D) D σ H
theorem pf{K:Frag}{Ch:Vy}{tb:(St->Vz->Hp->Prop)->TS}{ts:TS}(R:St->Vz->Hp->Prop)(h1:∀R':St->Vz->Hp->Prop,(∀zA c H',R zA c H'->R' zA c H')->tb R' D σ H)
 (h2:∀zA c H',R zA c H'->t8 K Ch ts D zA c H'):vF K Ch tb ts D σ H:=h1 _ h2
theorem vh{X:Cx}{Ch:Vy}{cx:V5}{np zZ:YF}{suite:List Zv}{b0:Zv}{tb:(St->Vz->Hp->Prop)->TS}{ts:TS}
 (hb:∀Y R,PSs (X.tryB Y R) body (tb R)) (hs:∀ea oe,PSs (X.suite ea oe) (b0::suite) ts)
 (zF:X.stack=X.env::X.outer) (Eh:X.env.frame=A? X.env.locals) (hg:Gl X cx) (hm:X.mg cx=A? (.ref Ch))
 (hd:(cx == ("__debug__":V5))=false:=by decide) :
 PS X (.Try body [.ExceptHandler (A? (.Name cx np)) AQ (b0::suite) zZ] [] [] pos) (vF X.K Ch tb ts):=by
 intro Y s σ H D I h;refine wpAny_Try_except ?_;have zG:=hb Y (t8 X.K Ch ts D) [] s σ H D (I.tryB _) h;refine Xm zG (λf s1 q=>?_) λe s1 q=>?_
 .have q':=SP.untryB q;cases f with
  |next=>exact ZX q'
  |brk=>exact q'
  |cont=>exact q'
  |ret u=>exact q'
 .obtain⟨zA,H1,s0,I1,ea,C,a0,B,H',rfl,Bv,Dq,un,hok,DS,b1,b2,C',LI,hit,q⟩:=q;cases LI;rw[zF]at DS;have L8:X.A.frames=A? (X.env::X.outer):=by rw[<-zF];exact I1.ok.frames
  have inv:∀(h6:WS)(tk:Nat),Heap.FlyingW B (X.env::X.outer) ea (.ref C) a0 h6->s1.1.UpToSlots h6->Inv X Y zA H' {s1 with heap:=h6}:=λh6 tk Ca up=>by
   obtain⟨U,_⟩:=pH (fs:=frs X.stack) (H:=H1) (H1:=H1) (h:=s0.1) (h1:=s0.1) (h':=h6) (l:=frs X.stack) (B:=B) Un.refl un (λb o _ z=>z) b1 Ca.1 up (λb hb=>⟨I1.stkFree b hb,(I1.stack.mem hb).2⟩);exact I1.call' (s':={s1 with heap:=h6}) (ch:=[]) Bv U (ni hok DS.1 Ca.1 b2) Dq λ_ z=>nomatch z
  refine wpAny_looks_onW L8 Eh DS λh4 Ij Rn=>?_;refine wpAny_landsW Ij λh5 FD Ro=>?_;have Ik:=Rn.trans Ro;have I5:=inv h5 0 FD Ik;obtain⟨o5,Rp,Rq⟩:=FD.there;refine wpAny_handleBy_cons (codeAny_handlers_test ?_) (by intro q;cases q);have UZ:Inv (X.wish X.xe) Y zA H' {s1 with heap:=h5}:=I5;refine Calls.Name_function_global I5.ok.kind hg (Calls.loadGlobal_global (by rw[I5.ok.glob];exact I5.mod.glob.keeps I5.bk) hm ?_) hd;refine(exm_one (M:=Wb X.prog X.w) (h:=h5) I5.kIn (Rq ▸ (Looks.ld Rp).andThen .now) hit.hit).here ?_;refine codeAny_handlers_suite ?_;refine lands_againW (s:={s1 with heap:=h5}) FD λh6 Ca Rr=>?_;have I6:=inv h6 0 Ca (Ik.trans Rr);obtain⟨oe,vs,DO,EF,Ei,_⟩:=Ca.first
  have AY:H' ea=none:=by
   cases z:H' ea with
   |none=>rfl
   | some u =>
     obtain⟨o',Bl⟩:=b2 ea u z;rw[Ca.2.1]at Bl;cases Bl
  have FE:ea∉frs (X.env::X.outer):=λz=>by
   obtain⟨_,o,ho,nf⟩:=Ca.2.2.1.mem z;rw[DO]at ho;cases ho;exact nf vs Ei
  rw[qp Eh]at FE;have IS:Inv (X.suite ea oe) Y zA H' {s1 with heap:=h6}:=I6.suite ⟨DO,AY,λz=>FE (z ▸ VO),λz=>FE (VR _ z),λv z=>by rw[Ei]at z;cases z⟩;refine Xm (hs ea oe Y _ _ H' D IS q) (λf s8 q8=>?_) λ_ _ z=>XA z;cases f with
  |next=>obtain⟨Fn,H8,J,q⟩:=q8;exact⟨_,H8,J.unsuite I1.ok.hd,q⟩
  |brk=>obtain⟨Fn,H8,J,q⟩:=q8;exact⟨_,H8,J.unsuite I1.ok.hd,q⟩
  |cont=>obtain⟨Fn,H8,J,q⟩:=q8;exact⟨_,H8,J.unsuite I1.ok.hd,q⟩
  |ret u=>obtain⟨v,Fn,H8,J,r,q⟩:=q8;exact⟨v,_,H8,J.unsuite I1.ok.hd,r,q⟩
open BB
variable{X:Cx}
end L2
namespace L2
open PySem PySem.Spec PySem.Calls PyProof.Rows PySem.W
end L2
namespace BB
open PySem L2 PySem.Builtin PySem.Builtin.Str
end BB
namespace L2
open PySem PySem.Spec PySem.Calls PyProof.Rows PySem.Builtin PySem.Builtin.Str BB
variable{X:Cx}
end L2
namespace L2
open PySem PySem.Spec PyProof.Rows
end L2
namespace BB
open PySem L2
end BB
namespace L2
open PySem PySem.Spec PyProof.Rows
open PySem.Calls
structure rO(P:V8)(w:Wm)(K:VD)(mg:V5->Option Vz)(base:WS)(CX:CXT)(k:Nat)(f:Vy)(sp:Sp):Prop where
 fn:∀(A:Wr)(outer:List Env)(s:VF)(H:Hp)(vs:List V)(Q:VK)(E:XK),Env0 P w K mg base A outer s H->sp vs H Q E->PySem.W.FnAt f s.1
 run:∀(A:Wr)(outer:List Env)(s:VF)(H:Hp)(us:List Vz)(vs:List V)(Q:VK)(E:XK),Room k A->Env0 P w K mg base A outer s H->Vals vs us->sp vs H Q E ->
  Y0 (Wb P w) A (.call (.ref f) ⟨us,[]⟩) (CR CX outer P w H s Q E) s
section
variable{X:Cx}{k:Nat}{E:XK}{p:YF}{es:List WB}{t:TA}
end
def fgt(S:List Vy)(H:Hp):Hp:=λb=>if b∈S then AQ else H b
def rst(S:List Vy)(H H':Hp):Hp:=λb=>if b∈S then H b else H' b
theorem lm(h:b∈S):fgt S H b=none:=b! h
theorem eF(h:b∉S):fgt S H b=H b:=a! h
theorem xh(h:b∈S):rst S H H' b=H b:=b! h
theorem fJ(h:b∉S):rst S H H' b=H' b:=a! h
theorem sJ(h:fgt S H b=A? o):b∉S/\H b=A? o:=by
 by_cases hb:b∈S
 .rw[lm hb]at h;cases h
 .exact⟨hb,by rw[eF hb]at h;exact h⟩
def Exts(S:List Vy)(H:Hp):Prop:=∀b∈S,∃φ,H b=A? (.ext φ)
theorem Exts.out(x:Exts S H)(e:H b=A? o)(n:∀φ,o≠.ext φ):b∉S:=λz=>by
 obtain⟨φ,h⟩:=x b z;rw[e]at h;exact n φ (VN h)
theorem HOk.fgt(x:HOk P w H h)(hS:Exts S H):HOk P w (fgt S H) h:=λa o e=>by
 obtain⟨ha,e'⟩:=sJ e;exact(x a o e').stay (λ_ _ _ q=>q) (λb q=>by rw[eF (hS.out q (by intro φ z;cases z))];exact q) λb xs q=>by rw[eF (hS.out q (by intro φ z;cases z))];exact q
theorem HOk.rst(x:HOk P w H h)(x':HOk P w H' h')(hS:Exts S H)(hk:∀b∈S,∀o,h.get? b=A? o->h'.get? b=A? o)(hn:∀b∈S,H' b=AQ):HOk P w (rst S H H') h':=λa o e=>by
 by_cases ha:a∈S
 .rw[xh ha]at e;obtain⟨φ,Rt⟩:=hS a ha;have e2:=Rt;rw[e]at e2;cases e2;obtain⟨p,⟨ob,q⟩,st⟩:=x a _ e;exact⟨st _ _ p (λo z=>hk a ha o z),⟨ob,hk a ha ob q⟩,st⟩
 .rw[fJ ha]at e;have out:∀b u,H' b=A? u->b∉S:=λb u q z=>by rw[hn b z]at q;cases q
  exact(x' a o e).stay (λ_ _ _ q=>q) (λb q=>by rw[fJ (out b _ q)];exact q) λb xs q=>by rw[fJ (out b _ q)];exact q
def CellAt(H:Hp)(c:Vy)(v:V):Prop:=∃φ,H c=A? (.ext φ)/\∀h:WS,φ h->∃u,RelV v u/\h.IsCell c (A? u)
def CodeAt(H:Hp)(c:Vy)(qual:V5):Prop:=∃φ,H c=A? (.ext φ)/\∀h:WS,φ h->h.CodeRec (.ref c) qual
def vq(H:Hp)(cl:List (V5×Vy))(ns:List V5)(ws:List V):Prop:=Wc (λ(x:V5)(v:V)=>∃c,cl.lookup x=A? c/\CellAt H c v) ns ws
def LamAt(H:Hp)(f c':Vy)(name qual:V5)(params:Arguments)(body:WB)(scope:Yz)(cl:List (V5×Vy)):Prop:=∃φ,H f=A? (.ext φ)/\∀h:WS,φ h->∃pm BE,h.get? f=A? (X9 name qual params body scope cl pm c' BE)
theorem CodeAt.mono(s:Same H H'){q:V5}(h:CodeAt H c q):CodeAt H' c q:=by
 obtain⟨φ,h1,h2⟩:=h;exact⟨φ,s _ _ h1,h2⟩
theorem LamAt.mono(s:Same H H'){c':Vy}{body:WB}(h:LamAt H f c' name qual params body scope cl):LamAt H' f c' name qual params body scope cl:=by
 obtain⟨φ,h1,h2⟩:=h;exact⟨φ,s _ _ h1,h2⟩
theorem CellAt.now(x:HOk P w H h)(z:CellAt H c v):∃u,RelV v u/\h.IsCell c (A? u):=by
 obtain⟨φ,h1,h2⟩:=z;exact h2 h (x c _ h1).1
def cxL(P:V8)(w:Wm)(K:VD)(mg:V5->Option Vz)(base:WS)(N:List V5)(qual:V5)(scope:Yz)(f:Vy)(cd:Vz)(cl:List (V5×Vy))(A:Wr)(outer:List Env)(s:VF)(H:Hp):Cx where
 prog:=P
 w:=w
 K:=K
 mg:=mg
 base:=base
 A:=A.deeper (PySem.W.envX qual scope s.1.1.size f cd cl)
 N:=N
 s₀:=s
 H₀:=fgt (cl.map (·.2)) H
 env:=PySem.W.envX qual scope s.1.1.size f cd cl
 outer:=outer
 stack:=PySem.W.envX qual scope s.1.1.size f cd cl::outer
 ex:=[]
 calm:=B?
 fn:=λ_=>C?
 pn:=[]
 xe:=λ_ _=>False
structure oT(N ps:List V5)(cl:List (V5×Vy))(sc:Yz):Prop where
 kind:sc.kind=.function
 co:sc.isCoroutine=C?
 gen:sc.isGenerator=C?
 nocell:∀x∈sc.names,x.2≠.cell
 nd:N.Nodup
 pre:N.take ps.length=ps
 par:∀x∈ps,sc.names.lookup x=A? .local
 fre:∀x∈N.drop ps.length,sc.names.lookup x=A? .free
 has:∀x,sc.names.lookup x=A? .free->∃c,cl.lookup x=A? c
 inj:∀x y c,cl.lookup x=A? c->cl.lookup y=A? c->x=y
theorem og(h:cl.lookup x=A? c):c∈cl.map (·.2):=VX.mpr ⟨(x,c),Xr h,rfl⟩
theorem lY:∀{l:List (V5×Vz)}{x:V5}{u:Vz},(l.map (·.1)).Nodup->(x,u)∈l->l.lookup x=A? u
 | [],_,_,_,h=>by cases h
 | (y,v)::l,x,u,nd,h=>by
   rw[V6,WG]at nd;rw[Xl];rcases VS.mp h with e|e
   .cases e;rw[beq_self_eq_true]
   .have zk:(x == y)=false:=by
     rw[beq_eq_false_iff_ne];intro z;subst z;exact nd.1 (VX.mpr ⟨_,e,rfl⟩)
    rw[zk];exact lY nd.2 e
theorem nZ(nd:ps.Nodup)(hl:us.length=ps.length)(h1:ps[i]?=A? x)(h2:us[i]?=A? u):(ps.zip us).reverse.lookup x=A? u:=by
 refine lY ?_ ?_
 .rw[List.map_reverse,List.map_fst_zip (by lia)];exact(List.pairwise_reverse.mpr (nd.imp λh z=>h z.symm))
 .rw[List.mem_reverse];exact Vx (Xp.mpr ⟨h1,h2⟩)
theorem wH{k:Nat}{c':Vy}{body:WB}
 (S:oT N ps cl scope) (bind:∀(pm BE:Vz)(us:List Vz),us.length=ps.length->ZP (PySem.W.kla_fn name qual params body scope cl pm (.ref c') BE) ⟨us,[]⟩=pure (ps.zip us))
 (AK:∀vs H Q E,sp vs H Q E->vs.length=ps.length/\LamAt H f c' name qual params body scope cl/\CodeAt H c' qual/\Exts (cl.map (·.2)) H/\∀x c,cl.lookup x=A? c->∃v,CellAt H c v)
 (zG:∀(A:Wr)(outer:List Env)(s:VF)(H:Hp)(vs:List V)(Q:VK)(E:XK),Room k (A.deeper (PySem.W.envX qual scope s.1.1.size f (.ref c') cl))->sp vs H Q E ->
  ∃t ws,vq H cl (N.drop ps.length) ws/\PE (cxL P w K mg base N qual scope f (.ref c') cl A outer s H) body t/\t (vs.map A?++ws.map A?) (fgt (cl.map (·.2)) H) λv H'=>Q v (rst (cl.map (·.2)) H H')) :
 rO P w K mg base CX0 (k+1) f sp where
 fn:=λA outer s H vs Q E e0 h=>by
  obtain⟨_,⟨φ,h1,h2⟩,_⟩:=AK _ _ _ _ h;obtain⟨pm,BE,e⟩:=h2 _ (e0.hok f _ h1).1;exact⟨_,_,_,_,e⟩
 run:=λA outer s H us vs Q E hr e0 r h=>by
  obtain⟨hl,⟨φ,h1,h2⟩,⟨ψ,g1,g2⟩,hx,Ru⟩:=AK _ _ _ _ h;obtain⟨pm,BE,ef⟩:=h2 _ (e0.hok f _ h1).1;have Rv:=g2 _ (e0.hok c' _ g1).1;have GC:us.length=ps.length:=by rw[<-r.length];exact hl
  have L9:∀y∈ps.zip us,scope.names.lookup y.1=A? .local:=λ⟨n,v⟩hy=>S.par n (Y6 hy).1;refine PySem.W.kla_callFunE hr.depth ef rfl S.co S.gen rfl Rv ?_;rw[show ZP _ _=_ from bind pm BE us GC];refine VC (wpAny_newFunctionEnv S.nocell L9 (λze AE Bn=>?_) S.kind);have BF:∀b o,s.1.get? b=A? o->ze.get? b=A? o:=λb o e=>Bn.extBut b o (We (V2 e)) (VB _ e);refine⟨e0.mod.nolimit.keeps λb o e=>BF b o (e0.bs b o e).1,?_⟩;show Y0 _ _ (.expr body (PySem.W.envX qual scope s.1.1.size f (.ref c') cl)) _ _;obtain⟨t,ws,Ah,ht,hq⟩:=zG A outer s H vs Q E (hr.deeper _) h;have B1:(N.drop ps.length).length=ws.length:=VZ Ah;have Am:ps.length<=N.length:=by have:=h! Xd S.pre;rw[WA]at this;lia
  have zj:∀x c,cl.lookup x=A? c->c∈cl.map (·.2):=λx c e=>og e
  have yZ:∀c∈cl.map (·.2),c<s.1.1.size:=λc hc=>by
   obtain⟨GK,e⟩:=hx c hc;exact e0.hok.lt e
  have FG:∀x c,cl.lookup x=A? c->∃v,ze.IsCell c v:=λx c e=>by
   obtain⟨v,hv⟩:=Ru x c e;obtain⟨u,_,o,ho,hd⟩:=hv.now e0.hok;exact⟨_,o,BF _ _ ho,hd⟩
  have GL:∀b,H b=AQ->fgt (cl.map (·.2)) H b=none:=λb e=>by
   by_cases hb:b∈cl.map (·.2)
   .exact lm hb
   .rw[eF hb];exact e
  have Kk:ps.Nodup:=by rw[<-S.pre];exact S.nd.sublist (List.take_sublist _ _)
  have I:Inv (cxL P w K mg base N qual scope f (.ref c') cl A outer s H) [] (vs.map A?++ws.map A?) (fgt (cl.map (·.2)) H) {s with heap:=ze,toks:=s.toks+(ps.zip us).length}:=by
   refine⟨⟨e0.mod,S.kind,D?,D?,VG _,S.inj,λx hx=>?_,λx c hf _=>(by cases hf),λ_=>hr.hd,Around.frames_deeper e0.frames,.inr ⟨rfl,rfl⟩,λb z=>(by cases z),λb o e=>⟨(e0.bs b o e).1,?_⟩,e0.bsz,λb _ _ z=>(by cases z),λb z=>(by cases z),e0.funs,λb hb=>?_⟩,
    rfl,e0.bare,Un.kept BF,⟨_,AE,λi x v e1 e2 e3=>?_⟩,FG,?_,λx c e=>lm (zj x c e),λp hp=>(by cases hp),?_,?_⟩
   .have Bc:scope.names.lookup x=A? .cell\/scope.names.lookup x=A? .free:=hx;rcases Bc with z|z
    .exact g! rfl (S.nocell _ (Xr z))
    .exact S.has x z
   .exact GL b (e0.bs b o e).2
   .exact GL b (e0.frf b hb)
   .by_cases hi:i<vs.length
    .rw[Wj (by rw[Vu];exact hi),VA]at e2;obtain⟨v',AW,e4⟩:=V1.mp e2;cases e4;obtain⟨u,hu,rv⟩:=r.get AW
     have hp:ps[i]?=A? x:=by
      rw[<-S.pre,List.getElem?_take_of_lt (by lia)];exact e1
     exact⟨u,rv,.inl ⟨S.par x (Vx hp),nZ Kk GC hp hu⟩⟩
    .rw[Ww (by rw[Vu];lia),VA,Vu]at e2;obtain⟨v',AW,e4⟩:=V1.mp e2;cases e4
     have hd:(N.drop ps.length)[i - vs.length]?=A? x:=by
      rw[List.getElem?_drop,hl,show ps.length+(i - ps.length)=i by lia];exact e1
     obtain⟨w',AZ,c,hc,AV⟩:=u! Ah hd;rw[AW]at AZ;cases AZ;obtain⟨u,ru,o,ho,hdc⟩:=AV.now e0.hok;exact⟨u,ru,.inr ⟨.inr (S.fre x (Vx hd)),c,hc,o,BF _ _ ho,hdc⟩⟩
   .exact GL _ (e0.hok.fresh (VG _))
   .exact(e0.hok.fgt hx).kept BF
   .show(vs.map A?++ws.map A?).length=N.length;rw[VJ,Vu,Vu,<-B1,WO];lia
  refine PySem.W.kla_codeExpr (Xm (ht [] _ _ _ _ I hq) (λu s' CU=>?_) λe s' z=>z.elim);obtain⟨v,H',I',rv,q'⟩:=CU;have un:Un (frs outer) [] (fgt (cl.map (·.2)) H) H' s.1 s'.1:=I'.base
  have kS:∀b∈cl.map (·.2),∀o,s.1.get? b=A? o->s'.1.get? b=A? o:=λb hb o e=>un.keep b o e (lm hb) (λz=>by
   obtain⟨GK,e'⟩:=hx b hb;rw[e0.frf b z]at e';cases e') (by simp)
  have Rw:∀b∈cl.map (·.2),H' b=none:=λb hb=>by
   obtain⟨GK,e'⟩:=hx b hb;obtain⟨_,⟨o,ho⟩,_⟩:=e0.hok b _ e';exact un.free b o ho (lm hb) (by simp)
  have nS:∀b,H b=AQ->b∉cl.map (·.2):=λb e hb=>by
   obtain⟨GK,e'⟩:=hx b hb;rw[e]at e';cases e'
  refine⟨v,rst (cl.map (·.2)) H H',I'.os,I'.bare,⟨λb o e n hb Bc=>un.keep b o e (GL b n) hb Bc,λb o e n hb Bc=>un.slot b o e (GL b n) hb Bc,λb o e n Bc=>?_,λb o e Bc=>un.there b o e Bc,λb xs e=>?_,λb o u' e=>?_,λb pp e=>?_⟩,HOk.rst e0.hok I'.hok hx kS Rw,rv,q'⟩
  .rw[fJ (nS b n)];exact un.free b o e (GL b n) Bc
  .have hb:=hx.out e (by intro GK z;cases z);rw[fJ hb];exact un.tups b xs (by rw[eF hb];exact e)
  .have hb:=hx.out e (by intro GK z;cases z);rw[fJ hb];exact un.frzs b o u' (by rw[eF hb];exact e)
  .have hb:=hx.out e (by intro GK z;cases z);rw[fJ hb];exact un.tbls b pp (by rw[eF hb];exact e)
structure Lam(mg:V5->Option Vz)(base:WS)(c P:Vy):Prop where
 hd:PySem.W.CodeHd base c P
 bl:base.BuiltinsAt mg P
def SameT(P:Vy)(H H':Hp):Prop:=∀b o,b≠P->H b=A? o->H' b=A? o
def tabOf(pos:YF)(c':Vy):Array Vz:=#[XX pos.line,XX pos.col,.ref c']
def TabSt(H:Hp)(P:Vy)(pos:YF)(qual:V5):Prop:=H P=A? (.tbl #[])\/∃c',H P=A? (.tbl (tabOf pos c'))/\CodeAt H c' qual
theorem TabSt.mono(s:Same H H'){P:Vy}(h:TabSt H P pos qual):TabSt H' P pos qual:=by
 rcases h with h|⟨c',h1,h2⟩
 .exact .inl (s _ _ h)
 .exact .inr ⟨c',s _ _ h1,h2.mono s⟩
theorem SameT.trans{P:Vy}(a:SameT P H H1)(b:SameT P H1 H2):SameT P H H2:=λc o n e=>b c o n (a c o n e)
theorem Same.t(s:Same H H')(P:Vy):SameT P H H':=λb o _ e=>s b o e
theorem uj(pos:YF)(c':Vy):TriplesOk (tabOf pos c').toList:=trivial
theorem sd(pos:YF)(c':Vy):codeAmong pos (tabOf pos c').toList=A? (.ref c'):=by
 show codeAmong pos [XX pos.line,XX pos.col,.ref c']=_;simp[codeAmong,XX]
def yI(X:Cx)(P:Vy)(pos:YF)(params:Arguments)(body:WB)(scope:Yz)(cl:List (V5×Vy)):TE:=λ_ H Q=>TabSt H P pos (X.env.qual++"<lambda>") /\
 ∀f c' H',SameT P H H'->H' P=A? (.tbl (tabOf pos c'))->CodeAt H' c' (X.env.qual++"<lambda>")->LamAt H' f c' "<lambda>" (X.env.qual++"<lambda>") params body scope cl->H f=AQ->Q (.ref f) H'
theorem wJ{X:Cx}{P:Vy}{body:WB}(L:Lam X.mg X.base c P)(hc:X.env.code=.ref c)(zj:closureFor scope X.env=pure cl)(Ma:defaultsOf params X.env=([],[]):=by rfl) :
 PE X (.Lambda params body scope pos) (yI X P pos params body scope cl):=by
 intro Y s σ H Q I h;obtain⟨tab,q⟩:=h;have Mb:s.1.Ns Xg X.mg:=I.mod.glob.keeps I.bk;have C:PySem.W.CodeHd s.1 c P:=L.hd.keeps I.bk
 have hb:s.1.BuiltinsAt X.mg P:=by
  obtain⟨bm,o,h1,h2,h3,h4,h5,h6⟩:=L.bl;exact⟨bm,o,h1,h2,h3,h4,I.bk _ _ h5,h6⟩
 refine PySem.W.kla_eval Ma ?_;rcases tab with hP|⟨c',hP,D5⟩
 .have Kt:s.1.get? P=A? (ZQ #[]):=I.hok P _ hP
  have Rx:Xg≠P:=λz=>by
   obtain⟨o,es,ep,e,d,_⟩:=Mb;rw[z,Kt]at e;cases e;cases d
  refine PySem.W.kla_makeFunction zj I.ok.glob Mb hc C Kt trivial rfl Rx hb λc' BE h' tk hx GN yZ Il OK=>?_;have hsz:s.1.1.size<=h'.objs.size:=Wz GN (XH yZ);have OL:H c'=none:=I.hok.fresh GN;have nf:H h'.objs.size=none:=I.hok.fresh hsz;have Ry:c'≠h'.objs.size:=We yZ;have Rz:P≠c':=λz=>by rw[z,OL]at hP;cases hP
  have RA:P≠h'.objs.size:=λz=>by rw[z,nf]at hP;cases hP
  have kp:∀b o,b≠P->s.1.get? b=A? o->(h'.push (X9 "<lambda>" (X.env.qual++"<lambda>") params body scope cl ((X.mg "__name__").getD .none) c' BE)).get? b=A? o:=λb o n e=>VB _ (hx b o n e);obtain⟨H',Ku⟩:∃H',H'=upd (upd (upd H P (.tbl (tabOf pos c'))) c' (.ext λh=>h.CodeRec (.ref c') (X.env.qual++"<lambda>"))) h'.objs.size (.ext λh=>h.get? h'.objs.size=A? (X9 "<lambda>" (X.env.qual++"<lambda>") params body scope cl ((X.mg "__name__").getD .none) c' BE)):=⟨_,rfl⟩;have eP:H' P=A? (.tbl (tabOf pos c')):=by rw[Ku,af RA,af Rz,ac]
  have ec:H' c'=A? (.ext λh=>h.CodeRec (.ref c') (X.env.qual++"<lambda>")):=by rw[Ku,af Ry,ac]
  have ef:H' h'.objs.size=A? (.ext λh=>h.get? h'.objs.size=A? (X9 "<lambda>" (X.env.qual++"<lambda>") params body scope cl ((X.mg "__name__").getD .none) c' BE)):=by rw[Ku,ac]
  have eo:∀b,b≠P->b≠c'->b≠h'.objs.size->H' b=H b:=λb n1 n2 n3=>by rw[Ku,af n3,af n2,af n1]
  have es:∀b o,H b=A? o->b≠P->H' b=A? o:=λb o e n=>by rw[eo b n (λz=>by rw[z,OL]at e;cases e) (λz=>by rw[z,nf]at e;cases e)];exact e
  have un:Un X.fs [] H H' s.1 (h'.push (X9 "<lambda>" (X.env.qual++"<lambda>") params body scope cl ((X.mg "__name__").getD .none) c' BE)):=by
   have nP:∀b,H b=AQ->b≠P:=λb n z=>by rw[z,hP]at n;cases n
   refine⟨λb o e n _ _=>kp b o (nP b n) e,λb o e n _ _=>⟨o.slots,kp b o (nP b n) e⟩,λb o e n _=>?_,λb o e _=>?_,λb xs e=>es b _ e (λz=>by rw[z,hP]at e;cases e),λb o u e=>es b _ e (λz=>by rw[z,hP]at e;cases e),λb pp e=>?_⟩
   .rw[eo b (nP b n) (We (Wx (V2 e) GN)) (We (Wx (V2 e) hsz))];exact n
   .by_cases hb:b=P
    .exact⟨_,by rw[hb];exact VB _ OK⟩
    .exact⟨o,kp b o hb e⟩
   .by_cases hb:b=P
    .subst hb;rw[hP]at e;cases e;exact⟨tabOf pos c',by rw[eP];simp⟩
    .exact⟨#[],by rw[es b _ e hb];simp⟩
  have hok:HOk X.prog X.w H' (h'.push (X9 "<lambda>" (X.env.qual++"<lambda>") params body scope cl ((X.mg "__name__").getD .none) c' BE)):=λa o e=>by
   by_cases ha:a=P
   .subst ha;rw[eP]at e;cases e;exact VB _ OK
   by_cases zV:a=c'
   .subst zV;rw[ec]at e;cases e;refine⟨Il.push _,?_,λh1 h2 z k=>?_⟩
    .obtain⟨_,oc,_,_,e1,e2,_⟩:=Il;cases e1;exact⟨oc,VB _ e2⟩
    .obtain⟨_,oc,vs,t,e1,e2,e3⟩:=z;cases e1;exact⟨_,oc,vs,t,D?,k _ e2,e3⟩
   by_cases C2:a=h'.objs.size
   .subst C2;rw[ef]at e;cases e;exact⟨VI _ rfl,⟨_,VI _ rfl⟩,λh1 h2 z k=>k _ z⟩
   rw[eo a ha zV C2]at e;refine(I.hok a o e).stay (λb u hb z=>kp b u ?_ z) (λb z=>es b _ z (λy=>by rw[y,hP]at z;cases z)) λb xs z=>es b _ z (λy=>by rw[y,hP]at z;cases z);rcases hb with hb|hb
   .rw[hb];exact ha
   .exactλy=>by rw[y,hP]at hb;cases hb
  refine⟨.ref h'.objs.size,H',I.un un hok,D?,q _ c' H' (λb o n e=>es b o e n) eP ⟨_,ec,λ_ z=>z⟩ ⟨_,ef,λ_ z=>⟨_,_,z⟩⟩ nf⟩
 .have Kt:s.1.get? P=A? (ZQ (tabOf pos c')):=I.hok P _ hP;refine PySem.W.kla_makeFunctionHit zj I.ok.glob Mb hc C Kt (uj pos c') (sd pos c') hb λBE h' tk hk hsz=>?_;have nf:H h'.objs.size=none:=I.hok.fresh hsz
  have I':=I.laid (h':=h'.push {cls:=.type "function",data:=.func (PySem.W.kla_fn "<lambda>" (X.env.qual++"<lambda>") params body scope cl ((X.mg "__name__").getD .none) (.ref c') BE)}) (a:=h'.objs.size) (t':=tk)
   (o:=.ext λh=>h.get? h'.objs.size=A? (X9 "<lambda>" (X.env.qual++"<lambda>") params body scope cl ((X.mg "__name__").getD .none) c' BE)) (λb u e=>VB _ (hk b u e)) hsz ⟨VI _ rfl,⟨_,VI _ rfl⟩,λh1 h2 z k=>k _ z⟩
  have sm:Same H (upd H h'.objs.size (.ext λh=>h.get? h'.objs.size=A? (X9 "<lambda>" (X.env.qual++"<lambda>") params body scope cl ((X.mg "__name__").getD .none) c' BE))):=ao nf _;exact⟨.ref h'.objs.size,_,I',D?,q _ c' _ (sm.t P) (sm _ _ hP) (D5.mono sm) ⟨_,ac,λ_ z=>⟨_,_,z⟩⟩ nf⟩
section
variable{X:Cx}{k:Nat}{p:YF}{es:List WB}{t:TA}
end
theorem rD{mb:V5->Option Vz}{k:Nat}{fa T:Vy}{l':VF}{vs:List Vz}
 (KX:K.In l'.heap) (AE:l'.heap.Ns Xg mg) (hb:l'.heap.Ns builtinsNs mb) (RB:∀x:V5,x≠"__name__"->mb x=Z7 x) (Mc:l'.heap.NoLimit) (hg:l'.gens=#[])
 (ha:l'.heap.get? a=A? {cls:=.type "list",data:=.seq vs.toArray}) (hi:IntsAre vs ns) (hl:ns.length<=V4) (hr:Room k callerA)
 (hC:PySem.W.CodeHd l'.heap c T) (hT:l'.heap.get? T=A? (ZQ #[])) (AF:l'.heap.BuiltinsAt mg T) (Md:K.lookup T=AQ)
 (F:∀base:WS,K.In base->base.Ns Xg mg->Lam mg base c T->bj P w K mg base CX k fa fd [x] sp) (Im:∀(s:VF)(u:Vz),BindsTo s fd ⟨[u],[]⟩ [(x,u)])
 (AK:∀H:Hp,SqL K H a (ns.map o!)->H T=A? (.tbl #[])->sp [.ref a] H (λv _=>v=.bl B?) λ_ _ _=>False)
 (Me:∀H e s',CX [] H l' (λ_ _ _=>False) e s'->False) :
 Y0 (Wb P w) callerA (.call (.ref fa) ⟨[.ref a],[]⟩) (λr s'=>r=.ok (.ret (.bool B?))/\OldK l'.heap s'.1/\s'.os=l'.os/\AllBare s'.gens) l':=by
 have rv:=mj hi;have Mf:=hi.length;have OM:a≠T:=λz=>by rw[z,hT]at ha;cases ha
 have core:∀H:Hp,(∀b,H b=AQ\/(∃o xs,H b=A? (.frz o (.lst xs)))\/(b=T/\H b=A? (.tbl #[])))->H T=A? (.tbl #[])->SqL K H a (ns.map o!)->HOk P w H l'.heap->(∀b,H b≠AQ->b=a\/b=T)->(H a≠AQ->K.lookup a=AQ) ->
  Y0 (Wb P w) callerA (.call (.ref fa) ⟨[.ref a],[]⟩) (λr s'=>r=.ok (.ret (.bool B?))/\OldK l'.heap s'.1/\s'.os=l'.os/\AllBare s'.gens) l':=by
  intro H hO Mg hS hok hA hK;have Ar:∀{b:Vy}{o:Xw},l'.heap.get? b=A? o->H b=AQ->(lM l'.heap H).get? b=A? o:=λe n=>tO e n
  have Mh:∀{b:Vy}{o:Xw},l'.heap.get? b=A? o->(∀xs n,o.data≠.seq xs n)->(∀xs,o.data≠.fields xs\/o.cls≠.none)->H b=none:=λ{b o}e d1 d2=>by
   cases q:H b with
   |none=>rfl
   | some u =>
     rcases hA b (by rw[q];simp)with e'|e'
     .subst e';rw[ha]at e;cases e;exact g! rfl (d1 _ _)
     .subst e';rw[hT]at e;cases e;rcases d2 #[]with z|z
      .exact g! rfl z
      .exact g! rfl z
  have Kv:∀{b:Vy}{m:V5->Option Vz},l'.heap.Ns b m->(lM l'.heap H).Ns b m:=λ{b m}⟨o,es,ep,e,d,r⟩=>⟨o,es,ep,Ar e (Mh e (λxs n=>by rw[d];exactλz=>nomatch z) (λxs=>.inl (by rw[d];exactλz=>nomatch z))),d,r⟩
  have ON:K.In (lM l'.heap H):=λb o e=>Ar (KX b o e) (by
   cases q:H b with
   |none=>rfl
   | some u =>
     rcases hA b (by rw[q];simp)with e'|e'
     .subst e';rw[hK (by rw[q];simp)]at e;cases e
     .subst e';rw[Md]at e;cases e)
  have hM:Mod K mg (lM l'.heap H):=⟨ON,Kv AE,⟨mb,Kv hb,RB⟩,let⟨mc,h1,h2⟩:=Mc;⟨mc,Kv h1,h2⟩⟩
  have hL:Lam mg (lM l'.heap H) c T:=by
   refine⟨?_,?_⟩
   .obtain⟨o,RC,file,tf,flags,tg,RD,text,tt,e1,r1,r2,r3⟩:=hC;exact⟨o,RC,file,tf,flags,tg,RD,text,tt,Ar e1 (Mh e1 (λxs n=>by rw[r2];exactλz=>nomatch z) (λxs=>.inr (by rw[r1];exactλz=>nomatch z))),r1,r2,r3⟩
   .obtain⟨bm,o,h1,h2,h3,h4,h5,h6,h7,h8⟩:=AF;exact⟨bm,o,h1,h2,h3,h4,Ar h5 (Mh h5 (λxs n=>by rw[h8];exactλz=>nomatch z) (λxs=>.inl (by rw[h8];exactλz=>nomatch z))),h6,h7,h8⟩
  have e0:Env0 P w K mg (lM l'.heap H) callerA [] l' H:=⟨rfl,hM,λb o e=>vk e,Nat.le_of_eq (sy _ _),trivial,λb hb=>g! (show b∈([]:List Vy)from hb) (by simp),hok,.of_eq hg⟩;refine Z6 ((F _ ON (Kv AE) hL).run callerA [] l' H ⟨[.ref a],[]⟩ [.ref a] [.ref a] _ _ hr e0 (Im l' (.ref a)) (.cons rfl .nil) (AK H hS Mg)) λr s' h=>?_;cases r with
  |error e=>exact(Me H e s' h).elim
  | ok fl =>
    cases fl with
    |next=>exact XA h
    |brk=>exact XA h
    |cont=>exact XA h
    | ret u =>
      obtain⟨v,H',os,bare,un,Io,r',q⟩:=h;have q':v=.bl true:=q;subst q';obtain rfl:u=Value.bool true:=r';refine⟨D?,⟨λb o e=>?_,λb o e=>un.there b o e (by simp)⟩,os,bare⟩;cases q:H b with
      |none=>exact .inl (un.keep b o e q (by intro z;exact g! (show b∈([]:List Vy)from z) (by simp)) (by simp))
      | some u =>
        rcases hO b with z|⟨ob,xs,z⟩|⟨rfl,z⟩
        .rw[q]at z;cases z
        .have z2:=un.frzs b ob _ z;obtain⟨e1,_⟩:=hok b _ z;obtain⟨e2,_⟩:=Io b _ z2;rw[e]at e1;cases e1;exact .inl e2
        .obtain⟨more,z2⟩:=un.tbls b _ z;have e2:s'.1.get? b=A? {cls:=.none,data:=.fields (#[]++more)}:=Io b _ z2;rw[hT]at e;cases e;exact .inr (.inl ⟨(hC.tab hT).isCodeTable,rfl,#[],more,rfl,e2⟩)
 have OO:∀H:Hp,ObjOk P w H l'.heap T (.tbl #[]):=λ_=>hT;cases hk:K.lookup a with
 | some o =>
   have e:=KX a o hk;rw[ha]at e;cases e;refine core (λb=>if b=T then A? (.tbl #[])else AQ) (λb=>?_) (b! rfl) (.inr ⟨_,vs.toArray,_,hk,rfl,rfl,rfl,by rw[VM,Mf];exact hl,by simpa using rv⟩) (λb u z=>?_) (λb z=>?_) λz=>g! (a! OM) z
   .by_cases hb:b=T
    .exact .inr (.inr ⟨hb,b! hb⟩)
    .exact .inl (a! hb)
   .by_cases hb:b=T
    .have z':=(b! hb).symm.trans z;cases z';rw[hb];exact OO _
    .have z':=(a! hb).symm.trans z;cases z'
   .by_cases hb:b=T
    .exact .inr hb
    .exact g! (a! hb) z
 | none =>
   refine core (λb=>if b=T then A? (.tbl #[])else if b=a then A? (.frz {cls:=.type "list",data:=.seq vs.toArray} (.lst (ns.map o!)))else AQ) (λb=>?_) (b! rfl) (.inl (.inr ⟨{cls:=.type "list",data:=.seq vs.toArray},(a! OM).trans (b! rfl)⟩)) (λb u z=>?_) (λb z=>?_) λ_=>hk
   .by_cases hb:b=T
    .exact .inr (.inr ⟨hb,b! hb⟩)
    .by_cases zB:b=a
     .exact .inr (.inl ⟨_,_,(a! hb).trans (b! zB)⟩)
     .exact .inl ((a! hb).trans (a! zB))
   .by_cases hb:b=T
    .have z':=(b! hb).symm.trans z;cases z';rw[hb];exact OO _
    .have z':=(a! hb).symm.trans z;by_cases zB:b=a
     .have z2:=(b! zB).symm.trans z';cases z2;subst zB;exact⟨ha,by rw[Vu];exact hl,vs,_,rv,ha⟩
     .have z2:=(a! zB).symm.trans z';cases z2
   .by_cases hb:b=T
    .exact .inr hb
    .by_cases zB:b=a
     .exact .inl zB
     .exact g! ((a! hb).trans (a! zB)) z
def tabAt(o:Xw):Option Vy:=match o.data with
 | .fields vs=>(match(vs[11]?:Option Vz)with
   |some (.ref P)=>A? P
   |_=>AQ)
 |_=>AQ
end L2
namespace BB
open PySem L2
theorem dN(f:Int->Int->Th):∀ts:List Th,fills f ts=ts.map (·.fill f)
 | []=>rfl
 |t::ts=>by rw[fills,dN f ts];rfl
end BB
namespace L2
open PySem PySem.Spec PySem.SeqAt PyProof.Rows
section
variable{X:Cx}{o i value:WB}{td ty tv:TE}
end
end L2
namespace BB
open PySem L2
mutual
def cnT:Th->Nat
 |.knot _ ks=>oR ks
 |.call _ _=>1
def oR:List Th->Nat
 | []=>0
 |t::ts=>cnT t+oR ts
end
section
variable{mid:List (V5×Int)}{S1 S2:Int}{Dr Ds:Th}{Du Dw:List (List Th)}
end
end BB
namespace L2
open PySem PySem.Spec PySem.Calls PyProof.Rows
end L2
namespace BB
open PySem L2
mutual
def lc:Th->Nat
 |.call _ _=>1
 |.knot _ ks=>if lcs ks=0 then 0 else lcs ks+1
def lcs:List Th->Nat
 | []=>0
 |t::ts=>max (lc t) (lcs ts)
end
mutual
theorem jm{ks:List (V5×Int)}{S C:Int}(g:GoodN ks):∀t:Th,t.FitS ks S C->2 * t.size+1<=3 ^ t.tall/\3 * cnT t<=3 ^ lc t
 | .call _ _,_=>by
   rw[L!,w!,cnT,lc];exact⟨by decide,by decide⟩
 | .knot n ts,h=>by
   rw[I!]at h;obtain⟨h1,h2⟩:=kO g ts h.2
   have hw:ts.length<=3:=by
    have:=(g.num _ h.1).2;have h2:((ts.length:Nat):Int)<=3:=this;lia
   rw[L!,w!,cnT,lc];refine⟨?_,?_⟩
   .rw[Nat.pow_succ];have hp:1<=3 ^ bw ts:=Nat.pow_pos (by decide);have:ts.length * (3 ^ bw ts - 1)<=3 * (3 ^ bw ts - 1):=Yg _ hw;lia
   .have:ts.length * 3 ^ lcs ts<=3 * 3 ^ lcs ts:=Yg _ hw;split
    .rename_i hz
     rw[hz]at h2 this;have h3:=mJ g ts h.2 hz;lia
    .rw[Nat.pow_succ];lia
theorem kO{ks:List (V5×Int)}{S C:Int}(g:GoodN ks):∀ts:List Th,FitSs ks S C ts->2 * au ts<=ts.length * (3 ^ bw ts - 1)/\3 * oR ts<=ts.length * 3 ^ lcs ts
 | [],_=>by
   rw[au,oR];exact⟨Wh _,Wh _⟩
 | t::ts,h=>by
   rw[FitSs]at h;obtain⟨h1,h2⟩:=jm g t h.1;obtain⟨h3,h4⟩:=kO g ts h.2;rw[au,oR,bw,lcs,VU];have a1:3 ^ t.tall<=3 ^ max t.tall (bw ts):=XB (by decide) (Nat.le_max_left ..);have a2:3 ^ bw ts<=3 ^ max t.tall (bw ts):=XB (by decide) (Nat.le_max_right ..);have b1:3 ^ lc t<=3 ^ max (lc t) (lcs ts):=XB (by decide) (Nat.le_max_left ..);have b2:3 ^ lcs ts<=3 ^ max (lc t) (lcs ts):=XB (by decide) (Nat.le_max_right ..);have a3:ts.length * (3 ^ bw ts - 1)<=ts.length * (3 ^ max t.tall (bw ts) - 1):=Nat.mul_le_mul_left _ (by lia);have b3:ts.length * 3 ^ lcs ts<=ts.length * 3 ^ max (lc t) (lcs ts):=Nat.mul_le_mul_left _ b2;rw[Nat.add_mul,Nat.add_mul];lia
theorem mJ{ks:List (V5×Int)}{S C:Int}(g:GoodN ks):∀ts:List Th,FitSs ks S C ts->lcs ts=0->oR ts=0
 | [],_,_=>by rw[oR]
 | t::ts,h,hz=>by
   rw[FitSs]at h;rw[lcs]at hz;have h1:=(jm g t h.1).2;rw[show lc t=0 by lia]at h1;rw[oR,mJ g ts h.2 (by lia)];lia
end
theorem nk(f:Int->Int->Th)(ts:List Th):(fills f ts).length=ts.length:=by rw[dN,Vu]
mutual
theorem kU{ks:List (V5×Int)}{S C S' C':Int}(f:Int->Int->Th)(hf:∀s c,0<=s->s<S->0<=c->c<C->(f s c).FitS ks S' C'):∀t:Th,t.FitS ks S C->(t.fill f).FitS ks S' C'
 | .call s c,h=>by
   rw[I!]at h;rw[B!];exact hf s c h.1 h.2.1 h.2.2.1 h.2.2.2
 | .knot n ts,h=>by
   rw[I!]at h;rw[B!,I!,nk];exact⟨h.1,mH f hf ts h.2⟩
theorem mH{ks:List (V5×Int)}{S C S' C':Int}(f:Int->Int->Th)(hf:∀s c,0<=s->s<S->0<=c->c<C->(f s c).FitS ks S' C'):∀ts:List Th,FitSs ks S C ts->FitSs ks S' C' (fills f ts)
 | [],_=>by rw[fills,FitSs];trivial
 | t::ts,h=>by
   rw[FitSs]at h;rw[fills,FitSs];exact⟨kU f hf t h.1,mH f hf ts h.2⟩
end
section
variable{mid:List (V5×Int)}{S1 S2:Int}{Dr Ds:Th}{Du Dw:List (List Th)}{RE RF RG RH RI RJ RK:Nat}
end
end BB
namespace L2
open PySem PySem.Spec PySem.Calls PyProof.Rows
end L2
namespace BB
open PySem L2
section
variable{k0 k1 k2 k3:List (V5×Int)}{SA SB SC:Int}{a0 b0 c0:Th}{OP OQ OR:List (List Th)}
end
section
variable{mid:List (V5×Int)}{S1 S2:Int}{Dr Ds:Th}{Du Dw:List (List Th)}{RE RF RG RH RI RJ RK:Nat}
end
theorem hid{G:Prop}(k:∀F:Prop,(G->F)->F):G:=k G id
inductive Ex1{A0:Type}(p:A0->Prop):Prop
 |mk (x0:A0) (h:p x0):Ex1 p
inductive Ex2{A0 A1:Type}(p:A0->A1->Prop):Prop
 |mk (x0:A0) (x1:A1) (h:p x0 x1):Ex2 p
inductive Ex3{A0 A1 A2:Type}(p:A0->A1->A2->Prop):Prop
 |mk (x0:A0) (x1:A1) (x2:A2) (h:p x0 x1 x2):Ex3 p
inductive Ex4{A0 A1 A2 A3:Type}(p:A0->A1->A2->A3->Prop):Prop
 |mk (x0:A0) (x1:A1) (x2:A2) (x3:A3) (h:p x0 x1 x2 x3):Ex4 p
inductive Ex5{A0 A1 A2 A3 A4:Type}(p:A0->A1->A2->A3->A4->Prop):Prop
 |mk (x0:A0) (x1:A1) (x2:A2) (x3:A3) (x4:A4) (h:p x0 x1 x2 x3 x4):Ex5 p
inductive Ex6{A0 A1 A2 A3 A4 A5:Type}(p:A0->A1->A2->A3->A4->A5->Prop):Prop
 |mk (x0:A0) (x1:A1) (x2:A2) (x3:A3) (x4:A4) (x5:A5) (h:p x0 x1 x2 x3 x4 x5):Ex6 p
inductive Ex7{A0 A1 A2 A3 A4 A5 A6:Type}(p:A0->A1->A2->A3->A4->A5->A6->Prop):Prop
 |mk (x0:A0) (x1:A1) (x2:A2) (x3:A3) (x4:A4) (x5:A5) (x6:A6) (h:p x0 x1 x2 x3 x4 x5 x6):Ex7 p
inductive Ex8{A0 A1 A2 A3 A4 A5 A6 A7:Type}(p:A0->A1->A2->A3->A4->A5->A6->A7->Prop):Prop
 |mk (x0:A0) (x1:A1) (x2:A2) (x3:A3) (x4:A4) (x5:A5) (x6:A6) (x7:A7) (h:p x0 x1 x2 x3 x4 x5 x6 x7):Ex8 p
inductive Ex9{A0 A1 A2 A3 A4 A5 A6 A7 A8:Type}(p:A0->A1->A2->A3->A4->A5->A6->A7->A8->Prop):Prop
 |mk (x0:A0) (x1:A1) (x2:A2) (x3:A3) (x4:A4) (x5:A5) (x6:A6) (x7:A7) (x8:A8) (h:p x0 x1 x2 x3 x4 x5 x6 x7 x8):Ex9 p
inductive yi{A0 A1 A2 A3 A4 A5 A6 A7 A8 A9:Type}(p:A0->A1->A2->A3->A4->A5->A6->A7->A8->A9->Prop):Prop
 |mk (x0:A0) (x1:A1) (x2:A2) (x3:A3) (x4:A4) (x5:A5) (x6:A6) (x7:A7) (x8:A8) (x9:A9) (h:p x0 x1 x2 x3 x4 x5 x6 x7 x8 x9):yi p
inductive An2(a0 a1:Prop):Prop
 |mk (h0:a0) (h1:a1):An2 a0 a1
inductive An3(a0 a1 a2:Prop):Prop
 |mk (h0:a0) (h1:a1) (h2:a2):An3 a0 a1 a2
inductive An4(a0 a1 a2 a3:Prop):Prop
 |mk (h0:a0) (h1:a1) (h2:a2) (h3:a3):An4 a0 a1 a2 a3
inductive An5(a0 a1 a2 a3 a4:Prop):Prop
 |mk (h0:a0) (h1:a1) (h2:a2) (h3:a3) (h4:a4):An5 a0 a1 a2 a3 a4
inductive An6(a0 a1 a2 a3 a4 a5:Prop):Prop
 |mk (h0:a0) (h1:a1) (h2:a2) (h3:a3) (h4:a4) (h5:a5):An6 a0 a1 a2 a3 a4 a5
inductive An7(a0 a1 a2 a3 a4 a5 a6:Prop):Prop
 |mk (h0:a0) (h1:a1) (h2:a2) (h3:a3) (h4:a4) (h5:a5) (h6:a6):An7 a0 a1 a2 a3 a4 a5 a6
inductive An8(a0 a1 a2 a3 a4 a5 a6 a7:Prop):Prop
 |mk (h0:a0) (h1:a1) (h2:a2) (h3:a3) (h4:a4) (h5:a5) (h6:a6) (h7:a7):An8 a0 a1 a2 a3 a4 a5 a6 a7
inductive An9(a0 a1 a2 a3 a4 a5 a6 a7 a8:Prop):Prop
 |mk (h0:a0) (h1:a1) (h2:a2) (h3:a3) (h4:a4) (h5:a5) (h6:a6) (h7:a7) (h8:a8):An9 a0 a1 a2 a3 a4 a5 a6 a7 a8
inductive wD(a0 a1 a2 a3 a4 a5 a6 a7 a8 a9 OS OT OU OV:Prop):Prop
 |mk (h0:a0) (h1:a1) (h2:a2) (h3:a3) (h4:a4) (h5:a5) (h6:a6) (h7:a7) (h8:a8) (h9:a9) (U0:OS) (U1:OT) (OW:OU) (U2:OV):wD a0 a1 a2 a3 a4 a5 a6 a7 a8 a9 OS OT OU OV
end BB
namespace L2
open PySem PySem.Spec PyProof.Rows
end L2
namespace BB
open PySem L2
section
variable{S:Int}{d:Nat}
end
end BB
namespace L2
open PySem PySem.Spec PyProof.Rows
def Thaws(H H1 H2:Hp):Prop:=∀b,H2 b=H1 b\/∃o u,H1 b=A? (.frz o u)/\H b=A? u/\H2 b=A? u
theorem Thaws.refl(H H1:Hp):Thaws H H1 H1:=λ_=>.inl rfl
theorem wY{o:Xw}{u:HO}(h:u=.frz o u):False:=by
 have:=h! sizeOf h;simp at this
theorem Inv.thaw{X:Cx}{zA:St}{s1:VF}(I:Inv X Y σ H s)(I1:Inv X Y zA H1 s1)(h:Thaws H H1 H2):Inv X Y zA H2 s1:=by
 have keep:∀b u,H1 b=A? u->(∀o v,u≠.frz o v)->H2 b=A? u:=λb u e n=>by
  rcases h b with z|⟨o,v,z,_⟩
  .rw[z];exact e
  .rw[e]at z;cases z;exact g! rfl (n o v)
 have non:∀b,H1 b=AQ->H2 b=none:=λb e=>by
  rcases h b with z|⟨o,v,z,_⟩
  .rw[z];exact e
  .rw[e]at z;cases z
 have ht:∀b xs,H1 b=A? (.tup xs)->H2 b=A? (.tup xs):=λb xs e=>keep b _ e (λ_ _ z=>nomatch z);have hw:∀c b,H1 b=A? (.own c)->H2 b=A? (.own c):=λc b e=>keep b _ e (λ_ _ z=>nomatch z);refine⟨I1.ok,I1.os,I1.bare,⟨I1.base.keep,I1.base.slot,λb o e n x=>non b (I1.base.free b o e n x),I1.base.there,λb xs e=>ht b xs (I1.base.tups b xs e),λb o u e=>?_,λb ps e=>?_⟩,I1.loc,I1.cell,non _ I1.free,λx c e=>non _ (I1.freeC x c e),λp hp=>?_,λb u e=>?_,I1.len⟩
 .have e1:=I1.base.frzs b o u e;have e2:=I.base.frzs b o u e;rcases h b with z|⟨o',v,z,z2,_⟩
  .rw[z];exact e1
  .rw[e1]at z;cases z;rw[e2]at z2;exact(wY (VN z2).symm).elim
 .obtain⟨more,e1⟩:=I1.base.tbls b ps e;exact⟨more,keep b _ e1 (λ_ _ z=>nomatch z)⟩
 .obtain⟨a1,a2,a3⟩:=I1.pin p hp;exact⟨a1,non _ a2,a3⟩
 .rcases h b with z|⟨o,v,z,_,z3⟩
  .rw[z]at e;exact(I1.hok b u e).stay (λ_ _ _ q=>q) (hw b) ht
  .rw[z3]at e;cases e;obtain⟨_,k⟩:=(show ObjOk X.prog X.w H1 s1.1 b (.frz o u)from I1.hok b _ z);exact k.stay (λ_ _ _ q=>q) (hw b) ht
def xG(t:TS):TS:=λD σ H=>t {D with nx:=λzA H1=>∃H2,Thaws H H1 H2/\D.nx zA H2} σ H
theorem gF{X:Cx}{t:TS}(h:PS X st t):PS X st (xG t):=λY s σ H D I q=>thn (h Y s σ H _ I q) λf s' r=>by
 cases f with
 | next =>
   obtain⟨zA,H1,I1,H2,th,q2⟩:=r;exact⟨zA,H2,I.thaw I1 th,q2⟩
 |brk=>exact r
 |cont=>exact r
 |ret u=>exact r
def kF(t:TE):TE:=λσ H Q=>t σ H λv H1=>∃H2,Thaws H H1 H2/\Q v H2
theorem uV{X:Cx}{t:TE}(h:PE X e t):PE X e (kF t):=λY s σ H Q I q=>thn (h Y s σ H _ I q) λv s' r=>by
 obtain⟨x,H1,I1,rv,H2,th,q2⟩:=r;exact⟨x,H2,I.thaw I1 th,rv,q2⟩
theorem eh:entryFor table "dict_itemiterator.__iter__"=A? YC.«dict_keyiterator.__iter__»:=entryFor_alias (id':="dict_keyiterator.__iter__") (by kernel_rfl) rfl (by decide +kernel) (by kernel_rfl)
theorem Inv.freezeK{X:Cx}{kvs:List (Key×V)}{o:Xw}(I:Inv X Y σ H s)(ha:H a=A? (.dK kvs))(ho:s.1.get? a=A? o):Inv X Y σ (upd H a (.frz o (.dK kvs))) s:=by
 have ne:∀b u,H b=A? u->u≠.dK kvs->b≠a:=λb u e d z=>by rw[z,ha]at e;exact d (VN e).symm
 have ht:∀b xs,H b=A? (.tup xs)->upd H a (.frz o (.dK kvs)) b=A? (.tup xs):=λb xs e=>by rw[af (ne b _ e (by intro z;cases z))];exact e
 have hw:∀c b,H b=A? (.own c)->upd H a (.frz o (.dK kvs)) b=A? (.own c):=λc b e=>by rw[af (ne b _ e (by intro z;cases z))];exact e
 have st:∀b u,H b=A? u->ObjOk X.prog X.w (upd H a (.frz o (.dK kvs))) s.1 b u:=λb u e=>(I.hok b u e).stay (λ_ _ _ q=>q) (hw b) ht;refine I.step (g':=s.gens) (d':=s.drawn) (t':=s.toks) (ch:=[]) (λ_ z=>nomatch z) (λb ob _ _ _ e _=>e) (λb ob _ _ _ e _=>⟨ob.slots,e⟩) (λb ob _ e n=>?_) (λb ob _ e=>⟨ob,e⟩) ht (λb ob u e=>?_) (λb ps e=>⟨#[],?_⟩) (λm hm=>hm) (λb u e=>?_) I.bare
 .rw[af (λz=>by rw[z,ha]at n;cases n)];exact n
 .rw[af (ne b _ e (by intro z;cases z))];exact e
 .rw[af (ne b _ e (by intro z;cases z)),e];simp
 .by_cases hb:b=a
  .subst hb;rw[ac]at e;cases e;exact⟨ho,st _ _ ha⟩
  .rw[af hb]at e;exact st b u e
theorem qB{o:Xw}{es:Array ZK}{kvs:List (Key×V)}(hd:o.data=.dict es ep)(k:ObjOk P w H h a (.frz o (.dK kvs))) :
 ∃vs,KV kvs vs/\h.DictAt (bv P w) a vs ep/\vs.length=kvs.length:=by
 obtain⟨e0,z,y,vs,rel,o',Gw,Gx,h1,h2,h3,h4⟩:=k;rw[e0]at h1;cases h1;rw[hd]at h3;cases h3;exact⟨vs,rel,⟨o,es,e0,h2,hd,h4⟩,(VZ rel).symm⟩
theorem vA{k:Key}{v:Vz}(h:(bv P w).is k v=B?):RelV (kV k) v:=by
 rcases bP h with⟨i,tk,e1,e2⟩|⟨x,tk,e1,e2⟩
 .rw[e1];exact⟨tk,e2⟩
 .rw[e1];exact⟨tk,e2⟩
def ItI(a:Vy)(o:Xw)(kvs:List (Key×V)):It :=
 ⟨λi H=>H a=A? (.frz o (.dK kvs))/\i<kvs.length,
  λi H v H'=>∃p kv,H p=AQ/\v=.ref p/\H'=upd H p (.tup [kV kv.1,kv.2])/\kvs[i]?=A? kv,
  λi H=>H a=A? (.frz o (.dK kvs))/\kvs.length<=i⟩
theorem ql{k1}(a it:Vy)(o:Xw)(es:Array ZK)(ep:Nat)(kvs:List (Key×V))(hd:o.data=.dict es ep) :
 Turn P w K (.Tuple elts k1 pos) (ItI a o kvs) [it] it (λi h=>∃ok ov,IsItemIter h it a i kvs.length ep ok ov) where
 mem:=by simp
 obj:=λi h st b hb=>by
  obtain⟨ok,ov,e⟩:=st;have eb:b=it:=by simpa using hb
  subst eb;exact⟨_,e,λv z=>by cases z⟩
 keep:=λi h h' st k=>by
  obtain⟨ok,ov,e⟩:=st;exact⟨ok,ov,k it (by simp) _ e⟩
 item:=by
  intro X hP hw hK hc i Y s σ H E I hf st hg;subst hP hw hK;obtain⟨hq,yZ⟩:=hg;obtain⟨ok,ov,hit⟩:=st;obtain⟨vs,rel,dat,hlen⟩:=qB hd (I.hok a _ hq);obtain⟨kv,zX⟩:∃kv,kvs[i]?=A? kv:=⟨_,Vw yZ⟩;obtain⟨xv,RL,r1,r2⟩:=u! rel zX;rw[<-hlen]at hit;have Ab:it<s.1.1.size:=V2 hit;obtain⟨f0,f1,f2,f3,f4,f5⟩:=hf it (by simp);refine wpAny_pyNext_items_item hit dat (k:=xv.1) (v:=xv.2) RL λkey h1 Bb FH BG hsz Dx=>?_;refine⟨_,D?,wpAny_letOwnedTupleGo_items FH λh2 g1 sb=>?_⟩;replace sb:W3 it h1 h2:=sb;have Fq:H s.1.1.size=none:=I.hok.fresh (VG _)
  have IA:Inv X Y σ (upd H s.1.1.size (.tup [kV kv.1,kv.2])) {s with heap:=s.1.push {cls:=.type "tuple",data:=.seq #[key,xv.2]},toks:=s.toks} :=
   I.laid (o:=.tup [kV kv.1,kv.2]) (λb ob q=>VB _ q) (VG _) ⟨by show 2<=V4;decide,[key,xv.2],0,.cons (by rw[r1];exact vA Bb) (.cons r2 .nil),VI _ rfl⟩
  refine⟨.ref s.1.1.size,upd H s.1.1.size (.tup [kV kv.1,kv.2]),?_,D?,⟨_,kv,Fq,D?,D?,zX⟩,⟨_,_,by rw[<-hlen];exact g1⟩,λc hc=>?_⟩
  .refine Inv.turnedL (s:={s with heap:=s.1.push {cls:=.type "tuple",data:=.seq #[key,xv.2]},toks:=s.toks}) (h':=h2) (fp:=[it]) (t':=s.toks) IA (λc oc hc q=>?_) λc hc=>?_
   .have n1:c≠it:=λe=>hc (by simp[e]);rw[sb.2 c n1];by_cases hb2:c=s.1.1.size
    .subst hb2;have q':(s.1.push {cls:=.type "tuple",data:=.seq #[key,xv.2]}).get? s.1.1.size=A? oc:=q;rw[VI _ rfl]at q';rw[<-q'];exact BG
    .have q':(s.1.push {cls:=.type "tuple",data:=.seq #[key,xv.2]}).get? c=A? oc:=q;rw[Heap.get?_push_ne _ _ _ hb2]at q';exact Dx c oc n1 q'
   .have e:c=it:=by simpa using hc
    subst e;exact⟨by rw[af (We Ab)];exact f0,f1,f2,f3,f4,f5⟩
  .have e:c=it:=by simpa using hc
   subst e;rw[af (We Ab)];exact f0
 done:=by
  intro X hP hw hK hc i Y s σ H E I hf st hg;subst hP hw hK;obtain⟨hq,GN⟩:=hg;obtain⟨ok,ov,hit⟩:=st;obtain⟨vs,rel,dat,hlen⟩:=qB hd (I.hok a _ hq);rw[<-hlen]at hit;obtain⟨f0,f1,f2,f3,f4,f5⟩:=hf it (by simp);exact wpAny_pyNext_items_end (I.ok.hd hc) hit dat (WR (by lia)) λh' eb=>⟨rfl,I.turned (t':=s.toks) (λb ob hb e=>eb b ob hb e) f0 f1 f3 f4 f5⟩
 self:=by
  intro A i s Q E st h;obtain⟨ok,ov,e⟩:=st;have hT:s.TypeIs (.ref it) "dict_itemiterator":=⟨_,e,rfl⟩;refine Zs hT YQ (WM YQ hT eh ?_ (F.args_dict_itemiterator_iter_1 _));exact VC ⟨_,rfl,"dict_itemiterator",_,hT,Xh.lookup,h⟩
section
variable{X:Cx}{te:TE}{apos zf:YF}
def xl(tl:TE):TI:=λσ H R=>tl σ H λx H1=>∃a kvs,x=.ref a/\H1 a=A? (.dK kvs)/\∀o,R (ItI a o kvs) (upd H1 a (.frz o (.dK kvs)))
theorem ll{k1}(he:PE X e te)(Av:Zg e "items" X.env (XD e X.env)=XD e X.env:=by rfl)(Aw:(apos.endLine == zf.line)=true:=by rfl) :
 PI X (.Tuple elts k1 pos) (.Call (.Attribute e "items" apos) [] [] zf) (xl te):=by
 intro Y s σ H R I h;refine wpAny_Call_method0_late Av Aw (thn (he Y s σ H _ I h) λv s1⟨x,H1,I1,r1,a,kvs,ex,ha,q⟩=>?_);subst ex;cases r1;obtain⟨z,y,vs,rel,dd⟩:=(show ObjOk X.prog X.w H1 s1.1 a (.dK kvs)from I1.hok a _ ha);obtain⟨o,es,ep,h1,h2,h3,h4⟩:=id dd;have hlen:kvs.length=vs.length:=VZ rel;have dat:s1.1.DictAt (bv X.prog X.w) a vs ep:=⟨o,es,h1,h2,h3,h4⟩;refine⟨"dict","dict.items",F.plainAttrs_dict,F.slot_dict_items,F.type_dict_items,dd.typeIs,dd.mapOf.noDict,?_⟩;refine method_meetsIn F.slot_dict_items F.entry_dict_items rfl (PySem.evalArgs_none ⟨rfl,dd.typeIs,F.args_dict_items_1 _,_,meets_dict_items (bv X.prog X.w) a y,⟨vs,dd⟩,?_⟩);have I2:=I1.freezeK ha h1;refine wpAny_pyIter_items (kvs:=vs) (ep:=ep) ⟨_,VI _ rfl,rfl,rfl⟩ (dat.push _) ?_;generalize hN:((s1.1.push {cls:=.type "dict_items",data:=.fields #[.ref a]}).objs.size)=n;have hn:n=s1.1.1.size+1:=by rw[<-hN,WY]
 have kept:∀b ob,s1.1.get? b=A? ob->((s1.1.push {cls:=.type "dict_items",data:=.fields #[.ref a]}).push {cls:=.type "dict_itemiterator",data:=.fields #[.none,.bool C?,.ref a,.int 0 0,.int vs.length 0,.int ep 0,.none,.none]}).get? b=A? ob:=λb ob e=>VB _ (VB _ e);have hz:s1.1.1.size<=n:=by lia
 refine⟨n,[n],_,_,upd H1 a (.frz o (.dK kvs)),D?,I2.kept (t':=s1.toks) kept,ql a n o es ep kvs h3,⟨.none,.none,?_⟩,λb hb=>?_,q o⟩
 .rw[<-hN,hlen];exact VI _ rfl
 .have e:b=n:=by simpa using hb
  subst e;exact I2.fpOk hz (I2.hok.fresh hz)
theorem i8{o:Xw}{kvs:List (Key×V)}{g:TG}(Pv:Nat->St->Hp->Prop)(h0:Pv 0 σ H)(hl:∀i σ H,i<=kvs.length->Pv i σ H->H a=A? (.frz o (.dK kvs)))
 (hs:∀i kv p σ H,kvs[i]?=A? kv->H p=AQ->Pv i σ H->g (.ref p) σ (upd H p (.tup [kV kv.1,kv.2])) λzg H2=>tb {D with nx:=Pv (i+1),ct:=Pv (i+1),bk:=D.nx} zg H2) (hd:∀σ H,Pv kvs.length σ H->D.nx σ H) :
 ∃W:Nat->Nat->St->Hp->Prop,(∃m,W 0 m σ H)/\∀i m σ H,W i m σ H ->
   ((ItI a o kvs).stop i H/\D.nx σ H)\/((ItI a o kvs).go i H/\∃N:St->Hp->Prop,(∀i' H',N i' H'->∃m',m'<m/\W (i+1) m' i' H')/\∀x H',(ItI a o kvs).yld i H x H'->g x σ H' λzg H2=>tb {D with nx:=N,ct:=N,bk:=D.nx} zg H2):=by
 refine⟨λi m σ H=>m=kvs.length - i/\i<=kvs.length/\Pv i σ H,⟨kvs.length,by simp,Wh _,h0⟩,?_⟩;rintro i m σ H ⟨rfl,hi,p⟩;have q:=hl i σ H hi p;by_cases yZ:i<kvs.length
 .refine .inr ⟨⟨q,yZ⟩,Pv (i+1),λi' H' p'=>⟨kvs.length - (i+1),by lia,rfl,yZ,p'⟩,λx H' y=>?_⟩;obtain⟨pa,kv,hp,rfl,rfl,zX⟩:=y;exact hs i kv pa σ H zX hp p
 .have e:i=kvs.length:=by lia
  subst e;exact .inl ⟨⟨q,VG _⟩,hd σ H p⟩
end
section
variable{X:Cx}{te:TE}{apos zf:YF}
end
end L2
namespace PySem
open Sem (wp)
section
variable{od:Xw}{es:Array ZK}{ok ov:Vz}
theorem bb_put{vs:Array Vz}{x:Vz}{Q:Unit->VF->Prop}(e:s.1.get? it=A? {cls:=.type "dict_itemiterator",dict:=AQ,data:=.fields vs,slots:=#[]})(hj:j<vs.size)
 (k:∀h',h'.get? it=A? {cls:=.type "dict_itemiterator",dict:=AQ,data:=.fields (vs.setIfInBounds j x),slots:=#[]}->W3 it s.1 h'->Q () {s with heap:=h'}):VW (Wb prog w) A (setField (.ref it) j x) Q E s :=
 XN e hj λh' e' sb=>k h' e' sb
theorem bb_itemNextT{en:ZK}{Q:Option Vz->VF->Prop}(g:IsItemIter s.1 it d i es.size ep ok ov)(g1:s.1.get? d=A? od)(g2:od.data=.dict es ep)(hx:es[i]?=A? en)
 (fin:∀h',IsItemIterOut h' it d (i+1) es.size ep en.key en.val s.1.1.size->h'.get? s.1.1.size=A? {cls:=.type "tuple",data:=.seq #[en.key,en.val]}->(∀b o,b≠it->s.1.get? b=A? o->h'.get? b=A? o)->Q (A? (.ref s.1.1.size)) {s with heap:=h'}) :
 VW (Wb prog w) A (YE (.ref it)) Q E s:=by
 obtain⟨h0,gn,dr,tk,os⟩:=s;have gT:Shared.TypeIs ⟨h0,gn,dr,tk,os⟩ (.ref it) "dict_itemiterator":=⟨_,g,rfl⟩;have own:X4 "dict_itemiterator"=true:=by decide
 have lt:i<es.size:=(YX.mp hx).1;have ee:es[i]=en:=(YX.mp hx).2;have Ab:it<h0.objs.size:=V2 g;unfold YE;refine Vv (ZL (WJ (name:=VE "__next__") gT Xh (WM Xh gT F.entry_dict_itemiterator_next ?_ (F.args_dict_itemiterator_next_1 _))));refine Vv (VC (Vv (Vv ?_)));first|refine Vv (YD gT (VC ?_))|refine Vv (Zc gT (VC ?_))
 refine Vv (wpAny_fieldsOf g rfl ?_);simp only[own,if_true];show VW _ _ (if(Wf d == W7)=B? then _ else _) _ _ _;rw[a! (show¬((Wf d == W7)=B?)from VY)];refine Vv (VC (Vv (X0 g1 g2 ?_)));rw[a! (by simp)];refine Vv (VC (Vv (Zl g1 g2 ?_)));rw[a! (by simp)];refine VC ?_;simp only[show¬((i:Int)<0)from by lia,if_false,VQ,X8 lt];rw[ee];refine Vv ?_;first|refine Vv (YD gT (VC ?_))|refine Vv (Zc gT (VC ?_))
 refine Vv (wpAny_isOneOf_itemiter gT ?_);show VW _ _ (setField (.ref it) 3 (XX ((i:Int)+1)) >>= _) _ _ _;refine Vv (bb_put g (by simp) λh1 e1 Kw=>?_);replace Kw:W3 it h0 h1:=Kw
 replace e1:IsItemIter h1 it d (i+1) es.size ep ok ov:=by
  have e:((i+1:Nat):Int)=(i:Int)+1:=by lia
  unfold IsItemIter;rw[e];simpa[XX]using e1
 have OX:Shared.TypeIs ⟨h1,gn,dr,tk,os⟩ (.ref it) "dict_itemiterator":=⟨_,e1,rfl⟩;refine Vv (WT (Vv (wpAny_isOneOf_itemiter OX (Vv (wpAny_isOneOf_itemiter OX ?_)))));show VW _ _ (Builtin.Dict_items.pairFromOwner (.ref it) 6 en.key en.val) _ _ ⟨h1,gn,dr,tk,os⟩;unfold Builtin.Dict_items.pairFromOwner;refine Vv (wpAny_newTuple ?_);have z1:h1.objs.size=h0.objs.size:=Kw.1;have e2:IsItemIter (h1.push {cls:=.type "tuple",data:=.seq #[en.key,en.val]}) it d (i+1) es.size ep ok ov:=VB _ e1;have t2:(h1.push {cls:=.type "tuple",data:=.seq #[en.key,en.val]}).get? h0.objs.size=A? {cls:=.type "tuple",data:=.seq #[en.key,en.val]}:=by rw[<-z1];exact VI _ rfl
 have k2:∀b o,b≠it->h0.get? b=A? o->(h1.push {cls:=.type "tuple",data:=.seq #[en.key,en.val]}).get? b=A? o:=λb o hb q=>VB _ (Kw.extBut b o hb q);rw[z1];generalize h1.push {cls:=.type "tuple",data:=.seq #[en.key,en.val]}=h2 at e2 t2 k2 |-;show VW _ _ (Builtin.Dict_items.ownedTupleIsFree (.ref it) >>= _) _ _ ⟨h2,gn,dr,tk,os⟩;refine Vv ?_;unfold Builtin.Dict_items.ownedTupleIsFree;refine Vv (WE e2 rfl (x:=.none) rfl (VC ?_));simp only[if_true];refine Vv (WE e2 rfl (x:=ok) rfl (Vv (WE e2 rfl (x:=ov) rfl ?_)));refine Vv (bb_put e2 (by simp) λh3 e3 Mj=>?_);replace Mj:W3 it h2 h3:=Mj;refine Vv (bb_put e3 (by simp) λh4 e4 GO=>?_);replace GO:W3 it h3 h4:=GO;refine Vv (bb_put e4 (by simp) λh5 e5 Ml=>?_);replace Ml:W3 it h4 h5:=Ml;refine Vv (bb_put e5 (by simp) λh6 e6 Mm=>?_);replace Mm:W3 it h5 h6:=Mm;have up:∀b o,b≠it->h2.get? b=A? o->h6.get? b=A? o:=λb o hb q=>Mm.extBut b o hb (Ml.extBut b o hb (GO.extBut b o hb (Mj.extBut b o hb q)));exact Vv (Yq (VC (VC ⟨_,rfl,VC (fin h6 (by unfold IsItemIterOut;simpa[XX]using e6) (up _ _ (YA Ab) t2) λb o hb q=>up b o hb (k2 b o hb q))⟩)))
theorem bb_itemEndT{Q:Option Vz->VF->Prop}(calm:A.handled=AQ)(g:IsItemIter s.1 it d i es.size ep ok ov)(g1:s.1.get? d=A? od)(g2:od.data=.dict es ep)(hx:es.size<=i)
 (fin:∀h',Heap.ExtBut it s.1 h'->Q AQ {s with heap:=h'}):VW (Wb prog w) A (YE (.ref it)) Q E s:=by
 have gT:s.TypeIs (.ref it) "dict_itemiterator":=⟨_,g,rfl⟩;have own:X4 "dict_itemiterator"=true:=by decide
 unfold YE;refine Vv (ZL (WJ (name:=VE "__next__") gT Xh (WM Xh gT F.entry_dict_itemiterator_next ?_ (F.args_dict_itemiterator_next_1 _))));refine Vv (VC (Vv (Vv ?_)));first|refine Vv (YD gT (VC ?_))|refine Vv (Zc gT (VC ?_))
 refine Vv (wpAny_fieldsOf g rfl ?_);simp only[own,if_true];show VW _ _ (if(Wf d == W7)=B? then _ else _) _ _ s;rw[a! (show¬((Wf d == W7)=B?)from VY)];refine Vv (VC (Vv (X0 g1 g2 ?_)));rw[a! (by simp)];refine Vv (VC (Vv (Zl g1 g2 ?_)));rw[a! (by simp)];refine VC ?_;simp only[show¬((i:Int)<0)from by lia,if_false,VQ,Zk hx];refine Vv ?_;first|refine Vv (YD gT (VC ?_))|refine Vv (Zc gT (VC ?_))
 show VW _ _ (setField (.ref it) 2 .none >>= _) _ _ s;refine Vv (wpAny_setField g rfl (by simp) ?_);show VW _ _ (newExc (.type "StopIteration") [] >>= _) _ _ _;refine Vv ?_;simp only[newExc,newTuple];refine Vv (WC ?_ (by size_fits));refine Vv (m:=Zu _ _) (wpAny_of_eq (a:=W7) (by first|rfl|(simp only[Zu];rfl)) ?_);refine WC ?_ (by size_fits);simp only[raiseNew];refine Vv (wpAny_handled ?_);rw[show A.in1.handled=AQ from calm];refine Vv (VC (wpAny_throw ?_));refine Vv (wpAny_isInstance (T:="StopIteration") (b:=B?) ⟨_,VI _ rfl,rfl⟩ isSubtype_stop ?_);exact VC (fin _ (((Xb ..).extBut.push _).push _))
theorem bb_itemsT(ns:(d == Xn)=C?)(gT:s.TypeIs (.ref d) "dict")(fin:Q (.ref s.1.1.size) {s with heap:=s.1.push {cls:=.type "dict_items",data:=.fields #[.ref d]}}):VW (Wb prog w) A (call (.builtin "dict.items") [.ref d]) Q E s:=by
 refine WM F.slot_dict_items gT F.entry_dict_items ?_ (F.args_dict_items_1 _);unfold YC.«dict.items»;refine Vv ?_;unfold Builtin.Dict.noArgs;refine Vv (wpAny_notOrdered_dict gT ?_);show VW _ _ (pure d) _ _ s;refine VC ?_;show VW _ _ (ZE d >>= _) _ _ s;unfold ZE;rw[a! (by rw[ns];exact VY)];exact Vv (VC (Vv (WC (VC ⟨_,rfl,fin⟩))))
theorem bb_itemsIterT{v:Vy}(hv:s.1.IsItemsView v d)(g1:s.1.get? d=A? od)(g2:od.data=.dict es ep)
 (fin:Q (.ref s.1.1.size) {s with heap:=s.1.push {cls:=.type "dict_itemiterator",data:=.fields #[.none,.bool C?,.ref d,.int 0 0,.int es.size 0,.int ep 0,.none,.none]}}):VW (Wb prog w) A (pyIter (.ref v)) Q E s:=by
 obtain⟨o,e1,e2,e3⟩:=id hv;have own:X4 "dict_itemiterator"=true:=by decide
 refine Zs hv.typeIs F.slot_dict_items_iter (WM F.slot_dict_items_iter hv.typeIs F.entry_dict_items_iter ?_ (F.args_dict_items_iter_1 _));unfold YC.«dict_items.__iter__»;refine Vv (VC (Vv ?_));unfold Builtin.Dict_items.dictOf;refine Vv (WE e1 e3 (x:=.ref d) rfl (VC ?_));refine Vv ?_;unfold Builtin.Dict_items.newIterator;refine Vv (X0 g1 g2 (Vv (Zl g1 g2 ?_)));simp only[own,if_true];refine WC (VC ⟨_,rfl,"dict_itemiterator",_,⟨_,VI _ rfl,rfl⟩,Xh.lookup,?_⟩) (by simp only[sizeOk,Builtin.Dict_items.ownedTupleFields,VM,VJ,VU,YH,Y2];lia);simpa[XX,Builtin.Dict_items.ownedTupleFields]using fin
end
end PySem
namespace L2
open PySem PySem.Spec PyProof.Rows
def uf(a:Vy)(o:Xw)(kvs:List (List Key×V)):It :=
 ⟨λi H=>H a=A? (.frz o (.dT kvs))/\i<kvs.length,
  λi H v H'=>∃p b kv,H p=AQ/\v=.ref p/\H'=upd H p (.tup [.ref b,kv.2])/\kvs[i]?=A? kv/\H b=A? (.tup (kv.1.map kV)),
  λi H=>H a=A? (.frz o (.dT kvs))/\kvs.length<=i⟩
theorem oC{k1}(a it:Vy)(o:Xw)(es:Array ZK)(ep:Nat)(kvs:List (List Key×V))(hd:o.data=.dict es ep) :
 Turn P w K (.Tuple elts k1 pos) (uf a o kvs) [it] it (λi h=>∃ok ov,IsItemIter h it a i es.size ep ok ov) where
 mem:=by simp
 obj:=λi h st b hb=>by
  obtain⟨ok,ov,e⟩:=st;have eb:b=it:=by simpa using hb
  subst eb;exact⟨_,e,λv z=>by cases z⟩
 keep:=λi h h' st k=>by
  obtain⟨ok,ov,e⟩:=st;exact⟨ok,ov,k it (by simp) _ e⟩
 item:=by
  intro X hP hw hK hc i Y s σ H E I hf st hg;subst hP hw hK;obtain⟨hq,yZ⟩:=hg;obtain⟨ok,ov,hit⟩:=st;obtain⟨e0,z,y,xs,r,o',Gw,Gx,h1,h2,h3,h4,h5⟩:=(show ObjOk X.prog X.w H s.1 a (.frz o (.dT kvs))from I.hok a _ hq);rw[e0]at h1;cases h1;rw[hd]at h3;cases h3;obtain⟨kv,zX⟩:∃kv,kvs[i]?=A? kv:=⟨_,Vw yZ⟩;obtain⟨q',AB,hr⟩:=u! r zX;have Ip:es[i]?=A? (entryOfKey (tupleKind (bv X.prog X.w)) q'):=by rw[<-YM,h4,VA,AB];rfl
  have Ab:it<s.1.1.size:=V2 hit;obtain⟨f0,f1,f2,f3,f4,f5⟩:=hf it (by simp);refine bb_itemNextT hit e0 hd Ip λh1 FH BG Dx=>?_;refine⟨_,D?,wpAny_letOwnedTupleGo_items FH λh2 g1 sb=>?_⟩;replace sb:W3 it h1 h2:=sb;have Fq:H s.1.1.size=none:=I.hok.fresh (VG _)
  have IA:Inv X Y σ (upd H s.1.1.size (.tup [.ref q'.2.1,kv.2])) {s with heap:=s.1.push {cls:=.type "tuple",data:=.seq #[.ref q'.2.1,q'.2.2]},toks:=s.toks} :=
   I.laid (o:=.tup [.ref q'.2.1,kv.2]) (λb ob q=>VB _ q) (VG _) ⟨by show 2<=V4;decide,[.ref q'.2.1,q'.2.2],0,.cons rfl (.cons hr.2.2 .nil),VI _ rfl⟩
  refine⟨.ref s.1.1.size,upd H s.1.1.size (.tup [.ref q'.2.1,kv.2]),?_,D?,⟨_,q'.2.1,kv,Fq,D?,D?,zX,hr.2.1⟩,⟨_,_,g1⟩,λc hc=>?_⟩
  .refine Inv.turnedL (s:={s with heap:=s.1.push {cls:=.type "tuple",data:=.seq #[.ref q'.2.1,q'.2.2]},toks:=s.toks}) (h':=h2) (fp:=[it]) (t':=s.toks) IA (λc oc hc q=>?_) λc hc=>?_
   .have n1:c≠it:=λe=>hc (by simp[e]);rw[sb.2 c n1];by_cases hb2:c=s.1.1.size
    .subst hb2;have q2:(s.1.push {cls:=.type "tuple",data:=.seq #[.ref q'.2.1,q'.2.2]}).get? s.1.1.size=A? oc:=q;rw[VI _ rfl]at q2;rw[<-q2];exact BG
    .have q2:(s.1.push {cls:=.type "tuple",data:=.seq #[.ref q'.2.1,q'.2.2]}).get? c=A? oc:=q;rw[Heap.get?_push_ne _ _ _ hb2]at q2;exact Dx c oc n1 q2
   .have e:c=it:=by simpa using hc
    subst e;exact⟨by rw[af (We Ab)];exact f0,f1,f2,f3,f4,f5⟩
  .have e:c=it:=by simpa using hc
   subst e;rw[af (We Ab)];exact f0
 done:=by
  intro X hP hw hK hc i Y s σ H E I hf st hg;subst hP hw hK;obtain⟨hq,GN⟩:=hg;obtain⟨ok,ov,hit⟩:=st;obtain⟨e0,z,y,xs,r,o',Gw,Gx,h1,h2,h3,h4,h5⟩:=(show ObjOk X.prog X.w H s.1 a (.frz o (.dT kvs))from I.hok a _ hq);rw[e0]at h1;cases h1;rw[hd]at h3;cases h3;have hl:=VZ r
  have Ae:es.size=xs.length:=by
   have:=h! Xd h4;rw[Vu,Wd]at this;exact this
  obtain⟨f0,f1,f2,f3,f4,f5⟩:=hf it (by simp);exact bb_itemEndT (I.ok.hd hc) hit e0 hd (by lia) λh' eb=>⟨rfl,I.turned (t':=s.toks) (λb ob hb e=>eb b ob hb e) f0 f1 f3 f4 f5⟩
 self:=by
  intro A i s Q E st h;obtain⟨ok,ov,e⟩:=st;have hT:s.TypeIs (.ref it) "dict_itemiterator":=⟨_,e,rfl⟩;refine Zs hT YQ (WM YQ hT eh ?_ (F.args_dict_itemiterator_iter_1 _));exact VC ⟨_,rfl,"dict_itemiterator",_,hT,Xh.lookup,h⟩
section
variable{X:Cx}{te:TE}{apos zf:YF}
def mW(tl:TE):TI:=λσ H R=>tl σ H λx H1=>∃a kvs,x=.ref a/\H1 a=A? (.dT kvs)/\∀o,R (uf a o kvs) (upd H1 a (.frz o (.dT kvs)))
theorem gH{k1}(he:PE X e te)(Av:Zg e "items" X.env (XD e X.env)=XD e X.env:=by rfl)(Aw:(apos.endLine == zf.line)=true:=by rfl) :
 PI X (.Tuple elts k1 pos) (.Call (.Attribute e "items" apos) [] [] zf) (mW te):=by
 intro Y s σ H R I h;refine wpAny_Call_method0_late Av Aw (thn (he Y s σ H _ I h) λv s1⟨x,H1,I1,r1,a,kvs,ex,ha,q⟩=>?_);subst ex;cases r1;obtain⟨z,y,xs,r,dd⟩:=(show ObjOk X.prog X.w H1 s1.1 a (.dT kvs)from I1.hok a _ ha);obtain⟨o,es,ep,h1,h2,h3,h4,h5⟩:=id dd;have gT:s1.TypeIs (.ref a) "dict":=⟨_,h1,h2.1⟩;refine⟨"dict","dict.items",F.plainAttrs_dict,F.slot_dict_items,F.type_dict_items,gT,λc e=>by cases e;exact⟨_,h1,h2.2.1⟩,?_⟩;refine Zx rfl (PySem.evalArgs_none (bb_itemsT y gT ?_));have I2:=I1.freeze ha h1;refine bb_itemsIterT (d:=a) (od:=o) (es:=es) (ep:=ep) ⟨_,VI _ rfl,rfl,rfl⟩ (VB _ h1) h3 ?_;generalize hN:((s1.1.push {cls:=.type "dict_items",data:=.fields #[.ref a]}).objs.size)=n;have hn:n=s1.1.1.size+1:=by rw[<-hN,WY]
 have hz:s1.1.1.size<=n:=by lia
 refine⟨n,[n],_,_,upd H1 a (.frz o (.dT kvs)),D?,I2.kept (t':=s1.toks) (λb ob e=>VB _ (VB _ e)),oC a n o es ep kvs h3,⟨.none,.none,?_⟩,λb hb=>?_,q o⟩
 .rw[<-hN];exact VI _ rfl
 .have e:b=n:=by simpa using hb
  subst e;exact I2.fpOk hz (I2.hok.fresh hz)
end
section
variable{X:Cx}{e1 e2:WB}{t:TA}{p2 zq:YF}
end
section
variable{X:Cx}
end
end L2
namespace BB
open PySem L2
def ky(c:Int×Int):List Key:=[Wt c.1,Wt c.2]
theorem pE{a b:Int×Int}(h:ky a=ky b):a=b:=by
 obtain⟨a1,a2⟩:=a;obtain⟨b1,b2⟩:=b;simp only[ky,List.cons.injEq,Sum.inl.injEq,and_true]at h;rw[h.1,h.2]
abbrev CLs:=List ((Int×Int)×Int)
def dE(es:CLs):List (List Key×V):=es.map λe=>(ky e.1,o! e.2)
def fB(es:CLs)(k:Int×Int)(v:Int):CLs:=if k∈es.map (·.1)then es.map (λe=>if e.1=k then(e.1,v)else e)else es++[(k,v)]
def dG:CLs->Int×Int->Option Int
 | [],_=>AQ
 |e::es,k=>if e.1=k then A? e.2 else dG es k
theorem j9(k:Int×Int):∀es:CLs,bT (dE es) (ky k)=(dG es k).map o!
 | []=>rfl
 | e::es=>by
   show bT ((ky e.1,o! e.2)::dE es) (ky k)=_;rw[dG];by_cases h:e.1=k
   .rw[b! h,fk (by rw[h])];rfl
   .rw[a! h,ff (λz=>h (pE z)),j9 k es]
theorem wB(k:Int×Int)(es:CLs):((dE es).any λkv=>decide (kv.1=ky k))=decide (k∈es.map (·.1)):=by
 rw[ZC,Zo,decide_eq_true_iff];constructor
 .rintro⟨x,hx,hk⟩;obtain⟨e,he,rfl⟩:=VX.mp hx;exact VX.mpr ⟨e,he,pE (e! hk)⟩
 .intro h;obtain⟨e,he,rfl⟩:=VX.mp h;exact⟨_,VX.mpr ⟨e,he,D?⟩,d! rfl⟩
theorem qL(es:CLs)(k:Int×Int)(v:Int):putK (dE es) (ky k) (.int v)=dE (fB es k v):=by
 unfold putK fB;rw[wB];by_cases h:k∈es.map (·.1)
 .rw[b! (d! h),b! h];unfold dE;rw[Wk,Wk];refine ZD λe he=>?_;simp only[Function.comp];by_cases g:e.1=k
  .rw[b! (by rw[g]),b! g]
  .rw[a! (λz=>g (pE z)),a! g]
 .rw[a! (λz=>h (e! z)),a! h];unfold dE;rw[V3];rfl
theorem gj{es:CLs}{k:Int×Int}{v:Int}(h:dG es k=A? v):(k,v)∈es:=by
 induction es with
 |nil=>cases h
 | cons e es ih =>
   rw[dG]at h;by_cases g:e.1=k
   .rw[b! g]at h;cases h;rw[<-g];exact VO ..
   .rw[a! g]at h;exact VR _ (ih h)
theorem rq{es:CLs}{k:Int×Int}(h:dG es k=AQ):k∉es.map (·.1):=by
 induction es with
 |nil=>intro z;cases z
 | cons e es ih =>
   rw[dG]at h;by_cases g:e.1=k
   .rw[b! g]at h;cases h
   .rw[a! g]at h;intro z;rcases VS.mp z with z|z
    .exact g z.symm
    .exact ih h z
theorem uH{es:CLs}(nd:(es.map (·.1)).Nodup){e:(Int×Int)×Int}(h:e∈es):dG es e.1=A? e.2:=by
 induction es with
 |nil=>cases h
 | cons x es ih =>
   rw[V6,WG]at nd;rw[dG];rcases VS.mp h with rfl|h
   .rw[b! rfl]
   .rw[a! (λz=>nd.1 (by rw[z];exact VX.mpr ⟨e,h,rfl⟩))];exact ih nd.2 h
theorem rX(es:CLs)(k:Int×Int)(v:Int):(fB es k v).map (·.1)=if k∈es.map (·.1)then es.map (·.1)else es.map (·.1)++[k]:=by
 unfold fB;by_cases h:k∈es.map (·.1)
 .rw[b! h,b! h,Wk];refine ZD λe he=>?_;simp only[Function.comp];by_cases g:e.1=k
  .rw[b! g]
  .rw[a! g]
 .rw[a! h,a! h,V3];rfl
theorem kI{es:CLs}(nd:(es.map (·.1)).Nodup)(k:Int×Int)(v:Int):((fB es k v).map (·.1)).Nodup:=by
 rw[rX];by_cases h:k∈es.map (·.1)
 .rw[b! h];exact nd
 .rw[a! h,Xa];refine⟨nd,by simp,λa ha b hb=>?_⟩;rw[VH.mp hb];exactλz=>h (z ▸ ha)
theorem iy{es:CLs}{k:Int×Int}{v:Int}{e:(Int×Int)×Int}(h:e∈fB es k v):e=(k,v)\/(e∈es/\e.1≠k):=by
 unfold fB at h;by_cases g:k∈es.map (·.1)
 .rw[b! g]at h;obtain⟨x,hx,rfl⟩:=VX.mp h;by_cases e:x.1=k
  .rw[b! e,e];exact .inl rfl
  .rw[a! e];exact .inr ⟨hx,e⟩
 .rw[a! g]at h;rcases VP.mp h with h|h
  .exact .inr ⟨h,λz=>g (z ▸ VX.mpr ⟨e,h,rfl⟩)⟩
  .exact .inl (VH.mp h)
theorem ud(es:CLs)(k:Int×Int)(v:Int):(k,v)∈fB es k v:=by
 unfold fB;by_cases g:k∈es.map (·.1)
 .rw[b! g];obtain⟨x,hx,hk⟩:=VX.mp g;exact VX.mpr ⟨x,hx,by rw[b! hk,hk]⟩
 .rw[a! g];exact V9 _ (VH.mpr rfl)
theorem rL{es:CLs}{k:Int×Int}{v:Int}{e:(Int×Int)×Int}(h:e∈es)(hk:e.1≠k):e∈fB es k v:=by
 unfold fB;by_cases g:k∈es.map (·.1)
 .rw[b! g];exact VX.mpr ⟨e,h,a! hk⟩
 .rw[a! g];exact VT _ h
theorem ox(es:CLs)(k:Int×Int)(v:Int):(fB es k v).length<=es.length+1:=by
 unfold fB;split
 .rw[Vu];lia
 .rw[VJ];exact VG _
end BB
variable{es:BB.CLs}
namespace BB
open PySem L2
mutual
theorem Th.dv_inj:∀{t u:Th},t.dv=u.dv->t=u
 | .knot n ks,.knot m js,h=>by
   rw[P!,P!]at h;injection h with h;injection h with h1 h2;injection h1 with h1;rw[h1,qW h2]
 | .call s k,.call s' k',h=>by
   rw[P!,P!]at h;injection h with h;injection h with _ h;injection h with h1 h;injection h with h2 _;injection h1 with h1;injection h2 with h2;rw[h1,h2]
 | .knot n ks,.call s k,h=>by
   rw[P!,P!]at h;injection h with h;injection h with _ h;cases ks with
   |nil=>rw[dvs]at h;cases h
   | cons a as =>
     rw[dvs]at h;injection h with h _;cases a <;> rw[P!]at h <;> cases h
 | .call s k,.knot n ks,h=>by
   rw[P!,P!]at h;injection h with h;injection h with _ h;cases ks with
   |nil=>rw[dvs]at h;cases h
   | cons a as =>
     rw[dvs]at h;injection h with h _;cases a <;> rw[P!]at h <;> cases h
theorem qW:∀{ts us:List Th},dvs ts=dvs us->ts=us
 | [],[],_=>rfl
 | [],u::us,h=>by rw[dvs,dvs]at h;cases h
 |t::ts,[],h=>by rw[dvs,dvs]at h;cases h
 | t::ts,u::us,h=>by
   rw[dvs,dvs]at h;injection h with h1 h2;rw[Th.dv_inj h1,qW h2]
end
def FrB(S:List Vy)(H H':Hp):Prop:=∀b o,b∉S->H b=A? o->H' b=A? o
theorem FrB.refl:FrB S H H:=λ_ _ _ e=>e
theorem FrB.of(h:j! H H'):FrB S H H':=λb o _ e=>h b o e
theorem FrB.trans{A B C:Hp}(h:FrB S A B)(k:FrB S B C):FrB S A C:=λb o hb e=>k b o hb (h b o hb e)
theorem FrB.more{R:List Vy}{A B:Hp}(h:FrB S A B)(k:∀b∈S,b∈R):FrB R A B:=λb o hb e=>h b o (λz=>hb (k b z)) e
theorem FrB.set(h:a∈S):FrB S H (upd H a o):=λb u hb e=>by rw[af (show b≠a fromλz=>hb (by rw[z];exact h))];exact e
theorem fo:∀{l m:List α},l.Nodup->(∀a∈l,a∈m)->l.length<=m.length
 | [],m,_,_=>Wh _
 | a::l,m,h,hs=>by
   rw[WG]at h;obtain⟨m1,m2,rfl⟩:=List.append_of_mem (hs a (VO ..))
   have:l.length<=(m1++m2).length:=fo h.2 λb hb=>by
    rcases VP.mp (hs b (VR _ hb))with z|z
    .exact VT _ z
    .rcases VS.mp z with z|z
     .exact g! (z ▸ hb) h.1
     .exact V9 _ z
   rw[VJ,VU]at*;rw[VU];lia
end BB
open BB.FrB renaming of->K!,set->M!
namespace L2
open PySem
theorem um{g:TG}(Pv:Nat->St->Hp->Prop)(h0:Pv 0 σ H)(hl:∀i σ H,i<=xs.length->Pv i σ H->SqT K H a xs)
 (hs:∀i x p σ H,xs[i]?=A? x->H p=AQ->Pv i σ H->g (.ref p) σ (upd H p (.tup [.int (i:Nat),x])) λzg H2=>tb {D with nx:=Pv (i+1),ct:=Pv (i+1),bk:=D.nx} zg H2) (hd:∀σ H,Pv xs.length σ H->D.nx σ H) :
 ∃W:Nat->Nat->St->Hp->Prop,(∃m,W 0 m σ H)/\∀i m σ H,W i m σ H ->
   ((Ite K a).stop i H/\D.nx σ H)\/((Ite K a).go i H/\∃N:St->Hp->Prop,(∀i' H',N i' H'->∃m',m'<m/\W (i+1) m' i' H')/\∀x H',(Ite K a).yld i H x H'->g x σ H' λzg H2=>tb {D with nx:=N,ct:=N,bk:=D.nx} zg H2):=by
 refine⟨λi m σ H=>m=xs.length - i/\i<=xs.length/\Pv i σ H,⟨xs.length,by simp,Wh _,h0⟩,?_⟩;rintro i m σ H ⟨rfl,hi,p⟩;have q:=hl i σ H hi p;by_cases yZ:i<xs.length
 .refine .inr ⟨⟨xs,xs[i],q,by simp[yZ]⟩,Pv (i+1),λi' H' p'=>⟨xs.length - (i+1),by lia,rfl,yZ,p'⟩,λx H' y=>?_⟩;obtain⟨pa,y,hp,rfl,rfl,hy⟩:=y;exact hs i y pa σ H (hy xs q) hp p
 .have e:i=xs.length:=by lia
  subst e;exact .inl ⟨⟨xs,q,rfl⟩,hd σ H p⟩
end L2
namespace BB
open PySem L2
theorem qF[DecidableEq κ]{kvs:List (κ×V)}{k:κ}(h:bT kvs k=A? v):(k,v)∈kvs:=by
 induction kvs with
 |nil=>cases h
 | cons p r ih =>
   by_cases e:p.1=k
   .rw[fk e]at h;cases h;rw[<-e];exact VO ..
   .rw[ff e]at h;exact VR _ (ih h)
theorem map_set(f:α->β){l:List α}{a b:α}(h:l[i]?=A? a)(e:f b=f a):(l.set i b).map f=l.map f:=by
 rw[List.map_set];refine Yi λj=>?_;rw[List.getElem?_set];split
 .rename_i z
  subst z;rw[Vu,b! (glE h),VA,h,e];rfl
 .rfl
theorem mem_set{l:List α}{b x:α}(h:x∈l.set i b):x=b\/∃j,j≠i/\l[j]?=A? x:=by
 obtain⟨j,hj⟩:=VL.mp h;rw[List.getElem?_set]at hj;split at hj
 .split at hj
  .exact .inl (VN hj).symm
  .cases hj
 .rename_i z
  exact .inr ⟨j,λe=>z e.symm,hj⟩
section
variable{Dp:DP}{ok:Th->Prop}{L:Lv}{n:Nd}{B:Lv}{Hg:Hp}{B':Lv}{sp:List (Key×V)}
end
theorem Ats.get'{ts:List Th}(h:Ats H ts as){t:Th}(hi:ts[i]?=A? t):∃a,as[i]?=A? a/\At H t a:=by
 have hl:=h.length;have yZ:=(glE hi);obtain⟨a,ha⟩:∃a,as[i]?=A? a:=⟨_,Vw (by lia)⟩;obtain⟨t',ht,hA⟩:=h.get ha;rw[hi]at ht;cases ht;exact⟨a,ha,hA⟩
section
variable{Dp:DP}{ok:Th->Prop}{H0:Hp}{L B:Lv}{L' B':Lv}
end
theorem jb:∀(n:Nat)(ts:List Th),au ts<=n->∀(i:Nat)(p:Th),(walks ts)[i]?=A? p->∃rest,(walks ts).drop i=p.walk++rest
 |_,[],_,i,p,h=>by cases h
 | 0,t::ts,hn,i,p,h=>by
   have:=t.size_pos;rw[au]at hn;lia
 | n+1,t::ts,hn,i,p,h=>by
   rw[au]at hn;rw[walks]at h |-;by_cases hi:i<t.walk.length
   .rw[Wj hi]at h;rw[List.drop_append_of_le_length (XH hi)];rw[t.walk_eq]at h |-;cases i with
    | zero =>
      cases h;rw[Zi,<-t.walk_eq];exact⟨_,D?⟩
    | succ i =>
      rw[Ze]at h;rw[List.drop_succ_cons];have hk:au t.kids<=n:=by have:=t.size_eq;lia
      obtain⟨r,hr⟩:=jb n t.kids hk i p h;exact⟨r++walks ts,by rw[hr,Yj]⟩
   .rw[Ww (by lia)]at h;have:=t.size_pos;obtain⟨r,hr⟩:=jb n ts (by lia) _ p h;refine⟨r,?_⟩;rw[List.drop_append,List.drop_eq_nil_of_le (by lia),List.nil_append];exact hr
theorem uK(g:Int->Int->Th)(t:Th)(h:t.walk[i]?=A? p):∃S,bl ((t.walk.map (cU g)).drop i)=p.fill g::S:=by
 have e:walks [t]=t.walk:=by simp[walks]
 obtain⟨r,hr⟩:=jb _ [t] (VG _) i p (by rw[e];exact h);rw[e]at hr;rw[<-List.map_drop,hr,V3];have h2:=(iz g _ [p] (VG _) (r.map (cU g))).1;have e2:walks [p]=p.walk:=by simp[walks]
 rw[e2]at h2;exact⟨_,h2⟩
end BB
namespace L2
open PySem
end L2
namespace BB
open PySem L2
end BB
namespace L2
open PySem PySem.Spec PyProof.Rows PySem.W
end L2
namespace BB
open PySem L2
end BB
namespace L2
open PySem PySem.Spec PySem.Calls PyProof.Rows PySem.W
theorem Fun.okT1{k:Nat}(F:Fun K x qual st f fd)(hc:fd.code=.ref c)(S:bS N ps (aD st))(len:∀vs H Q E,sp vs H Q E->vs.length=ps.length)
 (zG:∀(A:Wr)(outer:List Env)(s:VF)(H:Hp)(vs:List V)(Q:VK)(E:XK),Room k (A.deeper (Yw qual (aD st) s.1.1.size f (.ref c)))->sp vs H Q E ->
  ∃t,PSs (jX (CX1 P w) P w K mg base N qual (aD st) f (.ref c) A outer s H E) (bR st) t/\t {nx:=λ_ H'=>Q .non H',rt:=Q} (start N vs) H):bj P w K mg base (CX1 P w) (k+1) f fd ps sp:=by
 obtain⟨oc,od,kV,doc,pm,an,zb,ct,DN,rfl,lk,Bm⟩:=F.ex;have zV:zb=.ref c:=hc;subst zV;exact tR lk Bm S len λA outer s H vs Q E hr AK=>zG A outer s H vs Q E hr AK
end L2
namespace BB
open PySem L2
theorem cq(n:Nat):((2 ^ n:Nat):Int)=2 ^ n:=by exact_mod_cast rfl
def bt(x:Int)(i:Nat):Bool:=x.toNat.testBit i
theorem vc{x y:Int}(hx:0<=x)(hy:0<=y):WL x y=((x.toNat &&& y.toNat:Nat):Int):=by
 unfold WL;rw[d! hx,d! hy]
theorem ng(x:Int):W9 (W9 x)=x:=by unfold W9;lia
theorem wA{x y:Int}(hx:0<=x)(hy:0<=y):XT x y=((x.toNat |||y.toNat:Nat):Int):=by
 have h1:¬0<=W9 x:=by unfold W9;lia
 have h2:¬0<=W9 y:=by unfold W9;lia
 unfold XT WL;rw[c! h1,c! h2];dsimp only;rw[ng,ng,ng]
theorem xx{x y:Int}(hx:0<=x)(hy:0<=y):0<=WL x y/\∀i,bt (WL x y) i=(bt x i && bt y i):=by
 rw[vc hx hy];refine⟨ZV _,λi=>?_⟩;unfold bt;rw[VQ,Nat.testBit_and]
theorem wc{x y:Int}(hx:0<=x)(hy:0<=y)(lx:x<2 ^ n)(ly:y<2 ^ n):0<=XT x y/\XT x y<2 ^ n/\∀i,bt (XT x y) i=(bt x i ||bt y i):=by
 rw[wA hx hy];refine⟨ZV _,?_,λi=>?_⟩
 .have:=Nat.or_lt_two_pow (x:=x.toNat) (y:=y.toNat) (n:=n) (by have:=cq n;lia) (by have:=cq n;lia)
  exact_mod_cast this
 .unfold bt;rw[VQ,Nat.testBit_or]
def ones(n:Nat):Int:=2 ^ n - 1
theorem qO(n:Nat):0<=ones n:=by
 have:=ZA n;have:=cq n;unfold ones;lia
theorem u9(n i:Nat):bt (ones n) i=decide (i<n):=by
 have h0:=ZA n
 have e:(ones n).toNat=2 ^ n - 1:=by
  have:=cq n;unfold ones;lia
 unfold bt;rw[e,Nat.testBit_two_pow_sub_one]
theorem p8(n i:Nat):bt (1 * 2 ^ (n:Int).toNat) i=decide (n=i):=by
 rw[Int.one_mul,VQ,<-cq];unfold bt;rw[VQ,Nat.testBit_two_pow]
theorem vz{y:Int}(hy:0<=y)(ly:y<2 ^ n):0<=WL (ones n) (W9 y)/\∀i,bt (WL (ones n) (W9 y)) i=(decide (i<n) && !bt y i):=by
 have h0:=ZA n;have hc:=cq n;have OY:y.toNat<2 ^ n:=by lia
 have e:(ones n).toNat=2 ^ n - 1:=by unfold ones;lia
 have h2:¬0<=W9 y:=by unfold W9;lia
 have e2:WL (ones n) (W9 y)=((2 ^ n - (y.toNat+1):Nat):Int):=by
  unfold WL;rw[d! (qO n),c! h2];dsimp only;rw[ng,e,Nat.and_comm,Nat.and_two_pow_sub_one_eq_mod,Nat.mod_eq_of_lt OY];unfold ones;lia
 rw[e2];refine⟨ZV _,λi=>?_⟩;unfold bt;rw[VQ,Nat.testBit_two_pow_sub_succ OY]
theorem m8(i:Nat):bt 0 i=false:=by unfold bt;exact Nat.zero_testBit i
theorem wt{x:Int}(hx:0<=x)(i:Nat):decide (WL (x / 2 ^ ((i:Nat):Int).toNat) 1=1)=bt x i:=by
 rw[PyProof.Rows.bitAnd_m1,VQ,<-cq];unfold bt;rw[Nat.testBit_eq_decide_div_mod_eq];congr 1;have:x=(x.toNat:Int):=by lia
 rw[this];rw[VQ];generalize x.toNat=m;apply propext;constructor
 .intro h;exact_mod_cast h
 .intro h;exact_mod_cast h
structure Cand where
 b:Int
 n:Int
 ks:List Nat
structure Least(S:Cand->Prop)(D:List Cand):Prop where
 nd:(D.map (·.b)).Nodup
 sub:∀e∈D,S e
 le:∀c,S c->∃e∈D,e.b=c.b/\e.n<=c.n
theorem Least.congr{S S':Cand->Prop}{D:List Cand}(h:Least S D)(e:∀c,S c↔S' c):Least S' D:=⟨h.nd,λx hx=>(e x).mp (h.sub x hx),λc hc=>h.le c ((e c).mpr hc)⟩
theorem Least.nil:Least (λ_=>False) []:=⟨by simp,(by intro e h;cases h),(by intro c h;exact h.elim)⟩
theorem Least.one(c:Cand):Least (λx=>x=c) [c]:=⟨by simp,(by intro e h;exact VH.mp h),(by intro x h;exact⟨c,by simp,by rw[h],by rw[h];exact Int.le_refl _⟩)⟩
theorem Least.add{S:Cand->Prop}{D:List Cand}{c:Cand}(h:Least S D)(hn:c.b∉D.map (·.b)):Least (λx=>S x\/x=c) (D++[c]):=by
 refine⟨?_,λe he=>?_,λx hx=>?_⟩
 .rw[V3,Xa];refine⟨h.nd,by simp,λa ha b hb z=>hn ?_⟩;rw[List.map_singleton,VH]at hb;rw[<-hb,<-z];exact ha
 .rcases VP.mp he with he|he
  .exact .inl (h.sub e he)
  .exact .inr (VH.mp he)
 .rcases hx with hx|rfl
  .obtain⟨e,he,h1⟩:=h.le x hx;exact⟨e,VT _ he,h1⟩
  .exact⟨x,by simp,D?,Int.le_refl _⟩
theorem Least.keep{S:Cand->Prop}{D:List Cand}{c e:Cand}(h:Least S D)(he:e∈D)(hb:e.b=c.b)(hn:e.n<=c.n):Least (λx=>S x\/x=c) D :=
 ⟨h.nd,λx hx=>.inl (h.sub x hx),λx hx=>by
  rcases hx with hx|rfl
  .exact h.le x hx
  .exact⟨e,he,hb,hn⟩⟩
theorem Least.set{S:Cand->Prop}{D:List Cand}{c:Cand}{i:Nat}{e:Cand}(h:Least S D)(he:D[i]?=A? e)(hb:e.b=c.b)(hn:c.n<=e.n):Least (λx=>S x\/x=c) (D.set i c):=by
 have hi:=(glE he);refine⟨by rw[map_set (λx:Cand=>x.b) he hb.symm];exact h.nd,λx hx=>?_,λx hx=>?_⟩
 .rcases mem_set hx with rfl|⟨j,_,hj⟩
  .exact .inr rfl
  .exact .inl (h.sub x (Vx hj))
 .have hc:c∈D.set i c:=Vx (i:=i) (by rw[W5 hi]);rcases hx with hx|rfl
  .obtain⟨y,hy,h1,h2⟩:=h.le x hx;obtain⟨j,hj⟩:=VL.mp hy;by_cases z:i=j
   .subst z;rw[he]at hj;cases hj;exact⟨c,hc,hb.symm.trans h1,by lia⟩
   .exact⟨y,Vx (i:=j) (by rw[W6 z];exact hj),h1,h2⟩
  .exact⟨x,hc,D?,Int.le_refl _⟩
def Cand.ext(ag sz:List Int)(e:Cand)(n:Nat):Cand:=⟨WL e.b (ag.getD n 0),e.n+sz.getD n 0,e.ks++[n]⟩
theorem Least.trans{S:Cand->Prop}{D D':List Cand}{ag sz:List Int}{ns:List Nat}(h:Least S D)(h':Least (λx=>∃e∈D,∃n∈ns,x=e.ext ag sz n) D'):Least (λx=>∃e,S e/\∃n∈ns,x=e.ext ag sz n) D':=by
 refine⟨h'.nd,λx hx=>?_,λc hc=>?_⟩
 .obtain⟨e,he,g⟩:=h'.sub x hx;exact⟨e,h.sub e he,g⟩
 .obtain⟨e,he,n,hn,rfl⟩:=hc;obtain⟨d,hd,h1,h2⟩:=h.le e he;obtain⟨x,hx,g1,g2⟩:=h'.le (d.ext ag sz n) ⟨d,hd,n,hn,rfl⟩;refine⟨x,hx,?_,?_⟩
  .rw[g1];show WL d.b _=WL e.b _;rw[h1]
  .have:(d.ext ag sz n).n=d.n+sz.getD n 0:=rfl;have:(e.ext ag sz n).n=e.n+sz.getD n 0:=rfl;lia
def cnd(AG:List (List Int))(sz:List Int)(all:Int)(ks:List Nat):Cand:=ks.zipIdx.foldl (λc p=>c.ext (AG.getD p.2 []) sz p.1) ⟨all,0,[]⟩
theorem gx(AG:List (List Int))(sz:List Int)(all:Int)(ks:List Nat)(n:Nat):cnd AG sz all (ks++[n])=(cnd AG sz all ks).ext (AG.getD ks.length []) sz n:=by
 unfold cnd;rw[List.zipIdx_append,List.foldl_append];simp
theorem snoc_ind{P:List Nat->Prop}(h0:P [])(hs:∀l a,P l->P (l++[a])):∀l,P l:=λl=>by
 have:∀r:List Nat,P r.reverse:=by
  intro r;induction r with
  |nil=>exact h0
  |cons a r ih=>rw[WZ];exact hs _ _ ih
 have:=this l.reverse
 rwa [Yh]at this
theorem xr(AG:List (List Int))(sz:List Int)(all:Int):∀ks,(cnd AG sz all ks).ks=ks:=snoc_ind rfl λl a ih=>by
 rw[gx];show(cnd AG sz all l).ks++[a]=_;rw[ih]
theorem wO{AG:List (List Int)}{sz:List Int}{N L:Nat}(RM:∀j n,j<AG.length->n<L->0<=(AG.getD j []).getD n 0):∀ks:List Nat,ks.length<=AG.length->(∀n∈ks,n<L) ->
 0<=(cnd AG sz (ones N) ks).b/\∀i,bt (cnd AG sz (ones N) ks).b i=B?↔i<N/\∀j n,ks[j]?=A? n->bt ((AG.getD j []).getD n 0) i=true:=by
 refine snoc_ind (λ_ _=>⟨qO N,λi=>?_⟩) λl a ih hl hL=>?_
 .show bt (ones N) i=B?↔_;rw[u9,decide_eq_true_iff];exact⟨λh=>⟨h,λj n e=>by simp at e⟩,λh=>h.1⟩
 .rw[VJ,Wa]at hl;obtain⟨h0,h1⟩:=ih (by lia) λn hn=>hL n (VT _ hn);have ha:=RM l.length a (by lia) (hL a (by simp));obtain⟨g0,g1⟩:=xx h0 ha;rw[gx];refine⟨g0,λi=>?_⟩;show bt (WL _ _) i=B?↔_;rw[g1,XM,h1];constructor
  .rintro⟨⟨h2,h3⟩,h4⟩;refine⟨h2,λj n e=>?_⟩;by_cases z:j<l.length
   .rw[Wj z]at e;exact h3 j n e
   .have hj:j=l.length:=by
     have:=(glE e);rw[VJ,Wa]at this;lia
    subst hj;rw[Ww (VG _),YY]at e;cases e;exact h4
  .rintro⟨h2,h3⟩;refine⟨⟨h2,λj n e=>h3 j n ?_⟩,h3 l.length a ?_⟩
   .rw[Wj (glE e)];exact e
   .rw[Ww (VG _),YY];rfl
def InB(lo hi:Nat->Nat)(ks:List Nat):Prop:=∀j n,ks[j]?=A? n->lo j<=n/\n<hi j
theorem InB.snoc{lo hi:Nat->Nat}{ks:List Nat}:InB lo hi (ks++[n])↔InB lo hi ks/\lo ks.length<=n/\n<hi ks.length:=by
 constructor
 .intro h;refine⟨λj m e=>h j m ?_,h ks.length n ?_⟩
  .rw[Wj (glE e)];exact e
  .rw[Ww (VG _),YY];rfl
 .rintro⟨h1,h2⟩ j m e;by_cases z:j<ks.length
  .rw[Wj z]at e;exact h1 j m e
  .have hj:j=ks.length:=by
    have:=(glE e);rw[VJ,Wa]at this;lia
   subst hj;rw[Ww (VG _),YY]at e;cases e;exact h2
def SrcP(AG:List (List Int))(sz:List Int)(all:Int)(lo hi:Nat->Nat)(p:Nat)(x:Cand):Prop:=∃ks:List Nat,ks.length=p/\InB lo hi ks/\x=cnd AG sz all ks
theorem SrcP.zero(AG:List (List Int))(sz:List Int)(all:Int)(lo hi:Nat->Nat)(x:Cand):x=⟨all,0,[]⟩↔SrcP AG sz all lo hi 0 x:=by
 constructor
 .rintro rfl;exact⟨[],D?,λj n e=>by simp at e,D?⟩
 .rintro⟨ks,h,_,rfl⟩;cases ks with
  |nil=>rfl
  |cons a l=>simp at h
theorem SrcP.succ(AG:List (List Int))(sz:List Int)(all:Int)(lo hi:Nat->Nat)(p:Nat)(ns:List Nat)(AE:∀n,n∈ns↔lo p<=n/\n<hi p)(x:Cand) :
 (∃e,SrcP AG sz all lo hi p e/\∃n∈ns,x=e.ext (AG.getD p []) sz n)↔SrcP AG sz all lo hi (p+1) x:=by
 constructor
 .rintro⟨e,⟨ks,h1,h2,rfl⟩,n,hn,rfl⟩;refine⟨ks++[n],by simp[h1],InB.snoc.mpr ⟨h2,by rw[h1];exact(AE n).mp hn⟩,?_⟩;rw[gx,h1]
 .rintro⟨ks,h1,h2,rfl⟩;have zk:ks≠[]:=λz=>by rw[z]at h1;simp at h1
  obtain⟨l,a,rfl⟩:∃l a,ks=l++[a]:=⟨_,_,(XS zk).symm⟩;rw[VJ,Wa]at h1;obtain⟨h3,h4⟩:=InB.snoc.mp h2;have hl:l.length=p:=by lia
  exact⟨_,⟨l,hl,h3,D?⟩,a,(AE a).mpr (by rw[<-hl];exact h4),by rw[gx,hl]⟩
def loF(last first p:Nat):Nat:=if p=first then last else 0
def hiF(last first p:Nat):Nat:=if p<first then last else last+1
theorem lC{last:Nat}{ks:List Nat}(hl:ks.length=m):(∃first,first<m/\InB (loF last first) (hiF last first) ks)↔(∀n∈ks,n<=last)/\last∈ks:=by
 constructor
 .rintro⟨f,hf,h⟩;obtain⟨n,hn⟩:∃n,ks[f]?=A? n:=⟨_,Vw (by lia)⟩;have h1:=h f n hn;unfold loF hiF at h1;rw[b! rfl,a! (W0 _)]at h1;refine⟨λa ha=>?_,?_⟩
  .obtain⟨j,hj⟩:=VL.mp ha;have h2:=(h j a hj).2;unfold hiF at h2;split at h2 <;> lia
  .have:n=last:=by lia
   rw[<-this];exact Vx hn
 .rintro⟨h1,h2⟩;refine⟨ks.idxOf last,by rw[<-hl];exact ZI h2,λj n e=>?_⟩;have hn:=h1 n (Vx e);unfold loF hiF;have hj:=(glE e);refine⟨?_,?_⟩
  .split
   .rename_i z
    have h3:=List.findIdx_getElem (p:=λx=>x == last) (xs:=ks) (w:=ZI h2)
    have h4:ks[ks.idxOf last]?=A? last:=by
     rw[Vw (ZI h2)];exact h! A? (eq_of_beq h3)
    rw[<-z,e]at h4;cases h4;exact VG _
   .exact Wh _
  .split
   .rename_i z
    have:n≠last:=λy=>by
     have h3:=List.not_of_lt_findIdx (p:=λx=>x == last) (xs:=ks) (i:=j) z;rw[Vw hj]at e;cases e;simp[y]at h3
    lia
   .lia
end BB
namespace HT
open PySem PyProof.Rows PySem.SeqAt
open PySem.AutoSeq1 (wpAny_loadPart')
open PySem.MeetsSeq PySem.MeetsSeq2 PySem.MeetsSeq3
theorem tuple_lt_two(l b:Vy)(v1 v2 w1 w2:Vz)(n n2:Nat)(dd Ck:Option Vy)(sl Cm:Array (Option Vz))(e1 e2 b1 b2:Bool) :
 Meets (YC.«tuple.__lt__» ⟨[.ref l,.ref b],[]⟩)
  (λA R s=>s.1.get? l=A? {cls:=.type "tuple",dict:=dd,data:=.seq #[v1,v2] n,slots:=sl}/\s.1.get? b=A? {cls:=.type "tuple",dict:=Ck,data:=.seq #[w1,w2] n2,slots:=Cm} /\
   EqAt A.in1 s v1 w1 e1/\EqAt A.in1 s v2 w2 e2/\(e1=C?->∀prog w E Q,Q (.bool b1) s->VW (Wb prog w) A.in1 (richCompare .Lt v1 w1) Q E s)/\(e2=C?->∀prog w E Q,Q (.bool b2) s->VW (Wb prog w) A.in1 (richCompare .Lt v2 w2) Q E s) /\
   R (.ok (.ret (.bool (if e1=B? then(if e2=B? then C? else b2)else b1)))) s) :=
 .of_wp λprog w A R s h=>by
  obtain⟨hp,g,d,tk,os⟩:=s;obtain⟨hl,hb,q1,q2,r1,r2,h⟩:=h;have f2:=AutoSeq1.sub_tuple_tuple
  wp_walk using wpAny_loadPart' hl,wpAny_loadPart' hb,wpAny_forIn_list _ (λrest b s'=>b.1=AQ/\s'=⟨hp,g,d,tk,os⟩/\((rest=[(v1,w1),(v2,w2)]/\R (.ok (.ret (.bool (if e1=B? then(if e2=B? then C? else b2)else b1)))) ⟨hp,g,d,tk,os⟩)\/(rest=[(v2,w2)]/\R (.ok (.ret (.bool (if e2=B? then C? else b2)))) ⟨hp,g,d,tk,os⟩)\/(rest=[]/\R (.ok (.ret (.bool C?))) ⟨hp,g,d,tk,os⟩))) _
  case turn =>
   rintro⟨y,x⟩ rest b s' ⟨zB,rfl,⟨hz,hR⟩|⟨hz,hR⟩|⟨hz,hR⟩⟩
   .injection hz with Hv Bu;injection Hv with hy hx;subst hy hx;refine Vv (q1 prog w _ _ ?_);cases e1 with
    | true =>
      rw[b! rfl]at hR
      wp_walk
      exact⟨D?,D?,.inr (.inl ⟨Bu,hR⟩)⟩
    | false =>
      rw[a! VY]at hR;have Hz:=r1 rfl prog w
      wp_walk using Hz
      exact⟨_,D?,by simpa using hR⟩
   .injection hz with Hv Bu;injection Hv with hy hx;subst hy hx;refine Vv (q2 prog w _ _ ?_);cases e2 with
    | true =>
      rw[b! rfl]at hR
      wp_walk
      exact⟨D?,D?,.inr (.inr ⟨Bu,hR⟩)⟩
    | false =>
      rw[a! VY]at hR;have Hz:=r2 rfl prog w
      wp_walk using Hz
      exact⟨_,D?,by simpa using hR⟩
   .cases hz
  case fin =>
   rintro⟨c1,c2⟩ s' ⟨zB,rfl,⟨hz,hR⟩|⟨hz,hR⟩|⟨hz,hR⟩⟩
   .cases hz
   .cases hz
   simp only at zB;subst zB
   wp_walk
   exact⟨_,D?,by simpa[Builtin.Tuple.tupleCompareSizes]using hR⟩
  case h =>
   exact⟨D?,D?,.inl ⟨D?,h⟩⟩
end HT
namespace L2
open PySem PySem.Spec PySem.Calls PyProof.Rows PySem.SeqAt
def lQ(H:Hp)(κ:Vy)(k:Int×List Int):Prop:=∃na,H κ=A? (.tup [.int k.1,.ref na])/\H na=A? (.tup (k.2.map o!))
def keyLt(a b:Int×List Int):Bool:=if a.1=b.1 then F! a.2 b.2 else decide (a.1<b.1)
theorem jA:∀l:List Int,F! l l=C?
 | []=>rfl
 |x::l=>by rw[O!,b! rfl,jA l]
theorem gK:∀ns:List Int,BB.DAts H (ns.map y!) (ns.map o!)
 | []=>by rw[XI,XI,BB.DAts]
 |n::ns=>by rw[V6,V6,BB.DAts];exact⟨_,_,D?,by rw[BB.DAt],gK ns⟩
theorem lA:∀{a b:List Int},a.map y!=b.map y!->a=b
 | [],[],_=>rfl
 | [],_::_,h=>by cases h
 |_::_,[],h=>by cases h
 | x::a,y::b,h=>by
   rw[V6,V6]at h;injection h with h1 h2;injection h1 with h1;rw[h1,lA h2]
theorem io:∀ns:List Int,BB.cb (ns.map y!)<=1
 | []=>by rw[XI,BB.cb];lia
 | n::ns=>by
   have:=io ns;rw[V6,BB.cb,Q!];lia
open Classical in
theorem xq{X:Cx}(I:Inv X Y σ H s){k m:Int×List Int}(ha:lQ H a k)(hb:lQ H b m)(hu:A.units+4<Yd)(q:Q (.bool (keyLt k m)) s) :
 VW (Wb X.prog X.w) A (richCompare .Lt (.ref a) (.ref b)) Q E s:=by
 obtain⟨na,ea,en⟩:=ha;obtain⟨ma,eb,em⟩:=hb;obtain⟨its,r1,p1,_⟩:=I.tuple (i! (K:=X.K) ea);obtain⟨zc,r2,p2,_⟩:=I.tuple (i! (K:=X.K) eb);obtain⟨u1,u2,rfl,⟨t,rfl⟩,q2⟩:=vals2 r1;obtain⟨w1,w2,rfl,⟨t',rfl⟩,q3⟩:=vals2 r2;obtain rfl:u2=Wf na:=q2;obtain rfl:w2=Wf ma:=q3;obtain⟨⟨cls,dd,data,sl⟩,ho,hc,n,hd⟩:=id p1;obtain⟨⟨Ea,Ck,data2,Cm⟩,CB,AX,n2,hd2⟩:=id p2;simp only at hc hd AX hd2;subst hc hd AX hd2
 have h2:=j1 I _ (.tup (k.2.map y!)) (.tup (m.2.map y!)) (VG _) (.ref na) (.ref ma) (.ref na) (.ref ma) A.in1 (by rw[BB.DAt];exact⟨na,_,D?,en,gK _⟩) (by rw[BB.DAt];exact⟨ma,_,D?,em,gK _⟩) rfl rfl (by
  have:=io k.2;rw[Q!];show A.units+1+_<Yd;lia)
 obtain⟨RN,r3,p3,_⟩:=I.tuple (i! (K:=X.K) en);obtain⟨RO,r4,p4,_⟩:=I.tuple (i! (K:=X.K) em);obtain⟨e1,g1,g2⟩:=HT.eqAt_int A.in1 s k.1 t m.1 t';refine richCompare_meets_room (op:=.Lt) ⟨_,ho,rfl⟩ ⟨_,CB,rfl⟩ PySem.F.slot_tuple_lt PySem.F.entry_tuple_lt (PySem.F.args_tuple_lt_2 _ _) (HT.tuple_lt_two a b (.int k.1 t) (.ref na) (.int m.1 t') (.ref ma) n n2 dd Ck sl Cm e1 (decide (E! (k.2.map y!)=E! (m.2.map y!))) (decide (k.1<m.1)) (F! k.2 m.2)) ?_ (by lia);refine⟨ho,CB,g1,h2,λ_ prog w E Q h=>HT.rcLt_int _ s _ _ _ _ prog w E Q h,λ_ prog w E Q h=>(HT.lt_tupInts p3 p4 (intsAre_of r3) (intsAre_of r4) (show A.units+1<Yd by lia) h:VW (Wb prog w) A.in1 (Xv .Lt (.ref na) (.ref ma)) Q E s),(λx=>nomatch x),?_⟩
 have e:keyLt k m=(if e1=B? then(if decide (E! (k.2.map y!)=E! (m.2.map y!))=B? then C? else F! k.2 m.2)else decide (k.1<m.1)):=by
  unfold keyLt;by_cases h1:k.1=m.1
  .rw[b! h1,b! (g2.mpr h1)];by_cases h3:k.2=m.2
   .rw[h3,jA,b! (d! rfl)]
   .rw[a!];intro z;exact h3 (lA (BB.Dv.tup.inj (e! z)))
  .rw[a! h1,a! (λz=>h1 (g2.mp z))]
 rw[<-e];exact q
theorem jM:∀{a b c:List Int},F! a b=B?->F! b c=B?->F! a c=B?
 | [],[],_,h,_=>by cases h
 |_::_,[],_,h,_=>by cases h
 | [],_::_,[],_,h=>by cases h
 | [],_::_,_::_,_,_=>rfl
 |_::_,_::_,[],_,h=>by cases h
 | x::a,y::b,z::c,h,g=>by
   rw[O!]at h g |-;by_cases e:x=y
   .rw[b! e]at h;subst e;by_cases e2:x=z
    .rw[b! e2]at g |-;exact jM h g
    .rw[a! e2]at g |-;exact g
   .rw[a! e]at h;have h:=e! h;by_cases e2:y=z
    .subst e2;rw[a! e];exact d! h
    .rw[a! e2]at g;have g:=e! g;rw[a! (by lia)];exact d! (by lia)
theorem keyLt_trans{a b c:Int×List Int}(h:keyLt a b=B?)(g:keyLt b c=B?):keyLt a c=true:=by
 unfold keyLt at h g |-;by_cases e:a.1=b.1
 .rw[b! e]at h;by_cases e2:b.1=c.1
  .rw[b! e2]at g;rw[b! (e.trans e2)];exact jM h g
  .rw[a! e2]at g;rw[a! (by lia),e];exact g
 .rw[a! e]at h;have h:=e! h;by_cases e2:b.1=c.1
  .rw[a! (by lia),<-e2];exact d! h
  .rw[a! e2]at g;have g:=e! g;rw[a! (by lia)];exact d! (by lia)
theorem fu(a:Int×List Int):keyLt a a=false:=by
 unfold keyLt;rw[b! rfl,jA]
section
variable{X:Cx}{H0:Hp}{q I S:Vy}{ws:List V}{key:Nat->Int×List Int}{k:Nat}{R:Result->VF->Prop}
structure yp(X:Cx)(Y:List (Vy×Xw))(σ:St)(H0:Hp)(l I S:Vy)(ws:List V)(key:Nat->Int×List Int)(H:Hp)(s:VF)(j i:Nat)(vb:Vz)(κ:Vy)(c:Nat):Prop where
 inv:Inv X Y σ H s
 fI:FpOk X Y H I
 fS:FpOk X Y H S
 it:s.1.IsListIter I l j
 st:s.1.get? S=A? (seqObj "list" #[vb,.ref κ] c)
 sm:Same H0 H
 rv:∃x,ws[i]?=A? x/\RelV x vb
 ky:lQ H κ (key i)
theorem FpOk.of(f:FpOk X Y H b)(h:H' b=AQ):FpOk X Y H' b:=⟨h,f.2⟩
theorem oJ(hc:X.calm=B?)(hr:Room (k+1) X.A)(F:rO X.prog X.w X.K X.mg X.base CX0 k q sp)(I1:Inv X Y σ H s)(fI:FpOk X Y H I)(fS:FpOk X Y H S){oI oS:Xw}(gI:s.1.get? I=A? oI)(gS:s.1.get? S=A? oS)
 (cI:∀v,oI.data≠.cell v) (cS:∀v,oS.data≠.cell v) {x:V} {v:Vz} (rx:RelV x v) {m:Int×List Int} (h:sp [x] H (λr H'=>∃κ,r=.ref κ/\Same H H'/\lQ H' κ m) E0)
 (hQ:∀κ H' s',Inv X Y σ H' s'->FpOk X Y H' I->FpOk X Y H' S->s'.1.get? I=A? oI->s'.1.get? S=A? oS->Same H H'->lQ H' κ m->Q (.ref κ) s') :
 VW (Wb X.prog X.w) X.A.in1 (call (.ref q) [v]) Q E s:=by
 have hf:∀b∈[I,S],FpOk X Y H b:=λb hb=>by
  rcases VS.mp hb with rfl|hb
  .exact fI
  .rw[VH.mp hb];exact fS
 have hp:=I1.pinned hf λb hb=>by
  rcases VS.mp hb with rfl|hb
  .exact⟨_,gI,cI⟩
  .rw[VH.mp hb];exact⟨_,gS,cS⟩
 refine wpAny_call (Z6 (F.run X.A.in1 X.stack s H [v] [x] _ _ hr.in1 hp.env0.in1 (.cons rx .nil) h) λr s' hq=>?_);cases r with
 |error e=>exact hq.elim
 | ok fl =>
   cases fl with
   |next=>exact hq.elim
   |brk=>exact hq.elim
   |cont=>exact hq.elim
   | ret u =>
     obtain⟨y,H',I2,ry,κ,rfl,sm,ky⟩:=hp.after hq;obtain rfl:u=Wf κ:=ry;have pI:=I2.pin _ (V9 _ (V9 _ (cY (VO ..) gI)));have pS:=I2.pin _ (V9 _ (V9 _ (cY (VR _ (VO ..)) gS)));exact hQ κ H' s' I2.unpinned (fI.of pI.2.1) (fS.of pS.2.1) pI.1 pS.1 sm ky
theorem uq(hc:X.calm=B?)(hr:Room (k+1) X.A)(Mn:I≠S)(hl:H0 l=A? (.lst ws))(F:rO X.prog X.w X.K X.mg X.base CX0 k q sp)
 (turn:∀i x H,ws[i]?=A? x->Same H0 H->sp [x] H (λr H'=>∃κ,r=.ref κ/\Same H H'/\lQ H' κ (key i)) E0)
 (hR:∀i x vb H s,Inv X Y σ H s->Same H0 H->ws[i]?=A? x->RelV x vb->(∀j,j<ws.length->keyLt (key j) (key i)=C?)->R (.ok (.ret vb)) s) :
 ∀(r j i:Nat)(H:Hp)(s:VF)(vb:Vz)(κ:Vy)(c:Nat),ws.length - j=r->j<=ws.length->yp X Y σ H0 l I S ws key H s j i vb κ c->(∀j',j'<j->keyLt (key j') (key i)=C?) ->
   Y0 (Wb X.prog X.w) X.A (.builtin "min.loop" ⟨[.ref I,.ref q,.ref S],[]⟩) R s:=by
 have BH:(toString "min"++toString ".loop":String)="min.loop":=by decide
 have hh:=X.A.handled;intro r;induction r with
 | zero =>
   intro j i H s vb κ c Bp hj M hb;obtain⟨its,rv,pl,_⟩:=M.inv.list (l! (M.sm _ _ hl));have W:=Walks.list (prog:=X.prog) (w:=X.w) (A:=X.A.in1) hr.hd I l (λz=>by have:=M.fI.1;rw[<-z,M.sm _ _ hl]at this;cases this) its.toArray;have hsz:its.toArray.size=j:=by rw[VM,<-rv.length];lia
   refine YU PySem.F.entry_min_loop ?_;rw[XZ XG _];show VW _ X.A.in1 (seqItems? (.ref S) >>= _) _ _ _;refine Vv (Xc M.st rfl ?_);show VW _ X.A.in1 (tryCatch (YE (.ref I)) _ >>= _) _ _ _;refine Vv (Zr (W.done _ _ _ ⟨by rw[hsz];exact M.it,pl.isList⟩ λh' Iq zt=>?_));have I2:=M.inv.turned (h':=h') (t':=Iq) (it:=I) (λb o zB e=>zt b o (by simpa using zB) e) M.fI.1 M.fI.2.1 M.fI.2.2.2.1 M.fI.2.2.2.2.1 M.fI.2.2.2.2.2;have gS:=zt S _ (by simpa using Mn.symm) M.st;show VW _ X.A.in1 (updateSeq S (λ_=>#[]) >>= _) _ _ _;refine Vv ?_;refine Xq gS rfl (Vv (Yq (VC ?_)));obtain⟨x,hx,rx⟩:=M.rv;refine hR i x vb H _ (I2.turned (it:=S) (λb o zB e=>?_) M.fS.1 M.fS.2.1 M.fS.2.2.2.1 M.fS.2.2.2.2.1 M.fS.2.2.2.2.2) M.sm hx rx λj' GP=>hb j' (by lia);exact(Xb h' S (WV λ_=>(#[]:Array Vz))).2 b zB |>.trans e
 | succ r ih =>
   intro j i H s vb κ c Bp hj M hb;obtain⟨its,rv,pl,_⟩:=M.inv.list (l! (M.sm _ _ hl));have W:=Walks.list (prog:=X.prog) (w:=X.w) (A:=X.A.in1) hr.hd I l (λz=>by have:=M.fI.1;rw[<-z,M.sm _ _ hl]at this;cases this) its.toArray;have hlen:=rv.length;have yZ:j<its.toArray.size:=by rw[VM];lia
   refine YU PySem.F.entry_min_loop ?_;rw[XZ XG _];show VW _ X.A.in1 (seqItems? (.ref S) >>= _) _ _ _;refine Vv (Xc M.st rfl ?_);show VW _ X.A.in1 (tryCatch (YE (.ref I)) _ >>= _) _ _ _;refine Vv (Zr (W.item j _ _ _ yZ ⟨M.it,pl.isList⟩ λv h' Iq hP Dk zt=>?_));have hv:its[j]?=A? v:=by simpa using hP
   obtain⟨x,hx,rx⟩:∃x,ws[j]?=A? x/\RelV x v:=by
    obtain⟨x,hx⟩:∃x,ws[j]?=A? x:=⟨_,Vw (by lia)⟩;obtain⟨v',h1,h2⟩:=rv.get hx;rw[hv]at h1;cases h1;exact⟨x,hx,h2⟩
   have I2:=M.inv.turned (h':=h') (t':=Iq) (it:=I) (λb o zB e=>zt b o (by simpa using zB) e) M.fI.1 M.fI.2.1 M.fI.2.2.2.1 M.fI.2.2.2.2.1 M.fI.2.2.2.2.2;have gS:=zt S _ (by simpa using Mn.symm) M.st;obtain⟨oI,Mo,EF,Ei⟩:=id Dk.1;show VW _ X.A.in1 (tryCatch (holding [v] (call (.ref q) [v])) _ >>= _) _ _ _;refine Vv (Zr (WT (oJ hc hr F I2 M.fI M.fS Mo gS (λz e=>by rw[Ei]at e;cases e) (λz e=>by cases e) rx (turn j x H hx M.sm) λCr H2 s2 I3 Kx Cs Ky GQ Ir Kz=>?_)));have OZ:=M.sm.trans Ir
   have O0:lQ H2 κ (key i):=by
    obtain⟨na,e1,e2⟩:=M.ky;exact⟨na,Ir _ _ e1,Ir _ _ e2⟩
   show VW _ X.A.in1 (tryCatch (holding [v,.ref Cr] (richCompare .Lt (.ref Cr) (.ref κ) >>= _)) _ >>= _) _ _ _;refine Vv (Zr (WT (Vv (xq I3 Kz O0 (by have:=hr.units;show X.A.units+1+4<Yd;lia) ?_))));refine Vv (WT (Yp ?_));refine Vv (Yq (VC ?_));have RP:s2.1.IsListIter I l (j+1):=⟨oI,Ky,EF,Ei⟩;by_cases zB:keyLt (key j) (key i)=B?
   .simp only[zB,if_true];obtain⟨c2,AX⟩:∃c2,(s2.1.update S (WV λ_=>#[v,.ref Cr])).get? S=A? (seqObj "list" #[v,.ref Cr] c2):=⟨_,get?_update_seq GQ λ_=>#[v,.ref Cr]⟩;have sb:=Xb s2.1 S (WV λ_=>#[v,.ref Cr]);refine Vv ?_;refine Xq GQ rfl (Vv (Yq ?_));rw[BH];refine VC ⟨Yx XG _,ih (j+1) j H2 _ v Cr c2 (by lia) (by lia) ⟨I3.turned (it:=S) (λb o hn e=>(sb.2 b hn).trans e) Cs.1 Cs.2.1 Cs.2.2.2.1 Cs.2.2.2.2.1 Cs.2.2.2.2.2,Kx,Cs,⟨oI,(sb.2 I Mn).trans Ky,EF,Ei⟩,AX,OZ,⟨x,hx,rx⟩,Kz⟩ λj' GP=>?_⟩;by_cases e:j'=j
    .rw[e];exact fu _
    .have h1:=hb j' (by lia);cases h2:keyLt (key j') (key j)with
     |false=>rfl
     |true=>rw[keyLt_trans h2 zB]at h1;cases h1
   .simp only[zB,if_false];refine Vv (Yq ?_);rw[BH];refine VC ⟨Yx XG _,ih (j+1) i H2 _ vb κ c (by lia) (by lia) ⟨I3,Kx,Cs,RP,GQ,OZ,M.rv,O0⟩ λj' GP=>?_⟩;by_cases e:j'=j
    .rw[e];cases h2:keyLt (key j) (key i)with
     |false=>rfl
     |true=>exact g! h2 zB
    .exact hb j' (by lia)
theorem uX(hc:X.calm=B?)(hr:Room (k+1) X.A)(hl:H0 l=A? (.lst ws))(zk:0<ws.length)(F:rO X.prog X.w X.K X.mg X.base CX0 k q sp)(I0:Inv X Y σ H0 s)
 (turn:∀i x H,ws[i]?=A? x->Same H0 H->sp [x] H (λr H'=>∃κ,r=.ref κ/\Same H H'/\lQ H' κ (key i)) E0)
 (hR:∀i x vb H s,Inv X Y σ H s->Same H0 H->ws[i]?=A? x->RelV x vb->(∀j,j<ws.length->keyLt (key j) (key i)=C?)->Q vb s) :
 VW (Wb X.prog X.w) X.A (call (.builtin "min") [.ref l] [(VE "key",.ref q)]) Q E s:=by
 have BH:(toString "min"++toString ".loop":String)="min.loop":=by decide
 obtain⟨its,rv,pl,_⟩:=I0.list (l! hl);have hlen:=rv.length;obtain⟨ol,FJ,_⟩:=id pl.isList;have U3:l<s.1.1.size:=V2 FJ;refine kmk_tree PySem.F.kind_min PySem.F.plain_min PySem.F.entry_min (kmk_min_key _ _) ?_;show VW _ X.A.in1 (Builtin.Builtins.bindParams "min" ["key","default"] 0 ⟨[],[(VE "key",.ref q)]⟩ >>= _) _ _ s;refine Vv (wpAny_of_eq (show Builtin.Builtins.bindParams "min" ["key","default"] 0 ⟨[],[(VE "key",.ref q)]⟩=pure [A? (.ref q),AQ]from rfl) ?_);refine Vv (VC ?_);refine Vv (wpAny_pyIter_list pl.isList ?_);refine Vv (wpAny_newList ?_ (Wh _));rw[BH];have hS:(s.1.push {cls:=.type "list_iterator",data:=.fields #[.ref l,.int 0 0]}).objs.size=s.1.1.size+1:=size_push' ..;have HW:(s.1.push {cls:=.type "list_iterator",data:=.fields #[.ref l,.int 0 0]}).objs.size≠s.1.1.size:=by rw[hS];exact YA (Nat.lt_succ_self _)
 refine VC ⟨Yx XG _,?_⟩
 have gI:((s.1.push {cls:=.type "list_iterator",data:=.fields #[.ref l,.int 0 0]}).push (seqObj "list" #[] 0)).get? s.1.1.size=A? {cls:=.type "list_iterator",data:=.fields #[.ref l,.int 0 0]} :=
  VB _ (VI _ rfl)
 have gS:((s.1.push {cls:=.type "list_iterator",data:=.fields #[.ref l,.int 0 0]}).push (seqObj "list" #[] 0)).get? (s.1.push {cls:=.type "list_iterator",data:=.fields #[.ref l,.int 0 0]}).objs.size=A? (seqObj "list" #[] 0):=VI _ rfl;have I1:Inv X Y σ H0 {s with heap:=(s.1.push {cls:=.type "list_iterator",data:=.fields #[.ref l,.int 0 0]}).push (seqObj "list" #[] 0),toks:=s.toks}:=I0.kept (t':=s.toks) λb u e=>VB _ (VB _ e);have fI:FpOk X Y H0 s.1.1.size:=I0.fpOk (VG _) (I0.hok.fresh (VG _))
 have fS:FpOk X Y H0 (s.1.push {cls:=.type "list_iterator",data:=.fields #[.ref l,.int 0 0]}).objs.size:=by
  have h:s.1.1.size<=(s.1.push {cls:=.type "list_iterator",data:=.fields #[.ref l,.int 0 0]}).objs.size:=by rw[hS];lia
  exact I0.fpOk h (I0.hok.fresh h)
 have RQ:=(I1.list (l! hl));obtain⟨its,rv,pl,_⟩:=RQ;have hlen:=rv.length;generalize(s.1.push {cls:=.type "list_iterator",data:=.fields #[.ref l,.int 0 0]}).objs.size=S at*;generalize s.1.1.size=I at*;have W:=Walks.list (prog:=X.prog) (w:=X.w) (A:=X.A.in1) hr.hd I l (λz=>by have:=fI.1;rw[<-z,hl]at this;cases this) its.toArray;refine YU PySem.F.entry_min_loop ?_;rw[XZ XG _];show VW _ X.A.in1 (seqItems? (.ref _) >>= _) _ _ _;refine Vv (Xc gS rfl ?_);show VW _ X.A.in1 (tryCatch (YE (.ref I)) _ >>= _) _ _ _;refine Vv (Zr (W.item 0 _ _ _ (by rw[VM];lia) ⟨⟨_,gI,rfl,rfl⟩,pl.isList⟩ λv h' Iq hP Dk zt=>?_));have hv:its[0]?=A? v:=by simpa using hP
 obtain⟨x,hx,rx⟩:∃x,ws[0]?=A? x/\RelV x v:=by
  obtain⟨x,hx⟩:∃x,ws[0]?=A? x:=⟨_,Vw zk⟩;obtain⟨v',h1,h2⟩:=rv.get hx;rw[hv]at h1;cases h1;exact⟨x,hx,h2⟩
 have I2:=I1.turned (h':=h') (t':=Iq) (it:=I) (λb o zB e=>zt b o (by simpa using zB) e) fI.1 fI.2.1 fI.2.2.2.1 fI.2.2.2.2.1 fI.2.2.2.2.2;have RR:=zt S _ (by simpa using HW) gS;obtain⟨oI,Mo,EF,Ei⟩:=id Dk.1;show VW _ X.A.in1 (tryCatch (holding [v] (call (.ref q) [v])) _ >>= _) _ _ _;refine Vv (Zr (WT (oJ hc hr F I2 fI fS Mo RR (λz e=>by rw[Ei]at e;cases e) (λz e=>by cases e) rx (turn 0 x H0 hx (λ_ _ e=>e)) λCr H2 s2 I3 Kx Cs Ky GQ Ir Kz=>?_)));obtain⟨c2,AX⟩:∃c2,(s2.1.update S (WV λ_=>#[v,.ref Cr])).get? S=A? (seqObj "list" #[v,.ref Cr] c2):=⟨_,get?_update_seq GQ λ_=>#[v,.ref Cr]⟩;have sb:=Xb s2.1 S (WV λ_=>#[v,.ref Cr]);show VW _ X.A.in1 (updateSeq S (λ_=>#[v,.ref Cr]) >>= _) _ _ _;refine Vv ?_;refine Xq GQ rfl ?_;rw[BH];refine VC ⟨Yx XG _,uq hc hr HW.symm hl F turn hR _ 1 0 H2 _ v Cr c2 rfl zk ⟨I3.turned (it:=S) (λb o hn e=>(sb.2 b hn).trans e) Cs.1 Cs.2.1 Cs.2.2.2.1 Cs.2.2.2.2.1 Cs.2.2.2.2.2,Kx,Cs,⟨oI,(sb.2 I HW.symm).trans Ky,EF,Ei⟩,AX,Ir,⟨x,hx,rx⟩,Kz⟩ λj' GP=>?_⟩;have e:j'=0:=by lia
 rw[e];exact fu _
end
inductive v9(X:Cx)(k:Nat)(vs:List V)(f:V)(H2:Hp)(Q:VK):Prop
 |mk (l q:Vy) (ws:List V) (key:Nat->Int×List Int) (sp:Sp) (e1:vs=[.ref l]) (e2:f=.ref q) (hl:H2 l=A? (.lst ws)) (hn:0<ws.length) (F:rO X.prog X.w X.K X.mg X.base CX0 k q sp)
  (turn:∀i x H,ws[i]?=A? x->Same H2 H->sp [x] H (λr H'=>∃κ,r=.ref κ/\Same H H'/\lQ H' κ (key i)) E0)
  (hR:∀i x H',ws[i]?=A? x->Same H2 H'->(∀j,j<ws.length->keyLt (key j) (key i)=C?)->Q x H'):v9 X k vs f H2 Q
def xL(X:Cx)(k:Nat)(t:TA)(tf:TE):TE:=λσ H Q=>t σ H λvs H1=>tf σ H1 λf H2=>v9 X k vs f H2 Q
theorem uI{X:Cx}{k:Nat}{f:WB}{t:TA}{tf:TE}{p kp:YF}(hc:X.calm=B?)(hr:Room (k+1) X.A)(hg:Gl X "min")(hm:X.mg "min"=AQ)(ha:PA X [e] t)(hf:PE X f tf)
 (h1:Yy pos (Wu [e] X.env)=(C?,XD e X.env)::Yy pos (Wu [] X.env):=by rfl) (h2:(Yy pos (Wu [e] X.env)).any (·.1)=false:=by rfl) :
 PE X (.Call (.Name "min" p) [e] [⟨A? "key",f,kp⟩] pos) (xL X k t tf):=by
 intro Y s σ H Q I h;refine W2 (dz I hg hm boot_min ?_);refine callWith_kw (thn (ha pos Y s σ H _ I h) λus s1⟨vs,H1,I1,r1,q1⟩=>kws_cons (thn (hf Y s1 σ H1 _ I1 q1) λu2 s2⟨f',H2,I2,r2,q2⟩=>kws_nil ?_)) h1 h2;obtain⟨l,q,ws,key,sp,rfl,rfl,hl,hn,F,turn,hR⟩:=q2;obtain⟨u,rfl,ru⟩:=vals1 r1;obtain rfl:u=Wf l:=ru;obtain rfl:u2=Wf q:=r2;exact uX hc hr hl hn F I2 turn λi x vb H3 s3 I3 sm hx rx hb=>⟨x,H3,I3,rx,hR i x H3 hx sm hb⟩
theorem tK{acc:List Vz}:∀(n k:Nat),acc.length=n->(∀i v,acc[i]?=A? v->∃t,v=Value.int ((k+i:Nat):Int) t)->Vals ((YV k n).map λ(i:Nat)=>o! (i:Nat)) acc:=by
 induction acc with
 |nil=>intro n k hn _;subst hn;exact .nil
 | cons a acc ih =>
   intro n k hn h;subst hn;rw[VU,List.range'_succ,V6];refine .cons ?_ (ih _ (k+1) rfl λi v hv=>?_)
   .obtain⟨t,e⟩:=h 0 a rfl;exact⟨t,e⟩
   .obtain⟨t,e⟩:=h (i+1) v hv;refine⟨t,?_⟩;rw[e];congr 2;lia
section
variable{X:Cx}{t:TA}{p p2 zq:YF}
end
section
variable{X:Cx}
theorem yd:PIp X .BitOr (ipI λi j=>XT i j):=by
 intro Y s σ H x y v u Q I r1 r2 h;obtain⟨i,j,e1,e2,q⟩:=h;subst e1;subst e2;obtain⟨t,rfl⟩:=r1;obtain⟨t',rfl⟩:=r2;exact ior_int ⟨.int _,H,I.tok _,⟨_,rfl⟩,q⟩
end
def wo(t:TA):TE:=λσ H Q=>t σ H λvs H1=>∃i j:Nat,vs=[.int (i:Nat),.int (j:Nat)]/\j<=1000000/\i<=1000000/\∀l:Vy,H1 l=AQ->Q (.ref l) (upd H1 l (.lst ((YV i (j - i)).map λ(i:Nat)=>o! (i:Nat))))
section
variable{X:Cx}{e1 e2:WB}{t:TA}{p p2 zq:YF}
theorem tQ(hc:X.calm=B?)(g1:Gl X "list")(m1:X.mg "list"=AQ)(g2:Gl X "range")(m2:X.mg "range"=AQ)(ha:PA X [e1,e2] t)
 (h1:Wu [.Call (.Name "range" p2) [e1,e2] [] zq] X.env=[(C?,XD (.Call (.Name "range" p2) [e1,e2] [] zq) X.env)]:=by rfl) (h2:Wu [e1,e2] X.env=(C?,XD e1 X.env)::Wu [e2] X.env:=by rfl) (h3:(Yy zq (Wu [e2] X.env)).any (·.1)=false:=by rfl) :
 PE X (.Call (.Name "list" p) [.Call (.Name "range" p2) [e1,e2] [] zq] [] pos) (wo t):=by
 intro Y s σ H Q I h;refine W2 (dz I g1 m1 boot_list (WW ?_ h1 rfl));rw[h1];show VW _ _ (spliced ((C?,XD (.Call (.Name "range" p2) [e1,e2] [] zq) X.env)::[])) _ _ s;refine XE ?_;refine W2 (dz I g2 m2 boot_range (WW (thn (ha zq Y s σ H _ I h) λus s2⟨vs,H2,I2,r,i,j,ev,hj,hi,q⟩=>?_) h2 h3));subst ev;obtain⟨u,u',rfl,⟨ti,rfl⟩,⟨tu,rfl⟩⟩:=vals2 r;refine call_range_2 (X1 ?_);have hh:X.A.handled=none:=I2.ok.hd hc
 have hs:Builtin.Range.rangeSize (i:Nat) (j:Nat) 1=((j - i:Nat):Int):=by
  rw[rangeSize_one];split <;> lia
 refine call_list_range hh (IsRange.new ..) (small_one (by lia) (by lia) (by lia) (by lia)) hs (by lia) λh' tk acc c hk hS zr=>?_;have I3:Inv X Y σ H2 {s2 with heap:=s2.1.push {cls:=.type "range",data:=.fields #[.int (i:Nat) ti,.int (j:Nat) tu,.int 1 s2.toks]},toks:=s2.toks+1}:=I2.kept λb o e=>VB _ e;refine⟨.ref (s2.1.push {cls:=.type "range",data:=.fields #[.int (i:Nat) ti,.int (j:Nat) tu,.int 1 s2.toks]}).objs.size,_,?_,D?,q _ (I3.hok.fresh (VG _))⟩;refine I3.laid (t':=tk) hk (VG _) ⟨by rw[Vu,List.length_range'];exact Wz (show j - i<=1000000 by lia) (by decide),acc.toList,c,?_,hS⟩;obtain⟨hsz,hit⟩:=zr
 exact tK (acc:=acc.toList) (j - i) i (by rw[Wd];exact hsz) λn v hv=>by
  rw[YM]at hv;obtain⟨t,e⟩:=hit n v hv;refine⟨t,?_⟩;rw[e];congr 1;lia
end
end L2
namespace BB
open PySem L2
def Ars(ar:V5->Nat)(t:Th):Prop:=∀n ks,r! n ks∈t.walk->ks.length=ar n
theorem gv{t u:Th}(h:u∈t.kids):∀x∈u.walk,x∈t.walk:=λx hx=>by
 rw[t.walk_eq];refine VR _ ?_
 have:∀ts:List Th,u∈ts->x∈walks ts:=by
  intro ts;induction ts with
  |nil=>intro z;cases z
  | cons a ts ih =>
    intro z;rw[walks];rcases VS.mp z with rfl|z
    .exact VT _ hx
    .exact V9 _ (ih z)
 exact this _ h
theorem Ars.kids{t u:Th}(h:Ars ar t)(hu:u∈t.kids):Ars ar u:=λn ks m=>h n ks (gv hu _ m)
theorem Ars.len{n:V5}{ks:List Th}(h:Ars ar (.knot n ks)):ks.length=ar n:=h n ks (by rw[G!];exact VO ..)
structure jD(Ls:List Th)(p u:Th)(es:CLs):Prop where
 nd:(es.map (·.1)).Nodup
 ok:∀e∈es,(∃w:Nat,e.2=(w:Int)/\w<Ls.length)/\q! e.1.1 e.1.2∈p.walk
 iff:∀g:Int->Int->Th,p.fill g=u↔∀e∈es,Ls[e.2.toNat]?=A? (g e.1.1 e.1.2)
structure NeedI(Ls:List Th)(p u:Th)(es:CLs)(As:List (Th×Nat)):Prop where
 nd:(es.map (·.1)).Nodup
 ok:∀e∈es,(∃w:Nat,e.2=(w:Int)/\w<Ls.length)/\q! e.1.1 e.1.2∈p.walk
 iff:∀g:Int->Int->Th,p.fill g=u↔(∀e∈es,Ls[e.2.toNat]?=A? (g e.1.1 e.1.2))/\∀a∈As,Ls[a.2]?=A? (a.1.fill g)
 sub:∀a∈As,∀x∈a.1.walk,x∈p.walk
 ix:∀a∈As,a.2<Ls.length
theorem NeedI.start{u:Th}(h:Ls[n]?=A? u):NeedI Ls p u [] [(p,n)] :=
 ⟨by simp,(by intro e he;cases he),λg=>by
  constructor
  .intro e;refine⟨(by intro e he;cases he),λa ha=>?_⟩;rw[VH.mp ha];show Ls[n]?=A? (p.fill g);rw[e];exact h
  .rintro⟨_,h2⟩;have:=h2 _ (VH.mpr rfl);dsimp only at this;rw[h]at this;exact(VN this).symm,λa ha x hx=>by rw[VH.mp ha]at hx;exact hx,λa ha=>by rw[VH.mp ha];exact(glE h)⟩
theorem NeedI.done{u:Th}(h:NeedI Ls p u es []):jD Ls p u es:=⟨h.nd,h.ok,λg=>(h.iff g).trans ⟨λz=>z.1,λz=>⟨z,(by intro a ha;cases ha)⟩⟩⟩
theorem dS{P:α->Prop}{l:List α}{a:α}:(∀x∈l++[a],P x)↔(∀x∈l,P x)/\P a :=
 ⟨λh=>⟨λx hx=>h x (VT _ hx),h a (by simp)⟩,λh x hx=>by
  rcases VP.mp hx with hx|hx
  .exact h.1 x hx
  .rw[VH.mp hx];exact h.2⟩
theorem NeedI.put{u:Th}{s k:Int}{w:Nat}(h:NeedI Ls p u es (As++[(.call s k,w)]))(hn:dG es (s,k)=AQ):NeedI Ls p u (fB es (s,k) (w:Int)) As:=by
 have hk:=rq hn;have e:fB es (s,k) (w:Int)=es++[((s,k),(w:Int))]:=by unfold fB;rw[a! hk]
 refine⟨kI h.nd _ _,?_,λg=>?_,λa ha=>h.sub a (VT _ ha),λa ha=>h.ix a (VT _ ha)⟩
 .rw[e];exact dS.mpr ⟨h.ok,⟨w,rfl,h.ix (.call s k,w) (by simp)⟩,h.sub (.call s k,w) (by simp) _ (by rw[G!];exact VO ..)⟩
 .rw[h.iff g,e,dS,dS,B!];dsimp only;rw[VQ];exact⟨λ⟨a,b,c⟩=>⟨⟨a,c⟩,b⟩,λ⟨⟨a,c⟩,b⟩=>⟨a,b,c⟩⟩
theorem NeedI.same{u:Th}{s k:Int}{w:Nat}(h:NeedI Ls p u es (As++[(.call s k,w)]))(hn:dG es (s,k)=A? (w:Int)):NeedI Ls p u es As:=by
 refine⟨h.nd,h.ok,λg=>?_,λa ha=>h.sub a (VT _ ha),λa ha=>h.ix a (VT _ ha)⟩;rw[h.iff g,dS,B!];refine⟨λ⟨a,b,c⟩=>⟨a,b⟩,λ⟨a,b⟩=>⟨a,b,?_⟩⟩;have:=a _ (gj hn);dsimp only at this;rw[VQ]at this;exact this
theorem NeedI.clash{u:Th}{s k v:Int}{w:Nat}(A':Ls.Nodup)(h:NeedI Ls p u es (As++[(.call s k,w)]))(hn:dG es (s,k)=A? v)(hv:v≠(w:Int)):∀g,p.fill g≠u:=λg e=>by
 obtain⟨a,b⟩:=(h.iff g).mp e;have h1:=a _ (gj hn);have h2:=(dS.mp b).2;obtain⟨⟨w',e',_⟩,_⟩:=h.ok _ (gj hn);dsimp only at h1 h2 e';rw[B!]at h2;rw[e',VQ]at h1;have:=dQ A' h1 h2;lia
theorem lT{g:Int->Int->Th}:∀{ks kids:List Th}{ids:List Nat},Wc (λid u=>Ls[id]?=A? u) ids kids->ks.length=kids.length->(fills g ks=kids↔∀a∈ks.zip ids,Ls[a.2]?=A? (a.1.fill g))
 | [],[],_,.nil,_=>by
   rw[fills];exact⟨λ_=>(by intro a ha;simp at ha),λ_=>rfl⟩
 | [],_::_,_,_,h=>by cases h
 |_::_,[],_,_,h=>by cases h
 | x::ks,y::kids,_::ids,.cons h t,hl=>by
   rw[fills,Zb,List.cons.injEq,lT t (by simpa using hl)];constructor
   .rintro⟨h1,h2⟩ a ha;rcases VS.mp ha with rfl|ha
    .dsimp only;rw[h1];exact h
    .exact h2 a ha
   .intro q;refine⟨?_,λa ha=>q a (VR _ ha)⟩;have:=q _ (VO ..);dsimp only at this;rw[h]at this;exact(VN this).symm
theorem NeedI.knot{u:Th}{n:V5}{ks kids:List Th}{w:Nat}(h:NeedI Ls p u es (As++[(.knot n ks,w)]))(hw:Ls[w]?=A? (.knot n kids))(hp:Wc (λid u=>Ls[id]?=A? u) ids kids)(hl:ks.length=kids.length):NeedI Ls p u es (As++ks.zip ids):=by
 refine⟨h.nd,h.ok,λg=>?_,λa ha x hx=>?_,λa ha=>?_⟩
 .rw[h.iff g,dS,B!];dsimp only;rw[hw,Option.some.injEq,Th.knot.injEq,eq_comm (a:=kids),lT hp hl];refine⟨λ⟨a,b,_,c⟩=>⟨a,λx hx=>(VP.mp hx).elim (b x) (c x)⟩,λ⟨a,b⟩=>⟨a,λx hx=>b x (VT _ hx),D?,λx hx=>b x (V9 _ hx)⟩⟩
 .rcases VP.mp ha with ha|ha
  .exact h.sub a (VT _ ha) x hx
  .exact h.sub (.knot n ks,w) (by simp) x (gv (t:=.knot n ks) (Y6 ha).1 x hx)
 .rcases VP.mp ha with ha|ha
  .exact h.ix a (VT _ ha)
  .obtain⟨i,hi⟩:=VL.mp (Y6 ha).2;obtain⟨y,_,e⟩:=u! hp hi;exact(glE e)
theorem NeedI.other{u:Th}{n n':V5}{ks kids:List Th}{w:Nat}(h:NeedI Ls p u es (As++[(.knot n ks,w)]))(hw:Ls[w]?=A? (.knot n' kids))(hn:n≠n'):∀g,p.fill g≠u:=λg e=>by
 have h2:=(dS.mp ((h.iff g).mp e).2).2;dsimp only at h2;rw[hw,B!]at h2;injection h2 with h2;injection h2 with h2 _;exact hn h2.symm
theorem mn:∀(ks:List Th)(ids:List Nat),ids.length=ks.length->au ((ks.zip ids).map (·.1))=au ks
 | [],_,_=>by rw[List.zip_nil_left];rfl
 |_::_,[],h=>by cases h
 |k::ks,i::ids,h=>by rw[Zb,V6,au,au,mn ks ids (by simpa using h)]
theorem ii(ts:List Th):ts.length<=au ts:=by
 induction ts with
 |nil=>exact Wh _
 | cons t ts ih =>
   have:=t.size_pos;rw[au,VU];lia
def NdAt(H:Hp)(a:Th×Nat)(b:Vy):Prop:=∃pa,H b=A? (.tup [.ref pa,.int (a.2:Nat)])/\At H a.1 pa
theorem NdAt.mono(k:KT H H'){a:Th×Nat}(h:NdAt H a b):NdAt H' a b:=by
 obtain⟨pa,h1,h2⟩:=h;exact⟨pa,k _ _ h1,h2.mono k⟩
def nW(i:Nat):V:=.int (i:Nat)
def RowE(H:Hp)(c:Cand)(kv:Key×V):Prop:=kv.1=Wt c.b/\∃a ka,kv.2=.ref a/\H a=A? (.tup [.int c.n,.ref ka])/\H ka=A? (.tup (c.ks.map nW))
theorem RowE.mono(k:KT H H'){c:Cand}{kv:Key×V}(h:RowE H c kv):RowE H' c kv:=by
 obtain⟨h1,a,ka,h2,h3,h4⟩:=h;exact⟨h1,a,ka,h2,k _ _ h3,k _ _ h4⟩
def dq(H:Hp)(d:Vy)(D:List Cand):Prop:=∃kvs,H d=A? (.dK kvs)/\Wc (RowE H) D kvs
theorem mi:∀{D:List Cand}{kvs:List (Key×V)},Wc (RowE H) D kvs->kvs.map (·.1)=D.map λc=>(Wt c.b:Key)
 | [],_,.nil=>rfl
 |c::D,_,.cons h t=>by rw[V6,V6,mi t,h.1]
theorem mP:∀{l:List Int},l.Nodup->(l.map λb=>(Wt b:Key)).Nodup
 | [],_=>by simp
 | x::l,h=>by
   rw[WG]at h;rw[V6,WG];refine⟨λz=>?_,mP h.2⟩;obtain⟨y,hy,e⟩:=VX.mp z;exact h.1 (Z2 e ▸ hy)
theorem oz[DecidableEq κ]{kvs:List (κ×V)}{k:κ}(h:k∉kvs.map (·.1)):putK kvs k v=kvs++[(k,v)]:=by
 unfold putK;rw[a!];intro z;obtain⟨x,hx,e⟩:=Zo.mp z;exact h (VX.mpr ⟨x,hx,e! e⟩)
theorem n9[DecidableEq κ]{kvs:List (κ×V)}(nd:(kvs.map (·.1)).Nodup){k:κ}{u:V}(h:kvs[i]?=A? (k,u)):putK kvs k v=kvs.set i (k,v):=by
 unfold putK;rw[b! (Zo.mpr ⟨_,Vx h,d! rfl⟩)];refine Yi λj=>?_;rw[VA,List.getElem?_set];by_cases z:i=j
 .subst z;rw[b! rfl,b! (glE h),h];show A? (if k=k then(k,v)else(k,u))=_;rw[b! rfl]
 .rw[a! z];cases hj:kvs[j]? with
  |none=>rfl
  | some x =>
    show A? (if x.1=k then(x.1,v)else x)=A? x;rw[a!];intro e;have h1:(kvs.map (·.1))[i]?=A? k:=by rw[VA,h];rfl
    have h2:(kvs.map (·.1))[j]?=A? k:=by rw[VA,hj,<-e];rfl
    exact z (dQ nd h1 h2)
theorem lz[DecidableEq κ]{kvs:List (κ×V)}{k:κ}(h:bT kvs k=AQ):k∉kvs.map (·.1):=λz=>by
 induction kvs with
 |nil=>cases z
 | cons p r ih =>
   by_cases e:p.1=k
   .rw[fk e]at h;cases h
   .rw[ff e]at h;rw[V6]at z;rcases VS.mp z with z|z
    .exact e z.symm
    .exact ih h z
theorem v8{F:α->β->Prop}:∀{a:List α}{b:List β},Wc F a b->∀(i:Nat){x:α}{y:β},F x y->Wc F (a.set i x) (b.set i y)
 |_,_,.nil,_,_,_,_=>.nil
 |_,_,.cons h t,0,_,_,f=>.cons f t
 |_,_,.cons h t,i+1,_,_,f=>.cons h (v8 t i f)
structure Kept(D:List Cand)(c:Cand)(D':List Cand):Prop where
 len:D'.length<=D.length+1
 least:∀S,Least S D->Least (λx=>S x\/x=c) D'
theorem lk0{a:V5}{r:List (V5×V)}:((a,v)::r).lookup a=A? v:=by rw[Xl,beq_self_eq_true]
theorem lk1{a b:V5}{r:List (V5×V)}(h:(a == b)=C?):((b,v)::r).lookup a=r.lookup a:=by rw[Xl,h]
theorem cE{f g:V5}{u:V}{r:List (V5×V)}(h:(f == g)=C?):aO f v ((g,u)::r)=(g,u)::aO f v r:=by
 have h':¬g=f:=λz=>by rw[z,beq_self_eq_true]at h;cases h
 rw[aO,a! h']
def wyF(nm:V5)(pl nl al:Vy):List (V5×V):=[(VE "kind_name",.str nm),(VE "pairs",.ref pl),(VE "needing",.ref nl),(VE "agreeing",.ref al)]
theorem xQ:(wyF nm pl nl al).lookup (VE "kind_name")=A? (.str nm):=lk0
theorem qP:(wyF nm pl nl al).lookup (VE "pairs")=A? (.ref pl):=(lk1 (by decide +kernel)).trans lk0
theorem tP:(wyF nm pl nl al).lookup (VE "needing")=A? (.ref nl):=(lk1 (by decide +kernel)).trans ((lk1 (by decide +kernel)).trans lk0)
theorem qJ:(wyF nm pl nl al).lookup (VE "agreeing")=A? (.ref al):=(lk1 (by decide +kernel)).trans ((lk1 (by decide +kernel)).trans ((lk1 (by decide +kernel)).trans lk0))
theorem gq{m:V5}(h1:(m == VE "kind_name")=false:=by decide +kernel)(h2:(m == VE "pairs")=false:=by decide +kernel)(h3:(m == VE "needing")=false:=by decide +kernel)(h4:(m == VE "agreeing")=false:=by decide +kernel):(wyF nm pl nl al).lookup m=AQ :=
 (lk1 h1).trans ((lk1 h2).trans ((lk1 h3).trans ((lk1 h4).trans rfl)))
theorem uW(nm:V5)(pl nl al:Vy):aO (VE "agreeing") (.ref al) (aO (VE "needing") (.ref nl) (aO (VE "pairs") (.ref pl) (aO (VE "kind_name") (.str nm) [])))=wyF nm pl nl al:=by
 have e1:∀(f:V5)(v:V),aO f v []=[(f,v)]:=λf v=>by rw[aO]
 rw[e1,cE (by decide +kernel),e1,cE (by decide +kernel),cE (by decide +kernel),cE (by decide +kernel),e1,cE (by decide +kernel),cE (by decide +kernel),e1];rfl
structure Kd where
 d:Vy
 es:CLs
 a:Vy
 ag:List Int
structure Wy where
 x:Vy
 dx:Vy
 nm:V5
 pl:Vy
 nl:Vy
 al:Vy
 ps:List (Int×Int×Vy)
 ks:List Kd
structure WyAt(C:Vy)(H:Hp)(w:Wy):Prop where
 ins:H w.x=A? (.ins C w.dx (wyF w.nm w.pl w.nl w.al))
 pl:H w.pl=A? (.lst (w.ps.map λq=>k! q.2.2))
 pr:∀q∈w.ps,H q.2.2=A? (.tup [.int q.1,.int q.2.1])
 nl:H w.nl=A? (.lst (w.ks.map λk=>k! k.d))
 al:H w.al=A? (.lst (w.ks.map λk=>k! k.a))
 nd:∀k∈w.ks,H k.d=A? (.dT (dE k.es))
 ag:∀k∈w.ks,H k.a=A? (.lst (k.ag.map o!))
 n1:w.pl≠w.nl
 n2:w.pl≠w.al
 n3:w.nl≠w.al
 n4:∀k∈w.ks,k.a≠w.pl/\k.a≠w.nl/\k.a≠w.al
 nda:(w.ks.map (·.a)).Nodup
 ndd:(w.ks.map (·.d)).Nodup
def Wy.own(w:Wy):List Vy:=w.x::w.pl::w.nl::w.al::(w.ks.map (·.d)++w.ks.map (·.a))
theorem Wy.own_d{w:Wy}{k:Kd}(h:k∈w.ks):k.d∈w.own:=by unfold Wy.own;simp;exact .inr (.inr (.inr (.inr (.inl ⟨k,h,rfl⟩))))
theorem Wy.own_a{w:Wy}{k:Kd}(h:k∈w.ks):k.a∈w.own:=by unfold Wy.own;simp;exact .inr (.inr (.inr (.inr (.inr ⟨k,h,rfl⟩))))
theorem WyAt.keep{w:Wy}(h:WyAt C H w)(k:KT H H')(f:∀b∈w.own,∀o,H b=A? o->H' b=A? o):WyAt C H' w :=
 ⟨f _ (by simp[Wy.own]) _ h.ins,f _ (by simp[Wy.own]) _ h.pl,λq hq=>k _ _ (h.pr q hq),f _ (by simp[Wy.own]) _ h.nl,f _ (by simp[Wy.own]) _ h.al,λkd hk=>f _ (Wy.own_d hk) _ (h.nd kd hk),λkd hk=>f _ (Wy.own_a hk) _ (h.ag kd hk),h.n1,h.n2,h.n3,h.n4,h.nda,h.ndd⟩
theorem WyAt.same{w:Wy}(h:WyAt C H w)(s:j! H H'):WyAt C H' w:=h.keep (n! s) λb _ o e=>s b o e
abbrev cu:=Int×Int×CLs
structure NeedT(Ws:List cu)(k:Nat)(es:CLs):Prop where
 nd:(es.map (·.1)).Nodup
 rng:∀e∈es,0<=e.2/\e.2<2 ^ Ws.length
 bit:∀(c w:Int)(i:Nat),(∃e∈es,e.1=(c,w)/\bt e.2 i=B?)↔∃q,Ws[i]?=A? q/\((c,(k:Int)),w)∈q.2.2
 nz:∀e∈es,e.2≠0
theorem NeedT.nil(k:Nat):NeedT [] k []:=⟨by simp,(by intro e h;cases h),λc w i=>⟨λ⟨e,h,_⟩=>(by cases h),λ⟨q,h,_⟩=>(by simp at h)⟩,(by intro e h;cases h)⟩
theorem aV{l:List α}{a b:α}:(l++[a])[i]?=A? b↔l[i]?=A? b\/(i=l.length/\a=b):=by
 by_cases h:i<l.length
 .rw[Wj h];exact⟨.inl,λz=>z.elim id λz=>by lia⟩
 .rw[Ww (by lia),WR (show l.length<=i by lia)];by_cases e:i=l.length
  .subst e;rw[YY];exact⟨λz=>.inr ⟨D?,(by simpa using z)⟩,λz=>z.elim (λy=>(by cases y)) λy=>(by rw[y.2];rfl)⟩
  .rw[WR (by simp;lia)];exact⟨λz=>(by cases z),λz=>z.elim (λy=>y) λy=>g! y.1 e⟩
theorem NeedT.more{Ws:List cu}{k:Nat}(h:NeedT Ws k es)(s p:Int):NeedT (Ws++[(s,p,[])]) k es:=by
 refine⟨h.nd,λe he=>⟨(h.rng e he).1,?_⟩,λc w i=>?_,h.nz⟩
 .have h1:=(h.rng e he).2;have h2:=cq Ws.length;have h3:=cq (Ws++[((s,p,[]):cu)]).length;have:2 ^ Ws.length<=2 ^ (Ws++[((s,p,[]):cu)]).length:=XB (by decide) (by simp);lia
 .rw[h.bit];constructor
  .rintro⟨q,hq,hm⟩;exact⟨q,aV.mpr (.inl hq),hm⟩
  .rintro⟨q,hq,hm⟩;rcases aV.mp hq with hq|⟨_,rfl⟩
   .exact⟨q,hq,hm⟩
   .cases hm
theorem NeedT.other{Ws:List cu}{k:Nat}{L:CLs}{s p:Int}{e:(Int×Int)×Int}(h:NeedT (Ws++[(s,p,L)]) k es)(hk:e.1.2≠(k:Int)):NeedT (Ws++[(s,p,L++[e])]) k es:=by
 refine⟨h.nd,λe' he=>by have:=h.rng e' he;simpa using this,λc w i=>?_,h.nz⟩;rw[h.bit];constructor
 .rintro⟨q,hq,hm⟩;rcases aV.mp hq with hq|⟨hi,rfl⟩
  .exact⟨q,aV.mpr (.inl hq),hm⟩
  .exact⟨_,aV.mpr (.inr ⟨hi,D?⟩),VT _ hm⟩
 .rintro⟨q,hq,hm⟩;rcases aV.mp hq with hq|⟨hi,rfl⟩
  .exact⟨q,aV.mpr (.inl hq),hm⟩
  .rcases VP.mp hm with hm|hm
   .exact⟨_,aV.mpr (.inr ⟨hi,D?⟩),hm⟩
   .have:=VH.mp hm;rw[<-this]at hk;exact g! rfl hk
theorem NeedT.put{Ws:List cu}{k:Nat}{L:CLs}{s p c w:Int}(h:NeedT (Ws++[(s,p,L)]) k es) :
 NeedT (Ws++[(s,p,L++[((c,(k:Int)),w)])]) k (fB es (c,w) (XT ((dG es (c,w)).getD 0) (1 * 2 ^ ((Ws.length:Nat):Int).toNat))):=by
 have hp:=cq Ws.length;have Aq:=cq (Ws.length+1);have hq:(2:Nat) ^ (Ws.length+1)=2 * 2 ^ Ws.length:=by rw[Nat.pow_succ];lia
 have zZ:=ZA Ws.length;have hlen:(Ws++[((s,p,L):cu)]).length=Ws.length+1:=by simp
 have r0:0<=(dG es (c,w)).getD 0/\(dG es (c,w)).getD 0<2 ^ (Ws.length+1):=by
  cases e:dG es (c,w)with
  |none=>exact⟨by decide,by show(0:Int)<_;lia⟩
  | some v =>
    have:=h.rng _ (gj e);rw[hlen]at this;exact this
 have Iu:(1 * 2 ^ ((Ws.length:Nat):Int).toNat:Int)=2 ^ Ws.length:=by rw[Int.one_mul,VQ]
 obtain⟨b0,b1,b2⟩:=wc (n:=Ws.length+1) r0.1 (y:=1 * 2 ^ ((Ws.length:Nat):Int).toNat) (by rw[Iu];lia) r0.2 (by rw[Iu];lia);refine⟨kI h.nd _ _,λe he=>?_,λc' w' i=>?_,λe he=>?_⟩
 .rw[VJ,Wa];rcases iy he with rfl|⟨he,_⟩
  .exact⟨b0,b1⟩
  .have:=h.rng e he;rw[hlen]at this;exact this
 .have old:=h.bit c' w' i;by_cases hk:(c',w')=(c,w)
  .injection hk with e1 e2;subst e1 e2;constructor
   .rintro⟨e,he,e1,e2⟩;rcases iy he with rfl|⟨he,zk⟩
    .rw[b2,Bool.or_eq_true]at e2;rcases e2 with e2|e2
     .cases hg:dG es (c',w')with
      |none=>rw[hg]at e2;exact g! e2 (by show¬bt 0 i=B?;rw[m8];decide)
      | some v =>
        rw[hg]at e2;obtain⟨q,hq,hm⟩:=old.mp ⟨_,gj hg,rfl,e2⟩;rcases aV.mp hq with hq|⟨hi,rfl⟩
        .exact⟨q,aV.mpr (.inl hq),hm⟩
        .exact⟨_,aV.mpr (.inr ⟨hi,D?⟩),VT _ hm⟩
     .rw[p8]at e2;exact⟨_,aV.mpr (.inr ⟨(e! e2).symm,D?⟩),by simp⟩
    .exact g! e1 zk
   .rintro⟨q,hq,hm⟩;refine⟨_,ud es (c',w') _,D?,?_⟩;rw[b2,Bool.or_eq_true];rcases aV.mp hq with hq|⟨hi,rfl⟩
    .obtain⟨e,he,e1,e2⟩:=old.mpr ⟨q,aV.mpr (.inl hq),hm⟩;have hg:=uH h.nd he;rw[e1]at hg;rw[hg];exact .inl e2
    .rw[p8];exact .inr (d! hi.symm)
  .constructor
   .rintro⟨e,he,e1,e2⟩;rcases iy he with rfl|⟨he,zk⟩
    .exact g! e1.symm hk
    .obtain⟨q,hq,hm⟩:=old.mp ⟨e,he,e1,e2⟩;rcases aV.mp hq with hq|⟨hi,rfl⟩
     .exact⟨q,aV.mpr (.inl hq),hm⟩
     .exact⟨_,aV.mpr (.inr ⟨hi,D?⟩),VT _ hm⟩
   .rintro⟨q,hq,hm⟩
    have:∃q,(Ws++[(s,p,L)])[i]?=A? q/\((c',(k:Int)),w')∈q.2.2:=by
     rcases aV.mp hq with hq|⟨hi,rfl⟩
     .exact⟨q,aV.mpr (.inl hq),hm⟩
     .rcases VP.mp hm with hm|hm
      .exact⟨_,aV.mpr (.inr ⟨hi,D?⟩),hm⟩
      .have:=VH.mp hm;simp only[Prod.mk.injEq]at this;exact g! (by rw[this.1.1,this.2]) hk
    obtain⟨e,he,e1,e2⟩:=old.mpr this;exact⟨e,rL he (by rw[e1];exact hk),e1,e2⟩
 .rcases iy he with rfl|⟨he,_⟩
  .intro z;have:=b2 Ws.length;rw[p8,d! rfl,Bool.or_true]at this;dsimp only at z;rw[z,m8]at this;cases this
  .exact h.nz e he
def Agr(Ws:List cu)(note:List Int)(k i:Nat):Prop:=∃q,Ws[i]?=A? q/\∀c w:Int,((c,(k:Int)),w)∈q.2.2->note[c.toNat]?=A? w
structure Agst(es:CLs)(note:List Int)(N j:Nat)(x:Int):Prop where
 rng:0<=x/\x<2 ^ N
 bit:∀i,bt x i=B?↔∃e∈es.take j,note[e.1.1.toNat]?≠A? e.1.2/\bt e.2 i=B?
theorem Agst.zero(es:CLs)(note:List Int)(N:Nat):Agst es note N 0 0:=by
 have h1:=ZA N;have h2:=cq N;exact⟨⟨by decide,by lia⟩,λi=>by rw[m8,X6];exact⟨λz=>(by cases z),λ⟨e,he,_⟩=>(by cases he)⟩⟩
theorem Agst.step{note:List Int}{N:Nat}{x:Int}{e:(Int×Int)×Int}(h:Agst es note N j x)(he:es[j]?=A? e)(hr:0<=e.2/\e.2<2 ^ N):(note[e.1.1.toNat]?=A? e.1.2->Agst es note N (j+1) x)/\(note[e.1.1.toNat]?≠A? e.1.2->Agst es note N (j+1) (XT x e.2)):=by
 have ht:es.take (j+1)=es.take j++[e]:=by rw[Xu,he];rfl
 refine⟨λhn=>⟨h.rng,λi=>?_⟩,λhn=>?_⟩
 .rw[h.bit,ht];constructor
  .rintro⟨e',zI,g⟩;exact⟨e',VT _ zI,g⟩
  .rintro⟨e',zI,g⟩;rcases VP.mp zI with zI|zI
   .exact⟨e',zI,g⟩
   .rw[VH.mp zI]at g;exact g! hn g.1
 .obtain⟨b0,b1,b2⟩:=wc h.rng.1 hr.1 h.rng.2 hr.2;refine⟨⟨b0,b1⟩,λi=>?_⟩;rw[b2,Bool.or_eq_true,h.bit,ht];constructor
  .rintro(⟨e',zI,g⟩|g)
   .exact⟨e',VT _ zI,g⟩
   .exact⟨e,by simp,hn,g⟩
  .rintro⟨e',zI,g⟩;rcases VP.mp zI with zI|zI
   .exact .inl ⟨e',zI,g⟩
   .rw[VH.mp zI]at g;exact .inr g.2
theorem Agst.done{Ws:List cu}{k:Nat}{note:List Int}{x:Int}(h:Agst es note Ws.length es.length x)(hN:NeedT Ws k es):0<=WL (ones Ws.length) (W9 x)/\∀i,bt (WL (ones Ws.length) (W9 x)) i=B?↔Agr Ws note k i:=by
 obtain⟨b0,b1⟩:=vz h.rng.1 h.rng.2;refine⟨b0,λi=>?_⟩;rw[b1,XM,decide_eq_true_iff,Z4,<-Bool.not_eq_true,h.bit,XJ];constructor
 .rintro⟨hi,zp⟩;refine⟨Ws[i],Vw hi,λc w hm=>?_⟩;obtain⟨e,he,e1,e2⟩:=(hN.bit c w i).mpr ⟨_,Vw hi,hm⟩;by_cases z:note[c.toNat]?=A? w
  .exact z
  .exact g! ⟨e,he,by rw[e1];exact z,e2⟩ zp
 .rintro⟨q,hq,y8⟩;refine⟨(glE hq),λ⟨e,he,e1,e2⟩=>?_⟩;obtain⟨q',AB,hm⟩:=(hN.bit e.1.1 e.1.2 i).mp ⟨e,he,rfl,e2⟩;rw[hq]at AB;cases AB;exact e1 (y8 _ _ hm)
structure NoteBy(W:List (Int×Int×Vy))(b:Int)(S:Nat)(j:Nat)(note:List Int):Prop where
 len:note.length=S
 at':∀s:Nat,s<S->(∃i q,i<j/\W[i]?=A? q/\q.1=(s:Int)/\bt b i=B?/\note[s]?=A? q.2.1)\/((∀i q,i<j->W[i]?=A? q->q.1=(s:Int)->bt b i=C?)/\note[s]?=A? (-1))
theorem NoteBy.zero(W:List (Int×Int×Vy))(b:Int)(S:Nat):NoteBy W b S 0 (Wv S (-1)) :=
 ⟨List.length_replicate,λs hs=>.inr ⟨λi q h=>by lia,by rw[List.getElem?_replicate,b! hs]⟩⟩
theorem NoteBy.skip{b:Int}{S:Nat}{note:List Int}{q:Int×Int×Vy}(h:NoteBy W b S j note)(hq:W[j]?=A? q)(hb:bt b j=C?):NoteBy W b S (j+1) note :=
 ⟨h.len,λs hs=>by
  rcases h.at' s hs with⟨i,q',h1,h2⟩|⟨h1,h2⟩
  .exact .inl ⟨i,q',by lia,h2⟩
  .refine .inr ⟨λi q' hi AB Bo=>?_,h2⟩;by_cases z:i=j
   .rw[z];exact hb
   .exact h1 i q' (by lia) AB Bo⟩
theorem NoteBy.set{b:Int}{S:Nat}{note:List Int}{q:Int×Int×Vy}{s0:Nat}(h:NoteBy W b S j note)(hq:W[j]?=A? q)(hb:bt b j=B?)(FK:q.1=(s0:Int)):NoteBy W b S (j+1) (note.set s0 q.2.1) :=
 ⟨by rw[XR];exact h.len,λs hs=>by
  by_cases z:s0=s
  .subst z;exact .inl ⟨j,q,by lia,hq,FK,hb,by rw[W5 (by rw[h.len];exact hs)]⟩
  .rw[W6 z];rcases h.at' s hs with⟨i,q',h1,h2⟩|⟨h1,h2⟩
   .exact .inl ⟨i,q',by lia,h2⟩
   .refine .inr ⟨λi q' hi AB Bo=>?_,h2⟩;by_cases y:i=j
    .subst y;rw[hq]at AB;cases AB;exact g! (Int.ofNat.inj (FK.symm.trans Bo)) z
    .exact h1 i q' (by lia) AB Bo⟩
end BB
variable{Ws:List BB.cu}{kd:BB.Kd}{za:List BB.Kd}
namespace L2
open PySem PySem.Spec PySem.SeqAt PyProof.Rows
section
variable{X:Cx}{o i value:WB}{td ty tv:TE}
end
section
variable{X:Cx}{o i f:WB}{apos zf:YF}{td ty tx:TE}
end
end L2
namespace BB
open PySem L2
theorem jn(g:GoodN ins){n:V5}{m:Int}(hj:ins[j]?=A? (n,m)):(ins.map (·.1)).idxOf n=j:=by
 have h1:n∈ins.map (·.1):=VX.mpr ⟨_,Vx hj,rfl⟩;have h2:=List.idxOf_lt_length_iff.mpr h1;have h3:(ins.map (·.1))[(ins.map (·.1)).idxOf n]=n:=List.getElem_idxOf h2;rw[Vu]at h2;rw[List.getElem_map]at h3;exact g.nd _ _ _ _ (Vw h2) hj h3
section
variable{mid:List (V5×Int)}{S1 S2:Int}{Dr Ds:Th}{Du Dw:List (List Th)}
end
section
variable{D:Int->List Int->Bool}{mk f0:Int->Th}
end
end BB
namespace L2
open PySem PySem.Spec PyProof.Rows
def ue(K:VD)(a:Vy):It:=⟨λi H=>∃xs x,SqL K H a xs/\xs[i]?=A? x,λi H x H'=>∃p y,H p=AQ/\x=.ref p/\H'=upd H p (.tup [.int (i:Nat),y])/\∀xs,SqL K H a xs->xs[i]?=A? y,λi H=>∃xs,SqL K H a xs/\xs.length=i⟩
theorem pV{k1}(a e it:Vy):Turn P w K (.Tuple elts k1 pos) (ue K a) [e,it] e (λi h=>(∃old,IsEnum h e it ((i:Nat):Int) old)/\h.IsListIter it a i) where
 mem:=by simp
 obj:=λi h st b hb=>by
  obtain⟨⟨old,he⟩,o,e1,e2,e3⟩:=st;rcases VS.mp hb with rfl|hb
  .exact⟨_,he,λv z=>by cases z⟩
  .have:b=it:=by simpa using hb
   subst this;exact⟨o,e1,λv z=>by rw[e3]at z;cases z⟩
 keep:=λi h h' st k=>by
  obtain⟨⟨old,he⟩,o,e1,e2⟩:=st;exact⟨⟨old,k e (by simp) _ he⟩,o,k it (by simp) _ e1,e2⟩
 item:=by
  intro X hP hw hK hc i Y s σ H E I hf st hg;subst hP hw hK;obtain⟨xs,x,hq,hx⟩:=hg;obtain⟨its,rv,p,hz⟩:=I.list hq;obtain⟨u,hu,ru⟩:=rv.get hx;obtain⟨⟨old,he⟩,hi⟩:=st
  have Fp:e≠it:=by
   rintro rfl;obtain⟨o,e1,e2,_⟩:=hi;rw[he]at e1;cases e1;exact g! (Xo e2) (by decide)
  have Ed:a≠it:=by
   rintro rfl;obtain⟨o,e1,e2,_⟩:=hi;obtain⟨o',CD,B3,_⟩:=p.isList;rw[CD]at e1;cases e1;rw[B3]at e2;exact g! (Xo e2) (by decide)
  have LL:a≠e:=by
   rintro rfl;obtain⟨o',CD,B3,_⟩:=p.isList;rw[he]at CD;cases CD;exact g! (Xo B3) (by decide)
  have yZ:i<its.toArray.size:=by
   have:=(glE hu);simpa using this
  have CF:e<s.1.1.size:=V2 he;have Ab:it<s.1.1.size:=by obtain⟨o,e1,_⟩:=hi;exact V2 e1
  refine wpAny_pyNext_enum_itemD (Draws.list (A:=X.A.in1) (show X.A.in1.handled=AQ from I.ok.hd hc) it a Ed its.toArray) he ⟨hi,p.isList⟩ yZ Fp (by simp[Fp,LL.symm]) λy h1 tk hy ho LM hT hsz hk=>?_
  have LN:y=u:=by
   have:its[i]?=A? y:=by simpa using hy
   rw[hu]at this;exact(VN this).symm
  subst LN;refine⟨_,D?,wpAny_letOwnedTupleGo_enum ho λh2 LO Dc=>?_⟩;replace Dc:W3 e h1 h2:=Dc
  have zk:∀b∈[e,it],b<s.1.1.size:=λb hb=>by
   rcases VS.mp hb with rfl|hb
   .exact CF
   .have:b=it:=by simpa using hb
    subst this;exact Ab
  have Fq:H s.1.1.size=none:=I.hok.fresh (VG _)
  have IA:Inv X Y σ (upd H s.1.1.size (.tup [.int (i:Nat),x])) {s with heap:=s.1.push {cls:=.type "tuple",data:=.seq #[.int (i:Nat) tk,y]},toks:=tk} :=
   I.laid (o:=.tup [.int (i:Nat),x]) (λb ob q=>VB _ q) (VG _) ⟨by show 2<=V4;decide,[.int (i:Nat) tk,y],0,.cons ⟨tk,rfl⟩ (.cons ru .nil),VI _ rfl⟩
  refine⟨.ref s.1.1.size,upd H s.1.1.size (.tup [.int (i:Nat),x]),?_,D?,⟨_,x,Fq,D?,D?,λys Cn=>by rw[I.list_inj Cn hq];exact hx⟩,⟨⟨y,by simpa using LO⟩,?_⟩,λb hb=>?_⟩
  .have IB:Inv X Y σ (upd H s.1.1.size (.tup [.int (i:Nat),x])) {s with heap:=h2,toks:=tk+1}:=by
    refine Inv.turnedL (s:={s with heap:=s.1.push {cls:=.type "tuple",data:=.seq #[.int (i:Nat) tk,y]},toks:=tk}) (h':=h2) (fp:=[e,it]) (t':=tk+1) IA (λb o hb q=>?_) λb hb=>?_
    .have CA:b≠e:=λz=>hb (by simp[z]);have HN:b≠it:=λz=>hb (by simp[z]);rw[Dc.2 b CA];by_cases hb2:b=s.1.1.size
     .subst hb2;rw[hT];have q':(s.1.push {cls:=.type "tuple",data:=.seq #[.int (i:Nat) tk,y]}).get? s.1.1.size=A? o:=q;rw[VI _ rfl]at q';exact q'
     .have AF:b<(s.1.push {cls:=.type "tuple",data:=.seq #[.int (i:Nat) tk,y]}).objs.size:=V2 q;rw[WY]at AF;refine hk b o CA HN ?_;have q':(s.1.push {cls:=.type "tuple",data:=.seq #[.int (i:Nat) tk,y]}).get? b=A? o:=q;rw[Heap.get?_push_ne _ _ _ hb2]at q';exact q'
    .obtain⟨f0,f1⟩:=hf b hb;exact⟨by rw[af (We (zk b hb))];exact f0,f1⟩
   exact IB
  .obtain⟨o,e1,r⟩:=LM.1;exact⟨o,(Dc.2 it (XC Fp)).trans e1,r⟩
  .rw[af (We (zk b hb))];exact(hf b hb).1
 done:=by
  intro X hP hw hK hc i Y s σ H E I hf st hg;subst hP hw hK;obtain⟨xs,hq,hx⟩:=hg;obtain⟨its,rv,p,hz⟩:=I.list hq;obtain⟨⟨old,he⟩,hi⟩:=st
  have Ed:a≠it:=by
   rintro rfl;obtain⟨o,e1,e2,_⟩:=hi;obtain⟨o',CD,B3,_⟩:=p.isList;rw[CD]at e1;cases e1;rw[B3]at e2;exact g! (Xo e2) (by decide)
  have hn:its.toArray.size=i:=by
   have:=rv.length;rw[VM];lia
  refine wpAny_pyNext_enum_endD (Draws.list (A:=X.A.in1) (show X.A.in1.handled=AQ from I.ok.hd hc) it a Ed its.toArray) he (by rw[hn];exact⟨hi,p.isList⟩) λh' eb=>⟨rfl,?_⟩;exact I.turnedL (fp:=[e,it]) (t':=s.toks) (λb o hb q=>eb b o (λz=>hb (by simp[z])) q) hf
 self:=λ_ _ _ _ _ st h=>by
  obtain⟨⟨old,he⟩,_⟩:=st;exact wpAny_pyIter_enum he h
section
variable{X:Cx}{te:TE}{p2 zq:YF}
def w8(K:VD)(tl:TE):TI:=λσ H R=>tl σ H λx H1=>∃a,x=.ref a/\(∃xs,SqL K H1 a xs)/\R (ue K a) H1
theorem iC{k1}(g2:Gl X "enumerate")(m2:X.mg "enumerate"=AQ)(he:PE X e te)(h2:Wu [e] X.env=[(C?,XD e X.env)]:=by rfl):PI X (.Tuple elts k1 pos) (.Call (.Name "enumerate" p2) [e] [] zq) (w8 X.K te):=by
 intro Y s σ H R I h;refine W2 (dz I g2 m2 boot_enumerate (WW ?_ h2 rfl));rw[h2];show VW _ _ (spliced ((C?,XD e X.env)::[])) _ _ s;refine XE (thn (he Y s σ H _ I h) λu s1⟨x,H1,I1,r1,a,ex,⟨xs,hq⟩,q⟩=>X1 ?_);subst ex;cases r1;obtain⟨its,rv,p,hz⟩:=I1.list hq;refine call_enumerate_list (show s1.1.IsList a its.toArray from p.isList) λh' g1 g2 g3 g4=>?_;refine wpAny_pyIter_enum (s:={s1 with heap:=h'}) g1 ?_;refine⟨s1.1.1.size+1,[s1.1.1.size+1,s1.1.1.size],_,_,H1,D?,I1.kept (t':=s1.toks) g4,pV a _ _,⟨⟨_,g1⟩,g2⟩,λb hb=>?_,q⟩
 have zB:s1.1.1.size<=b:=by
  rcases VS.mp hb with rfl|hb
  .lia
  .have:b=s1.1.1.size:=by simpa using hb
   exact Nat.le_of_eq this.symm
 exact I1.fpOk zB (I1.hok.fresh zB)
end
theorem gJ{g:TG}(Pv:Nat->St->Hp->Prop)(h0:Pv 0 σ H)(hl:∀i σ H,i<=xs.length->Pv i σ H->SqL K H a xs)
 (hs:∀i x p σ H,xs[i]?=A? x->H p=AQ->Pv i σ H->g (.ref p) σ (upd H p (.tup [.int (i:Nat),x])) λzg H2=>tb {D with nx:=Pv (i+1),ct:=Pv (i+1),bk:=D.nx} zg H2) (hd:∀σ H,Pv xs.length σ H->D.nx σ H) :
 ∃W:Nat->Nat->St->Hp->Prop,(∃m,W 0 m σ H)/\∀i m σ H,W i m σ H ->
   ((ue K a).stop i H/\D.nx σ H)\/((ue K a).go i H/\∃N:St->Hp->Prop,(∀i' H',N i' H'->∃m',m'<m/\W (i+1) m' i' H')/\∀x H',(ue K a).yld i H x H'->g x σ H' λzg H2=>tb {D with nx:=N,ct:=N,bk:=D.nx} zg H2):=by
 refine⟨λi m σ H=>m=xs.length - i/\i<=xs.length/\Pv i σ H,⟨xs.length,by simp,Wh _,h0⟩,?_⟩;rintro i m σ H ⟨rfl,hi,p⟩;have q:=hl i σ H hi p;by_cases yZ:i<xs.length
 .refine .inr ⟨⟨xs,xs[i],q,by simp[yZ]⟩,Pv (i+1),λi' H' p'=>⟨xs.length - (i+1),by lia,rfl,yZ,p'⟩,λx H' y=>?_⟩;obtain⟨pa,y,hp,rfl,rfl,hy⟩:=y;exact hs i y pa σ H (hy xs q) hp p
 .have e:i=xs.length:=by lia
  subst e;exact .inl ⟨⟨xs,q,rfl⟩,hd σ H p⟩
end L2
namespace BB
open PySem L2
theorem kb{o:Xw}{g:TG}(Pv:Nat->St->Hp->Prop)(h0:Pv 0 σ H)(hl:∀i σ H,i<=es.length->Pv i σ H->H a=A? (.frz o (.dT (dE es))))
 (hs:∀(i:Nat)(e:(Int×Int)×Int)(p b:Vy)(σ:St)(H:Hp),es[i]?=A? e->H p=AQ->H b=A? (.tup [.int e.1.1,.int e.1.2])->Pv i σ H->g (.ref p) σ (upd H p (.tup [.ref b,.int e.2])) λzg H2=>tb {D with nx:=Pv (i+1),ct:=Pv (i+1),bk:=D.nx} zg H2) (hd:∀σ H,Pv es.length σ H->D.nx σ H) :
 ∃W:Nat->Nat->St->Hp->Prop,(∃m,W 0 m σ H)/\∀i m σ H,W i m σ H ->
   ((uf a o (dE es)).stop i H/\D.nx σ H)\/((uf a o (dE es)).go i H/\∃N:St->Hp->Prop,(∀i' H',N i' H'->∃m',m'<m/\W (i+1) m' i' H')/\∀x H',(uf a o (dE es)).yld i H x H'->g x σ H' λzg H2=>tb {D with nx:=N,ct:=N,bk:=D.nx} zg H2):=by
 have hlen:(dE es).length=es.length:=by unfold dE;rw[Vu]
 refine⟨λi m σ H=>m=es.length - i/\i<=es.length/\Pv i σ H,⟨es.length,by simp,Wh _,h0⟩,?_⟩;rintro i m σ H ⟨rfl,hi,p⟩;have q:=hl i σ H hi p;by_cases yZ:i<es.length
 .refine .inr ⟨⟨q,by lia⟩,Pv (i+1),λi' H' p'=>⟨es.length - (i+1),by lia,rfl,yZ,p'⟩,λx H' y=>?_⟩;obtain⟨pa,b,kv,hp,rfl,rfl,zX,eb⟩:=y;unfold dE at zX;rw[VA]at zX;obtain⟨e,he,rfl⟩:=V1.mp zX;exact hs i e pa b σ H he hp eb p
 .have e:i=es.length:=by lia
  subst e;exact .inl ⟨⟨q,by lia⟩,hd σ H p⟩
theorem Least.join{S1 S2:Cand->Prop}{D Dt:List Cand}(h:Least (λc=>S1 c\/∃e∈D,c=e) Dt)(g:Least S2 D):Least (λc=>S1 c\/S2 c) Dt :=
 ⟨h.nd,λe he=>(h.sub e he).imp id λ⟨e',zI,z⟩=>by rw[z];exact g.sub e' zI,λc hc=>by
  rcases hc with hc|hc
  .exact h.le c (.inl hc)
  .obtain⟨e,he,h1,h2⟩:=g.le c hc;obtain⟨d,hd,h3,h4⟩:=h.le e (.inr ⟨e,he,rfl⟩);exact⟨d,hd,h3.trans h1,by lia⟩⟩
theorem fM{f:α->β}{l:List α}(h:(l.map f).Nodup){x y:α}(hi:l[i]?=A? x)(hj:l[j]?=A? y)(e:f x=f y):i=j :=
 dQ h (gmE hi) (by rw[VA,hj,e];rfl)
theorem WyAt.setAg{w:Wy}{k:Nat}{l:List Int}(h:WyAt C H w)(hk:w.ks[k]?=A? kd):WyAt C (upd H kd.a (.lst (l.map o!))) {w with ks:=w.ks.set k {kd with ag:=l}}:=by
 have hm:=Vx hk;have ea:=h.ag kd hm;have hn:=h.n4 kd hm;have md:(w.ks.set k {kd with ag:=l}).map (·.d)=w.ks.map (·.d):=map_set _ hk rfl;have ma:(w.ks.set k {kd with ag:=l}).map (·.a)=w.ks.map (·.a):=map_set _ hk rfl;have rd:(w.ks.set k {kd with ag:=l}).map (λk=>k! k.d)=w.ks.map (λk=>k! k.d):=map_set _ hk rfl;have ra:(w.ks.set k {kd with ag:=l}).map (λk=>k! k.a)=w.ks.map (λk=>k! k.a):=map_set _ hk rfl
 have mem:∀x∈w.ks.set k {kd with ag:=l},x={kd with ag:=l}\/(x∈w.ks/\x.a≠kd.a):=λx hx=>by
  rcases mem_set hx with rfl|⟨j,hj,hx⟩
  .exact .inl rfl
  .exact .inr ⟨Vx hx,λz=>hj (fM h.nda hx hk z)⟩
 refine⟨?_,?_,λq hq=>?_,?_,?_,λx hx=>?_,λx hx=>?_,h.n1,h.n2,h.n3,λx hx=>?_,?_,?_⟩
 .exact(af (aH h.ins ea (λz=>nomatch z))).trans h.ins
 .exact(af hn.1.symm).trans h.pl
 .exact(af (aH (h.pr q hq) ea (λz=>nomatch z))).trans (h.pr q hq)
 .exact((af hn.2.1.symm).trans h.nl).trans (h! (λz=>A? (HO.lst z)) rd.symm)
 .exact((af hn.2.2.symm).trans h.al).trans (h! (λz=>A? (HO.lst z)) ra.symm)
 .rcases mem x hx with rfl|⟨hx,_⟩
  .exact(af (aH (h.nd kd hm) ea (λz=>nomatch z))).trans (h.nd kd hm)
  .exact(af (aH (h.nd x hx) ea (λz=>nomatch z))).trans (h.nd x hx)
 .rcases mem x hx with rfl|⟨hx,zk⟩
  .exact ac
  .exact(af zk).trans (h.ag x hx)
 .rcases mem x hx with rfl|⟨hx,_⟩
  .exact hn
  .exact h.n4 x hx
 .exact(h! List.Nodup ma).mpr h.nda
 .exact(h! List.Nodup md).mpr h.ndd
structure Took(Ws:List cu)(note:List Int)(ks:List Kd)(j:Nat)(za:List Kd):Prop where
 len:za.length=ks.length
 lo:∀(k:Nat)(kd:Kd),k<j->ks[k]?=A? kd->∃b:Int,za[k]?=A? {kd with ag:=kd.ag++[b]}/\0<=b/\∀i,bt b i=B?↔Agr Ws note k i
 hi:∀(k:Nat)(kd:Kd),j<=k->ks[k]?=A? kd->za[k]?=A? kd
theorem Took.zero(Ws:List cu)(note:List Int)(ks:List Kd):Took Ws note ks 0 ks:=⟨rfl,λk kd h=>g! h (Y5 _),λk kd _ h=>h⟩
theorem Took.step{note:List Int}{ks:List Kd}{b:Int}(h:Took Ws note ks j za)(hk:ks[j]?=A? kd)(hb:0<=b)(KA:∀i,bt b i=B?↔Agr Ws note j i):Took Ws note ks (j+1) (za.set j {kd with ag:=kd.ag++[b]}):=by
 have hj:j<za.length:=by rw[h.len];exact(glE hk)
 refine⟨by rw[XR];exact h.len,λk AA yZ zt=>?_,λk AA hle zt=>?_⟩
 .by_cases z:j=k
  .subst z;rw[hk]at zt;cases zt;exact⟨b,by rw[W5 hj],hb,KA⟩
  .rw[W6 z];exact h.lo k AA (by lia) zt
 .rw[W6 (by lia)];exact h.hi k AA (by lia) zt
theorem Took.map{note:List Int}{ks:List Kd}(h:Took Ws note ks j za):za.map (·.a)=ks.map (·.a)/\za.map (·.d)=ks.map (·.d):=by
 have key:∀k:Nat,∀kd,ks[k]?=A? kd->∃AA,za[k]?=A? AA/\AA.a=kd.a/\AA.d=kd.d:=λk kd hk=>by
  by_cases z:k<j
  .obtain⟨b,h1,_⟩:=h.lo k kd z hk;exact⟨_,h1,D?,D?⟩
  .exact⟨kd,h.hi k kd (by lia) hk,D?,D?⟩
 refine⟨Yi λk=>?_,Yi λk=>?_⟩
 all_goals
  rw[VA,VA];by_cases hk:k<ks.length
  .obtain⟨AA,h1,h2,h3⟩:=key k _ (Vw hk);rw[h1,Vw hk]
   first|exact h! A? h2|exact h! A? h3
  .have hl:=h.len;rw[WR (show za.length<=k by lia),WR (show ks.length<=k by lia)]
theorem WyAt.setEs{w:Wy}{k:Nat}(h:WyAt C H w)(hk:w.ks[k]?=A? kd):WyAt C (upd H kd.d (.dT (dE es))) {w with ks:=w.ks.set k {kd with es:=es}}:=by
 have hm:=Vx hk;have ed:=h.nd kd hm;have md:(w.ks.set k {kd with es:=es}).map (·.d)=w.ks.map (·.d):=map_set _ hk rfl;have ma:(w.ks.set k {kd with es:=es}).map (·.a)=w.ks.map (·.a):=map_set _ hk rfl;have rd:(w.ks.set k {kd with es:=es}).map (λk=>k! k.d)=w.ks.map (λk=>k! k.d):=map_set _ hk rfl;have ra:(w.ks.set k {kd with es:=es}).map (λk=>k! k.a)=w.ks.map (λk=>k! k.a):=map_set _ hk rfl;have lst:∀{b:Vy}{xs:List V},H b=A? (.lst xs)->(upd H kd.d (.dT (dE es))) b=A? (.lst xs):=λe=>(af (aH e ed (λz=>nomatch z))).trans e
 have mem:∀x∈w.ks.set k {kd with es:=es},x={kd with es:=es}\/(x∈w.ks/\x.d≠kd.d):=λx hx=>by
  rcases mem_set hx with rfl|⟨j,hj,hx⟩
  .exact .inl rfl
  .exact .inr ⟨Vx hx,λz=>hj (fM h.ndd hx hk z)⟩
 refine⟨?_,lst h.pl,λq hq=>?_,?_,?_,λx hx=>?_,λx hx=>?_,h.n1,h.n2,h.n3,λx hx=>?_,?_,?_⟩
 .exact(af (aH h.ins ed (λz=>nomatch z))).trans h.ins
 .exact(af (aH (h.pr q hq) ed (λz=>nomatch z))).trans (h.pr q hq)
 .exact(lst h.nl).trans (h! (λz=>A? (HO.lst z)) rd.symm)
 .exact(lst h.al).trans (h! (λz=>A? (HO.lst z)) ra.symm)
 .rcases mem x hx with rfl|⟨hx,zk⟩
  .exact ac
  .exact(af zk).trans (h.nd x hx)
 .rcases mem x hx with rfl|⟨hx,zk⟩
  .exact lst (h.ag kd hm)
  .exact lst (h.ag x hx)
 .rcases mem x hx with rfl|⟨hx,_⟩
  .exact h.n4 kd hm
  .exact h.n4 x hx
 .exact(h! List.Nodup ma).mpr h.nda
 .exact(h! List.Nodup md).mpr h.ndd
theorem WyAt.addP{w:Wy}{s p:Int}(h:WyAt C H w)(ea:H a=A? (.tup [.int s,.int p])):WyAt C (upd H w.pl (.lst ((w.ps.map λq=>k! q.2.2)++[.ref a]))) {w with ps:=w.ps++[(s,p,a)]}:=by
 have o:∀{b:Vy}{u:HO},b≠w.pl->H b=A? u->(upd H w.pl (.lst ((w.ps.map λq=>k! q.2.2)++[.ref a]))) b=A? u:=λhb e=>(af hb).trans e;have tu:∀{b:Vy}{xs:List V},H b=A? (.tup xs)->(upd H w.pl (.lst ((w.ps.map λq=>k! q.2.2)++[.ref a]))) b=A? (.tup xs):=λe=>o (aH e h.pl (λz=>nomatch z)) e;refine⟨o (aH h.ins h.pl (λz=>nomatch z)) h.ins,?_,λq hq=>?_,o h.n1.symm h.nl,o h.n2.symm h.al,λx hx=>o (aH (h.nd x hx) h.pl (λz=>nomatch z)) (h.nd x hx),λx hx=>o (h.n4 x hx).1 (h.ag x hx),h.n1,h.n2,h.n3,h.n4,h.nda,h.ndd⟩
 .show(upd H w.pl _) w.pl=_;rw[ac,V3];rfl
 .rcases VP.mp hq with hq|hq
  .exact tu (h.pr q hq)
  .rw[VH.mp hq];exact tu ea
def Kd.sh(k:Kd):Vy×Vy×List Int:=(k.d,k.a,k.ag)
theorem oG{g:TG}{te:TE}(hn:n<=1000000)
 (hb:∀(i:Nat)(H2:Hp)(R:VK),i<n->(∀p,H2 p=AQ->R (.ref p) (upd H2 p o))->g (.int (0+(i:Nat))) (cσ js σ) H2 λzg H3=>te zg H3 R)
 (zS:∀(D:Vy)(H':Hp)(as:List Vy),H D=AQ->j! H H'->H' D=A? (.lst (as.map k!))->as.length=n->as.Nodup->(∀a∈as,H' a=A? o/\H a=AQ/\a≠D)->fin D H') :
 ∀D,H D=AQ->∃(m:Nat)(W:Nat->Hp->Prop),W 0 (upd H D (.lst []))/\fU js g aR te σ (Itr 0 n) D m W λH'=>fin D H':=by
 intro D hD;refine⟨n,λi H'=>i<=n/\j! H H'/\∃as:List Vy,H' D=A? (.lst (as.map k!))/\as.length=i/\as.Nodup/\∀a∈as,H' a=A? o/\H a=AQ/\a≠D,⟨Wh _,ao hD _,[],by rw[ac];rfl,D?,Yt,(by intro a ha;cases ha)⟩,?_⟩;rintro i H' ⟨hi,s1,as,e1,hl,A',has⟩;by_cases yZ:i<n
 .refine .inr ⟨yZ,yZ,λv H1 hy=>?_⟩;obtain⟨rfl,rfl⟩:=hy;refine hb i H1 _ yZ λp hp=>?_;have BR:p≠D:=λz=>by rw[z,e1]at hp;cases hp
  have RS:H p=none:=by
   cases z:H p with
   |none=>rfl
   |some u=>rw[s1 _ _ z]at hp;cases hp
  have BS:p∉as:=λz=>by rw[(has p z).1]at hp;cases hp
  refine⟨as.map k!,(af BR.symm).trans e1,lbE (by lia),yZ,aK (s1.trans (ao hp _)) hD,as++[p],uAE,by rw[VJ,Wa];lia,?_,λa ha=>?_⟩
  .rw[Xa];refine⟨A',by simp,λa ha b hb z=>?_⟩;rw[VH.mp hb]at z;exact BS (z ▸ ha)
  .rcases VP.mp ha with ha|ha
   .obtain⟨h1,h2,h3⟩:=has a ha;exact⟨(af h3).trans ((ao hp _) _ _ h1),h2,h3⟩
   .rw[VH.mp ha];exact⟨(af BR).trans ac,RS,BR⟩
 .have e:i=n:=by lia
  subst e;exact .inl ⟨VG _,zS D H' as hD s1 e1 hl A' has⟩
def ik:List Vy->List Vy->List Kd
 |d::ds,a::as=>⟨d,[],a,[]⟩::ik ds as
 |_,_=>[]
theorem ui:∀{ds as:List Vy},ds.length=as.length->(ik ds as).map (·.d)=ds/\(ik ds as).map (·.a)=as/\(∀k∈ik ds as,k.es=[]/\k.ag=[])
 | [],[],_=>⟨rfl,rfl,(by intro k hk;cases hk)⟩
 | [],_::_,h=>by cases h
 |_::_,[],h=>by cases h
 | d::ds,a::as,h=>by
   obtain⟨h1,h2,h3⟩:=ui (ds:=ds) (as:=as) (by simpa using h);rw[ik];refine⟨by rw[V6,h1],by rw[V6,h2],λk hk=>?_⟩;rcases VS.mp hk with rfl|hk
   .exact⟨D?,D?⟩
   .exact h3 k hk
structure WSp(Ls:List Th)(pats:List Th)(done:Nat->Nat->Prop)(Ws:List cu):Prop where
 wf:∀q∈Ws,∃(s pt:Nat)(p u:Th),q.1=(s:Int)/\q.2.1=(pt:Int)/\pats[s]?=A? p/\Ls[pt]?=A? u/\jD Ls p u q.2.2
 all:∀(s pt:Nat)(p u:Th),done s pt->pats[s]?=A? p->Ls[pt]?=A? u->(∃q∈Ws,q.1=(s:Int)/\q.2.1=(pt:Int))\/∀g,p.fill g≠u
theorem WSp.nil(Ls pats:List Th):WSp Ls pats (λ_ _=>False) []:=⟨(by intro q hq;cases hq),λ_ _ _ _ h=>h.elim⟩
theorem WSp.congr{d d':Nat->Nat->Prop}(h:WSp Ls pats d Ws)(e:∀s pt,(∃p,pats[s]?=A? p)->(∃u,Ls[pt]?=A? u)->d' s pt->d s pt):WSp Ls pats d' Ws :=
 ⟨h.wf,λs pt p u hd hp hu=>h.all s pt p u (e s pt ⟨p,hp⟩ ⟨u,hu⟩ hd) hp hu⟩
theorem WSp.none{d:Nat->Nat->Prop}{s pt:Nat}{u:Th}(h:WSp Ls pats d Ws)(hp:pats[s]?=A? p)(hu:Ls[pt]?=A? u)(hn:∀g,p.fill g≠u):WSp Ls pats (λs' Ej=>d s' Ej\/(s'=s/\Ej=pt)) Ws :=
 ⟨h.wf,λs' Ej p' u' hd BQ Cq=>by
  rcases hd with hd|⟨rfl,rfl⟩
  .exact h.all s' Ej p' u' hd BQ Cq
  .rw[hp]at BQ;rw[hu]at Cq;cases BQ;cases Cq;exact .inr hn⟩
theorem WSp.add{d:Nat->Nat->Prop}{s pt:Nat}{u:Th}{L:CLs}(h:WSp Ls pats d Ws)(hp:pats[s]?=A? p)(hu:Ls[pt]?=A? u)(hn:jD Ls p u L):WSp Ls pats (λs' Ej=>d s' Ej\/(s'=s/\Ej=pt)) (Ws++[((s:Int),(pt:Int),L)]) :=
 ⟨λq hq=>by
  rcases VP.mp hq with hq|hq
  .exact h.wf q hq
  .rw[VH.mp hq];exact⟨s,pt,p,u,D?,D?,hp,hu,hn⟩,λs' Ej p' u' hd BQ Cq=>by
  rcases hd with hd|⟨rfl,rfl⟩
  .exact(h.all s' Ej p' u' hd BQ Cq).imp (λ⟨q,hq,z⟩=>⟨q,VT _ hq,z⟩) id
  .exact .inl ⟨_,V9 _ (VH.mpr rfl),rfl,rfl⟩⟩
theorem lU{u:Th}{L:CLs}(h:jD Ls p u L):L.length<=p.size:=by
 have Mp:∀(l:List (Int×Int)),l.Nodup->(l.map λc=>q! c.1 c.2).Nodup:=λl=>by
  induction l with
  |nil=>intro _;simp
  | cons c l ih =>
    intro hn;rw[WG]at hn;rw[V6,WG];refine⟨λz=>?_,ih hn.2⟩;obtain⟨c',zV,e⟩:=VX.mp z;injection e with e1 e2;exact hn.1 ((Prod.ext e1 e2:c'=c) ▸ zV)
 have:=fo (m:=p.walk) (Mp _ h.nd) λt ht=>by
  obtain⟨c,hc,rfl⟩:=VX.mp ht;obtain⟨e,he,rfl⟩:=VX.mp hc;exact(h.ok e he).2
 rw[Vu,Vu,Th.walk_len]at this;exact this
def bg:Th:=.call 0 0
mutual
def aP(ins:List (V5×Int))(rows:List (List Th)):Th->List Th
 |.knot n ks=>rows.map λrow=>(row.getD ((ins.map (·.1)).idxOf n) bg).fill λs k=>((nL ins rows ks).getD k.toNat []).getD s.toNat bg
 |.call _ _=>[]
def nL(ins:List (V5×Int))(rows:List (List Th)):List Th->List (List Th)
 | []=>[]
 |t::ts=>aP ins rows t::nL ins rows ts
end
theorem lu(ins:List (V5×Int))(rows:List (List Th)):∀ts,nL ins rows ts=ts.map (aP ins rows)
 | []=>rfl
 |t::ts=>by rw[nL,V6,lu ins rows ts]
def cC(ins:List (V5×Int))(rows:List (List Th))(ks:List Th)(s k:Int):Th:=((ks.map (aP ins rows)).getD k.toNat []).getD s.toNat bg
theorem ce(ins:List (V5×Int))(rows:List (List Th))(n:V5)(ks:List Th):aP ins rows (.knot n ks)=rows.map λrow=>(row.getD ((ins.map (·.1)).idxOf n) bg).fill (cC ins rows ks):=by
 rw[aP,lu];rfl
structure IsNote(Ls:List Th)(ms:List Th)(note:List Int):Prop where
 len:note.length=ms.length
 at':∀(s:Nat)(u:Th),ms[s]?=A? u->(∃j:Nat,Ls[j]?=A? u/\note[s]?=A? (j:Int))\/(u∉Ls/\note[s]?=A? (-1))
theorem IsNote.uniq{ms:List Th}{a b:List Int}(nd:Ls.Nodup)(ha:IsNote Ls ms a)(hb:IsNote Ls ms b):a=b:=by
 refine Yi λs=>?_;by_cases hs:s<ms.length
 .have hu:=Vw hs;rcases ha.at' s _ hu with⟨i,h1,h2⟩|⟨h1,h2⟩
  .rcases hb.at' s _ hu with⟨j,g1,g2⟩|⟨g1,g2⟩
   .rw[h2,g2,dQ nd h1 g1]
   .exact g! (Vx h1) g1
  .rcases hb.at' s _ hu with⟨j,g1,g2⟩|⟨g1,g2⟩
   .exact g! (Vx g1) h1
   .rw[h2,g2]
 .rw[WR (by rw[ha.len];lia),WR (by rw[hb.len];lia)]
theorem IsNote.iff{ms:List Th}{note:List Int}(nd:Ls.Nodup)(h:IsNote Ls ms note){s w:Nat}{u:Th}(hu:ms[s]?=A? u):note[s]?=A? (w:Int)↔Ls[w]?=A? u:=by
 rcases h.at' s u hu with⟨j,h1,h2⟩|⟨h1,h2⟩
 .rw[h2];constructor
  .intro e
   have:j=w:=by
    have:=VN e;lia
   rw[<-this];exact h1
  .intro e;rw[dQ nd h1 e]
 .rw[h2];constructor
  .intro e;have:=VN e;lia
  .intro e;exact g! (Vx e) h1
theorem rA{a:Nat}{b:Int}{xs:List Th}{notes:List (List Int)}{note:List Int}
 (nd:Ls.Nodup) (BI:(ins.map (·.1)).idxOf nm=a) (BJ:rows.map (λrow=>row.getD a bg)=pats) (AK:WSp Ls pats (λ_ _=>True) Ws) (hW:W.map (λq=>(q.1,q.2.1))=Ws.map (λq=>(q.1,q.2.1)))
 (GR:xs.length=m) (AE:∀(k:Nat)(x:Th),xs[k]?=A? x->∃n,notes[k]?=A? n/\IsNote Ls (aP ins rows x) n)
 (Dy:∀p∈pats,∀s k:Int,q! s k∈p.walk->(∃k':Nat,k=(k':Int)/\k'<m)/\∃s':Nat,s=(s':Int)/\s'<rows.length) (hlen:∀x∈xs,(aP ins rows x).length=rows.length)
 (hb:∀i,bt b i=B?↔∃q,Ws[i]?=A? q/\∀(k:Nat)(n:List Int),notes[k]?=A? n->k<m->∀c w:Int,((c,(k:Int)),w)∈q.2.2->n[c.toNat]?=A? w)
 (hn:NoteBy W b rows.length W.length note):IsNote Ls (aP ins rows (.knot nm xs)) note:=by
 have Iv:W.length=Ws.length:=by
  have:=h! Xd hW;rw[Vu,Vu]at this;exact this
 have RT:∀(i:Nat)(q:Int×Int×Vy),W[i]?=A? q->∃q',Ws[i]?=A? q'/\q'.1=q.1/\q'.2.1=q.2.1:=λi q h=>by
  have:(W.map (λq=>(q.1,q.2.1)))[i]?=(Ws.map (λq=>(q.1,q.2.1)))[i]?:=by rw[hW]
  rw[VA,VA,h]at this;obtain⟨q',h1,h2⟩:=V1.mp this.symm;exact⟨q',h1,h! Prod.fst h2,h! Prod.snd h2⟩
 have RU:∀(i:Nat)(q':cu),Ws[i]?=A? q'->∃q,W[i]?=A? q/\q'.1=q.1/\q'.2.1=q.2.1:=λi q' h=>by
  have:(W.map (λq=>(q.1,q.2.1)))[i]?=(Ws.map (λq=>(q.1,q.2.1)))[i]?:=by rw[hW]
  rw[VA,VA,h]at this;obtain⟨q,h1,h2⟩:=V1.mp this;exact⟨q,h1,(h! Prod.fst h2).symm,(h! Prod.snd h2).symm⟩
 have need:∀p∈pats,∀(u:Th)(L:CLs),jD Ls p u L->∀e∈L,∃(k c w:Nat)(n:List Int),e.1.2=(k:Int)/\k<m/\e.1.1=(c:Int)/\e.2=(w:Int)/\notes[k]?=A? n/\(n[c]?=A? (w:Int)↔Ls[w]?=A? (cC ins rows xs e.1.1 e.1.2)):=λp hp u L hL e he=>by
  obtain⟨⟨w,hw,_⟩,hc⟩:=hL.ok e he;obtain⟨⟨k,hk,AH⟩,c,D5,EH⟩:=Dy p hp _ _ hc;obtain⟨x,hx⟩:∃x,xs[k]?=A? x:=⟨_,Vw (by lia)⟩;obtain⟨n,h1,h2⟩:=AE k x hx;have hl:=hlen x (Vx hx);refine⟨k,c,w,n,hk,AH,D5,hw,h1,h2.iff nd (s:=c) ?_⟩;unfold cC;rw[hk,D5,VQ,VQ,V0 (l:=xs.map _),VA,hx,V0];show(aP ins rows x)[c]?=A? (((aP ins rows x)[c]?).getD bg);rw[Vw (by lia)];rfl
 rw[ce,BI];refine⟨by rw[hn.len,Vu],λs u hu=>?_⟩;rw[VA]at hu;obtain⟨row,zN,rfl⟩:=V1.mp hu;have hs:=(glE zN);have hp:pats[s]?=A? (row.getD a bg):=by rw[<-BJ,VA,zN];rfl
 have KD:=Vx hp;rcases hn.at' s hs with⟨i,q,hi,hq,U4,HN,BK⟩|⟨zp,BK⟩
 .obtain⟨q',AB,e1,e2⟩:=RT i q hq;obtain⟨s0,pt,p0,u0,w1,w2,w3,w4,w5⟩:=AK.wf q' (Vx AB);have:s0=s:=by lia
  subst this;rw[hp]at w3;cases w3;obtain⟨q2,O1,y8⟩:=(hb i).mp HN;rw[AB]at O1;cases O1;left;refine⟨pt,?_,by rw[BK,<-e2,w2]⟩;rw[w4];refine h! A? (Eq.symm ((w5.iff _).mpr λe he=>?_));obtain⟨k,c,w,n,h1,h2,h3,h4,h5,h6⟩:=need _ KD _ _ w5 e he;have:=y8 k n h5 h2 e.1.1 e.2 (by rw[<-h1];exact he);rw[h3,VQ,h4]at this;rw[h4,VQ];exact h6.mp this
 .right;refine⟨λhm=>?_,BK⟩;obtain⟨pt,FL⟩:=VL.mp hm;rcases AK.all s pt _ _ trivial hp FL with⟨q',AB,e1,e2⟩|zk
  .obtain⟨i,hi⟩:=VL.mp AB;obtain⟨s0,RV,p0,u0,w1,w2,w3,w4,w5⟩:=AK.wf q' AB;have h1:s0=s:=by lia
   have h2:RV=pt:=by lia
   subst h1 h2;rw[hp]at w3;rw[FL]at w4;cases w3;cases w4;obtain⟨q,hq,f1,f2⟩:=RU i q' hi;have KG:=zp i q (by rw[Iv];exact(glE hi)) hq (by lia);rw[(hb i).mpr ⟨q',hi,λk n hk AH c w O2=>?_⟩]at KG
   .cases KG
   .obtain⟨k',c',w',n',g1,g2,g3,g4,g5,g6⟩:=need _ KD _ _ w5 _ O2;dsimp only at g1 g3 g4;have:k'=k:=by lia
    subst this;rw[hk]at g5;cases g5;rw[g3,VQ,g4];have:=(w5.iff _).mp rfl _ O2;dsimp only at this;rw[g4,VQ]at this;exact g6.mpr this
  .exact zk _ rfl
structure NtE where
 n:Nat
 note:List Int
 t:Th
 a:Vy
 na:Vy
 ta:Vy
def NtE.key(e:NtE):Int×List Int:=((e.n:Int),e.note)
structure NtA(H:Hp)(e:NtE):Prop where
 a:H e.a=A? (.tup [.int (e.n:Nat),.ref e.na,.ref e.ta])
 na:H e.na=A? (.tup (e.note.map o!))
 ta:At H e.t e.ta
theorem NtA.mono(k:KT H H'){e:NtE}(h:NtA H e):NtA H' e:=⟨k _ _ h.a,k _ _ h.na,h.ta.mono k⟩
def f9(note:List Int):List Key:=note.map Wt
theorem oE{a b:List Int}(h:f9 a=f9 b):a=b:=by
 unfold f9 at h;exact List.map_inj_right (λx y e=>Z2 e) |>.mp h
theorem sX(note:List Int):(f9 note).map kV=note.map o!:=by unfold f9;rw[Wk];rfl
def nfv(F:List NtE):List (List Key×V):=F.map λe=>(f9 e.note,k! e.a)
theorem j8(F:List NtE):(nfv F).length=F.length:=Vu _
theorem qK{F:List NtE}{note:List Int}(h:bT (nfv F) (f9 note)=A? v):∃(i:Nat)(e:NtE),F[i]?=A? e/\e.note=note/\v=.ref e.a:=by
 obtain⟨i,hi⟩:=VL.mp (qF h);unfold nfv at hi;rw[VA]at hi;obtain⟨e,he,z⟩:=V1.mp hi;exact⟨i,e,he,oE (h! Prod.fst z),(h! Prod.snd z).symm⟩
theorem kB{F:List NtE}{note:List Int}(h:bT (nfv F) (f9 note)=AQ):note∉F.map (·.note):=λz=>by
 obtain⟨e,he,rfl⟩:=VX.mp z;exact lz h (by unfold nfv;rw[Wk];exact VX.mpr ⟨e,he,rfl⟩)
theorem u5{F:List NtE}{c:NtE}(h:bT (nfv F) (f9 c.note)=AQ):putK (nfv F) (f9 c.note) (.ref c.a)=nfv (F++[c]):=by
 rw[oz (lz h)];unfold nfv;rw[V3];rfl
theorem xk{F:List NtE}(nd:(F.map (·.note)).Nodup):((nfv F).map (·.1)).Nodup:=by
 unfold nfv;rw[Wk]
 have:∀l:List (List Int),l.Nodup->(l.map f9).Nodup:=λl=>by
  induction l with
  |nil=>intro _;simp
  | cons c l ih =>
    intro hn;rw[WG]at hn;rw[V6,WG];refine⟨λz=>?_,ih hn.2⟩;obtain⟨c',zV,e⟩:=VX.mp z;exact hn.1 (oE e ▸ zV)
 have:=this _ nd;rw[Wk]at this;exact this
theorem uR{F:List NtE}(nd:(F.map (·.note)).Nodup){e c:NtE}(h:F[i]?=A? e)(hn:e.note=c.note):putK (nfv F) (f9 c.note) (.ref c.a)=nfv (F.set i c):=by
 rw[n9 (xk nd) (i:=i) (u:=.ref e.a) (by unfold nfv;rw[VA,h,<-hn];rfl)];unfold nfv;rw[List.map_set]
structure Tb where
 x:Vy
 dx:Vy
 S:Nat
 wl:Vy
 fd:Vy
 st:Vy
 ws:List Wy
 found:List NtE
 settled:List NtE
def tbF(S:Nat)(wl fd st:Vy):List (V5×V):=[(VE "states",.int (S:Nat)),(VE "ways",.ref wl),(VE "found",.ref fd),(VE "settled",.ref st)]
theorem yh{S:Nat}{fd st:Vy}:(tbF S wl fd st).lookup (VE "states")=A? (.int (S:Nat)):=lk0
theorem vI{S:Nat}{fd st:Vy}:(tbF S wl fd st).lookup (VE "ways")=A? (.ref wl):=(lk1 (by decide +kernel)).trans lk0
theorem kW{S:Nat}{fd st:Vy}:(tbF S wl fd st).lookup (VE "found")=A? (.ref fd):=(lk1 (by decide +kernel)).trans ((lk1 (by decide +kernel)).trans lk0)
theorem mD{S:Nat}{fd st:Vy}:(tbF S wl fd st).lookup (VE "settled")=A? (.ref st):=(lk1 (by decide +kernel)).trans ((lk1 (by decide +kernel)).trans ((lk1 (by decide +kernel)).trans lk0))
theorem mZ{m:V5}{S:Nat}{fd st:Vy}(h1:(m == VE "states")=false:=by decide +kernel)(h2:(m == VE "ways")=false:=by decide +kernel)(h3:(m == VE "found")=false:=by decide +kernel)(h4:(m == VE "settled")=false:=by decide +kernel):(tbF S wl fd st).lookup m=AQ :=
 (lk1 h1).trans ((lk1 h2).trans ((lk1 h3).trans ((lk1 h4).trans rfl)))
theorem uy(S:Nat)(wl fd st:Vy):aO (VE "settled") (.ref st) (aO (VE "found") (.ref fd) (aO (VE "ways") (.ref wl) (aO (VE "states") (.int (S:Nat)) [])))=tbF S wl fd st:=by
 have e1:∀(f:V5)(v:V),aO f v []=[(f,v)]:=λf v=>by rw[aO]
 rw[e1,cE (by decide +kernel),e1,cE (by decide +kernel),cE (by decide +kernel),cE (by decide +kernel),e1,cE (by decide +kernel),cE (by decide +kernel),e1];rfl
def Wy.bs(w:Wy):List Vy:=w.pl::w.nl::w.al::(w.ks.map (·.d)++w.ks.map (·.a))
structure TbAt(CT CW:Vy)(H:Hp)(tb:Tb):Prop where
 ins:H tb.x=A? (.ins CT tb.dx (tbF tb.S tb.wl tb.fd tb.st))
 wl:H tb.wl=A? (.lst (tb.ws.map λw=>k! w.x))
 wa:∀w∈tb.ws,WyAt CW H w
 fd:H tb.fd=A? (.dT (nfv tb.found))
 st:H tb.st=A? (.lst (tb.settled.map λe=>k! e.a))
 fe:∀e∈tb.found,NtA H e
 se:∀e∈tb.settled,NtA H e
 nd:(tb.ws.flatMap Wy.bs).Nodup
 sep:∀b∈tb.ws.flatMap Wy.bs,b≠tb.wl/\b≠tb.st/\b≠tb.fd
 n1:tb.wl≠tb.st
theorem iu{ws:List Wy}{w:Wy}(h:w∈ws)(hb:b∈w.bs):b∈ws.flatMap Wy.bs:=Yu.mpr ⟨w,h,hb⟩
theorem wv{w:Wy}(h:b∈w.ks.map (·.a)):b∈w.bs:=by unfold Wy.bs;simp only[VS,VP];exact .inr (.inr (.inr (.inr h)))
theorem WyAt.frame{w:Wy}(h:WyAt C H w)(f:FrB S H H')(k:KT H H')(hx:w.x∉S)(hS:∀b∈w.bs,b∉S):WyAt C H' w:=h.keep k λb hb o e=>f b o (by
 unfold Wy.own at hb;rcases VS.mp hb with rfl|hb
 .exact hx
 .exact hS b hb) e
theorem TbAt.same{tb:Tb}(h:TbAt CT CW H tb)(s:j! H H'):TbAt CT CW H' tb :=
 ⟨s _ _ h.ins,s _ _ h.wl,λw hw=>(h.wa w hw).same s,s _ _ h.fd,s _ _ h.st,λe he=>(h.fe e he).mono (n! s),λe he=>(h.se e he).mono (n! s),h.nd,h.sep,h.n1⟩
theorem KT.of_frame(f:FrB S H H')(hS:∀b∈S,∃o,H b=A? o/\∀xs,o≠.tup xs):KT H H':=λb xs e=>f b _ (λz=>by
 obtain⟨o,h1,h2⟩:=hS b z;rw[e]at h1;exact h2 xs (VN h1).symm) e
theorem xf(e:H b=A? o)(hS:∀a∈S,∃u,H a=A? u/\u≠o):b∉S:=λz=>by
 obtain⟨u,h1,h2⟩:=hS b z;rw[e]at h1;exact h2 (VN h1).symm
theorem TbAt.setFound{tb:Tb}{F:List NtE}(h:TbAt CT CW H tb)(hF:∀e∈F,NtA H e):TbAt CT CW (upd H tb.fd (.dT (nfv F))) {tb with found:=F}:=by
 have k:KT H (upd H tb.fd (.dT (nfv F))):=λb xs e=>by rw[af (aH e h.fd (λz=>nomatch z))];exact e
 have o:∀{b:Vy}{u:HO},H b=A? u->b≠tb.fd->(upd H tb.fd (.dT (nfv F))) b=A? u:=λe hb=>(af hb).trans e;refine⟨o h.ins (aH h.ins h.fd (λz=>nomatch z)),o h.wl (aH h.wl h.fd (λz=>nomatch z)),λw hw=>(h.wa w hw).frame (M! (VH.mpr rfl)) k ?_ λb hb=>?_,ac,o h.st (aH h.st h.fd (λz=>nomatch z)),λe he=>(hF e he).mono k,λe he=>(h.se e he).mono k,h.nd,h.sep,h.n1⟩
 .exactλz=>aH (h.wa w hw).ins h.fd (λz=>nomatch z) (VH.mp z)
 .exactλz=>(h.sep b (iu hw hb)).2.2 (VH.mp z)
theorem TbAt.push{tb:Tb}{e:NtE}(h:TbAt CT CW H tb)(he:NtA H e):TbAt CT CW (upd H tb.st (.lst ((tb.settled.map λe=>k! e.a)++[.ref e.a]))) {tb with settled:=tb.settled++[e]}:=by
 have k:KT H (upd H tb.st (.lst ((tb.settled.map λe=>k! e.a)++[.ref e.a]))):=λb xs e=>by rw[af (aH e h.st (λz=>nomatch z))];exact e
 have o:∀{b:Vy}{u:HO},H b=A? u->b≠tb.st->(upd H tb.st (.lst ((tb.settled.map λe=>k! e.a)++[.ref e.a]))) b=A? u:=λe hb=>(af hb).trans e;refine⟨o h.ins (aH h.ins h.st (λz=>nomatch z)),o h.wl h.n1,λw hw=>(h.wa w hw).frame (M! (VH.mpr rfl)) k ?_ λb hb=>?_,o h.fd (aH h.fd h.st (λz=>nomatch z)),?_,λe he=>(h.fe e he).mono k,λe' zI=>?_,h.nd,h.sep,h.n1⟩
 .exactλz=>aH (h.wa w hw).ins h.st (λz=>nomatch z) (VH.mp z)
 .exactλz=>(h.sep b (iu hw hb)).2.1 (VH.mp z)
 .show(upd H tb.st _) tb.st=_;rw[ac,V3];rfl
 .rcases VP.mp zI with zI|zI
  .exact(h.se e' zI).mono k
  .rw[VH.mp zI];exact he.mono k
theorem rg:∀{ws:List Wy}{i j:Nat}{w w':Wy},(ws.flatMap Wy.bs).Nodup->ws[i]?=A? w->ws[j]?=A? w'->i≠j->∀{b:Vy},b∈w.bs->b∈w'.bs->False
 | [],_,_,_,_,_,hi,_,_,_,_,_=>by simp at hi
 |x::ws,0,0,_,_,_,_,_,h,_,_,_=>h rfl
 | x::ws,0,j+1,w,w',nd,hi,hj,_,b,h1,h2=>by
   rw[List.flatMap_cons,Xa]at nd;rw[List.getElem?_cons_zero]at hi;rw[Ze]at hj;cases hi;exact nd.2.2 b h1 b (iu (Vx hj) h2) rfl
 | x::ws,i+1,0,w,w',nd,hi,hj,_,b,h1,h2=>by
   rw[List.flatMap_cons,Xa]at nd;rw[List.getElem?_cons_zero]at hj;rw[Ze]at hi;cases hj;exact nd.2.2 b h2 b (iu (Vx hi) h1) rfl
 | x::ws,i+1,j+1,w,w',nd,hi,hj,Mq,b,h1,h2=>by
   rw[List.flatMap_cons,Xa]at nd;rw[Ze]at hi hj;exact rg nd.2.1 hi hj (λz=>Mq (by rw[z])) h1 h2
theorem TbAt.setWy{tb:Tb}{w w':Wy}(h:TbAt CT CW H tb)(hi:tb.ws[i]?=A? w)(f:FrB (w.ks.map (·.a)) H H')(AZ:WyAt CW H' w')(hx:w'.x=w.x)(hb:w'.bs=w.bs):TbAt CT CW H' {tb with ws:=tb.ws.set i w'}:=by
 have hm:=Vx hi;have AI:=h.wa w hm
 have hS:∀b∈w.ks.map (·.a),∃xs,H b=A? (.lst xs):=λb hb=>by
  obtain⟨k,hk,rfl⟩:=VX.mp hb;exact⟨_,AI.ag k hk⟩
 have k:KT H H':=KT.of_frame f λb hb=>by
  obtain⟨xs,e⟩:=hS b hb;exact⟨_,e,λys z=>nomatch z⟩
 have nS:∀{b:Vy}{o:HO},H b=A? o->(∀xs,o≠.lst xs)->b∉w.ks.map (·.a):=λe ho=>xf e λa ha=>by
  obtain⟨xs,e'⟩:=hS a ha;exact⟨_,e',(ho xs).symm⟩
 have sp:∀b∈w.ks.map (·.a),b≠tb.wl/\b≠tb.st/\b≠tb.fd:=λb hb=>h.sep b (iu hm (wv hb))
 have O3:(tb.ws.set i w').flatMap Wy.bs=tb.ws.flatMap Wy.bs:=by
  rw[List.flatMap_def,List.flatMap_def,map_set _ hi hb]
 refine⟨f _ _ (nS h.ins (λxs z=>nomatch z)) h.ins,?_,λv hv=>?_,f _ _ (nS h.fd (λxs z=>nomatch z)) h.fd,f _ _ (λz=>(sp _ z).2.1 rfl) h.st,λe he=>(h.fe e he).mono k,λe he=>(h.se e he).mono k,?_,?_,h.n1⟩
 .exact(f _ _ (λz=>(sp _ z).1 rfl) h.wl).trans (h! (λz=>A? (HO.lst z)) (map_set (λw:Wy=>k! w.x) hi (by rw[hx])).symm)
 .rcases mem_set hv with rfl|⟨j,hj,hv⟩
  .exact AZ
  .have O4:=h.wa v (Vx hv);exact O4.frame f k (nS O4.ins (λxs z=>nomatch z)) λb hb RW=>rg h.nd hi hv (XC hj) (wv RW) hb
 .show((tb.ws.set i w').flatMap Wy.bs).Nodup;rw[O3];exact h.nd
 .show∀b∈(tb.ws.set i w').flatMap Wy.bs,_;rw[O3];exact h.sep
end BB
variable{F F':List BB.NtE}
namespace BB
open PySem L2
inductive Entd(F:List NtE)(c:NtE):List NtE->Prop
 |keep (e:NtE):e∈F->e.note=c.note->e.n<=c.n->Entd F c F
 |set (i:Nat) (e:NtE):F[i]?=A? e->e.note=c.note->c.n<e.n->Entd F c (F.set i c)
 |add:c.note∉F.map (·.note)->F.length≠30->Entd F c (F++[c])
theorem Entd.mem{c:NtE}(h:Entd F c F'):∀e∈F',e∈F\/e=c:=λe he=>by
 cases h with
 |keep=>exact .inl he
 | set i e0 h1 h2 h3 =>
   rcases mem_set he with rfl|⟨j,_,hj⟩
   .exact .inr rfl
   .exact .inl (Vx hj)
 | add =>
   rcases VP.mp he with he|he
   .exact .inl he
   .exact .inr (VH.mp he)
def aG(settled:List NtE)(ks:List Nat):List Th:=ks.map λk=>((settled[k]?).map (·.t)).getD bg
theorem qY{settled:List NtE}:∀{ks:List Nat},(∀k∈ks,k<settled.length)->(∀e∈settled,NtA H e)->Ats H (aG settled ks) (ks.map λk=>((settled[k]?).map (·.ta)).getD 0)
 | [],_,_=>.nil
 | k::ks,h,hs=>by
   have hk:=h k (VO ..);have e:=Vw hk;unfold aG;rw[V6,V6];refine .cons ?_ (qY (λk hk=>h k (VR _ hk)) hs);rw[e];exact(hs _ (WQ hk)).ta
theorem mq:∀{a b:List Int},F! a b=C?->F! b a=C?->a=b
 | [],[],_,_=>rfl
 | [],_::_,h,_=>by cases h
 |_::_,[],_,h=>by cases h
 | x::a,y::b,h,g=>by
   rw[O!]at h g;by_cases e:x=y
   .rw[b! e]at h;rw[b! e.symm]at g;rw[e,mq h g]
   .rw[a! e]at h;rw[a! (XC e)]at g;have h:=of_decide_eq_false h;have g:=of_decide_eq_false g;lia
theorem r9{a b:Int×List Int}(h:keyLt a b=C?)(g:keyLt b a=C?):a=b:=by
 unfold keyLt at h g;by_cases e:a.1=b.1
 .rw[b! e]at h;rw[b! e.symm]at g;exact Prod.ext e (mq h g)
 .rw[a! e]at h;rw[a! (XC e)]at g;have h:=of_decide_eq_false h;have g:=of_decide_eq_false g;lia
theorem qR{a b:Int×List Int}(h:keyLt a b=B?):a.1<=b.1:=by
 unfold keyLt at h;by_cases e:a.1=b.1
 .lia
 .rw[a! e]at h;have:=e! h;lia
theorem sW{a b:Int×List Int}(h:a.1<b.1):keyLt a b=true:=by
 unfold keyLt;rw[a! (by lia)];exact d! h
structure Told(ins:List (V5×Int))(rows:List (List Th))(Ls:List Th)(e:NtE):Prop where
 n:e.n=e.t.size
 fit:e.t.Fit ins
 note:IsNote Ls (aP ins rows e.t) e.note
structure PInv(ins:List (V5×Int))(rows:List (List Th))(Ls:List Th)(F St:List NtE)(cl:V5->List Nat->Prop):Prop where
 f1:∀e∈F,Told ins rows Ls e
 f2:(F.map (·.note)).Nodup
 f3:F.length<=30
 s1:∀e∈St,e∈F
 s2:St.Pairwise λa b=>keyLt a.key b.key=B?
 s3:∀e∈F,e∉St->∀s∈St,keyLt s.key e.key=B?
 cl:∀nm ks,cl nm ks->∃e∈F,IsNote Ls (aP ins rows (.knot nm (aG St ks))) e.note/\e.n<=(r! nm (aG St ks)).size
 t1:∀(j:Nat)(e:NtE),St[j]?=A? e->e.t.tall<=j+1
 t2:∀e∈F,e.t.tall<=St.length+1
theorem PInv.congr{St:List NtE}{c d:V5->List Nat->Prop}(h:PInv ins rows Ls F St c)(e:∀nm ks,d nm ks->c nm ks):PInv ins rows Ls F St d:=⟨h.f1,h.f2,h.f3,h.s1,h.s2,h.s3,λnm ks z=>h.cl nm ks (e nm ks z),h.t1,h.t2⟩
theorem PInv.nil:PInv ins rows Ls [] [] (λ_ _=>False):=⟨(by intro e he;cases he),by simp,Wh _,(by intro e he;cases he),.nil,(by intro e he;cases he),λ_ _ h=>h.elim,λj e h=>by simp at h,(by intro e he;cases he)⟩
theorem PInv.enter{St:List NtE}{c:V5->List Nat->Prop}{x:NtE}(h:PInv ins rows Ls F St c)(hd:Entd F x F')(hx:Told ins rows Ls x)(yZ:∀s∈St,s.n<x.n)(GS:x.t.tall<=St.length+1):PInv ins rows Ls F' St (λnm ks=>c nm ks\/r! nm (aG St ks)=x.t):=by
 have hk:∀s∈St,keyLt s.key x.key=true:=λs hs=>sW (by have:=yZ s hs;show(s.n:Int)<(x.n:Int);lia);cases hd with
 | keep e he h1 h2 =>
   refine⟨h.f1,h.f2,h.f3,h.s1,h.s2,h.s3,λnm ks z=>?_,h.t1,h.t2⟩;rcases z with z|z
   .exact h.cl nm ks z
   .rw[z];exact⟨e,he,by rw[h1];exact hx.note,by rw[<-hx.n];exact h2⟩
 | set i e he h1 h2 =>
   have B9:e∉St:=λz=>by have:=yZ e z;lia
   have hi:=(glE he);have O5:x∈F.set i x:=Vx (i:=i) (by rw[W5 hi])
   have old:∀y∈F,y≠e->y∈F.set i x:=λy hy zk=>by
    obtain⟨j,hj⟩:=VL.mp hy;by_cases z:i=j
    .subst z;rw[he]at hj;cases hj;exact g! rfl zk
    .exact Vx (i:=j) (by rw[W6 z];exact hj)
   have mem:∀y∈F.set i x,y=x\/y∈F:=λy hy=>by
    rcases mem_set hy with rfl|⟨j,_,hj⟩
    .exact .inl rfl
    .exact .inr (Vx hj)
   refine⟨λy hy=>?_,by rw[map_set _ he h1.symm];exact h.f2,by rw[XR];exact h.f3,λs hs=>old s (h.s1 s hs) (λz=>B9 (z ▸ hs)),h.s2,λy hy Cn s hs=>?_,λnm ks z=>?_,h.t1,λy hy=>?_⟩
   .rcases mem y hy with rfl|hy
    .exact hx
    .exact h.f1 y hy
   .rcases mem y hy with rfl|hy
    .exact hk s hs
    .exact h.s3 y hy Cn s hs
   .rcases z with z|z
    .obtain⟨y,hy,g1,g2⟩:=h.cl nm ks z;by_cases ye:y=e
     .subst ye;exact⟨x,O5,by rw[<-h1];exact g1,by lia⟩
     .exact⟨y,old y hy ye,g1,g2⟩
    .rw[z];exact⟨x,O5,hx.note,by rw[<-hx.n];exact VG _⟩
   .rcases mem y hy with rfl|hy
    .exact GS
    .exact h.t2 y hy
 | add h1 h2 =>
   have h3:=h.f3;refine⟨λy hy=>?_,?_,by rw[VJ,Wa];lia,λs hs=>VT _ (h.s1 s hs),h.s2,λy hy Cn s hs=>?_,λnm ks z=>?_,h.t1,λy hy=>?_⟩
   .rcases VP.mp hy with hy|hy
    .exact h.f1 y hy
    .rw[VH.mp hy];exact hx
   .rw[V3,Xa];refine⟨h.f2,by simp,λa ha b hb z=>h1 ?_⟩;rw[List.map_singleton,VH]at hb;rw[<-hb,<-z];exact ha
   .rcases VP.mp hy with hy|hy
    .exact h.s3 y hy Cn s hs
    .rw[VH.mp hy];exact hk s hs
   .rcases z with z|z
    .obtain⟨y,hy,g⟩:=h.cl nm ks z;exact⟨y,VT _ hy,g⟩
    .rw[z];exact⟨x,by simp,hx.note,by rw[<-hx.n];exact VG _⟩
   .rcases VP.mp hy with hy|hy
    .exact h.t2 y hy
    .rw[VH.mp hy];exact GS
theorem nY{St:List NtE}{e:NtE}{ks:List Nat}(h:∀k∈ks,k<St.length):aG (St++[e]) ks=aG St ks:=by
 unfold aG;refine ZD λk hk=>?_;rw[Wj (h k hk)]
theorem PInv.settle{St:List NtE}{c:V5->List Nat->Prop}{e:NtE}(h:PInv ins rows Ls F St c)(he:e∈F)(hn:e∉St)(Cb:∀y∈F,y∉St->keyLt y.key e.key=C?) :
 PInv ins rows Ls F (St++[e]) (λnm ks=>c nm ks/\∀k∈ks,k<St.length)/\∀s∈St,s.n<=e.n:=by
 have hs:=h.s3 e he hn;refine⟨⟨h.f1,h.f2,h.f3,λs hs=>?_,?_,λy hy Cn s Bo=>?_,λnm ks z=>?_,λj y hj=>?_,λy hy=>?_⟩,λs h'=>?_⟩
 .rcases VP.mp hs with hs|hs
  .exact h.s1 s hs
  .rw[VH.mp hs];exact he
 .rw[YW];exact⟨h.s2,by simp,λa ha b hb=>by rw[VH.mp hb];exact hs a ha⟩
 .have O6:y∉St:=λz=>Cn (VT _ z);rcases VP.mp Bo with Bo|Bo
  .exact h.s3 y hy O6 s Bo
  .rw[VH.mp Bo];cases hk:keyLt e.key y.key with
   |true=>rfl
   | false =>
     have:=r9 hk (Cb y hy O6);have zk:y≠e:=λz=>Cn (by rw[z];simp);have BK:y.note=e.note:=(h! Prod.snd this).symm;obtain⟨i,hi⟩:=VL.mp hy;obtain⟨j,hj⟩:=VL.mp he;have:=fM h.f2 hi hj BK;subst this;rw[hi]at hj;exact g! (VN hj) zk
 .rw[nY z.2];exact h.cl nm ks z.1
 .by_cases DT:j<St.length
  .rw[Wj DT]at hj;exact h.t1 j y hj
  .rw[Ww (by lia)]at hj
   have:j - St.length=0:=by
    have:=(glE hj);rw[Wa]at this;lia
   rw[this]at hj;cases hj;have:=h.t2 e he;lia
 .have:=h.t2 y hy;rw[VJ,Wa];lia
 .have:=qR (hs s h');have h1:(s.n:Int)<=(e.n:Int):=this;lia
def Over(ins:List (V5×Int))(rows:List (List Th))(Ls:List Th):Prop:=∃l:List (List Int),l.length=31/\l.Nodup/\∀note∈l,∃t:Th,t.Fit ins/\IsNote Ls (aP ins rows t) note
theorem PInv.over{St:List NtE}{c:V5->List Nat->Prop}{t:Th}{note:List Int}(h:PInv ins rows Ls F St c)(GU:F.length=30)(zp:note∉F.map (·.note))(hf:t.Fit ins)(hn:IsNote Ls (aP ins rows t) note):Over ins rows Ls:=by
 refine⟨note::F.map (·.note),by rw[VU,Vu,GU],WG.mpr ⟨zp,h.f2⟩,λx hx=>?_⟩;rcases VS.mp hx with rfl|hx
 .exact⟨t,hf,hn⟩
 .obtain⟨e,he,rfl⟩:=VX.mp hx;exact⟨e.t,(h.f1 e he).fit,(h.f1 e he).note⟩
theorem jt{g1 g2:Int->Int->Th}(hL:bZ Ls):∀(p:Th),(∀s k:Int,q! s k∈p.walk->∀u∈Ls,g1 s k=u->g2 s k=u)->∀u∈Ls,p.fill g1=u->p.fill g2=u
 | .call s k,h,u,hu,e=>by
   rw[B!]at e |-;exact h s k (by rw[G!];exact VO ..) u hu e
 | .knot n ks,h,u,hu,e=>by
   rw[B!]at e |-;subst e;have hk:=hL _ hu;refine h! (r! n) ?_
   have:∀ts:List Th,(∀t∈ts,t∈ks)->(∀x∈fills g1 ts,x∈Ls)->fills g2 ts=fills g1 ts:=by
    intro ts;induction ts with
    |nil=>intro _ _;rw[fills,fills]
    | cons t ts ih =>
      intro ht hx;rw[fills]at hx |-;rw[fills,ih (λt h=>ht t (VR _ h)) λx h=>hx x (VR _ h)];have EG:=ht t (VO ..);rw[jt hL t (λs k m=>h s k (gv (t:=.knot n ks) EG _ m)) (t.fill g1) (hx _ (VO ..)) rfl]
   exact this ks (λt h=>h) hk
termination_by p=>p.size
decreasing_by
 all_goals
  have:=tN (t:=.knot n ks) EG;exact this
theorem pB{xs ys:List Th}{note:List Int}(hL:bZ Ls)(nd:Ls.Nodup)(hc:∀p,(∃row∈rows,p=row.getD ((ins.map (·.1)).idxOf nm) bg)->∀s k:Int,q! s k∈p.walk->(∃k':Nat,k=(k':Int)/\k'<xs.length)/\∃s':Nat,s=(s':Int)/\s'<rows.length)
 (hp:Wc (λx y=>∃n,IsNote Ls (aP ins rows x) n/\IsNote Ls (aP ins rows y) n/\n.length=rows.length) xs ys) (hn:IsNote Ls (aP ins rows (.knot nm xs)) note):IsNote Ls (aP ins rows (.knot nm ys)) note:=by
 rw[ce]at hn |-
 have key:∀row∈rows,∀s k:Int,q! s k∈(row.getD ((ins.map (·.1)).idxOf nm) bg).walk->∀u∈Ls,cC ins rows xs s k=u↔cC ins rows ys s k=u:=λrow hr s k hm u hu=>by
  obtain⟨⟨k',rfl,zt⟩,s',rfl,Bo⟩:=hc _ ⟨row,hr,rfl⟩ _ _ hm;obtain⟨x,hx⟩:∃x,xs[k']?=A? x:=⟨_,Vw zt⟩;obtain⟨y,hy,n,h1,h2,h3⟩:=u! hp hx;obtain⟨w,hw⟩:=VL.mp hu
  have get:∀(zs:List Th)(z:Th),zs[k']?=A? z->IsNote Ls (aP ins rows z) n->(cC ins rows zs (s':Int) (k':Int)=u↔n[s']?=A? (w:Int)):=λzs z hz EE=>by
   have hl:s'<(aP ins rows z).length:=by rw[<-EE.len,h3];exact Bo
   have e:(aP ins rows z)[s']?=A? (cC ins rows zs (s':Int) (k':Int)):=by
    unfold cC;rw[VQ,VQ,V0 (l:=zs.map _),VA,hz,V0];show _=A? (((aP ins rows z)[s']?).getD bg);rw[Vw hl];rfl
   rw[EE.iff nd e,hw];exact⟨λz=>by rw[z],λz=>(VN z).symm⟩
  rw[get xs x hx h1,get ys y hy h2]
 refine⟨by rw[hn.len,Vu,Vu],λs u hu=>?_⟩;rw[VA]at hu;obtain⟨row,zN,rfl⟩:=V1.mp hu;have hr:=Vx zN;rcases hn.at' s _ (gmE zN)with⟨j,h1,h2⟩|⟨h1,h2⟩
 .have:=jt hL _ (λs k m u hu e=>(key row hr s k m u hu).mp e) _ (Vx h1) rfl;exact .inl ⟨j,by rw[this];exact h1,h2⟩
 .refine .inr ⟨λz=>h1 ?_,h2⟩;have:=jt hL _ (λs k m u hu e=>(key row hr s k m u hu).mpr e) _ z rfl;show B! (cC ins rows xs) _∈Ls;rw[this];exact z
structure KAg(Ws:List cu)(St:List NtE)(ks:List Kd):Prop where
 len:∀kd∈ks,kd.ag.length=St.length
 at':∀(k:Nat)(kd:Kd)(n:Nat)(e:NtE),ks[k]?=A? kd->St[n]?=A? e->∃b,kd.ag[n]?=A? b/\0<=b/\∀i,bt b i=B?↔Agr Ws e.note k i
theorem KAg.nil{ks:List Kd}(h:∀kd∈ks,kd.ag=[]):KAg Ws [] ks :=
 ⟨λkd hk=>by rw[h kd hk];rfl,λk kd n e _ he=>by simp at he⟩
theorem KAg.take{St:List NtE}{e:NtE}{ks:List Kd}(h:KAg Ws St ks)(t:Took Ws e.note ks ks.length za):KAg Ws (St++[e]) za:=by
 have old:∀(k:Nat)(AA:Kd),za[k]?=A? AA->∃kd b,ks[k]?=A? kd/\AA={kd with ag:=kd.ag++[b]}/\0<=b/\∀i,bt b i=B?↔Agr Ws e.note k i:=λk AA hk=>by
  have hl:k<ks.length:=by rw[<-t.len];exact(glE hk)
  obtain⟨b,h1,h2,h3⟩:=t.lo k _ hl (Vw hl);rw[hk]at h1;exact⟨_,b,Vw hl,VN h1,h2,h3⟩
 refine⟨λAA hk=>?_,λk AA n e' hk he=>?_⟩
 .obtain⟨k,hk⟩:=VL.mp hk;obtain⟨kd,b,h1,rfl,_⟩:=old k AA hk;show(kd.ag++[b]).length=_;rw[VJ,VJ,h.len kd (Vx h1)];rfl
 .obtain⟨kd,b,h1,rfl,h2,h3⟩:=old k AA hk;have hl:=h.len kd (Vx h1);rcases aV.mp he with he|⟨rfl,rfl⟩
  .obtain⟨b',g1,g2⟩:=h.at' k kd n e' h1 he;exact⟨b',aV.mpr (.inl g1),g2⟩
  .exact⟨b,aV.mpr (.inr ⟨hl.symm,D?⟩),h2,h3⟩
def iF(St:List NtE)(js:List Nat):List (List Int):=js.map λj=>((St[j]?).map (·.note)).getD []
theorem KAg.bits{St:List NtE}{ks:List Kd}(h:KAg Ws St ks){js:List Nat}(hl:js.length=ks.length)(hj:∀n∈js,n<St.length) :
 0<=(cnd (ks.map (·.ag)) Z (ones Ws.length) js).b/\∀i,bt (cnd (ks.map (·.ag)) Z (ones Ws.length) js).b i=B?↔∃q,Ws[i]?=A? q/\∀(k:Nat)(n:List Int),(iF St js)[k]?=A? n->k<ks.length->∀c w:Int,((c,(k:Int)),w)∈q.2.2->n[c.toNat]?=A? w:=by
 have get:∀j n,j<ks.length->n<St.length->∃e b,St[n]?=A? e/\((ks.map (·.ag)).getD j []).getD n 0=b/\0<=b/\∀i,bt b i=B?↔Agr Ws e.note j i:=λj n h1 h2=>by
  have e1:=Vw h1;have e2:=Vw h2;obtain⟨b,g1,g2⟩:=h.at' j _ n _ e1 e2;refine⟨_,b,e2,?_,g2⟩;rw[V0,V0,VA,e1];show((ks[j].ag)[n]?).getD 0=b;rw[g1];rfl
 obtain⟨b0,b1⟩:=wO (AG:=ks.map (·.ag)) (sz:=Z) (N:=Ws.length) (L:=St.length) (λj n h1 h2=>by
  obtain⟨e,b,_,g2,g3,_⟩:=get j n (by simpa using h1) h2;rw[g2];exact g3) js (by rw[Vu];lia) hj
 refine⟨b0,λi=>?_⟩;rw[b1];constructor
 .rintro⟨hi,y8⟩;refine⟨_,Vw hi,λk n hk AH c w hm=>?_⟩;unfold iF at hk;rw[VA]at hk;obtain⟨j,BU,rfl⟩:=V1.mp hk;obtain⟨e,b,g1,g2,_,g4⟩:=get k j AH (hj j (Vx BU));have:=y8 k j BU;rw[g2,g4]at this;obtain⟨q,hq,Iw⟩:=this;rw[Vw hi]at hq;cases hq;rw[g1];exact Iw c w hm
 .rintro⟨q,hq,y8⟩;refine⟨(glE hq),λk j BU=>?_⟩;have hk:k<ks.length:=by rw[<-hl];exact(glE BU)
  obtain⟨e,b,g1,g2,_,g4⟩:=get k j hk (hj j (Vx BU));rw[g2,g4];refine⟨q,hq,λc w hm=>?_⟩;refine y8 k e.note ?_ hk c w hm;unfold iF;rw[VA,BU];show A? (((St[j]?).map (·.note)).getD [])=_;rw[g1];rfl
theorem KAg.note{a:Nat}{St:List NtE}{ks:List Kd}{Z:List Int}{js:List Nat}{note:List Int}
 (h:KAg Ws St ks) (nd:Ls.Nodup) (BI:(ins.map (·.1)).idxOf nm=a) (BJ:rows.map (λrow=>row.getD a bg)=pats) (AK:WSp Ls pats (λ_ _=>True) Ws) (hW:W.map (λq=>(q.1,q.2.1))=Ws.map (λq=>(q.1,q.2.1)))
 (hl:js.length=ks.length) (hj:∀n∈js,n<St.length) (ht:∀e∈St,Told ins rows Ls e) (hlen:∀e∈St,(aP ins rows e.t).length=rows.length)
 (Dy:∀p∈pats,∀s k:Int,q! s k∈p.walk->(∃k':Nat,k=(k':Int)/\k'<ks.length)/\∃s':Nat,s=(s':Int)/\s'<rows.length)
 (hn:NoteBy W (cnd (ks.map (·.ag)) Z (ones W.length) js).b rows.length W.length note):IsNote Ls (aP ins rows (.knot nm (aG St js))) note:=by
 have Iv:W.length=Ws.length:=by
  have:=h! Xd hW;rw[Vu,Vu]at this;exact this
 have kid:∀(k:Nat)(x:Th),(aG St js)[k]?=A? x->∃j e,js[k]?=A? j/\St[j]?=A? e/\x=e.t:=λk x hx=>by
  unfold aG at hx;rw[VA]at hx;obtain⟨j,BU,rfl⟩:=V1.mp hx;have e:=Vw (hj j (Vx BU));exact⟨j,_,BU,e,by rw[e];rfl⟩
 refine rA (m:=ks.length) (notes:=iF St js) nd BI BJ AK hW (by unfold aG;rw[Vu];exact hl) (λk x hx=>?_) Dy (λx hx=>?_) (h.bits hl hj (Z:=Z)).2 (by rw[<-Iv];exact hn)
 .obtain⟨j,e,h1,h2,rfl⟩:=kid k x hx;refine⟨e.note,?_,(ht e (Vx h2)).note⟩;unfold iF;rw[VA,h1];show A? (((St[j]?).map (·.note)).getD [])=_;rw[h2];rfl
 .obtain⟨k,hk⟩:=VL.mp hx;obtain⟨j,e,h1,h2,rfl⟩:=kid k x hk;exact hlen e (Vx h2)
theorem xP{x:Int}(h:0<=x)(hz:x≠0):∃i,bt x i=true:=by
 have:x.toNat≠0:=by lia
 obtain⟨i,hi⟩:=Nat.exists_testBit_of_ne_zero this;exact⟨i,hi⟩
structure KOk(ins:List (V5×Int))(rows:List (List Th))(Ls:List Th)(St:List NtE)(a:Nat)(w:Wy)(Ws:List cu):Prop where
 nm:ins[a]?=A? (w.nm,((w.ks.length:Nat):Int))
 m3:w.ks.length<=3
 sp:WSp Ls (rows.map λrow=>row.getD a bg) (λ_ _=>True) Ws
 ps:w.ps.map (λq=>(q.1,q.2.1))=Ws.map (λq=>(q.1,q.2.1))
 nt:∀(k:Nat)(kd:Kd),w.ks[k]?=A? kd->NeedT Ws k kd.es
 len:Ws.length<=4000
 call:∀p∈rows.map (λrow=>row.getD a bg),∀s k:Int,q! s k∈p.walk->(∃k':Nat,k=(k':Int)/\k'<w.ks.length)/\∃s':Nat,s=(s':Int)/\s'<rows.length
 ag:KAg Ws St w.ks
 nq:w.nm≠q
section
variable{St:List NtE}{a:Nat}{w:Wy}
theorem KOk.psl(h:KOk ins rows Ls St a w Ws):w.ps.length=Ws.length:=by
 have:=h! Xd h.ps;rw[Vu,Vu]at this;exact this
theorem KOk.pz(h:KOk ins rows Ls St a w Ws):∀p∈w.ps,∃s:Nat,p.1=(s:Int)/\s<rows.length:=λp hp=>by
 have:(p.1,p.2.1)∈Ws.map (λq=>(q.1,q.2.1)):=by rw[<-h.ps];exact VX.mpr ⟨p,hp,rfl⟩
 obtain⟨q,hq,e⟩:=VX.mp this;obtain⟨s,pt,x,u,h1,h2,h3,_⟩:=h.sp.wf q hq;refine⟨s,by rw[<-h1];exact(h! Prod.fst e).symm,?_⟩;have:=(glE h3);rw[Vu]at this;exact this
theorem KOk.nc(h:KOk ins rows Ls St a w Ws):∀kd∈w.ks,∀e∈kd.es,∃c:Nat,e.1.1=(c:Int)/\c<rows.length:=λkd hk e he=>by
 obtain⟨k,hk⟩:=VL.mp hk;have nt:=h.nt k kd hk;obtain⟨i,hi⟩:=xP (nt.rng e he).1 (nt.nz e he);obtain⟨q,hq,hm⟩:=(nt.bit e.1.1 e.1.2 i).mp ⟨e,he,rfl,hi⟩;obtain⟨s,pt,x,u,h1,h2,h3,h4,h5⟩:=h.sp.wf q (Vx hq);exact(h.call x (Vx h3) _ _ (h5.ok _ hm).2).2
theorem KOk.ix(h:KOk ins rows Ls St a w Ws)(g:GoodN ins):(ins.map (·.1)).idxOf w.nm=a:=jn g h.nm
theorem KOk.take{e:NtE}(h:KOk ins rows Ls St a w Ws)(t:Took Ws e.note w.ks w.ks.length za):KOk ins rows Ls (St++[e]) a {w with ks:=za} Ws:=by
 have hl:za.length=w.ks.length:=t.len;refine⟨?_,by show za.length<=3;rw[hl];exact h.m3,h.sp,h.ps,λk AA hk=>?_,h.len,?_,h.ag.take t,h.nq⟩
 .show ins[a]?=A? (w.nm,((za.length:Nat):Int));rw[hl];exact h.nm
 .have yZ:k<w.ks.length:=by rw[<-hl];exact(glE hk)
  obtain⟨b,h1,_⟩:=t.lo k _ yZ (Vw yZ);have hk:za[k]?=A? AA:=hk;rw[hk]at h1;have e2:=h.nt k _ (Vw yZ);rw[VN h1];exact e2
 .show∀p∈rows.map (λrow=>row.getD a bg),∀s k:Int,q! s k∈p.walk->(∃k':Nat,k=(k':Int)/\k'<za.length)/\_;rw[hl];exact h.call
theorem cQ{e:NtE}(h:Told ins rows Ls e):(aP ins rows e.t).length=rows.length:=by
 have hf:=h.fit;cases ht:e.t with
 |call s k=>rw[ht,A!]at hf;exact hf.elim
 |knot n ks=>rw[ce,Vu]
theorem kH{St:List NtE}{js:List Nat}:(aG St js).length=js.length:=Vu _
theorem qm{js:List Nat}(hj:∀n∈js,n<St.length)(ht:∀e∈St,Told ins rows Ls e):Fits ins (aG St js):=by
 induction js with
 |nil=>exact trivial
 | cons j js ih =>
   have e:=Vw (hj j (VO ..));refine⟨?_,ih λn hn=>hj n (VR _ hn)⟩;show A! ins (((St[j]?).map (·.t)).getD bg);rw[e];exact(ht _ (WQ _)).fit
theorem KOk.told{js:List Nat}{c:NtE}(h:KOk ins rows Ls St a w Ws)(hn:GoodN ins)(nd:Ls.Nodup)(ht:∀e∈St,Told ins rows Ls e)(hl:js.length=w.ks.length)(hj:∀n∈js,n<St.length)
 (hb:NoteBy w.ps (cnd (w.ks.map (·.ag)) Z (ones w.ps.length) js).b rows.length w.ps.length c.note) (hc:c.t=.knot w.nm (aG St js)) (hz:c.n=(r! w.nm (aG St js)).size):Told ins rows Ls c:=by
 refine⟨by rw[hc];exact hz,?_,?_⟩
 .rw[hc,A!];refine⟨?_,qm hj ht⟩;rw[kH,hl];exact Vx h.nm
 .rw[hc];exact h.ag.note nd (h.ix hn) rfl h.sp h.ps hl hj ht (λe he=>cQ (ht e he)) h.call hb
end
theorem lR:∀{ts:List Th},(∀t∈ts,t.tall<=m)->bw ts<=m
 | [],_=>Wh _
 | t::ts,h=>by
   have h1:=h t (VO ..);have h2:=lR λu hu=>h u (VR _ hu);rw[bw];lia
theorem PInv.tallK{St:List NtE}{c:V5->List Nat->Prop}(h:PInv ins rows Ls F St c){js:List Nat}(hj:∀n∈js,n<St.length):(r! nm (aG St js)).tall<=St.length+1:=by
 show bw (aG St js)+1<=_
 have:=lR (m:=St.length) (ts:=aG St js) λt ht=>by
  obtain⟨j,Mr,rfl⟩:=VX.mp ht;have hl:=hj j Mr;have e:=Vw hl;rw[e];have:=h.t1 j _ e;show(St[j]).t.tall<=_;lia
 lia
def Tb.mut(tb:Tb):List Vy:=tb.fd::tb.st::tb.ws.flatMap λw=>w.ks.map (·.a)
structure TInv(ins:List (V5×Int))(rows:List (List Th))(Ls:List Th)(old:List NtE)(i:Nat)(cl:V5->List Nat->Prop)(tb:Tb):Prop where
 p:PInv ins rows Ls tb.found tb.settled cl
 S:tb.S=rows.length
 n:tb.ws.length=ins.length
 k:∀(a:Nat)(w:Wy),tb.ws[a]?=A? w->∃Ws,KOk ins rows Ls (if a<i then tb.settled else old) a w Ws
section
variable{old:List NtE}{cl:V5->List Nat->Prop}{tb:Tb}
theorem TInv.congr{Iy:V5->List Nat->Prop}(h:TInv ins rows Ls old i cl tb)(e:∀nm ks,Iy nm ks->cl nm ks):TInv ins rows Ls old i Iy tb:=⟨h.p.congr e,h.S,h.n,h.k⟩
theorem TInv.enter{c:NtE}{js:List Nat}(h:TInv ins rows Ls old i cl tb)(hd:Entd tb.found c F')(hc:Told ins rows Ls c)(ht:c.t=.knot nm (aG tb.settled js))(yZ:∀s∈tb.settled,s.n<c.n)(hj:∀n∈js,n<tb.settled.length) :
 TInv ins rows Ls old i (λm ks=>cl m ks\/(m=nm/\ks=js)) {tb with found:=F'} :=
 ⟨(h.p.enter hd hc yZ (by rw[ht];exact h.p.tallK hj)).congr λm ks z=>z.imp id λy=>by rw[ht,y.1,y.2],h.S,h.n,h.k⟩
theorem TInv.take{Iz:List NtE}{e:NtE}{w:Wy}(h:TInv ins rows Ls Iz i cl tb)(hs:tb.settled=Iz++[e])(hw:tb.ws[i]?=A? w)(hk:KOk ins rows Ls Iz i w Ws)(t:Took Ws e.note w.ks w.ks.length za) :
 TInv ins rows Ls Iz (i+1) cl {tb with ws:=tb.ws.set i {w with ks:=za}}:=by
 have hi:=(glE hw);refine⟨h.p,h.S,by show(tb.ws.set i _).length=_;rw[XR];exact h.n,λa v hv=>?_⟩;have hv:(tb.ws.set i {w with ks:=za})[a]?=A? v:=hv;show∃Ws,KOk ins rows Ls (if a<i+1 then tb.settled else Iz) a v Ws;by_cases z:i=a
 .subst z;rw[W5 hi]at hv;rw[<-VN hv,b! (Nat.lt_succ_self _),hs];exact⟨Ws,hk.take t⟩
 .rw[W6 z]at hv;have:=h.k a v hv;by_cases y:a<i
  .rw[b! y]at this;rw[b! (by lia)];exact this
  .rw[a! y]at this;rw[a! (by lia)];exact this
theorem TInv.settle{e:NtE}(h:TInv ins rows Ls old tb.ws.length cl tb)(he:e∈tb.found)(hn:e∉tb.settled)(Cb:∀y∈tb.found,y∉tb.settled->keyLt y.key e.key=C?) :
 TInv ins rows Ls tb.settled 0 (λnm ks=>cl nm ks/\∀k∈ks,k<tb.settled.length) {tb with settled:=tb.settled++[e]}/\∀s∈tb.settled++[e],s.n<=e.n:=by
 obtain⟨h1,h2⟩:=h.p.settle he hn Cb;refine⟨⟨h1,h.S,h.n,λa w hw=>?_⟩,λs hs=>?_⟩
 .have hw:tb.ws[a]?=A? w:=hw;rw[a! (Y5 _)];have:=h.k a w hw;rw[b! (glE hw)]at this;exact this
 .rcases VP.mp hs with hs|hs
  .exact h2 s hs
  .rw[VH.mp hs];exact VG _
end
theorem fu(a:Int×List Int):keyLt a a=false:=by
 unfold keyLt;rw[b! rfl]
 have:∀l:List Int,F! l l=false:=λl=>by
  induction l with
  |nil=>rfl
  |cons x l ih=>rw[O!,b! rfl];exact ih
 exact this _
theorem sub_len:∀{l m:List α},l.Nodup->(∀x∈l,x∈m)->l.length<=m.length
 | [],_,_,_=>Wh _
 | x::l,m,nd,h=>by
   rw[WG]at nd;obtain⟨s,t,rfl⟩:=List.append_of_mem (h x (VO ..))
   have:=sub_len (m:=s++t) nd.2 λy hy=>by
    have:=h y (VR _ hy);rcases VP.mp this with g|g
    .exact VT _ g
    .rcases VS.mp g with rfl|g
     .exact g! hy nd.1
     .exact V9 _ g
   rw[VJ]at this;rw[VU,VJ,VU];lia
theorem PInv.s30{St:List NtE}{c:V5->List Nat->Prop}(h:PInv ins rows Ls F St c):St.length<=30:=by
 refine Wz (sub_len ?_ h.s1) h.f3;refine List.Pairwise.imp (λ{a b}k z=>?_) h.s2;rw[z,fu]at k;cases k
theorem TbAt.beside{tb:Tb}{r:Vy}{v o':HO}(h:TbAt CT CW H tb)(hr:H r=A? v)(v1:∀xs,v≠.tup xs)(v2:∀xs,v≠.lst xs)(v3:∀xs,v≠.dT xs)(v4:∀c d f,v≠.ins c d f):TbAt CT CW (upd H r o') tb:=by
 have k:KT H (upd H r o'):=λb xs e=>by rw[af (aH e hr (v1 xs).symm)];exact e
 have o:∀{b:Vy}{u:HO},H b=A? u->u≠v->(upd H r o') b=A? u:=λe hb=>(af (aH e hr hb)).trans e;refine⟨o h.ins (v4 _ _ _).symm,o h.wl (v2 _).symm,λw hw=>(h.wa w hw).frame (S:=[r]) (M! (VH.mpr rfl)) k ?_ λb hb=>?_,o h.fd (v3 _).symm,o h.st (v2 _).symm,λe he=>(h.fe e he).mono k,λe he=>(h.se e he).mono k,h.nd,h.sep,h.n1⟩
 .exactλz=>aH (h.wa w hw).ins hr (v4 _ _ _).symm (VH.mp z)
 .intro z;have AI:=h.wa w hw;have z:=VH.mp z;unfold Wy.bs at hb;simp only[VS,VP]at hb;rcases hb with rfl|rfl|rfl|hb|hb
  .exact aH AI.pl hr (v2 _).symm z
  .exact aH AI.nl hr (v2 _).symm z
  .exact aH AI.al hr (v2 _).symm z
  .obtain⟨kd,hk,rfl⟩:=VX.mp hb;exact aH (AI.nd kd hk) hr (v3 _).symm z
  .obtain⟨kd,hk,rfl⟩:=VX.mp hb;exact aH (AI.ag kd hk) hr (v2 _).symm z
theorem kX{AG:List (List Int)}{all:Int}{St:List NtE}:∀js:List Nat,(∀j∈js,j<St.length)->(∀e∈St,e.n=e.t.size)->(cnd AG (St.map λy=>((y.n:Nat):Int)) all js).n=((au (aG St js):Nat):Int)/\(cnd AG (St.map λy=>((y.n:Nat):Int)) all js).ks=js:=by
 have snoc:∀(l:List Th)(t:Th),au (l++[t])=au l+t.size:=λl t=>by
  induction l with
  |nil=>show t.size+0=0+t.size;lia
  |cons x l ih=>show x.size+au (l++[t])=x.size+au l+t.size;lia
 refine snoc_ind (λ_ _=>⟨rfl,rfl⟩) λl a ih hj ht=>?_;obtain⟨h1,h2⟩:=ih (λj h=>hj j (VT _ h)) ht;rw[gx];refine⟨?_,by show _++[a]=_;rw[h2]⟩;show(cnd AG (St.map λy=>((y.n:Nat):Int)) all l).n+(St.map λy=>((y.n:Nat):Int)).getD a 0=_;have hl:=hj a (by simp);have e:=Vw hl
 have e2:aG St (l++[a])=aG St l++[(St[a]).t]:=by
  unfold aG;rw[V3];show _++[((St[a]?).map (·.t)).getD bg]=_;rw[e];rfl
 rw[h1,e2,snoc,V0,VA,e];show _+((St[a].n:Nat):Int)=_;rw[ht _ (WQ hl)];lia
theorem uk:∀{ks:List Th}{t:Th},t∈ks->t.size<=au ks
 | x::ks,t,h=>by
   show t.size<=x.size+au ks;rcases VS.mp h with rfl|h
   .lia
   .have:=uk h;lia
theorem TInv.more{old:List NtE}{cl Iy:V5->List Nat->Prop}{tb:Tb}(h:TInv ins rows Ls old i cl tb)
 (e:∀nm ks,Iy nm ks->cl nm ks\/∃y∈tb.found,IsNote Ls (aP ins rows (.knot nm (aG tb.settled ks))) y.note/\y.n<=(r! nm (aG tb.settled ks)).size):TInv ins rows Ls old i Iy tb :=
 ⟨⟨h.p.f1,h.p.f2,h.p.f3,h.p.s1,h.p.s2,h.p.s3,λnm ks z=>(e nm ks z).elim (h.p.cl nm ks) id,h.p.t1,h.p.t2⟩,h.S,h.n,h.k⟩
section
variable{St:List NtE}
def ClAll(ins:List (V5×Int))(n:Nat)(nm:V5)(ks:List Nat):Prop:=(∃m:Nat,ins[m]?=A? (nm,((ks.length:Nat):Int)))/\∀k∈ks,k<n
theorem ClAll.succ{ks:List Nat}(h:ClAll ins (n+1) nm ks):(ClAll ins n nm ks/\∀k∈ks,k<n)\/((∃m:Nat,ins[m]?=A? (nm,((ks.length:Nat):Int)))/\(∀k∈ks,k<=n)/\n∈ks):=by
 by_cases z:n∈ks
 .exact .inr ⟨h.1,λk hk=>by have:=h.2 k hk;lia,z⟩
 .have:∀k∈ks,k<n:=λk hk=>by
   have h1:=h.2 k hk;have h2:k≠n:=λy=>z (y ▸ hk);lia
  exact .inl ⟨⟨h.1,this⟩,this⟩
theorem PInv.full(hL:bZ Ls)(nd:Ls.Nodup)(hc:∀nm c,(nm,c)∈ins->∀p,(∃row∈rows,p=row.getD ((ins.map (·.1)).idxOf nm) bg)->∀s k:Int,q! s k∈p.walk->(∃k':Nat,k=(k':Int)/\(k':Int)<c)/\∃s':Nat,s=(s':Int)/\s'<rows.length)
 (h:PInv ins rows Ls F St (ClAll ins St.length)) (y8:∀e∈F,e∈St):∀(n:Nat)(t:Th),t.size<=n->t.Fit ins->∃e∈St,IsNote Ls (aP ins rows t) e.note/\e.n<=t.size
 |0,t,hz,_=>by have:=J! t;lia
 |n+1,.call s k,_,hf=>by rw[A!]at hf;exact hf.elim
 | n+1,.knot nm ts,hz,hf=>by
   rw[A!]at hf;have hz:au ts+1<=n+1:=hz;have ih:=PInv.full hL nd hc h y8 n
   have rowsOf:∀us:List Th,au us<=n->Fits ins us->∃ks:List Nat,ks.length=us.length/\(∀k∈ks,k<St.length)/\au (aG St ks)<=au us/\Wc (λx y=>∃n,IsNote Ls (aP ins rows x) n/\IsNote Ls (aP ins rows y) n/\n.length=rows.length) (aG St ks) us:=λus=>by
    induction us with
    |nil=>exactλ_ _=>⟨[],rfl,(by intro k hk;cases hk),VG _,.nil⟩
    | cons u us RX =>
      intro hs O7;have hs:u.size+au us<=n:=hs;obtain⟨ks,h1,h2,h3,h4⟩:=RX (by lia) O7.2;obtain⟨e,he,g1,g2⟩:=ih u (by lia) O7.1;obtain⟨i,hi⟩:=VL.mp he;have Ab:=(glE hi);have ht:=h.f1 e (h.s1 e he)
      have ek:aG St (i::ks)=e.t::aG St ks:=by
       unfold aG;show((St[i]?).map (·.t)).getD bg::_=_;rw[hi];rfl
      refine⟨i::ks,by rw[VU,VU,h1],λk hk=>?_,?_,?_⟩
      .rcases VS.mp hk with rfl|hk
       .exact Ab
       .exact h2 k hk
      .rw[ek];show e.t.size+au (aG St ks)<=u.size+au us;have:=ht.n;lia
      .rw[ek];exact .cons ⟨e.note,ht.note,g1,by rw[ht.note.len,cQ ht]⟩ h4
   obtain⟨ks,h1,h2,h3,h4⟩:=rowsOf ts (by lia) hf.2;obtain⟨m,hm⟩:=VL.mp hf.1;obtain⟨e,he,g1,g2⟩:=h.cl nm ks ⟨⟨m,by rw[h1];exact hm⟩,h2⟩;refine⟨e,y8 e he,pB hL nd (λp hp s k hw=>?_) h4 g1,?_⟩
   .obtain⟨⟨k',e1,e2⟩,h5⟩:=hc nm _ hf.1 p hp s k hw;exact⟨⟨k',e1,by rw[kH,h1];lia⟩,h5⟩
   .have q1:(r! nm (aG St ks)).size=au (aG St ks)+1:=rfl;have q2:(r! nm ts).size=au ts+1:=rfl;lia
end
section
variable{St:List NtE}{c:V5->List Nat->Prop}
theorem PInv.snd(h:PInv ins rows Ls F St c):St.Nodup :=
 List.Pairwise.imp (λ{a b}k z=>by rw[z,fu]at k;cases k) h.s2
theorem PInv.all(h:PInv ins rows Ls F St c)(hl:F.length<=St.length):∀e∈F,e∈St:=λe he=>by
 by_cases z:e∈St
 .exact z
 .have:=sub_len (l:=e::St) (m:=F) (WG.mpr ⟨z,h.snd⟩) λx hx=>by
   rcases VS.mp hx with rfl|hx
   .exact he
   .exact h.s1 x hx
  rw[VU]at this;lia
theorem PInv.late(h:PInv ins rows Ls F St c){y:NtE}(hy:y∈F):y.note∈St.map (·.note)↔y∈St:=by
 constructor
 .intro z;obtain⟨e,he,g⟩:=VX.mp z;obtain⟨i,hi⟩:=VL.mp hy;obtain⟨j,hj⟩:=VL.mp (h.s1 e he);have:=fM h.f2 hi hj g.symm;subst this;rw[hi]at hj;rw[VN hj];exact he
 .exactλz=>VX.mpr ⟨y,z,rfl⟩
theorem PInv.some_late(h:PInv ins rows Ls F St c)(hl:St.length<F.length):∃e∈F,e∉St:=by
 refine Z1 λz=>?_;have y8:∀e∈F,e∈St:=λe he=>Z1 λy=>z ⟨e,he,y⟩
 have fn:F.Nodup:=by
  have:=h.f2;exact(List.pairwise_map.mp this).imp λ{a b}k z=>k (by rw[z])
 have:=sub_len fn y8;lia
end
theorem TInv.nil{tb:Tb}(hf:tb.found=[])(hs:tb.settled=[])(hS:tb.S=rows.length)(hn:tb.ws.length=ins.length)(hk:∀(a:Nat)(w:Wy),tb.ws[a]?=A? w->∃Ws,KOk ins rows Ls [] a w Ws)(old:List NtE) :
 TInv ins rows Ls old tb.ws.length (λ_ _=>False) tb :=
 ⟨by rw[hf,hs];exact PInv.nil,hS,hn,λa w hw=>by rw[b! (glE hw),hs];exact hk a w hw⟩
theorem WyAt.bsnd{w:Wy}(h:WyAt C H w):w.bs.Nodup:=by
 have dn:∀k∈w.ks,∀{b:Vy}{xs:List V},H b=A? (.lst xs)->b≠k.d:=λk hk{b xs}e z=>by
  have:=h.nd k hk;rw[<-z,e]at this;cases this
 have g:∀{f:Kd->Vy}{x:Vy},x∈w.ks.map f->∃k∈w.ks,x=f k:=λhx=>by
  obtain⟨k,hk,e⟩:=VX.mp hx;exact⟨k,hk,e.symm⟩
 have CJ:(w.ks.map (·.d)++w.ks.map (·.a)).Nodup:=by
  rw[Xa];refine⟨h.ndd,h.nda,λx hx y hy z=>?_⟩;obtain⟨k,hk,rfl⟩:=g hx;obtain⟨k',zt,rfl⟩:=g hy;exact dn k hk (h.ag k' zt) z.symm
 unfold Wy.bs;rw[WG,WG,WG]
 have Mt:∀{b:Vy}{xs:List V},H b=A? (.lst xs)->(∀k∈w.ks,b≠k.a)->b∉w.ks.map (·.d)++w.ks.map (·.a):=λ{b xs}e ha z=>by
  rcases VP.mp z with z|z
  .obtain⟨k,hk,y⟩:=g z;exact dn k hk e y
  .obtain⟨k,hk,y⟩:=g z;exact ha k hk y
 refine⟨λz=>?_,λz=>?_,Mt h.al λk hk=>(h.n4 k hk).2.2.symm,CJ⟩
 .rcases VS.mp z with z|z
  .exact h.n1 z
  .rcases VS.mp z with z|z
   .exact h.n2 z
   .exact Mt h.pl (λk hk=>(h.n4 k hk).1.symm) z
 .rcases VS.mp z with z|z
  .exact h.n3 z
  .exact Mt h.nl (λk hk=>(h.n4 k hk).2.1.symm) z
theorem WyAt.some_bs{w:Wy}(h:WyAt C H w):∀b∈w.bs,∃o,H b=A? o/\(∀xs,o≠.tup xs)/\(∀c d f,o≠.ins c d f)/\∀z,o≠.tbl z:=λb hb=>by
 unfold Wy.bs at hb;simp only[VS,VP]at hb;rcases hb with rfl|rfl|rfl|hb|hb
 .exact⟨_,h.pl,λ_ z=>(nomatch z),(λ_ _ _ z=>nomatch z),λ_ z=>nomatch z⟩
 .exact⟨_,h.nl,λ_ z=>(nomatch z),(λ_ _ _ z=>nomatch z),λ_ z=>nomatch z⟩
 .exact⟨_,h.al,λ_ z=>(nomatch z),(λ_ _ _ z=>nomatch z),λ_ z=>nomatch z⟩
 .obtain⟨k,hk,rfl⟩:=VX.mp hb;exact⟨_,h.nd k hk,λ_ z=>(nomatch z),(λ_ _ _ z=>nomatch z),λ_ z=>nomatch z⟩
 .obtain⟨k,hk,rfl⟩:=VX.mp hb;exact⟨_,h.ag k hk,λ_ z=>(nomatch z),(λ_ _ _ z=>nomatch z),λ_ z=>nomatch z⟩
def lJ(S:Nat)(wl:Vy):List (V5×V):=aO (VE "ways") (.ref wl) (aO (VE "states") (.int (S:Nat)) [])
theorem ug{S:Nat}:(lJ S wl).lookup (VE "ways")=A? (.ref wl):=by
 have e1:∀(f:V5)(v:V),aO f v []=[(f,v)]:=λf v=>by rw[aO]
 unfold lJ;rw[e1,cE (by decide +kernel),e1];exact(lk1 (by decide +kernel)).trans lk0
theorem tX(S:Nat)(wl fd st:Vy):aO (VE "settled") (.ref st) (aO (VE "found") (.ref fd) (lJ S wl))=tbF S wl fd st:=uy S wl fd st
structure TiI(C CW:Vy)(H:Hp)(x dx wl:Vy)(ins:List (V5×Int))(rows:List (List Th))(Ls:List Th)(n S:Nat)(H7:Hp)(ws:List Wy):Prop where
 sb:SameB x H H7
 self:H7 x=A? (.ins C dx (lJ S wl))
 wll:H7 wl=A? (.lst (ws.map λw=>k! w.x))
 wln:H wl=AQ
 wa:∀w∈ws,WyAt CW H7 w
 fr:∀b∈ws.flatMap Wy.bs,H b=AQ/\b≠wl
 nd:(ws.flatMap Wy.bs).Nodup
 len:ws.length=n
 k:∀(a:Nat)(w:Wy),ws[a]?=A? w->∃Ws,KOk ins rows Ls [] a w Ws
section
variable{x dx:Vy}{S:Nat}{ws:List Wy}
theorem TiI.same(h:TiI C CW H x dx wl ins rows Ls n S H7 ws)(s:j! H7 H8):TiI C CW H x dx wl ins rows Ls n S H8 ws :=
 ⟨h.sb.trans (z! s),s _ _ h.self,s _ _ h.wll,h.wln,λw hw=>(h.wa w hw).same s,h.fr,h.nd,h.len,h.k⟩
theorem TiI.null(h:TiI C CW H x dx wl ins rows Ls n S H7 ws)(hb:H7 b=AQ):H b=AQ/\b≠x/\b≠wl:=by
 have h1:b≠x:=λz=>by rw[z,h.self]at hb;cases hb
 refine⟨?_,h1,λz=>by rw[z,h.wll]at hb;cases hb⟩;cases z:H b with
 |none=>rfl
 |some o=>rw[h.sb b o h1 z]at hb;cases hb
theorem lS{y dy:Vy}(hy:H7 y=AQ)(KH:H7 dy=AQ)(sb:SameB y (upd (upd H7 dy (.own y)) y (.ins CW dy [])) H8):j! H7 H8:=λb o e=>sb b o (aw e hy) (by rw[af (aw e hy),af (aw e KH)];exact e)
theorem TiI.add{w:Wy}(h:TiI C CW H x dx wl ins rows Ls n S H7 ws)(wa:WyAt CW H7 w)(fr:∀b∈w.bs,H b=AQ/\b≠wl)(ft:∀b∈w.bs,b∉ws.flatMap Wy.bs)(hk:∃Ws,KOk ins rows Ls [] n w Ws) :
 TiI C CW H x dx wl ins rows Ls (n+1) S (upd H7 wl (.lst ((ws.map λw=>k! w.x)++[.ref w.x]))) (ws++[w]):=by
 have hx:x≠wl:=aH h.self h.wll (λz=>nomatch z);have k:KT H7 (upd H7 wl (.lst ((ws.map λw=>k! w.x)++[.ref w.x]))):=λb xs e=>by rw[af (aH e h.wll (λz=>nomatch z))];exact e
 have fw:∀v:Wy,WyAt CW H7 v->(∀b∈v.bs,b≠wl)->WyAt CW (upd H7 wl (.lst ((ws.map λw=>k! w.x)++[.ref w.x]))) v:=λv hv hb =>
  hv.frame (S:=[wl]) (M! (VH.mpr rfl)) k (λz=>aH hv.ins h.wll (λz=>nomatch z) (VH.mp z)) λb zB z=>hb b zB (VH.mp z)
 refine⟨λb o hb e=>?_,(af hx).trans h.self,?_,h.wln,λv hv=>?_,?_,?_,by rw[VJ,h.len];rfl,λa v hv=>?_⟩
 .rw[af (aw e h.wln)];exact h.sb b o hb e
 .rw[ac,V3];rfl
 .rcases VP.mp hv with hv|hv
  .exact fw v (h.wa v hv) λb hb=>(h.fr b (iu hv hb)).2
  .rw[VH.mp hv];exact fw w wa λb hb=>(fr b hb).2
 .intro b hb;rw[List.flatMap_append]at hb;rcases VP.mp hb with hb|hb
  .exact h.fr b hb
  .rw[List.flatMap_singleton]at hb;exact fr b hb
 .rw[List.flatMap_append,List.flatMap_singleton,Xa];exact⟨h.nd,wa.bsnd,λa ha b hb z=>ft b hb (z ▸ ha)⟩
 .rcases aV.mp hv with hv|⟨e,rfl⟩
  .exact h.k a v hv
  .rw[e,h.len];exact hk
theorem TiI.done{fd st:Vy}{Hd He:Hp}(h:TiI C CW H x dx wl ins rows Ls n S H7 ws)(hn:n=ins.length)(hS:S=rows.length)(s1:SameB x H7 He)(ex:He x=A? (.ins C dx (tbF S wl fd st)))(ef:He fd=A? (.dT []))(es:He st=A? (.lst []))
 (nf:H7 fd=AQ) (ns:H7 st=AQ) :
 TbAt C CW He ⟨x,dx,S,wl,fd,st,ws,[],[]⟩/\TInv ins rows Ls [] ws.length (λ_ _=>False) ⟨x,dx,S,wl,fd,st,ws,[],[]⟩/\SameB x H He/\∀b∈Tb.mut ⟨x,dx,S,wl,fd,st,ws,[],[]⟩,H b=none:=by
 have FN:wl≠x:=aH h.wll h.self (λz=>nomatch z)
 have bx:∀w∈ws,∀b∈w.bs,b≠x:=λw hw b hb z=>by
  obtain⟨o,e,_,h2,_⟩:=(h.wa w hw).some_bs b hb;rw[z,h.self]at e;exact h2 _ _ _ (VN e).symm
 have bo:∀w∈ws,∀b∈w.bs,∃o,H7 b=A? o:=λw hw b hb=>by
  obtain⟨o,e,_⟩:=(h.wa w hw).some_bs b hb;exact⟨o,e⟩
 have k:KT H7 He:=λb xs e=>s1 b _ (aH e h.self (λz=>nomatch z)) e;refine⟨⟨ex,s1 _ _ FN h.wll,λw hw=>?_,ef,es,(by intro e he;cases he),(by intro e he;cases he),h.nd,λb hb=>⟨(h.fr b hb).2,?_⟩,?_⟩,TInv.nil (tb:=⟨x,dx,S,wl,fd,st,ws,[],[]⟩) rfl rfl hS (h.len.trans hn) h.k _,h.sb.trans s1,λb hb=>?_⟩
 .refine(h.wa w hw).keep k λb hb o e=>?_;by_cases z:b=x
  .unfold Wy.own at hb;rcases VS.mp hb with y|hb
   .exfalso;have e1:=(h.wa w hw).ins;rw[<-y,z,h.self]at e1;have e2:=VN e1;injection e2 with _ _ e3;have:(wyF w.nm w.pl w.nl w.al).lookup (VE "ways")=A? (.ref wl):=by rw[<-e3];exact ug
    rw[gq]at this;cases this
   .exact g! z (bx w hw b hb)
  .exact s1 b o z e
 .obtain⟨w,hw,hb⟩:=Yu.mp hb;obtain⟨o,e⟩:=bo w hw b hb;exact⟨aw e ns,aw e nf⟩
 .exact aw h.wll ns
 .unfold Tb.mut at hb;rcases VS.mp hb with rfl|hb
  .exact(h.null nf).1
  rcases VS.mp hb with rfl|hb
  .exact(h.null ns).1
  .obtain⟨w,hw,hb⟩:=Yu.mp hb;exact(h.fr b (iu hw (wv hb))).1
end
theorem nX{g:TG}{te:TE}{p:List Key×V->Bool}{Q:VK}
 (zh:∀R:VK,R (.ref d) H->tl σ H R) (hd:H d=A? (.dT kvs)) (hlen:kvs.length<=10000)
 (hs:∀(i:Nat)(kv:List Key×V)(pa b:Vy)(H2:Hp)(R:VK)(W':Hp->Prop),kvs[i]?=A? kv->SameB d H H2->H2 pa=A? (.tup [.ref b,kv.2])->H2 b=A? (.tup (kv.1.map kV))->(p kv=B?->R kv.2 H2)->(p kv=C?->W' H2)->g (.ref pa) (cσ js σ) H2 λzg H3=>tt zg H3 λb H4=>if b=B? then te zg H4 R else W' H4)
 (hq:∀(D:Vy)(H2:Hp),j! H H2->H D=AQ->H2 D=A? (.lst ((kvs.filter p).map (·.2)))->Q (.ref D) H2) :
 kF (qT js (mW tl) g tt te) σ H Q:=by
 refine zh _ ⟨d,kvs,rfl,hd,λo D hD=>?_⟩;have CK:D≠d:=λz=>by rw[z,ac]at hD;cases hD
 have GV:H D=none:=by rw[af CK]at hD;exact hD
 refine⟨kvs.length,λj H2=>j<=kvs.length/\SameB d H H2/\H2 d=A? (.frz o (.dT kvs))/\H2 D=A? (.lst (((kvs.take j).filter p).map (·.2))),⟨Wh _,λb u hb e=>by rw[af (aw e GV),af hb];exact e,by rw[af CK.symm,ac],ac⟩,?_⟩;rintro j H2 ⟨hj,sb,ed,eD⟩;by_cases BU:j=kvs.length
 .left;refine⟨⟨ed,by lia⟩,upd H2 d (.dT kvs),λb=>?_,?_⟩
  .by_cases hb:b=d
   .rw[hb];exact .inr ⟨o,_,ed,hd,ac⟩
   .exact .inl (af hb)
  .rw[BU,XJ]at eD;refine hq D _ (λb u e=>?_) GV (by rw[af CK];exact eD);by_cases hb:b=d
   .rw[hb,hd]at e;rw[hb,ac];exact e
   .rw[af hb];exact sb b u hb e
 .right;refine⟨by lia,⟨ed,by lia⟩,?_⟩;rintro x H3 ⟨pa,b,kv,hp,rfl,rfl,zX,eb⟩;have GW:d≠pa:=λz=>by rw[<-z,ed]at hp;cases hp
  have BR:D≠pa:=λz=>by rw[<-z,eD]at hp;cases hp
  have e2:(kvs.take (j+1)).filter p=(kvs.take j).filter p++(if p kv=B? then[kv]else[]):=by
   rw[Xu,zX,List.filter_append];show _++List.filter p [kv]=_;rw[Zn,List.filter_nil]
  have hl:(((kvs.take j).filter p).map (·.2)).length<=10000:=by
   rw[Vu];have:=List.length_filter_le p (kvs.take j);rw[WA]at this;lia
  have HM:SameB d H (upd H2 pa (.tup [.ref b,kv.2])):=λc u hc ec=>by rw[af (aw (sb c u hc ec) hp)];exact sb c u hc ec
  refine hs j kv pa b _ _ _ zX HM ac (by rw[af (aw eb hp)];exact eb) (λBq=>?_) λBq=>?_
  .refine⟨_,by rw[af BR];exact eD,bp (by lia),by lia,λc u hc ec=>?_,?_,?_⟩
   .rw[af (aw ec GV)];exact HM c u hc ec
   .rw[af CK.symm,af GW];exact ed
   .rw[ac,e2,b! Bq,V3];rfl
  .refine⟨by lia,HM,by rw[af GW];exact ed,?_⟩;rw[af BR,e2,a! (by rw[Bq];exact VY),Za];exact eD
def SameO(H H':Hp):Prop:=∀b o,H b=A? o->(∀z,o≠.tbl z)->H' b=A? o
theorem SameO.kt(s:SameO H H'):KT H H':=λb xs e=>s b _ e λ_ z=>nomatch z
end BB
namespace L2
open PySem BB
theorem TabSt.sameO{P:Vy}(t:TabSt H P pos qual)(s:SameT P H H'):SameO H H':=λb o e h=>s b o (λz=>by
 rw[z]at e;rcases t with y|⟨_,y,_⟩ <;> · rw[y]at e;cases e;exact h _ rfl) e
end L2
namespace BB
open PySem L2
theorem TbAt.sameO{tb:Tb}(h:TbAt CT CW H tb)(s:SameO H H'):TbAt CT CW H' tb:=by
 refine⟨s _ _ h.ins (λ_ z=>nomatch z),s _ _ h.wl (λ_ z=>nomatch z),λw hw=>?_,s _ _ h.fd (λ_ z=>nomatch z),s _ _ h.st (λ_ z=>nomatch z),λe he=>(h.fe e he).mono s.kt,λe he=>(h.se e he).mono s.kt,h.nd,h.sep,h.n1⟩;have AZ:=h.wa w hw;refine AZ.keep s.kt λb hb o e=>s b o e λz y=>?_;unfold Wy.own at hb;rcases VS.mp hb with rfl|hb
 .rw[AZ.ins,y]at e;cases e
 .obtain⟨o',e',_,_,h3⟩:=AZ.some_bs b hb;rw[e,y]at e';exact h3 _ (VN e').symm
def g7(F St:List NtE):List NtE:=F.filter λe=>!decide (e.note∈St.map (·.note))
theorem fE{f:α->β}{p:β->Bool}{r:α->Bool}:∀{l:List α},(∀x∈l,p (f x)=r x)->(l.map f).filter p=(l.filter r).map f
 | [],_=>rfl
 | x::l,h=>by
   rw[V6,Zn,Zn,h x (VO ..),fE λy hy=>h y (VR _ hy)];by_cases z:r x=B?
   .rw[b! z,b! z,V6]
   .rw[a! z,a! z]
def nDv(note:List Int):Dv:=.tup (note.map y!)
theorem uN{a b:List Int}(h:nDv a=nDv b):a=b:=by
 unfold nDv at h;injection h with h;exact lA h
theorem tW{note:List Int}(h:H a=A? (.tup (note.map o!))):DAt H (nDv note) (.ref a):=by
 unfold nDv;rw[DAt];exact⟨a,_,D?,h,gK _⟩
theorem qZ:∀{St:List NtE},(∀e∈St,NtA H e)->DAts H (St.map λe=>nDv e.note) (St.map λe=>k! e.na)
 | [],_=>by rw[XI,XI,DAts]
 | e::St,h=>by
   rw[V6,V6,DAts];exact⟨_,_,D?,tW (h e (VO ..)).na,qZ λx hx=>h x (VR _ hx)⟩
theorem l8:∀{St:List NtE},cb (St.map λe=>nDv e.note)<=3
 | []=>by rw[XI,cb];lia
 | e::St=>by
   have:=l8 (St:=St);have h:=io e.note;rw[V6,cb]
   have h2:(nDv e.note).deep<=3:=by
    unfold nDv;rw[Q!];lia
   lia
theorem ve{St:List NtE}{note:List Int}:nDv note∈St.map (λe=>nDv e.note)↔note∈St.map (·.note):=by
 constructor
 .intro h;obtain⟨e,he,z⟩:=VX.mp h;exact VX.mpr ⟨e,he,uN z⟩
 .intro h;obtain⟨e,he,rfl⟩:=VX.mp h;exact VX.mpr ⟨e,he,rfl⟩
end BB
namespace L2
open PySem BB
theorem TabSt.frb{P:Vy}(t:TabSt H P pos qual)(hS:∀b∈S,∃u,H b=A? u/\(∀φ,u≠.ext φ)/\∀z,u≠.tbl z)(f:FrB S H H'):TabSt H' P pos qual:=by
 have np:∀{z:Array Vz},H P=A? (.tbl z)->P∉S:=λe hb=>by
  obtain⟨u,h1,_,h3⟩:=hS _ hb;rw[e]at h1;exact h3 _ (VN h1).symm
 rcases t with h|⟨c',h1,φ,h2,h3⟩
 .exact .inl (f _ _ (np h) h)
 .refine .inr ⟨c',f _ _ (np h1) h1,φ,f _ _ (λhb=>?_) h2,h3⟩;obtain⟨u,g1,g2,_⟩:=hS _ hb;rw[h2]at g1;exact g2 _ (VN g1).symm
end L2
namespace BB
open PySem L2
theorem TbAt.mutOk{tb:Tb}(ht:TbAt CT CW H tb):∀b∈tb.mut,∃u,H b=A? u/\(∀φ,u≠.ext φ)/\∀z,u≠.tbl z:=λb hb=>by
 unfold Tb.mut at hb;rcases VS.mp hb with rfl|hb
 .exact⟨_,ht.fd,λ_ z=>(nomatch z),λ_ z=>nomatch z⟩
 .rcases VS.mp hb with rfl|hb
  .exact⟨_,ht.st,λ_ z=>(nomatch z),λ_ z=>nomatch z⟩
  .obtain⟨v,hv,hb⟩:=Yu.mp hb;obtain⟨kd,z8,rfl⟩:=VX.mp hb;exact⟨_,(ht.wa v hv).ag kd z8,λ_ z=>(nomatch z),λ_ z=>nomatch z⟩
def o8(ks:List Key):List Int:=ks.map λk=>match k with
 |.inl i=>i
 |.inr _=>0
theorem gh:∀note:List Int,o8 (f9 note)=note
 | []=>rfl
 |i::note=>h! (List.cons i) (gh note)
theorem sF{St:List NtE}:(nfv F).filter (λkv=>!decide (o8 kv.1∈St.map (·.note)))=nfv (g7 F St):=by
 unfold nfv g7;refine fE λx _=>?_;rw[gh]
theorem gL{St:List NtE}{c:V5->List Nat->Prop}(h:PInv ins rows Ls F St c){e:NtE}:e∈g7 F St↔e∈F/\e∉St:=by
 unfold g7;rw[Xy];constructor
 .rintro⟨h1,h2⟩;refine⟨h1,λz=>?_⟩;rw[d! ((h.late h1).mpr z)]at h2;cases h2
 .rintro⟨h1,h2⟩;refine⟨h1,?_⟩;rw[c! λz=>h2 ((h.late h1).mp z)];rfl
theorem oy{g:TG}{te:TE}{val:(Int×Int)×Int->V}{Q:VK}
 (zh:∀R:VK,R (.ref d) H->tl σ H R) (hd:H d=A? (.dT (dE es))) (hlen:es.length<=10000)
 (hs:∀(i:Nat)(e:(Int×Int)×Int)(p b:Vy)(H2:Hp)(R:VK),es[i]?=A? e->SameB d H H2->H2 p=A? (.tup [.ref b,.int e.2])->H2 b=A? (.tup ((ky e.1).map kV))->R (val e) H2->g (.ref p) (cσ js σ) H2 λzg H3=>te zg H3 R)
 (hq:∀(D:Vy)(H2:Hp),j! H H2->H2 D=A? (.lst (es.map val))->Q (.ref D) H2) :
 kF (qT js (mW tl) g aR te) σ H Q:=by
 refine zh _ ⟨d,dE es,rfl,hd,λo D hD=>?_⟩;have CK:D≠d:=λz=>by rw[z,ac]at hD;cases hD
 have GV:H D=none:=by rw[af CK]at hD;exact hD
 have hl:(dE es).length=es.length:=by unfold dE;rw[Vu]
 refine⟨es.length,λj H2=>j<=es.length/\SameB d H H2/\H2 d=A? (.frz o (.dT (dE es)))/\H2 D=A? (.lst ((es.take j).map val)),⟨Wh _,λb u hb e=>by rw[af (aw e GV),af hb];exact e,by rw[af CK.symm,ac],ac⟩,?_⟩;rintro j H2 ⟨hj,sb,ed,eD⟩;by_cases BU:j=es.length
 .left;refine⟨⟨ed,by lia⟩,upd H2 d (.dT (dE es)),λb=>?_,?_⟩
  .by_cases hb:b=d
   .rw[hb];exact .inr ⟨o,_,ed,hd,ac⟩
   .exact .inl (af hb)
  .rw[BU,XJ]at eD;refine hq D _ (λb u e=>?_) (by rw[af CK];exact eD);by_cases hb:b=d
   .rw[hb,hd]at e;rw[hb,ac];exact e
   .rw[af hb];exact sb b u hb e
 .right;refine⟨by lia,⟨ed,by lia⟩,?_⟩;rintro x H3 ⟨p,b,kv,hp,rfl,rfl,zX,eb⟩
  obtain⟨e,he,rfl⟩:∃e,es[j]?=A? e/\(ky e.1,o! e.2)=kv:=by
   unfold dE at zX;rw[VA]at zX;cases h:es[j]? with
   |none=>rw[h]at zX;cases zX
   |some e=>rw[h]at zX;exact⟨e,D?,VN zX⟩
  have GW:d≠p:=λz=>by rw[<-z,ed]at hp;cases hp
  have BR:D≠p:=λz=>by rw[<-z,eD]at hp;cases hp
  refine hs j e p b _ _ he (λc u hc ec=>by rw[af (aw (sb c u hc ec) hp)];exact sb c u hc ec) ac (by rw[af (aw eb hp)];exact eb) ?_;refine⟨_,by rw[af BR];exact eD,bp (by rw[Vu,WA];lia),by lia,λc u hc ec=>?_,?_,?_⟩
  .rw[af (aw ec GV),af (aw (sb c u hc ec) hp)];exact sb c u hc ec
  .rw[af CK.symm,af GW];exact ed
  .rw[ac,Xu,he,V3];rfl
theorem qo:∀x σ H(Q Q':St->Hp->Prop),(∀a b,Q a b->Q' a b)->lI K 2 (cJ (av i) (cJ (av j) lH)) x σ H Q->lI K 2 (cJ (av i) (cJ (av j) lH)) x σ H Q' :=
 λ_ _ _ _ _ h⟨a,xs,e,hs,hl,v,r,e2,v2,r2,e3,e4,q⟩=>⟨a,xs,e,hs,hl,v,r,e2,v2,r2,e3,e4,h _ _ q⟩
structure WBk(H:Hp)(ins:List (V5×Int))(head:Th)(rows:List (List Th))(ba:Vy):Prop where
 ex:∃(ia ha ra:Vy)(v2:V)(zi zx:List Vy),H ba=A? (.tup [.ref ia,v2,.ref ha,.ref ra])/\H ia=A? (.tup (zi.map k!))/\KsAt H ins zi/\H ra=A? (.tup (zx.map k!))/\Wc (RowAt H) rows zx/\At H head ha
theorem WBk.mono{ba:Vy}(h:WBk H ins head rows ba)(k:KT H H'):WBk H' ins head rows ba:=by
 obtain⟨ia,ha,ra,v2,zi,zx,e1,e2,e3,e4,e5,e6⟩:=h.ex;exact⟨ia,ha,ra,v2,zi,zx,k _ _ e1,k _ _ e2,e3.mono k,k _ _ e4,t! (λ_ _ e=>e.mono k) e5,e6.mono k⟩
structure WCd(ins:List (V5×Int))(rows:List (List Th))(t:Th)(ar:V5->Nat):Prop where
 gi:GoodN ins
 nq:∀k∈ins,k.1≠q
 rl:rows.length<=1000
 row:∀row∈rows,row.length=ins.length
 pt:∀(a:Nat)(nm:V5)(c:Int),ins[a]?=A? (nm,c)->∀p∈rows.map (λrow=>row.getD a bg),Ars ar p/\p.size<=100/\∀s k:Int,q! s k∈p.walk->(∃k':Nat,k=(k':Int)/\(k':Int)<c)/\∃s':Nat,s=(s':Int)/\s'<rows.length
 ta:Ars ar t
 tc:∀p∈t.walk,p.isCall=C?
 ts:t.size<=100000
 big:rows.length * t.size<=4000
theorem fH(t:Th):(post t []).Nodup:=(i3 t (by intro u h;cases h) Yt).2.2.1
theorem uD(t:Th):bZ (post t []):=(i3 t (by intro u h;cases h) Yt).2.1
theorem post_of{P:Th->Prop}(hk:∀t,P t->∀u∈t.kids,P u):∀(n:Nat),(∀(t:Th)(L:List Th),t.size<=n->P t->(∀u∈L,P u)->∀u∈post t L,P u)/\(∀(ts:List Th)(L:List Th),au ts<=n->(∀t∈ts,P t)->(∀u∈L,P u)->∀u∈bh ts L,P u):=by
 intro n;induction n with
 | zero =>
   refine⟨λt L h=>?_,λts L h=>?_⟩
   .have:=J! t;lia
   .cases ts with
    |nil=>intro _ hL u hu;rw[bh]at hu;exact hL u hu
    |cons t ts=>rw[au]at h;have:=J! t;lia
 | succ n ih =>
   have h1:∀(t:Th)(L:List Th),t.size<=n+1->P t->(∀u∈L,P u)->∀u∈post t L,P u:=λt L h ht hL u hu=>by
    have zO:au t.kids<=n:=by
     have:=t.size_eq;lia
    have hw:u∈bh t.kids L\/u=t:=by
     rw[post_eq]at hu;split at hu
     .exact .inl hu
     .rcases VP.mp hu with hu|hu
      .exact .inl hu
      .exact .inr (VH.mp hu)
    rcases hw with hw|rfl
    .exact ih.2 _ L zO (hk t ht) hL u hw
    .exact ht
   refine⟨h1,λts=>?_⟩;induction ts with
   |nil=>intro L _ _ hL u hu;rw[bh]at hu;exact hL u hu
   | cons t ts IC =>
     intro L h ht hL u hu;rw[au]at h;rw[bh]at hu;exact IC _ (by lia) (λx hx=>ht x (VR _ hx)) (h1 t L (by lia) (ht t (VO ..)) hL) u hu
theorem t4{P:Th->Prop}(hk:∀t,P t->∀u∈t.kids,P u){t:Th}(h:P t):∀u∈post t [],P u:=(post_of hk t.size).1 t [] (VG _) h (by intro u hu;cases hu)
def dZ(ins:List (V5×Int))(rows:List (List Th))(head u:Th):Th:=head.fill (cC ins rows [u])
def Makes(es:CLs)(note:List Int):Prop:=∀e∈es,note[e.1.1.toNat]?=A? e.2
theorem dX{u t:Th}{note:List Int}(nd:Ls.Nodup)(h:jD Ls head t es)(hc:∀s k:Int,q! s k∈head.walk->k=0/\∃s':Nat,s=(s':Int)/\s'<rows.length)(hn:IsNote Ls (aP ins rows u) note)(hl:(aP ins rows u).length=rows.length):Makes es note↔dZ ins rows head u=t:=by
 unfold dZ;rw[h.iff]
 have key:∀e∈es,note[e.1.1.toNat]?=A? e.2↔Ls[e.2.toNat]?=A? (cC ins rows [u] e.1.1 e.1.2):=λe he=>by
  obtain⟨⟨w,h1,h2⟩,h3⟩:=h.ok e he;obtain⟨h4,s',h5,h6⟩:=hc _ _ h3
  have hx:(aP ins rows u)[s']?=A? (cC ins rows [u] e.1.1 e.1.2):=by
   unfold cC;rw[h4,h5,VQ];show _=A? (List.getD (aP ins rows u) s' bg);rw[V0,Vw (by lia)];rfl
  rw[h5,VQ,h1,VQ];rw[h5]at hx;rw[hn.iff nd hx]
 exact⟨λz e he=>(key e he).mp (z e he),λz e he=>(key e he).mpr (z e he)⟩
theorem nM{R:α->α->Prop}{l:List α}(h:l.Pairwise R){x y:α}(hi:l[i]?=A? x)(hj:l[j]?=A? y)(Mq:i<j):R x y:=by
 obtain⟨h1,rfl⟩:=Xe.mp hi;obtain⟨h2,rfl⟩:=Xe.mp hj;exact ZY.mp h i j h1 h2 Mq
structure wE(rows:List (List Th))(ar:V5->Nat)(head:Th):Prop where
 ar:Ars ar head
 sz:head.size<=10000
 c:∀s k:Int,q! s k∈head.walk->k=0/\∃s':Nat,s=(s':Int)/\s'<rows.length
def tZ(ins:List (V5×Int))(rows:List (List Th))(t:Th):Prop:=∃F St,PInv ins rows (post t []) F St (ClAll ins St.length)/\∀e∈F,e∈St
theorem WCd.full{t:Th}{St:List NtE}(hc:WCd ins rows t ar)(hp:PInv ins rows (post t []) F St (ClAll ins St.length))(y8:∀e∈F,e∈St)(u:Th)(hu:u.Fit ins):∃e∈St,IsNote (post t []) (aP ins rows u) e.note/\e.n<=u.size:=by
 refine PInv.full (uD t) (fH t) (λnm c hm p Mu s k hw=>?_) hp y8 u.size u (VG _) hu;obtain⟨a,ha⟩:=VL.mp hm;obtain⟨row,hr,rfl⟩:=Mu;rw[jn hc.gi ha]at hw;exact(hc.pt a nm c ha _ (VX.mpr ⟨row,hr,rfl⟩)).2.2 s k hw
@[elab_as_elim] theorem gr {G:Hp->Prop} (h:H a=AQ) (k:∀ H',j! H H'->H' a=A? o->G H'):G (upd H a o):=k _ (ao h _) ac
theorem tS{s k:Int}:Ars ar (.call s k):=λn ks h=>by
 rw[G!,VH]at h;cases h
theorem tG{n:V5}{ks:List Th}(h:ks.length=ar n)(hk:∀u∈ks,Ars ar u):Ars ar (.knot n ks):=λm us hm=>by
 rw[G!]at hm;rcases VS.mp hm with e|hm
 .injection e with e1 e2;rw[e1,e2];exact h
 .have:∀ts:List Th,(∀u∈ts,Ars ar u)->r! m us∈walks ts->us.length=ar m:=λts=>by
   induction ts with
   |nil=>intro _ h;rw[walks]at h;cases h
   | cons t ts ih =>
     intro ht h;rw[walks]at h;rcases VP.mp h with h|h
     .exact ht t (VO ..) m us h
     .exact ih (λu hu=>ht u (VR _ hu)) h
  exact this ks hk hm
section
variable{k0 k1 k2 k3:V5}
end
end BB
namespace L2
open PySem PySem.Spec PyProof.Rows
theorem t6{l:PySem.W.OpenLaw}{k:Nat}{q:V8}{d:DefRec}{K:Params->VD}{ts:List Vy}{CX:Wm->CXT}{sp:Wm->Vy->Sp}
 (hn:l.most=A? n) (Kj:n<=V4) (Ec:d.params.defaults=[]) (hr:Room k callerA)
 (hY:∀(w:Wm)(h:WS),YP w h->(K w.params).In h) (hT:∀(w:Wm)(h:WS),YP w h->∀P∈ts,h.get? P=A? (ZQ #[])) (he:∀P:Params,ts=HD.kQ (K P))
 (F:∀(w:Wm)(mg:V5->Option Vz)(fa:Vy)(h:WS),(K w.params).In h->h.Ns Xg mg->mg d.name=A? (.ref fa) ->
  ∃(fd:Yk)(c T:Vy),(∀(s:VF)(u:Vz),BindsTo s fd ⟨[u],[]⟩ [(x,u)])/\PySem.W.codeHdIn (K w.params) c T=B?/\(K w.params).lookup T=AQ /\
    ∀base:WS,(K w.params).In base->base.Ns Xg mg->Lam mg base c T->bj l.prog w (K w.params) mg base (CX w) k fa fd [x] (sp w T))
 (AK:∀(w:Wm)(T:Vy)(H:Hp)(a:Vy)(ns:List Int),ns.length<=n->SqL (K w.params) H a (ns.map o!)->H T=A? (.tbl #[])->sp w T [.ref a] H (λv _=>v=.bl B?) λ_ _ _=>False)
 (Me:∀(w:Wm)(H:Hp)(s:VF)(e:Vz)(s':VF),CX w [] H s (λ_ _ _=>False) e s'->False) :
 PySem.W.WalkO q loose XP YP l.row.toRowW d [] (λf vs=>PySem.call f vs):=by
 refine Att.attach_call hn Ec λw s₀ l' mg mb fa o pm cd doc a vs ns G Y ho hd Bm HF Fm hints hlen hg=>?_;have KX:=hY w _ Y;obtain⟨fd,c,T,hb,ht,Md,hF⟩:=F w mg fa _ KX G.T.g HF;have hC:=PySem.W.codeHd_of_K KX ht;have hT:=hT w _ Y T (by rw[he w.params];exact HD.pA ht)
 have AF:l'.heap.BuiltinsAt mg T:=by
  obtain⟨bm,ob,b1,b2,b3,b4,b5,b6⟩:=G.T.bmain;refine⟨bm,ob,b1,b2,λz=>?_,λz=>?_,b3,b4,b5,b6⟩
  .obtain⟨o',es,ep,e,d',_⟩:=G.T.g;rw[z,e]at b3;cases b3;rw[d']at b6;cases b6
  .rw[z,hT]at b3;cases b3;cases b4
 exact rD KX G.T.g G.T.b G.T.builtins G.T.nolimit hg Fm hints (Wz hlen Kj) hr hC hT AF Md hF hb (λH hS Mg=>AK w T H a ns hlen hS Mg) λH e s'=>Me w H l' e s'
end L2
namespace BB
open PySem L2
def n8:List Int:=[0,1,2,2,1,3]
def nO(r:Int):Int:=n8.getD (r%6).toNat 0
theorem rb(r:Int):0<=nO r/\nO r<=3:=by
 unfold nO;have h0:=Wl r (by decide:(6:Int)≠0);have h1:=Wg r (by decide:(0:Int)<6);obtain⟨n,hn⟩:=Yv h0;rw[hn,VQ];have:n<6:=by lia
 have:∀n:Fin 6,0<=n8.getD n.1 0/\n8.getD n.1 0<=3:=by decide
 exact this ⟨n,by lia⟩
theorem vp(r:Int):atI (n8.map o!) (r%6)=A? (.int (nO r)):=by
 have h0:=Wl r (by decide:(6:Int)≠0);have h1:=Wg r (by decide:(0:Int)<6);refine at_nonneg h0 ?_;have hl:(r%6).toNat<n8.length:=by show _<6;lia
 unfold nO;rw[VA,V0,Vw hl];rfl
def gf(r:Int):Nat->Int
 |0=>r
 |k+1=>gf r k / 6+(k:Int)
def cy(cell:Int):Int:=1+eQ cell%4
def jP(cell:Int):List (V5×Int):=(Xf (cy cell).toNat).map λ(k:Nat)=>(nameOf (eQ cell / 36) (k:Int),nO (gf (eQ cell / 7) k))
def fA(cell:Int):Int:=eQ cell / 6%cy cell
def du(cell:Int):List (V5×Int):=(jP cell).set (fA cell).toNat (nameOf (eQ cell / 36) (fA cell),0)
theorem jh(cell:Int):1<=cy cell/\cy cell<=4:=by
 have:=Wl (eQ cell) (by decide:(4:Int)≠0);have:=Wg (eQ cell) (by decide:(0:Int)<4);unfold cy;lia
theorem nK(cell:Int):0<=fA cell/\fA cell<cy cell:=by
 have:=jh cell;unfold fA;exact⟨Wl _ (by lia),Wg _ (by lia)⟩
theorem fD(cell:Int):(jP cell).length=(cy cell).toNat:=by unfold jP;rw[Vu,List.length_range]
theorem d9(cell:Int):(du cell).length=(cy cell).toNat:=by unfold du;rw[XR,fD]
theorem ja(h:i<(cy cell).toNat):(jP cell)[i]?=A? (nameOf (eQ cell / 36) (i:Int),nO (gf (eQ cell / 7) i)):=by
 unfold jP;rw[VA,List.getElem?_range h];rfl
theorem cW{k:V5×Int}(h:(du cell)[i]?=A? k):i<(cy cell).toNat/\k.1=nameOf (eQ cell / 36) (i:Int)/\0<=k.2/\k.2<=3/\(i=(fA cell).toNat->k.2=0):=by
 have hi:i<(cy cell).toNat:=by
  have:=(glE h);rw[d9]at this;exact this
 have ha:=nK cell;unfold du at h;by_cases e:(fA cell).toNat=i
 .rw[e,W5 (by rw[fD];exact hi)]at h;cases h;have:(i:Int)=fA cell:=by lia
  exact⟨hi,by rw[this],by simp,by simp,λ_=>rfl⟩
 .rw[W6 e,ja hi]at h;cases h;exact⟨hi,D?,(rb _).1,(rb _).2,λz=>g! z.symm e⟩
theorem jO(cell:Int):GoodN (du cell)/\(du cell).length<=4:=by
 have hm:=jh cell;have ha:=nK cell;refine⟨⟨by rw[d9];lia,by rw[d9];lia,λk hk=>?_,λk hk=>?_,?_,λi j k l hi hj e=>?_⟩,by rw[d9];lia⟩
 .obtain⟨i,hi⟩:=VL.mp hk;rw[(cW hi).2.1];exact⟨p9 _ _,qq _ _⟩
 .obtain⟨i,hi⟩:=VL.mp hk;exact⟨(cW hi).2.2.1,(cW hi).2.2.2.1⟩
 .have hl:(fA cell).toNat<(du cell).length:=by rw[d9];lia
  exact⟨_,WQ hl,(cW (Vw hl)).2.2.2.2 rfl⟩
 .obtain⟨h1,h2,_⟩:=cW hi;obtain⟨h3,h4,_⟩:=cW hj;rw[h2,h4]at e;have:=oZ (by lia) (by lia) (by lia) (by lia) e;lia
theorem GoodN.goodK{ks:List (V5×Int)}(g:GoodN ks)(h:ks.length<=4):gQ ks:=⟨g.ne,by lia,g.low,g.num,g.zero⟩
def LsT(H:Hp)(ts:List Th)(la:Vy):Prop:=∃as:List Vy,H la=A? (.lst (as.map k!))/\Ats H ts as
theorem LsT.up(k:KT H H'){ts:List Th}{la:Vy}(s:∀o,H la=A? o->H' la=A? o)(h:LsT H ts la):LsT H' ts la:=by
 obtain⟨as,h1,h2⟩:=h;exact⟨as,s _ h1,h2.mono k⟩
theorem LsT.same(s:j! H H'){ts:List Th}{la:Vy}(h:LsT H ts la):LsT H' ts la:=h.up (n! s) λo=>s la o
def pickK(Ao:List (List Th))(s k:Int):Th:=(Ao.getD k.toNat []).getD s.toNat bg
def InK(Ao:List (List Th))(p:Th):Prop:=∀s k:Int,q! s k∈p.walk->∃(k' s':Nat)(ts:List Th)(t:Th),k=(k':Int)/\s=(s':Int)/\Ao[k']?=A? ts/\ts[s']?=A? t
theorem InK.kid{Ao:List (List Th)}{u:Th}(h:InK Ao p)(hu:u∈p.kids):InK Ao u:=λs k m=>h s k (gv hu _ m)
structure BkC(ins:List (V5×Int))(rows:List (List Th)):Prop where
 gi:GoodN ins
 rl:rows.length<=1000
 row:∀row∈rows,row.length=ins.length
 tl:∀row∈rows,∀p∈row,p.tall<=3/\p.size<=100
 cl:∀(a:Nat)(nm:V5)(c:Int),ins[a]?=A? (nm,c)->∀row∈rows,∀s k:Int,q! s k∈(row.getD a bg).walk->(∃k':Nat,k=(k':Int)/\(k':Int)<c)/\∃s':Nat,s=(s':Int)/\s'<rows.length
theorem dR{t:Th}(h:t.Fit ins):(aP ins rows t).length=rows.length:=by
 cases t with
 |call s k=>rw[A!]at h;exact h.elim
 |knot n ks=>rw[ce,Vu]
theorem BkC.inK(h:BkC ins rows){a:Nat}{ks:List Th}(hi:ins[a]?=A? (nm,((ks.length:Nat):Int)))(hk:Fits ins ks)(hr:row∈rows):InK (ks.map (aP ins rows)) (row.getD a bg):=λs k hm=>by
 obtain⟨⟨k',h1,h2⟩,s',h3,h4⟩:=h.cl a nm _ hi row hr s k hm;have hl:k'<ks.length:=by lia
 have e:=Vw hl;have hf:=dU hk _ (WQ hl);have hs:s'<(aP ins rows ks[k']).length:=by rw[dR hf];exact h4
 exact⟨k',s',_,_,h1,h3,by rw[VA,e];rfl,Vw hs⟩
def LsN(H:Hp)(ts:List Th)(la:Vy):Prop:=H la=A? (.lst ((ts.map λt=>((t.size:Nat):Int)).map o!))
theorem i9:∀ts:List Th,(ts.map λt=>((t.size:Nat):Int)).sum=((au ts:Nat):Int)
 | []=>rfl
 | t::ts=>by
   have e:au (t::ts)=t.size+au ts:=rfl;rw[V6,List.sum_cons,i9 ts,e];lia
end BB
namespace LAW
open PySem L2 BB
def top(i:Nat):Zv:=PySem.Challenge.pw_boughbook_k48_whence_it_comes.main.body.getD i (.Pass ⟨0,0,0,0⟩)
theorem scm{P:List V5}(a:sc.kind=.function:=by rfl)(b:sc.isCoroutine=false:=by rfl)(c:sc.isGenerator=false:=by rfl)(d:N.Nodup:=by decide +kernel)(e:N.take P.length=P:=by rfl)(f:∀x∈P,sc.names.lookup x=A? .local\/sc.names.lookup x=A? .cell:=by decide +kernel)(g:∀y∈sc.names,y.2≠.free:=by decide +kernel):bS N P sc:=⟨a,b,c,d,e,f,g⟩
abbrev ND(l:List V5):Prop:=l.Nodup
abbrev sC(N:List V5)(k i:Nat):Prop:=bS N (N.take k) (aD (top i))
theorem qa:sC ["thing"] 1 5:=scm
theorem gG:sC ["thing","met","ahead","part"] 1 6:=scm
theorem pU:sC ["thing"] 1 8:=scm
theorem mS:sC ["call"] 1 9:=scm
theorem sf:sC ["book"] 1 11:=scm
theorem pL:sC ["book"] 1 12:=scm
theorem oV:sC ["book"] 1 13:=scm
theorem mX:sC ["book"] 1 14:=scm
theorem fP:sC ["entries","parts","numbers","done","part","kids"] 3 16:=scm
theorem cN:sC ["row","at","fresh","told","ahead","entry","late"] 2 17:=scm
theorem eV:sC ["tree","entries","at"] 1 18:=scm
theorem df:sC ["pattern","row","number","needs","ahead","part","wished"] 3 21:=scm
theorem lO:sC ["rows","bits","knots","kids"] 4 22:=scm
theorem dL:sC ["rows","agreeing","sizes","numbers","told","bits","knots","kids","number"] 4 23:=scm
theorem dF:bS ["self","kind","patterns","row","state","pattern","part"] ["self","kind","patterns","row"] (aD (inClass (top 24) 0)):=scm
theorem cm:bS ["self","state","part","needs","called","kid","wished","bits"] ["self","state","part","needs"] (aD (inClass (top 24) 1)):=scm
theorem jc:bS ["self"] ["self"] (aD (inClass (top 24) 2)):=scm
theorem be:bS ["self","note","kid","needing","against","state","part","bits"] ["self","note"] (aD (inClass (top 24) 3)):=scm
theorem aI:bS ["self","last","sizes","told","first","rows","place","agreeing","low","high","bits","knots","kids"] ["self","last","sizes"] (aD (inClass (top 24) 4)):=scm
theorem cp:bS ["self","bits","states","note","number","state","part"] ["self","bits","states"] (aD (inClass (top 24) 5)):=scm
theorem eZ:bS ["self","book","row","at","kind"] ["self","book","row"] (aD (inClass (top 25) 0)):=scm
theorem d7:bS ["self","ways","bits","knots","kids","note","tree"] ["self","ways","bits","knots","kids"] (aD (inClass (top 25) 1)):=scm
theorem bV:bS ["self","entry","sizes","ways","bits","knots","kids"] ["self","entry"] (aD (inClass (top 25) 2)):=scm
abbrev fK:Zv:=inClass (top 25) 3
theorem db:bS ["self","ways","done","late"] ["self"] (aD (inClass (top 25) 3)):=scm
theorem eK:sC ["book","wish","row","at","table"] 2 26:=scm
theorem sR:sC ["needs","note"] 2 27:=scm
theorem dO:sC ["book","wish","row","at","needs","note","tree"] 2 28:=scm
theorem jW:sC ["script","k"] 2 30:=scm
theorem bH:sC ["base","n","letters","word","rest","k","size","at","step"] 2 31:=scm
theorem bQ:sC ["cell","mixed","many","rest","kinds","k","at"] 1 32:=scm
theorem dY:sC ["script","many","cells","k"] 2 33:=scm
theorem bN:sC ["cell","outs","states","kids","deep","pair","parts","k","part"] 5 34:=scm
theorem bL:sC ["own","outs","states","kids","deep","calls","pick","pair","parts","k"] 5 35:=scm
theorem aQ:sC ["script","most","deep","ins","outs","states","cells","digits","rules","state","row","k","cell","head"] 3 36:=scm
theorem nB:sC ["name"] 1 37:=scm
theorem dD:sC ["name","parts","tree","high","many"] 2 38:=scm
theorem bI:sC ["script","kinds","top","most","leaves","made","k","cell","pair","parts","part"] 4 39:=scm
theorem oq:sC ["pattern","kids"] 2 40:=scm
theorem cZ:sC ["book","tree","kids","names","at"] 2 41:=scm
theorem jY:sC ["book","tree"] 2 42:=scm
theorem bO:sC ["script","book","outs","made","wish","trees","tree","most"] 2 43:=scm
theorem i4:sC ["book","tree","counts"] 2 44:=scm
theorem cP:sC ["book","tree","kids","names","at"] 2 45:=scm
theorem oB:sC ["pattern","kids"] 2 46:=scm
theorem jV:sC ["tree","kinds"] 2 47:=scm
theorem lL:sC ["tree"] 1 48:=scm
theorem cT:sC ["book","wish","found","many"] 2 49:=scm
theorem jw:sC ["script","book","wish","told","found","entry"] 1 50:=scm
structure FX(K:VD)(mg:V5->Option Vz)(n:V5)(i:Nat)(ps:List V5) where
 f:Vy
 d:Yk
 F:Fun K n n (top i) f d
 b:Binds K d ps []
 m:mg n=A? (.ref f)
structure FM(K:VD)(e:Vy)(n q:V5)(s:Zv)(ps:List V5) where
 f:Vy
 d:Yk
 F:Fun K n q s f d
 b:Binds K d ps []
 me:Meth K e n f
structure FMT(K:VD)(e:Vy)(n q:V5)(s:Zv)(ps:List V5) extends FM K e n q s ps where
 tc:Vy
 tp:Vy
 th:d.code=.ref tc
 t:PySem.W.codeHdIn K tc tp=B?
 u:K.lookup tp=AQ
section
open PySem.W
variable{K:Frag}{n q:V5}{e:Vy}{oc kV dc pm cd ct:Vz}{od an:Option Vy}{sl:Array (Option Vz)}{tk:Tok}
abbrev HB(n q:V5)(st:Zv)(ps:List V5):Prop:=∀(kV dc pm:Vz)(an:Option Vy)(cd ct:Vz)(us:List Vz),us.length=ps.length->ZP (fnOf n q (cA st) (bR st) (aD st) .none kV dc pm an cd ct) ⟨us,[]⟩=pure (ps.zip us)
theorem hb1{p0:V5}(h:∀(kV dc pm:Vz)(an:Option Vy)(cd ct u0:Vz),ZP (fnOf n q (cA st) (bR st) (aD st) .none kV dc pm an cd ct) ⟨[u0],[]⟩=pure [(p0,u0)]):HB n q st [p0]:=λa b c d e f us hl=>by obtain⟨u0,rfl⟩:=us1 hl;exact h a b c d e f u0
theorem hb2{p0:V5}(h:∀(kV dc pm:Vz)(an:Option Vy)(cd ct u0 u1:Vz),ZP (fnOf n q (cA st) (bR st) (aD st) .none kV dc pm an cd ct) ⟨[u0,u1],[]⟩=pure [(p0,u0),(p1,u1)]):HB n q st [p0,p1]:=λa b c d e f us hl=>by obtain⟨u0,u1,rfl⟩:=us2 hl;exact h a b c d e f u0 u1
theorem hb3{p0:V5}(h:∀(kV dc pm:Vz)(an:Option Vy)(cd ct u0 u1 u2:Vz),ZP (fnOf n q (cA st) (bR st) (aD st) .none kV dc pm an cd ct) ⟨[u0,u1,u2],[]⟩=pure [(p0,u0),(p1,u1),(p2,u2)]):HB n q st [p0,p1,p2]:=λa b c d e f us hl=>by obtain⟨u0,u1,u2,rfl⟩:=us3 hl;exact h a b c d e f u0 u1 u2
theorem hb4{p0 p3:V5}(h:∀(kV dc pm:Vz)(an:Option Vy)(cd ct u0 u1 u2 u3:Vz),ZP (fnOf n q (cA st) (bR st) (aD st) .none kV dc pm an cd ct) ⟨[u0,u1,u2,u3],[]⟩=pure [(p0,u0),(p1,u1),(p2,u2),(p3,u3)]):HB n q st [p0,p1,p2,p3]:=λa b c d e f us hl=>by obtain⟨u0,u1,u2,u3,rfl⟩:=us4 hl;exact h a b c d e f u0 u1 u2 u3
theorem hb5{p0 p3 p4:V5}(h:∀(kV dc pm:Vz)(an:Option Vy)(cd ct u0 u1 u2 u3 u4:Vz),ZP (fnOf n q (cA st) (bR st) (aD st) .none kV dc pm an cd ct) ⟨[u0,u1,u2,u3,u4],[]⟩=pure [(p0,u0),(p1,u1),(p2,u2),(p3,u3),(p4,u4)]):HB n q st [p0,p1,p2,p3,p4]:=λa b c d e f us hl=>by obtain⟨u0,u1,u2,u3,u4,rfl⟩:=us5 hl;exact h a b c d e f u0 u1 u2 u3 u4
noncomputable def fm(a:findIn K (.ref e) n=A? (A? (.ref f)):=by k_is)(i:isFn K (.ref f)=true:=by k_is)(l:K.lookup f=A? ⟨oc,od,.func (fnOf n q (cA st) (bR st) (aD st) .none kV dc pm an cd ct),sl⟩:=by k_is)(c:codeIn K cd q=true:=by k_is)(k:keepIn K (.ref f)=true:=by k_is)(hb:HB n q (st) ps:=by first|exact LAW.hb1 λ_ _ _ _ _ _ _=>rfl|exact LAW.hb2 λ_ _ _ _ _ _ _ _=>rfl|exact LAW.hb3 λ_ _ _ _ _ _ _ _ _=>rfl|exact LAW.hb4 λ_ _ _ _ _ _ _ _ _ _=>rfl|exact LAW.hb5 λ_ _ _ _ _ _ _ _ _ _ _=>rfl):FM K e n q st ps:=⟨f,_,ny l c k,(ny l c k).binds hb,⟨a,i,k⟩⟩
noncomputable def fmt{tc tp:Vy}{to:Xw}(a:findIn K (.ref e) n=A? (A? (.ref f)):=by k_is)(i:isFn K (.ref f)=true:=by k_is)(l:K.lookup f=A? ⟨oc,od,.func (fnOf n q (cA st) (bR st) (aD st) .none kV dc pm an cd ct),sl⟩:=by k_is)(c:codeIn K cd q=true:=by k_is)(k:keepIn K (.ref f)=true:=by k_is)(hb:HB n q (st) ps:=by first|exact LAW.hb1 λ_ _ _ _ _ _ _=>rfl|exact LAW.hb2 λ_ _ _ _ _ _ _ _=>rfl|exact LAW.hb3 λ_ _ _ _ _ _ _ _ _=>rfl|exact LAW.hb4 λ_ _ _ _ _ _ _ _ _ _=>rfl|exact LAW.hb5 λ_ _ _ _ _ _ _ _ _ _ _=>rfl)(g:cd=.ref tc:=by rfl)(v:K.lookup tc=A? to:=by k_is)(x:tabAt to=A? tp:=by rfl)(t:codeHdIn K tc tp=true:=by kernel_rfl)(u:K.lookup tp=none:=by kernel_rfl):FMT K e n q st ps:=⟨fm a i l c k hb,tc,tp,g,t,u⟩
theorem na(a:findIn K (.ref e) n=A? none:=by k_is):NoAttr K e n:=a
variable(X:K.In h)(G:h.Ns Xg mg)
noncomputable def fx{i:Nat}(a:nsIn K Xg n=A? (A? (.ref f)):=by k_is)(l:K.lookup f=A? ⟨oc,od,.func (fnOf n n (cA (top i)) (bR (top i)) (aD (top i)) .none kV dc pm an cd ct),sl⟩:=by k_is)(c:codeIn K cd n=true:=by k_is)(k:keepIn K (.ref f)=true:=by k_is)(hb:HB n n (top i) ps:=by first|exact LAW.hb1 λ_ _ _ _ _ _ _=>rfl|exact LAW.hb2 λ_ _ _ _ _ _ _ _=>rfl|exact LAW.hb3 λ_ _ _ _ _ _ _ _ _=>rfl|exact LAW.hb4 λ_ _ _ _ _ _ _ _ _ _=>rfl|exact LAW.hb5 λ_ _ _ _ _ _ _ _ _ _ _=>rfl):FX K mg n i ps:=⟨f,_,ny l c k,(ny l c k).binds hb,mg_of X G a⟩
include X G
theorem bn(a:nsIn K Xg n=A? none:=by k_is):mg n=none:=mg_none_of X G a
theorem gn(a:nsIn K Xg n=A? (A? (.ref f)):=by k_is):mg n=A? (.ref f):=mg_of X G a
theorem cs(a:nsIn K Xg n=A? (A? (.str x tk)):=by k_is):∃tk,mg n=A? (.str x tk):=⟨tk,mg_of X G a⟩
theorem ci{x:Int}(a:nsIn K Xg n=A? (A? (.int x tk)):=by k_is):∃tk,mg n=A? (.int x tk):=⟨tk,mg_of X G a⟩
end
theorem pcF{X:Cx}{kk k:Nat}{n:V5}{st:Nat}{es:List WB}{t:TA}{p:YF}(g:FX X.K X.mg n st ps)(F:bj X.prog X.w X.K X.mg X.base CX0 k g.f g.d ps sp)(hr:Room kk X.A)(ha:PA X (e::es) t)(hle:k<=kk:=by first|decide|lia)(hg:Gl X n:=by rfl)(C7:(n == ("__debug__":V5))=false:=by decide)(he:Wu (e::es) X.env=(C?,XD e X.env)::Wu es X.env:=by rfl)(Am:(Yy pos (Wu es X.env)).any (·.1)=false:=by rfl):PE X (.Call (.Name n p) (e::es) [] pos) (gN sp [] E0 t) :=
 de F (hr.mono hle) hg g.m g.F.kp g.b .nil cV ha C7 he Am
structure TX(K:VD)(mg:V5->Option Vz) where
 c_CALL_SIGN:∃tk,mg "CALL_SIGN"=A? (.str (VE "?") tk)
 c_MOST_NOTES:∃tk,mg "MOST_NOTES"=A? (.int (30) tk)
 e_BookError:Vy
 x_BookError:mg "BookError"=A? (.ref e_BookError)
 e_Many:Vy
 x_Many:mg "Many"=A? (.ref e_Many)
 xe_Many:PySem.W.excIn K e_Many [.type "ValueError",.type "Exception",.type "BaseException",.type "object"] "ValueError.__new__"=B?
 xg_Many:Xk K (.ref e_Many) "__getattribute__"=A? (A? (.builtin "BaseException.__getattribute__"))
 xh_Many:Xk K (.ref e_Many) "__getattr__"=A? AQ
 xc_Many:Xk K (.ref e_Many) "__class__"=A? (A? (.builtin "object.__class__"))
 xo_Many:PySem.W.mroIn K e_Many (.type "object")=A? B?
 xb_Many:PySem.W.mroIn K e_Many (.type "BaseException")=A? B?
 hit_Many_Many:PySem.W.exmOne K (.ref e_Many) (.ref e_Many)=A? B?
 g_0:FX K mg "kids_of" 5 ["thing"]
 g_1:FX K mg "walked" 6 ["thing"]
 g_2:FX K mg "is_call" 8 ["thing"]
 g_3:FX K mg "called_by" 9 ["call"]
 g_4:FX K mg "ins_of" 11 ["book"]
 g_5:FX K mg "head_of" 12 ["book"]
 g_6:FX K mg "rules_of" 13 ["book"]
 g_7:FX K mg "states_of" 14 ["book"]
 g_8:FX K mg "entered" 16 ["entries","parts","numbers"]
 g_9:FX K mg "in_order" 17 ["row","at"]
 g_10:FX K mg "shared_row" 18 ["tree"]
 g_11:FX K mg "needs_of" 21 ["pattern","row","number"]
 g_12:FX K mg "keep_least" 22 ["rows","bits","knots","kids"]
 g_13:FX K mg "longer" 23 ["rows","agreeing","sizes","numbers"]
 g_24:FX K mg "notes_of" 26 ["book","wish"]
 g_25:FX K mg "makes" 27 ["needs","note"]
 g_26:FX K mg "whence" 28 ["book","wish"]
 g_27:FX K mg "_law_cell_at" 30 ["script","k"]
 g_28:FX K mg "_law_name" 31 ["base","n"]
 g_29:FX K mg "_law_kinds" 32 ["cell"]
 g_30:FX K mg "_law_folded" 33 ["script","many"]
 g_31:FX K mg "_law_pattern" 34 ["cell","outs","states","kids","deep"]
 g_32:FX K mg "_law_digits" 35 ["own","outs","states","kids","deep"]
 g_33:FX K mg "_law_book" 36 ["script","most","deep"]
 g_34:FX K mg "_law_leaf" 37 ["name"]
 g_35:FX K mg "_law_over" 38 ["name","parts"]
 g_36:FX K mg "_law_grown" 39 ["script","kinds","top","most"]
 g_37:FX K mg "_law_put" 40 ["pattern","kids"]
 g_38:FX K mg "_law_mades" 41 ["book","tree"]
 g_39:FX K mg "_law_outcome" 42 ["book","tree"]
 g_40:FX K mg "_law_wish" 43 ["script","book"]
 g_41:FX K mg "_law_size" 44 ["book","tree"]
 g_42:FX K mg "_law_counts" 45 ["book","tree"]
 g_43:FX K mg "_law_sum" 46 ["pattern","kids"]
 g_44:FX K mg "_law_is_tree" 47 ["tree","kinds"]
 g_45:FX K mg "_law_knots" 48 ["tree"]
 g_46:FX K mg "_law_told" 49 ["book","wish"]
 g_47:FX K mg "law" 50 ["script"]
 e_Ways:Vy
 x_Ways:mg "Ways"=A? (.ref e_Ways)
 cl_Ways:Cls K e_Ways
 g_14:FM K e_Ways "__init__" "Ways.__init__" (inClass (top 24) 0) ["self","kind","patterns","row"]
 g_15:FM K e_Ways "add_way" "Ways.add_way" (inClass (top 24) 1) ["self","state","part","needs"]
 g_16:FM K e_Ways "all_bits" "Ways.all_bits" (inClass (top 24) 2) ["self"]
 g_17:FM K e_Ways "take_note" "Ways.take_note" (inClass (top 24) 3) ["self","note"]
 g_18:FM K e_Ways "rows_with" "Ways.rows_with" (inClass (top 24) 4) ["self","last","sizes"]
 g_19:FM K e_Ways "note_by" "Ways.note_by" (inClass (top 24) 5) ["self","bits","states"]
 mi_Ways:PySem.W.makesIn K e_Ways=B?/\Ys K (.ref e_Ways)=B?
 na_Ways_kind_name:NoAttr K e_Ways "kind_name"
 na_Ways_pairs:NoAttr K e_Ways "pairs"
 na_Ways_needing:NoAttr K e_Ways "needing"
 na_Ways_agreeing:NoAttr K e_Ways "agreeing"
 e_Table:Vy
 x_Table:mg "Table"=A? (.ref e_Table)
 cl_Table:Cls K e_Table
 g_20:FM K e_Table "__init__" "Table.__init__" (inClass (top 25) 0) ["self","book","row"]
 g_21:FM K e_Table "enter" "Table.enter" (inClass (top 25) 1) ["self","ways","bits","knots","kids"]
 g_22:FM K e_Table "settle" "Table.settle" (inClass (top 25) 2) ["self","entry"]
 g_23:FMT K e_Table "fill" "Table.fill" (inClass (top 25) 3) ["self"]
 mi_Table:PySem.W.makesIn K e_Table=B?/\Ys K (.ref e_Table)=B?
 na_Table_states:NoAttr K e_Table "states"
 na_Table_ways:NoAttr K e_Table "ways"
 na_Table_found:NoAttr K e_Table "found"
 na_Table_settled:NoAttr K e_Table "settled"
 n_0:mg "all"=AQ
 n_1:mg "enumerate"=AQ
 n_2:mg "isinstance"=AQ
 n_3:mg "len"=AQ
 n_4:mg "list"=AQ
 n_5:mg "max"=AQ
 n_6:mg "min"=AQ
 n_7:mg "range"=AQ
 n_8:mg "reversed"=AQ
 n_9:mg "sum"=AQ
 n_10:mg "tuple"=AQ
 n_11:mg "zip"=AQ
theorem TX.X_Many(T:TX K mg):vf K T.e_Many:=⟨T.xe_Many,T.xg_Many,T.xh_Many,T.xc_Many,T.xo_Many,T.xb_Many⟩
theorem yO:ND ["kid","done"]:=by decide +kernel
theorem xM:ND ["kid","fresh"]:=by decide +kernel
theorem wC:ND ["kid"]:=by decide +kernel
theorem yT:ND ["kid","self"]:=by decide +kernel
theorem nD:ND ["knots","note","tree"]:=by decide +kernel
theorem yx:ND ["patterns","at"]:=by decide +kernel
theorem yo:ND ["note","entry","done"]:=by decide +kernel
theorem wy:ND ["state","kid","wished","note"]:=by decide +kernel
theorem xT:ND ["one"]:=by decide +kernel
theorem sV:ND ["pair"]:=by decide +kernel
theorem vU:ND ["part","kids"]:=by decide +kernel
theorem vN:ND ["kid","book"]:=by decide +kernel
theorem v5:ND ["row","kids","at"]:=by decide +kernel
theorem ml:ND ["part"]:=by decide +kernel
theorem v7:ND ["entry"]:=by decide +kernel
theorem yq:ND ["kid","kinds"]:=by decide +kernel
section
variable(T:TX K mg)
inductive kN(vs:List V)(H:Hp)(Q:VK)(_E:XK):Prop
 |mk (a:Vy) (t:Th):vs=[.ref a]->At H t a->(∀(r:Vy)(as:List Vy)(H':Hp),j! H H'->H' r=A? (.tup (as.map k!))->Ats H' t.kids as->Q (.ref r) H')->kN  vs H Q _E
theorem qb:bj P w K mg base CX0 1 T.g_0.f T.g_0.d ["thing"] kN:=by
 refine T.g_0.F.okA qa λzb A outer s H vs Q E hr h=>?_;obtain⟨a,t,rfl,hA,k⟩:=h
 refine⟨_,(aj (bE (aC cL (ax az (pv 0) ad (λ_ _=>rfl)) (nw (v:=.str (VE "?")) rfl T.c_CALL_SIGN.choose_spec ⟨_,D?⟩) (aJ _)) (ak (aF (bc ae))) aT)
  (ak (aF (aZ cR (pv 0) (br ad) bJ)))),?_⟩
 try dsimp only[zy,yY]
 cases t with
 | knot n ks =>
   rw[At]at hA;refine hid λZZ kZ=>?_;obtain⟨hn,as,h1,h2⟩:=hA;refine kZ ?_;refine⟨_,D?,a,_,0,.str n,D?,D?,i! h1,at0,D?,_,D?,?_⟩;refine eS (λc=>g! (e! c) (λz=>hn (V.str.inj z))) (λ_=>?_);refine⟨_,D?,1,D?,a,_,D?,i! h1,?_,λr hr=>?_⟩
   .intro z;have:=z.1;simp[p!]at this
   .rw[cr];exact k r as _ (ao hr _) ac (h2.mono (iq hr))
 | call sn kn =>
   rw[At]at hA;refine⟨_,D?,a,_,0,.str q,D?,D?,i! hA,at0,D?,_,D?,?_⟩;refine eS (λ_=>?_) (λc=>g! (d! rfl) c);refine⟨by show 0<=V4;decide,λr hr=>?_⟩;exact k r [] _ (ao hr _) ac .nil
inductive lW(vs:List V)(H:Hp)(Q:VK)(_E:XK):Prop
 |mk (a:Vy) (t:Th):vs=[.ref a]->At H t a->t.size<=100000->(∀(r:Vy)(as:List Vy)(H':Hp),j! H H'->H r=AQ->H' r=A? (.lst (as.map k!))->Ats H' t.walk as->Q (.ref r) H')->lW  vs H Q _E
theorem sk:bj P w K mg base CX0 2 T.g_1.f T.g_1.d ["thing"] lW:=by
 refine T.g_1.F.okA gG λzb A outer s H vs Q E hr h=>?_;obtain⟨a,t,rfl,hA,hsz,k⟩:=h
 refine⟨_,(aj (am 1 gG.nd (bU ae))
  (aj (am 2 gG.nd (bU (aa (pv 0) ae)))
  (aj (i6 Wq (b7 (pv 2) (λ_=>rfl)) (aj (am 3 gG.nd (lg V7 YJ YI ko (pv 2)))
  (aj (aY (cB V7 Wo Wn bq (pv 1) (aa (pv 3) ae)))
  (ak (aY (cB V7 PySem.F.slot_list_extend PySem.F.type_list_extend pM (pv 2) (aa (vo xa (pcF T.g_0 (qb T) hr (aa (pv 3) ae))) ae)))))))
  (ak (aF (pv 1)))))),?_⟩
 try dsimp only[zy,yY]
 refine⟨by show 0<=V4;decide,λmt ID=>?_⟩;refine⟨_,D?,by show 1<=V4;decide,λah DU=>?_⟩;have KI:H ah=none:=(ao ID _).free DU;have zk:ah≠mt:=λz=>by rw[z,ac]at DU;cases DU
 refine⟨λm σ H2=>Ex5 λ(ms as:List Vy)(Ms As:List Th)(p:Option V)=>An8 (σ=[A? (.ref a),A? (.ref mt),A? (.ref ah),p]) (j! H H2) (H2 mt=A? (.lst (ms.map k!))) (H2 ah=A? (.lst (as.map k!))) (Ats H2 Ms ms) (Ats H2 As as) (Ms++walks As.reverse=t.walk) (m=au As),⟨_,[],[a],[],[t],AQ,D?,?_,?_,?_,.nil,.cons (hA.mono ?_) .nil,?_,D?⟩,?_⟩
 .exact aK (ao ID _) KI
 .rw[af zk.symm,ac];rfl
 .rw[ac];rfl
 .exact n! (aK (ao ID _) KI)
 .simp[walks]
 rintro m σ H2 ⟨ms,as,Ms,As,p,rfl,sm,e1,e2,a1,a2,hw,rfl⟩
 have hlen:ms.length+au As<=100000:=by
  have h1:=h! Xd hw;rw[VJ,jy,Th.walk_len,<-a1.length]at h1;have h2:=l9 As;lia
 refine⟨_,D?,_,.inl ⟨_,l! e2,D?⟩,?_⟩;refine eS (λc=>?_) (λc=>?_)
 ·-- a part is taken off
  refine⟨λi' H'=>∃m',m'<au As/\Ex5 λ(ms as:List Vy)(Ms As:List Th)(p:Option V)=>An8 (i'=[A? (.ref a),A? (.ref mt),A? (.ref ah),p]) (j! H H') (H' mt=A? (.lst (ms.map k!))) (H' ah=A? (.lst (as.map k!))) (Ats H' Ms ms) (Ats H' As as) (Ms++walks As.reverse=t.walk) (m'=au As),λi' H' h=>h,?_⟩;have AL:as≠[]:=by intro z;subst z;simp at c
  obtain⟨zu,b,rfl⟩:∃zu b,as=zu++[b]:=⟨as.dropLast,as.getLast AL,(XS AL).symm⟩;obtain⟨Us,x,rfl,a3,a4⟩:=a2.snoc_inv;have hs:au (Us++[x])=au Us+x.size:=by rw[cf,au,au];lia
  have GR:=x.size_eq;rw[hs]at hlen;refine⟨_,D?,.inl ⟨D?,_,l! e2⟩,ah,_,.ref b,D?,D?,e2,by simp,?_⟩;have d1:((zu++[b]).map k!).dropLast=zu.map k!:=by simp
  rw[d1];refine⟨_,D?,.inl ⟨D?,_,l! (by rw[af zk.symm];exact e1)⟩,_,D?,mt,_,.ref b,D?,D?,by rw[af zk.symm];exact e1,lbE (by lia),?_⟩;have k1:KT H2 (upd (upd H2 ah (.lst (zu.map k!))) mt (.lst (ms.map k!++[.ref b]))):=(cH e2).trans (cH (xs:=ms.map k!) (by rw[af zk.symm];exact e1));refine⟨_,D?,.inl ⟨D?,_,l! (by rw[af zk,ac])⟩,_,D?,b,x,D?,a4.mono k1,λr ks H3 s3 e3 a5=>?_⟩;refine⟨r,_,D?,i! e3,λl hl=>?_⟩;have l1:l≠ah:=λz=>by rw[z,s3 ah _ (by rw[af zk,ac])]at hl;cases hl
  have l2:l≠mt:=λz=>by rw[z,s3 mt _ ac]at hl;cases hl
  refine⟨ah,l,_,_,D?,D?,by rw[af l1.symm];exact s3 ah _ (by rw[af zk,ac]),i! ac,XH (bp ?_),?_⟩
  .have q1:=a3.length;have q2:=a5.length;have q3:=dH Us;have q4:=dH x.kids;rw[Vu,Yn,Vu];lia
  .have k2:KT H2 (upd (upd H3 l (.tup (ks.map k!).reverse)) ah (.lst (zu.map k!++(ks.map k!).reverse))) :=
    k1.trans ((n! s3).trans ((iq hl).trans (cH (xs:=zu.map k!) (by rw[af l1.symm];exact s3 ah _ (by rw[af zk,ac])))))
   have k3:KT H3 (upd (upd H3 l (.tup (ks.map k!).reverse)) ah (.lst (zu.map k!++(ks.map k!).reverse))) :=
    (iq hl).trans (cH (xs:=zu.map k!) (by rw[af l1.symm];exact s3 ah _ (by rw[af zk,ac])))
   refine⟨au (Us++x.kids.reverse),?_,ms++[b],zu++ks.reverse,Ms++[x],Us++x.kids.reverse,A? (.ref b),D?,?_,?_,?_,?_,?_,?_,D?⟩
   .rw[cf,l9,hs];lia
   .have s4:j! H (upd (upd H2 ah (.lst (zu.map k!))) mt (.lst (ms.map k!++[.ref b]))):=aK (aK sm KI) ID;have nl:H l=none:=s4.free (s3.free hl);exact aK (aK (s4.trans s3) nl) KI
   .rw[af zk.symm,af l2.symm,s3 mt _ ac,V3];rfl
   .rw[ac,V3,List.map_reverse]
   .exact(a1.mono k2).append (.cons (a4.mono k2) .nil)
   .exact(a3.mono k2).append (a5.mono k3).reverse
   .rw[<-hw,Yj,XY,XY,Yh,iD];show Ms++([x]++(walks x.kids++walks Us.reverse))=Ms++walks (x::Us.reverse);rw[walks,x.walk_eq];rfl
 .have hz:as=[]:=by
   cases as with
   |nil=>rfl
   |cons y ys=>simp at c
  subst hz;have RZ:As=[]:=XO.mp a2.length.symm;subst RZ;refine⟨_,D?,k mt ms H2 sm ID e1 ?_⟩;have AZ:Ms=t.walk:=by simpa[walks]using hw
  rw[<-AZ];exact a1
inductive lw(vs:List V)(H:Hp)(Q:VK)(_E:XK):Prop
 |mk (a:Vy) (t:Th):vs=[.ref a]->At H t a->Q (.bl t.isCall) H->lw  vs H Q _E
theorem kG:bj P w K mg base CX0 1 T.g_2.f T.g_2.d ["thing"] lw:=by
 refine T.g_2.F.okA pU λzb A outer s H vs Q E hr h=>?_;obtain⟨a,t,rfl,hA,k⟩:=h;refine⟨_,(ak (aF (nn cL (ax az (pv 0) ad (λ_ _=>rfl)) (nw (v:=.str (VE "?")) rfl T.c_CALL_SIGN.choose_spec ⟨_,D?⟩) (aJ _)))),?_⟩
 try dsimp only[zy,yY]
 cases t with
 | knot n ks =>
   rw[At]at hA;refine hid λZZ kZ=>?_;obtain⟨hn,as,h1,h2⟩:=hA;refine kZ ?_;refine⟨_,D?,a,_,0,.str n,D?,D?,i! h1,at0,D?,?_⟩;have e:decide (D! n=D! (VE "?"))=false:=c! (λz=>hn (V.str.inj z));rw[e];exact k
 | call sn kn =>
   rw[At]at hA;refine⟨_,D?,a,_,0,.str q,D?,D?,i! hA,at0,D?,?_⟩;have e:decide (D! q=D! (VE "?"))=true:=d! rfl;rw[e];exact k
inductive iG(vs:List V)(H:Hp)(Q:VK)(_E:XK):Prop
 |mk (a:Vy) (sn kn:Int):vs=[.ref a]->At H (.call sn kn) a->(∀p,H p=AQ->Q (.ref p) (upd H p (.tup [.int sn,.int kn])))->iG  vs H Q _E
theorem iA:bj P w K mg base CX0 1 T.g_3.f T.g_3.d ["call"] iG:=by
 refine T.g_3.F.okA mS λzb A outer s H vs Q E hr h=>?_;obtain⟨a,sn,kn,rfl,hA,k⟩:=h;refine⟨_,(ak (aF (bc (aa (ax az (pv 0) ad (λ_ _=>rfl)) (aa (ax az (pv 0) ad (λ_ _=>rfl)) ae))))),?_⟩
 try dsimp only[zy,yY]
 rw[At]at hA;exact⟨_,D?,a,_,1,_,D?,D?,i! hA,at1,_,D?,a,_,2,_,D?,D?,i! hA,at2,lnE rfl,λp hp=>k p hp⟩
inductive my(vs:List V)(H:Hp)(Q:VK)(_E:XK):Prop
 |mk (b:Vy) (v1 v2 v3 v4:V):vs=[.ref b]->H b=A? (.tup [v1,v2,v3,v4])->Q v1 H->my  vs H Q _E
inductive jG(vs:List V)(H:Hp)(Q:VK)(_E:XK):Prop
 |mk (b:Vy) (v1 v2 v3 v4:V):vs=[.ref b]->H b=A? (.tup [v1,v2,v3,v4])->Q v4 H->jG  vs H Q _E
theorem rB:bj P w K mg base CX0 1 T.g_4.f T.g_4.d ["book"] my:=by
 refine T.g_4.F.okA sf λzb A outer s H vs Q E hr h=>?_;obtain⟨b,v1,v2,v3,v4,rfl,e,q⟩:=h;refine⟨_,(ak (aF (ax az (pv 0) ad (λ_ _=>rfl)))),?_⟩
 try dsimp only[zy,yY]
 exact⟨_,D?,b,_,0,v1,D?,D?,i! e,at0,q⟩
theorem jR:bj P w K mg base CX0 1 T.g_6.f T.g_6.d ["book"] jG:=by
 refine T.g_6.F.okA oV λzb A outer s H vs Q E hr h=>?_;obtain⟨b,v1,v2,v3,v4,rfl,e,q⟩:=h;refine⟨_,(ak (aF (ax az (pv 0) ad (λ_ _=>rfl)))),?_⟩
 try dsimp only[zy,yY]
 exact⟨_,D?,b,_,3,v4,D?,D?,i! e,bu (j:=3) rfl,q⟩
inductive iS(vs:List V)(H:Hp)(Q:VK)(_E:XK):Prop
 |mk (b:Vy) (v1 v2 v3:V) (ra:Vy) (xs:List V):vs=[.ref b]->H b=A? (.tup [v1,v2,v3,.ref ra])->H ra=A? (.tup xs)->Q (.int xs.length) H->iS  vs H Q _E
theorem nG:bj P w K mg base CX0 2 T.g_7.f T.g_7.d ["book"] iS:=by
 refine T.g_7.F.okA mX λzb A outer s H vs Q E hr h=>?_;obtain⟨b,v1,v2,v3,ra,xs,rfl,e,e2,q⟩:=h;refine⟨_,(ak (aF (aB aA rfl T.n_3 Wi (aa (pcF T.g_6 (jR T) hr (aa (pv 0) ae)) ae)))),?_⟩
 try dsimp only[zy,yY]
 exact⟨_,D?,b,_,_,_,_,D?,e,ra,_,D?,.inr (i! e2),q⟩
inductive kY(vs:List V)(H:Hp)(Q:VK)(_E:XK):Prop
 |mk (b:Vy) (v1 v2 v3 v4:V):vs=[.ref b]->H b=A? (.tup [v1,v2,v3,v4])->Q v3 H->kY  vs H Q _E
theorem pG:bj P w K mg base CX0 1 T.g_5.f T.g_5.d ["book"] kY:=by
 refine T.g_5.F.okA pL λzb A outer s H vs Q E hr h=>?_;obtain⟨b,v1,v2,v3,v4,rfl,e,q⟩:=h;refine⟨_,(ak (aF (ax az (pv 0) ad (λ_ _=>rfl)))),?_⟩
 try dsimp only[zy,yY]
 exact⟨_,D?,b,_,2,v3,D?,D?,i! e,bu (j:=2) rfl,q⟩
def nV(i:Nat):V:=.int (i:Nat)
theorem oP(n:V5)(ids:List Nat):(gM (n,ids)).map kV=D! n::ids.map nV:=by
 unfold gM;rw[V6,Wk];rfl
theorem kh{F:α->β->Prop}:∀{a:List α}{b:List β},Wc F a b->Wc (λy x=>F x y) b a
 |_,_,.nil=>.nil
 |_,_,.cons h t=>.cons h (kh t)
inductive lj(vs:List V)(H:Hp)(Q:VK)(_E:XK):Prop
 |mk (ea la na:Vy) (as:List Vy) (t:Th) (E0:List (V5×List Nat)) (T0:List Th) (Mv:List (List Key×V)) (g:Int->Int->Th) (All:List Th):vs=[.ref ea,.ref la,.ref na]->H ea=A? (.dT (kvsOf E0))->Cl E0 T0->(∀e∈E0,e.2.length<=100000)->H la=A? (.lst (as.map k!))->Ats H t.walk as->H na=A? (.dT Mv)->na≠ea->(∀s k,q! s k∈t.walk->∃j:Nat,bT Mv (ky (s,k))=A? (.int (j:Nat))/\T0[j]?=A? (g s k))->t.size<=100000->(∀u∈T0,u∈All)->(∀n ks,r! n ks∈t.walk->(r! n ks).fill g∈All)->All.length<=900000->(∀(E:List (V5×List Nat))(Ts:List Th)(at':Nat)(H':Hp),(∀b o,b≠ea->H b=A? o->H' b=A? o)->H' ea=A? (.dT (kvsOf E))->Cl E Ts->T0 <+: Ts->(∀u∈Ts,u∈All)->Ts[at']?=A? (t.fill g)->(∀e∈E,e.2.length<=100000)->Q (.int (at':Nat)) H')->lj  vs H Q _E
theorem pT:bj P w K mg base CX0 2 T.g_8.f T.g_8.d ["entries","parts","numbers"] lj:=by
 refine T.g_8.F.okA fP λzb A outer s H vs Q E hr h=>?_;obtain⟨ea,la,na,as,t,E0,T0,Mv,g,All,rfl,ee,FO,Mw,el,hw,FP,AL,zT,hsz,IE,Mx,R0,q⟩:=h
 refine⟨_,(aj (am 3 fP.nd (bU ae))
  (aj (bG Wq rfl (xg rfl T.n_8 (pv 1)) (pgN 4 fP.nd) (ak (bE (b7 (pcF T.g_2 (kG T) hr (aa (pv 4) ae)) (λ_=>rfl)) (ak (aY (cB V7 Wo Wn bq (pv 3) (aa (iE (dA hr) (pv 2) (pcF T.g_3 (iA T) hr (aa (pv 4) ae)) (λ_ _=>rfl)) ae)))) (aj (dC (i:=5) (N:=["kid","done"]) (js:=[AQ,A? 3]) (g:=(av 0)) (tt:=aR) (te:=(yu K "list" (xW) (bB 1))) fP.nd rfl (Z9 rfl) rfl (bK rfl (by decide +kernel) (by decide +kernel) rfl rfl rfl) (b9 (aZ cR (pv 4) (br ad) bJ)) (λ_ _ _ _ _ _=>(pgN 0 yO)) (aE rfl) (λ_ _ _ _ _ _=>aU) (λ_ _ _ _ _ _=>(lg V7 YJ YI ko (pv 1))))
  (ak (aY (cB V7 Wo Wn bq (pv 3) (aa (cB PySem.F.plainAttrs_dict Zz PySem.F.type_dict_setdefault (gY (dA hr)) (pv 0) (aa (aq eN (aZ rf (pv 4) bJ (br ad)) (b8 bz rfl T.n_10 WN (aa (pv 5) ae))) (aa (aB ju rfl T.n_3 Wi (aa (pv 0) ae)) ae))) ae))))))))
  (ak (aF (ax aS (pv 3) ad (λ_ _=>rfl)))))),?_⟩
 try dsimp only[zy,yY]
 have An:as.length=t.walk.length:=hw.length;have B1:=t.walk_len;obtain⟨AF,hok⟩:=uS g t;obtain⟨zo,BL⟩:∃zo,zo=t.walk.map (cU g):=⟨_,rfl⟩;rw[<-BL]at AF hok;have zh:zo.length=t.walk.length:=by rw[BL,Vu]
 refine⟨lnE rfl,λdn Cc=>?_⟩;have GX:dn≠ea:=λz=>by rw[z,ee]at Cc;cases Cc
 have Ee:la≠ea:=aH el ee (by intro z;cases z);refine⟨_,D?,la,_,D?,l! (ao Cc _ _ _ el),?_⟩
 refine uY (K:=K) (a:=la) (xs:=as.map k!) (λi σ H2=>Ex5 λc4 c5 ds E Ts=>An9 (σ=[A? (.ref ea),A? (.ref la),A? (.ref na),A? (.ref dn),c4,c5]) ((∀b o,b≠ea->H b=A? o->H2 b=A? o)) (H2 ea=A? (.dT (kvsOf E))) (H2 dn=A? (.lst (ds.map nV))) (Cl E Ts) (Wc (λu id=>Ts[id]?=A? u) (bl (zo.drop (zo.length - i))).reverse ds) (T0 <+: Ts) ((∀u∈Ts,u∈All)) (∀e∈E,e.2.length<=100000))
  ⟨AQ,AQ,[],E0,T0,rfl,λb o hb e=>ao Cc _ _ _ e,by rw[af GX.symm];exact ee,ac,FO,by rw[Nat.sub_zero,List.drop_length];exact .nil,List.prefix_rfl,IE,Mw⟩ (λi σ H2 _⟨_,_,_,_,_,_,s2,_,_,_,_,_,_,_⟩=>l! (s2 _ _ Ee el)) ?_ ?_
 .rintro i y σ H2 hi hy ⟨c4,c5,ds,E,Ts,rfl,s2,e2,El,zj,AD,Af,Ay,FQ⟩
  have My:E.length<=900000:=by
   rw[zj.len];exact Wz (fo zj.nd Ay) R0
  rw[Vu,An,<-zh]at hi hy;refine hid λZZ kZ=>?_;obtain⟨pa,rfl,BS⟩:=cD hy;obtain⟨p,hp,Mz⟩:=hw.get BS;have MA:KT H H2:=λb xs e=>s2 b _ (aH e ee (by intro z;cases z)) e;have DV:=Mz.mono MA;have hn:zo.length - 1 - i<zo.length:=by lia
  have hx:zo[zo.length - 1 - i]?=A? (cU g p):=by rw[BL,VA,<-BL,hp];rfl
  have GY:zo.drop (zo.length - 1 - i)=cU g p::zo.drop (zo.length - i):=by
   rw[List.drop_eq_getElem_cons hn,show zo.length - 1 - i+1=zo.length - i by lia];congr 1;rw[Vw hn]at hx;exact VN hx
  have Em:=hok.drop (zo.length - 1 - i);rw[GY]at Em;have Dz:zo.length - (i+1)=zo.length - 1 - i:=by lia
  have LU:(bl (zo.drop (zo.length - i))).length<=100000:=by
   have:=pC (zo.drop (zo.length - i));rw[WO]at this;lia
  obtain⟨S',KJ⟩:=uK g t (i:=zo.length - 1 - i) hp;refine kZ ?_;rw[<-BL,GY]at KJ;generalize zo.drop (zo.length - i)=S at GY AD Em LU KJ;cases p with
  | call sn kn =>
    obtain⟨j,ET,CI⟩:=zT sn kn (Vx hp)
    have R1:Ts[j]?=A? (g sn kn):=by
     obtain⟨r,rfl⟩:=Af;rw[Wj (glE CI)];exact CI
    have MB:=s2 _ _ AL FP;refine⟨_,D?,pa,.call sn kn,D?,DV,B?,D?,?_⟩;refine dm ?_;have R3:=El;refine⟨_,D?,.inl ⟨D?,_,l! El⟩,_,D?,_,D?,pa,sn,kn,D?,DV,λp3 DA=>?_⟩;refine gU DA λH3 s3 e3=>?_;have e3:H3 p3=A? (.tup ((ky (sn,kn)).map kV)):=e3;have hg:DGet H3 na (.ref p3) (A? (.int (j:Nat))):=by have:=DGet.t (s3 _ _ MB) e3;rw[ET]at this;exact this
    refine⟨na,_,D?,hg,dn,_,_,D?,D?,s3 _ _ El,bp (by rw[Vu];have:=VZ AD;rw[Yn]at this;lia),?_⟩;refine⟨_,_,ds++[j],E,Ts,D?,λb o hb e=>?_,?_,?_,zj,?_,Af,Ay,FQ⟩
    .rw[af (aw e Cc)];exact s3 _ _ (s2 b o hb e)
    .rw[af GX.symm];exact s3 _ _ e2
    .rw[ac,V3];rfl
    .rw[Dz,GY,cU,bl,WZ];exact v! AD (.cons R1 .nil)
  |knot n ts =>
  rw[cU,TopsOk]at Em;have IF:=DV;rw[At]at IF;refine hid λZZ kZ=>?_;obtain⟨IG,EU,C3,MC⟩:=IF;have En:EU.length=ts.length:=MC.length;obtain⟨m,hm⟩:∃m,m=ts.length:=⟨_,rfl⟩;refine kZ ?_;rw[<-hm]at Em En;have FR:bl (cU g (.knot n ts)::S)=.knot n ((bl S).take m)::(bl S).drop m:=by rw[cU,bl,<-hm]
  refine⟨_,D?,pa,.knot n ts,D?,DV,C?,D?,?_⟩;refine cz ?_;refine⟨_,D?,1,D?,pa,_,D?,i! C3,?_,λp2 zC=>?_⟩
  .rintro⟨z,_⟩;rw[VU,show(1:Int)=((1:Nat):Int)by rfl,x!]at z;lia
  dsimp only;rw[cr];refine gU zC λH3 s3 e3=>?_;have Eo:=s3 _ _ El;have MD:p2≠dn:=aH e3 Eo (by intro z;cases z);refine⟨p2,D?,⟨_,i! e3⟩,λD hD=>?_⟩;have CK:D≠dn:=λz=>by rw[z,Eo]at hD;cases hD
  refine⟨m,λj H4=>An3 (j<=m) ((∀b o,H3 b=A? o->b≠dn->H4 b=A? o)) (Ex2 λ(DW ks:List Nat)=>An4 (H4 dn=A? (.lst (DW.map nV))) (H4 D=A? (.lst (ks.map nV))) (Wc (λu id=>Ts[id]?=A? u) ((bl S).drop j).reverse DW) (Wc (λu id=>Ts[id]?=A? u) ((bl S).take j) ks)),
   ⟨Wh _,λb o e hb=>?_,ds,[],?_,?_,?_,?_⟩,?_⟩
  .rw[af (aw e hD)];exact e
  .rw[af CK.symm];exact Eo
  .rw[ac];rfl
  .rw[Zi];exact AD
  .rw[X6];exact .nil
  rintro j H4 ⟨hj,kp,DW,ks,ed,eD,EV,hd2⟩;have DB:=kp _ _ e3 MD;by_cases Mr:j=m
  .left;refine⟨⟨_,i! DB,by rw[Vu];lia⟩,?_⟩;subst Mr;have ME:=kp _ _ (s3 _ _ C3) (aH (s3 _ _ C3) Eo (by intro z;cases z));have O8:=kp _ _ (s3 _ _ e2) GX.symm;have zU:((bl S).take j).length=ks.length:=VZ hd2;have B8:((bl S).drop j).reverse.length=DW.length:=VZ EV;rw[WA]at zU;rw[Yn,WO]at B8;refine⟨_,D?,.inl ⟨D?,_,l! ed⟩,_,D?,.inr (.inr (.inl ⟨D?,.inr ⟨_,O8⟩⟩)),_,D?,1,D?,pa,_,D?,ME,λp3 H5 s5 e5=>?_⟩;rw[qx]at e5;refine⟨_,D?,D,_,D?,.inl ⟨l! (s5 _ _ eD),λp4 EW=>?_⟩⟩;refine gU EW λH6 s6 e6=>?_;refine pX (s6 _ _ e5) e6 (by rw[Vu];show 1+ks.length<=1000000;lia) λp5 H7 s7 e7=>?_;have Ep:=s5.trans (s6.trans s7);have MF:=Ep _ _ O8;have O9:=Ep _ _ ed;have U5:E.length<1000000:=by lia
   have Pa:∀b o,b≠ea->H b=A? o->H7 b=A? o:=λb o hb e=>Ep _ _ (kp b o (s3 _ _ (s2 b o hb e)) (aw e Cc));refine⟨_,D?,ea,_,D?,MF,ea,p5,_,gM (n,ks),kvsOf E,D?,D?,MF,by rw[oP];exact e7,bp (by rw[jp];lia),λu hu=>?_,λAY=>?_⟩
   .obtain⟨i0,rfl,R4⟩:=px hu;have R5:=zj.found R4 (kh hd2);refine⟨dn,_,_,D?,D?,O9,lbE (by lia),?_⟩;refine⟨_,_,DW++[i0],E,Ts,D?,λb o hb e=>?_,?_,?_,zj,?_,Af,Ay,FQ⟩
    .rw[af (aw e Cc)];exact Pa b o hb e
    .rw[af GX.symm];exact MF
    .rw[ac,V3];rfl
    .rw[Dz,GY,FR,WZ];exact v! EV (.cons R5 .nil)
   .obtain⟨MG,FT⟩:=pj AY;rw[jp,FT];have MH:=zj.snoc MG (kh hd2)
    have up:∀(u:Th)(id:Nat),Ts[id]?=A? u->(Ts++[r! n ((bl S).take j)])[id]?=A? u:=λu id h=>by
     rw[Wj (glE h)];exact h
    refine⟨dn,_,_,D?,D?,by rw[af GX];exact O9,lbE (by lia),?_⟩
    refine⟨_,_,DW++[E.length],E++[(n,ks)],Ts++[.knot n ((bl S).take j)],D?,λb o hb e=>?_,?_,?_,MH,?_,Af.trans (List.prefix_append _ _),λu hu=>?_,λe he=>by
     rcases VP.mp he with he|he
     .exact FQ e he
     .rw[VH.mp he];show ks.length<=100000;lia⟩
    .rw[af (aw e Cc),af hb];exact Pa b o hb e
    .rw[af GX.symm,ac]
    .rw[ac,V3];rfl
    .rw[Dz,GY,FR,WZ];refine v! (t! up EV) (.cons ?_ .nil);rw[zj.len];simp
    .rcases VP.mp hu with hu|hu
     .exact Ay u hu
     .rw[VH.mp hu];rw[FR]at KJ;rw[(Zp KJ).1];exact Mx n ts (Vx hp)
  .right;have GP:j<m:=by lia
   refine⟨GP,⟨_,_,i! DB,Vw (by rw[Vu];lia)⟩,?_⟩;rintro x' H5 ⟨e1,_⟩;have B3:H5=H4:=e1;subst B3;have Pb:j<(bl S).length:=by lia
   have R6:(bl S).drop j=(bl S)[j]::(bl S).drop (j+1):=List.drop_eq_getElem_cons Pb;rw[R6,WZ]at EV
   have zk:DW≠[]:=by
    intro z;subst z;have:=VZ EV;rw[VJ]at this;simp at this
   refine hid λZZ kZ=>?_;obtain⟨DX,b,rfl⟩:∃DX b,DW=DX++[b]:=⟨DW.dropLast,DW.getLast zk,(XS zk).symm⟩;obtain⟨Us,x2,R7,hU,hb2⟩:=P2.snoc_inv EV;obtain⟨e5,e6⟩:=List.append_inj' R7 rfl;refine kZ ?_;cases e6;subst e5;have zm:((bl S).take j).length=ks.length:=VZ hd2;rw[WA]at zm;refine⟨_,D?,.inl ⟨D?,_,l! ed⟩,dn,_,nV b,D?,D?,ed,by simp,?_⟩;have d1:((DX++[b]).map nV).dropLast=DX.map nV:=by simp
   rw[d1];have R8:(upd H5 dn (.lst (DX.map nV))) D=A? (.lst (ks.map nV)):=by rw[af CK];exact eD
   refine⟨_,R8,lbE (by lia),GP,λb' o e zB=>?_,DX,ks++[b],?_,?_,hU,?_⟩
   .rw[af (aw e hD),af zB];exact kp b' o e zB
   .rw[af CK.symm,ac]
   .rw[ac,V3];rfl
   .rw[Xu,Vw Pb];exact v! hd2 (.cons hb2 .nil)
 .rintro σ H2 ⟨c4,c5,ds,E,Ts,rfl,s2,e2,El,zj,AD,Af,Ay,FQ⟩;rw[Vu,An,<-zh,YY,Zi,AF]at AD
  obtain⟨at',rfl,zP⟩:∃at',ds=[at']/\Ts[at']?=A? (t.fill g):=by
   have MI:Wc (λu id=>Ts[id]?=A? u) [t.fill g] ds:=AD;cases MI with
   |cons a b=>cases b;exact⟨_,D?,a⟩
  refine⟨_,D?,dn,_,0,.int (at':Nat),D?,D?,l! El,at0,q E Ts at' H2 s2 e2 zj Af Ay zP FQ⟩
def EnA(H:Hp)(e:V5×List Nat)(b:Vy):Prop:=H b=A? (.tup (.str e.1::e.2.map nV))
theorem ij{F:α->β->Prop}{a:List α}{b:List β}(h:Wc F a b){x:α}{y:β}(hx:a[i]?=A? x)(hy:b[i]?=A? y):F x y:=by
 obtain⟨y',h1,h2⟩:=u! h hx;rw[hy]at h1;cases h1;exact h2
theorem qz{F:α->β->Prop}{c:α}{l2:List α}:∀{l1:List α}{ks:List β},Wc F (l1++c::l2) ks->∃k1 kc k2,ks=k1++kc::k2/\Wc F l1 k1/\F c kc/\Wc F l2 k2
 | [],_,.cons h t=>⟨[],_,_,rfl,.nil,h,t⟩
 | x::l1,_,.cons h t=>by
   refine hid λZZ kZ=>?_;obtain⟨k1,kc,k2,e,h1,h2,h3⟩:=qz t;refine kZ ?_;exact⟨_::k1,kc,k2,by rw[e];rfl,.cons h h1,h2,h3⟩
theorem yb{F:α->β->Prop}:∀{a:List α},(∀x∈a,∃y,F x y)->∃b,Wc F a b
 | [],_=>⟨[],.nil⟩
 | x::a,h=>by
   obtain⟨y,hy⟩:=h x (VO ..);obtain⟨b,hb⟩:=yb λz hz=>h z (VR _ hz);exact⟨y::b,.cons hy hb⟩
theorem oF{F:α->β->Prop}{a:List α}{b:List β}(h:Wc F a b){y:β}(hy:y∈b):∃x∈a,F x y:=by
 refine hid λZZ kZ=>?_;obtain⟨i,hi⟩:=VL.mp hy;obtain⟨x,hx,hf⟩:=H! h hi;refine kZ ?_;exact⟨x,Vx hx,hf⟩
theorem uv{F:α->β->Prop}{a:List α}{b:List β}(h:Wc F a b){x:α}(hx:x∈a):∃y∈b,F x y:=by
 refine hid λZZ kZ=>?_;obtain⟨i,hi⟩:=VL.mp hx;obtain⟨y,hy,hf⟩:=u! h hi;refine kZ ?_;exact⟨y,Vx hy,hf⟩
theorem oo:∀{l:List Nat}{N:Nat},l.Pairwise (· > ·)->(∀a∈l,a<N)->l.length<=N
 | [],_,_,_=>Wh _
 | a::l,N,h,hN=>by
   obtain⟨h1,h2⟩:=List.pairwise_cons.mp h;have:=oo h2 h1;have:=hN a (VO ..);rw[VU];lia
def pJ(as:List Nat):Nat:=match as.getLast? with|none=>0 |some a=>a+1
theorem mx(as:List Nat)(a:Nat):pJ (as++[a])=a+1:=by
 unfold pJ;rw[List.getLast?_concat]
theorem vt{as:List Nat}{N:Nat}(h:∀a∈as,a<N):pJ as<=N:=by
 unfold pJ;cases e:as.getLast? with
 |none=>exact Wh _
 |some a=>exact h a (List.mem_of_getLast? e)
inductive jE(vs:List V)(H:Hp)(Q:VK)(_E:XK):Prop
 |mk (ra:Vy) (at':Nat) (bs:List Vy) (E:List (V5×List Nat)) (Ts:List Th) (t:Th):vs=[.ref ra,.int (at':Nat)]->H ra=A? (.lst (bs.map k!))->Wc (EnA H) E bs->Cl E Ts->Ts[at']?=A? t->E.length<=900000->(∀e∈E,e.2.length<=100000)->(∀(r tp:Vy)(cs:List Vy)(To:List (V5×List Nat))(ix:Nat)(H':Hp),j! H H'->H' r=A? (.tup [.ref tp,.int (ix:Nat)])->H' tp=A? (.tup (cs.map k!))->Wc (EnA H') To cs->Cl To (post t [])->(post t [])[ix]?=A? t->Q (.ref r) H')->jE  vs H Q _E
theorem oA:bj P w K mg base CX0 1 T.g_9.f T.g_9.d ["row","at"] jE:=by
 refine T.g_9.F.okA cN λzb A outer s H vs Q E hr h=>?_;obtain⟨ra,at',bs,E,Ts,t,rfl,era,KL,zj,zP,My,R9,q⟩:=h
 refine⟨_,(aj (am 2 cN.nd kg)
  (aj (am 3 cN.nd (bU ae))
  (aj (am 4 cN.nd (bU (aa (pv 1) ae)))
  (aj (i6 Wq (b7 (pv 4) (λ_=>rfl)) (aj (am 5 cN.nd (ax aS (pv 0) (ax aS (pv 4) (re o6 ad) (λ_ _=>rfl)) (λ_ _=>rfl)))
  (aj (dC (i:=6) (N:=["kid","fresh"]) (js:=[AQ,A? 2]) (g:=(av 0)) (tt:=(tB (qu (bB 0) (bB 1)))) (te:=(bB 0)) cN.nd rfl (Z9 rfl) rfl (bK rfl (by decide +kernel) (by decide +kernel) rfl rfl rfl) (b9 (aZ cR (pv 5) (br ad) bJ)) (λ_ _ _ _ _ _=>(pgN 0 xM)) (aE rfl) (λ_ _ _ _ _ _=>iI (m7 (gE (dA hr) (pv 0) (pv 1)))) (λ_ _ _ _ _ _=>(pv 0)))
  (ak (bE (b7 (pv 6) (λ_=>rfl)) (ak (aY (cB V7 Wo Wn bq (pv 4) (aa (ax aS (pv 6) ad (λ_ _=>rfl)) ae)))) (aj (jZ (dA hr) (pv 2) (lg V7 YJ YI ko (pv 4)) (aB aA rfl T.n_3 Wi (aa (pv 3) ae)) rfl)
  (ak (aY (cB V7 Wo Wn bq (pv 3) (aa (aq eN (aZ rf (pv 5) bJ (br ad)) (b8 bz rfl T.n_10 WN (aa (bd (N:=["kid","fresh"]) (js:=[AQ,A? 2]) (g:=(av 0)) (tt:=aR) (te:=(vS (bB 1) (bB 0))) rfl (bK rfl (by decide +kernel) (by decide +kernel) rfl rfl rfl) (b9 (aZ cR (pv 5) (br ad) bJ)) (λ_ _ _ _ _ _=>(pgN 0 xM)) (aE rfl) (λ_ _ _ _ _ _=>aU) (λ_ _ _ _ _ _=>(iE (dA hr) (pv 1) (pv 0) (λ_ _=>rfl)))) ae))) ae))))))))))
  (ak (aF (bc (aa (b8 bz rfl T.n_10 WN (aa (pv 3) ae)) (aa (iE (dA hr) (pv 2) (pv 1) (λ_ _=>rfl)) ae))))))))),?_⟩
 try dsimp only[zy,yY]
 have AF:E.length=bs.length:=VZ KL;intro fr Eh;dsimp only[av];refine gU Eh λH1 s1 e1=>?_;have e1:H1 fr=A? (.dK (fkv [])):=e1;refine⟨lnE rfl,λtl zh=>?_⟩;have s2:j! H1 (upd H1 tl (.lst [])):=ao zh _;have e2:(upd H1 tl (.lst [])) tl=A? (.lst (([]:List Vy).map k!)):=ac;have MJ:H tl=none:=s1.free zh;have Pd:fr≠tl:=λz=>by rw[<-z,e1]at zh;cases zh
 generalize(upd H1 tl (.lst []))=H2 at s2 e2 |-;refine⟨_,D?,lnE rfl,λah DU=>?_⟩;have s3:j! H2 (upd H2 ah (.lst [.int (at':Nat)])):=ao DU _;have e3:(upd H2 ah (.lst [.int (at':Nat)])) ah=A? (.lst ([at'].map nV)):=ac;have IH:H ah=none:=(s1.trans s2).free DU;have MK:fr≠ah:=λz=>by rw[<-z,s2 _ _ e1]at DU;cases DU
 have BV:tl≠ah:=λz=>by rw[<-z,e2]at DU;cases DU
 generalize(upd H2 ah (.lst [.int (at':Nat)]))=H3 at s3 e3 |-;have Br:=s1.trans (s2.trans s3);refine⟨λm σ H4=>Ex8 λ(as FI:List Nat)(xs L:List Th)(To:List (V5×List Nat))(cs:List Vy)(c5 c6:Option V)=>wD (σ=[A? (.ref ra),A? (.int (at':Nat)),A? (.ref fr),A? (.ref tl),A? (.ref ah),c5,c6]) (j! H H4) (H4 fr=A? (.dK (fkv FI))) (H4 tl=A? (.lst (cs.map k!))) (H4 ah=A? (.lst (as.map nV))) (Wc (EnA H4) To cs) (Cl To L) (Wc (λid u=>Ts[id]?=A? u) FI L) (Wc (λid u=>Ts[id]?=A? u) as xs) (BB.finish xs.reverse L=post t []) (bZ L) ((∀x∈xs,x∉L)) (as.Pairwise (· > ·)) (m=unt E.length FI * (E.length+1)+pJ as),⟨_,[at'],[],[t],[],[],[],AQ,AQ,D?,Br,s3 _ _ (s2 _ _ e1),s3 _ _ e2,e3,.nil,⟨D?,Yt,λi e h=>by simp at h⟩,.nil,.cons zP .nil,D?,λu hu=>by(cases hu),λu _ hu=>by(cases hu),List.pairwise_singleton ..,rfl⟩,?_⟩;rintro m σ H4 ⟨as,FI,xs,L,To,cs,c5,c6,rfl,s4,KN,ML,MM,DY,DZ,C4,GR,zS,KO,zp,II,rfl⟩;have Sa:To.length=cs.length:=VZ DY;have Sb:FI.length=L.length:=VZ C4;have KP:=DZ.len;refine⟨_,D?,_,.inl ⟨_,l! MM,D?⟩,?_⟩;refine eS (λcc=>?_) (λcc=>?_)
 .refine ⟨λi' H'=>∃m',m'<unt E.length FI * (E.length+1)+pJ as/\Ex8 λ(as FI:List Nat)(xs L:List Th)(To:List (V5×List Nat))(cs:List Vy)(c5 c6:Option V)=>wD (i'=[A? (.ref ra),A? (.int (at':Nat)),A? (.ref fr),A? (.ref tl),A? (.ref ah),c5,c6]) (j! H H') (H' fr=A? (.dK (fkv FI))) (H' tl=A? (.lst (cs.map k!))) (H' ah=A? (.lst (as.map nV))) (Wc (EnA H') To cs) (Cl To L) (Wc (λid u=>Ts[id]?=A? u) FI L) (Wc (λid u=>Ts[id]?=A? u) as xs) (BB.finish xs.reverse L=post t []) (bZ L) ((∀x∈xs,x∉L)) (as.Pairwise (· > ·)) (m'=unt E.length FI * (E.length+1)+pJ as),λi' H' h=>h,?_⟩;have AL:as≠[]:=by intro z;subst z;simp at cc
  refine hid λZZ kZ=>?_;obtain⟨zu,a,rfl⟩:∃zu a,as=zu++[a]:=⟨as.dropLast,as.getLast AL,(XS AL).symm⟩
  obtain⟨IJ,x,rfl,IK,IL⟩:∃IJ x,xs=IJ++[x]/\Wc (λid u=>Ts[id]?=A? u) zu IJ/\Ts[a]?=A? x:=by
   obtain⟨us,v,e1,h1,h2⟩:=P2.snoc_inv (kh GR |> λh=>(show Wc (λu id=>Ts[id]?=A? u) xs (zu++[a])from h));exact⟨us,v,e1,kh h1,h2⟩
  rw[XY,YB,YL,BB.finish]at zS;have Pe:a<E.length:=by rw[zj.len];exact(glE IL)
  have IM:∀p∈zu++[a],p<E.length:=λp hp=>by
   obtain⟨u,_,hu⟩:=uv GR hp;rw[zj.len];exact(glE hu)
  obtain⟨e,MN⟩:∃e,E[a]?=A? e:=⟨_,Vw Pe⟩;obtain⟨n,ids⟩:=e;obtain⟨kids,MO,Er⟩:=zj.ent a _ MN;dsimp only at MO Er;rw[IL]at MO;have KQ:x=.knot n kids:=VN MO;have IP:=R9 _ (Vx MN);dsimp only at IP;obtain⟨b,hb,Sd⟩:=u! KL MN;refine kZ ?_;have eb:H4 b=A? (.tup (.str n::ids.map nV)):=s4 _ _ Sd;have MP:x∉L:=zp x (V9 _ (VO ..))
  have zW:∀id u,Ts[id]?=A? u->(id∈FI↔u∈L):=λid u hu=>by
   constructor
   .intro h;obtain⟨y,hy,hf⟩:=uv C4 h;rw[hu]at hf;cases hf;exact hy
   .intro h;obtain⟨j,hj,hf⟩:=oF C4 h;rw[dQ zj.nd hu hf];exact hj
  have EX:atI ((zu++[a]).map nV) (-1)=A? (nV a):=by
   rw[V3];exact tM _ _
  refine⟨_,D?,_,D?,1,D?,ah,_,_,nV a,D?,D?,l! MM,EX,ra,_,_,.ref b,D?,D?,l! (s4 _ _ era),at_nonneg (by lia) (by rw[VQ,VA,hb];rfl),?_⟩;dsimp only[av];refine⟨_,D?,1,D?,b,_,D?,i! eb,?_,λp2 zC=>?_⟩
  .rintro⟨z,_⟩;rw[VU,show(1:Int)=((1:Nat):Int)by rfl,x!]at z;lia
  dsimp only;rw[cr];refine gU zC λH5 s5 e5=>?_;have MQ:=s5 _ _ KN;refine⟨p2,D?,⟨_,i! e5⟩,ej ids (λid=>decide (id∉FI)) nV (i! e5) (by rw[Vu]) (by rw[Vu];lia) (λi y z Hx R hy hz sx r=>?_) (λi y z Hx R hy hz _ sx r=>?_) (λD hD=>?_)⟩
  .rw[VA,hz]at hy;cases hy;refine⟨_,D?,_,D?,fr,_,D?,DGet.k (k:=Wt ((z:Nat):Int)) (sx _ _ MQ),_,D?,?_⟩;rw[qj];have:(!decide (z∈FI))=decide (z∉FI):=by by_cases h:z∈FI <;> simp[h]
   rw[this];exact r
  .rw[VA,hz]at hy;cases hy;exact⟨_,D?,r⟩
  refine gU hD λH6 s6 e6=>?_;have AJ:=s5.trans s6;have CL:=AJ _ _ MM;refine⟨_,D?,_,.inl ⟨_,l! e6,D?⟩,?_⟩;refine eS (λc1=>?_) (λc1=>?_)
  .refine hid λZZ kZ=>?_
   obtain⟨c,EY,IQ⟩:∃c EY,(ids.filter λid=>decide (id∉FI))=c::EY:=by
    cases hf:(ids.filter λid=>decide (id∉FI))with
    |nil=>rw[hf]at c1;cases c1
    |cons c r=>exact⟨c,r,D?⟩
   obtain⟨pre,rest,MR,Af,Se,_⟩:=List.filter_eq_cons_iff.mp IQ;have MS:c∉FI:=e! Se;rw[MR]at Er;obtain⟨k1,kc,k2,IT,Bs,⟨D0,Pf⟩,zm⟩:=qz Er;refine kZ ?_;rw[IQ]at e6;refine⟨_,D?,.inl ⟨D?,_,l! CL⟩,_,D?,D,_,0,nV c,D?,D?,l! e6,at0,ah,_,_,D?,D?,CL,bp ?_,?_⟩
   .rw[Vu];have:=oo II IM;lia
   have Bq:∀u∈k1,u∈L:=λu hu=>by
    obtain⟨id,hid,hf⟩:=oF Bs hu;have h1:id∈FI:=Decidable.byContradiction λz=>Af id hid (d! z);exact(zW id u hf.2).mp h1
   have MT:kc∉L:=λz=>MS ((zW c kc Pf).mpr z);have s7:j! H (upd H6 ah (.lst ((zu++[a]).map nV++[nV c]))):=aK (s4.trans AJ) IH;refine⟨_,?_,zu++[a]++[c],FI,IJ++[x]++[kc],L,To,cs,_,_,D?,s7,by rw[af MK];exact AJ _ _ KN,by rw[af BV];exact AJ _ _ ML,by rw[ac,V3 (l₂:=[c])];rfl,t! (λe' b' h'=>?_) DY,DZ,C4,v! GR (.cons Pf .nil),?_,KO,?_,?_,D?⟩
   .rw[mx,mx];lia
   .have GH:H6 b'=A? (.tup (.str e'.1::e'.2.map nV)):=AJ _ _ h';show(upd H6 ah _) b'=_;rw[af (aH GH CL (by intro z;cases z))];exact GH
   .rw[XY,YB,YL,BB.finish,XY,YB,YL,BB.finish];rw[<-zS];congr 1;rw[<-uu KO DZ.nd (t:=x) (c:=kc) (pre:=k1) (rest:=k2) (by rw[KQ];exact IT) Bq]
   .intro y hy;rcases VP.mp hy with hy|hy
    .exact zp y hy
    .rw[VH.mp hy];exact MT
   .rw[YW];refine⟨II,List.pairwise_singleton ..,λp hp r hr=>?_⟩;rw[VH.mp hr];rcases VP.mp hp with hp|hp
    .have:=(YW.mp II).2.2 p hp a (VO ..);lia
    .rw[VH.mp hp];exact D0
  .have y8:∀id∈ids,id∈FI:=λid hid=>Decidable.byContradiction λz=>by
    have hm:id∈ids.filter λid=>decide (id∉FI):=Xy.mpr ⟨hid,d! z⟩;cases hf:(ids.filter λid=>decide (id∉FI))with
    |nil=>rw[hf]at hm;cases hm
    |cons c r=>rw[hf]at c1;exact c1 rfl
   have Sf:∀u∈kids,u∈L:=λu hu=>by
    obtain⟨id,hid,hf⟩:=oF Er hu;exact(zW id u hf.2).mp (y8 id hid)
   have MU:a∉FI:=λz=>MP ((zW a x IL).mp z);have IU:post x L=L++[x]:=rV KO (by rw[KQ];exact Sf) MP;refine hid λZZ kZ=>?_;obtain⟨_,IV,_,_⟩:=i3 x KO DZ.nd;rw[IU]at IV zS;obtain⟨js,D1⟩:∃js,Wc (λid j=>FI[j]?=A? id) ids js:=yb λid hid=>VL.mp (y8 id hid);refine kZ ?_;have DT:ids.length=js.length:=VZ D1
   have U6:FI.length<=900000:=by
    have h1:=fo DZ.nd (m:=Ts) λu hu=>by
     obtain⟨id,_,hid⟩:=oF C4 hu;exact Vx hid
    have h2:=VZ C4;have h3:=zj.len;lia
   have IW:=AJ _ _ ML;have MV:=AJ _ _ KN;refine⟨_,D?,tl,_,D?,.inl (l! IW),_,D?,_,D?,.inl ⟨D?,_,l! CL⟩,ah,_,nV a,D?,D?,CL,by simp,?_⟩;have d1:((zu++[a]).map nV).dropLast=zu.map nV:=by simp
   rw[d1];have FU:(upd H6 ah (.lst (zu.map nV))) fr=A? (.dK (fkv FI)):=by rw[af MK];exact MV
   have IX:(upd H6 ah (.lst (zu.map nV))) ah=A? (.lst (zu.map nV)):=ac;have IY:(upd H6 ah (.lst (zu.map nV))) tl=A? (.lst (cs.map k!)):=by rw[af BV];exact IW
   have s7:j! H (upd H6 ah (.lst (zu.map nV))):=aK (s4.trans AJ) IH;have k7:KT H4 (upd H6 ah (.lst (zu.map nV))):=(n! AJ).trans (cH CL);generalize(upd H6 ah (.lst (zu.map nV)))=H7 at FU IX IY s7 k7 |-;refine⟨fr,_,D?,DPut.k (k:=Wt ((a:Nat):Int)) FU (bp (by rw[va];lia)),?_⟩;rw[(iQ (u8 MU)).2];have hv:o! ((cs.map k!).length:Nat)=o! (FI.length:Nat):=by rw[Vu,<-Sa,KP,Sb]
   rw[hv,<-tJ];have FV:(upd H7 fr (.dK (fkv (FI++[a])))) fr=A? (.dK (fkv (FI++[a]))):=ac;have IZ:(upd H7 fr (.dK (fkv (FI++[a])))) ah=A? (.lst (zu.map nV)):=by rw[af MK.symm];exact IX
   have FW:(upd H7 fr (.dK (fkv (FI++[a])))) tl=A? (.lst (cs.map k!)):=by rw[af Pd.symm];exact IY
   have s8:j! H (upd H7 fr (.dK (fkv (FI++[a])))):=aK s7 Eh;have k8:KT H7 (upd H7 fr (.dK (fkv (FI++[a])))):=λb' ys e=>by rw[af (aH e FU (by intro z;cases z))];exact e
   generalize(upd H7 fr (.dK (fkv (FI++[a]))))=H8 at FV IZ FW s8 k8 |-;have Pg:=k7.trans k8;have Ph:=Pg _ _ eb;dsimp only;refine⟨_,D?,.inl ⟨D?,_,l! FW⟩,_,D?,1,D?,b,_,D?,Ph,λp3 H9 s9 e9=>?_⟩;rw[qx]at e9;have Sg:=s9 _ _ Ph;refine⟨_,D?,1,D?,b,_,D?,i! Sg,?_,λp4 EW=>?_⟩
   .rintro⟨z,_⟩;rw[VU,show(1:Int)=((1:Nat):Int)by rfl,x!]at z;lia
   dsimp only;rw[cr];refine gU EW λHA sA eA=>?_;have MW:=(s9.trans sA) _ _ FV;refine⟨p4,D?,⟨_,i! eA⟩,ej (ids.zip js) (λ_=>B?) (λz=>nV z.2) (i! eA) (by rw[Y7,Vu];lia) (by rw[Vu];lia) (λi y z Hx R hy hz sx r=>r) (λi y z Hx R hy hz _ sx r=>?_) (λD2 FY=>?_)⟩
   .obtain⟨h1,h2⟩:=Xp.mp hz;rw[VA,h1]at hy;cases hy;have hF:=ij D1 h1 h2
    have FZ:bT (fkv (FI++[a])) (Wt ((z.1:Nat):Int):Key)=A? (nV z.2):=by
     cases Ja:bT (fkv (FI++[a])) (Wt ((z.1:Nat):Int):Key)with
     | none =>
       have:=(iQ Ja).1;exact g! (VT _ (Vx hF)) this
     | some u =>
       obtain⟨j0,rfl,Ct⟩:=i5 Ja
       have ET:j0<FI.length:=by
        rcases Nat.lt_or_ge j0 FI.length with h|h
        .exact h
        .rw[Ww h]at Ct
         have h0:j0 - FI.length=0:=by
          have:=(glE Ct);simp at this;lia
         rw[h0]at Ct;have e0:a=z.1:=VN Ct;exact g! (e0 ▸ Vx hF) MU
       rw[Wj ET]at Ct;obtain⟨u1,Sh,Si⟩:=u! C4 Ct;obtain⟨u2,Sj,Pj⟩:=u! C4 hF;rw[Si]at Pj;cases Pj;rw[dQ DZ.nd Sh Sj];rfl
    refine⟨_,D?,_,D?,fr,_,D?,?_,r⟩;rw[<-FZ];exact DGet.k (k:=Wt ((z.1:Nat):Int)) (sx _ _ MW)
   rw[filter_tt]
   have Sk:(ids.zip js).map (λz=>nV z.2)=js.map nV:=by
    have:(ids.zip js).map (λz=>nV z.2)=((ids.zip js).map (·.2)).map nV:=by rw[Wk];rfl
    rw[this,List.map_snd_zip (by lia)]
   rw[Sk];refine gU FY λHB sB eB=>?_;refine⟨D2,_,D?,.inl ⟨l! eB,λp6 Sl=>?_⟩⟩;refine gU Sl λHC sC eC=>?_;have Pk:=sA.trans (sB.trans sC);refine pX (Pk _ _ e9) eC (by rw[Vu];show 1+js.length<=1000000;lia) λp7 HD sD eD=>?_;have Jb:=s9.trans (Pk.trans sD);have Jc:=Jb _ _ FW;refine⟨tl,_,_,D?,D?,Jc,lbE (by lia),?_⟩;have kE:KT HD (upd HD tl (.lst (cs.map k!++[.ref p7]))):=cH Jc
   have BU:Wc (λj u=>L[j]?=A? u) js kids:=by
    refine dM (by rw[<-DT];exact VZ Er) λi j u hj hu=>?_;obtain⟨id,hid,MX⟩:=H! Er hu;obtain⟨u',Cq,C2⟩:=u! C4 (ij D1 hid hj);rw[MX.2]at C2;cases C2;exact Cq
   have MY:(n,js)∉To:=λz=>by
    obtain⟨i,hi⟩:=VL.mp z;have:=DZ.found hi BU;rw[<-KQ]at this;exact MP (Vx this)
   have B2:=DZ.snoc MY BU;rw[<-KQ]at B2;refine⟨_,?_,zu,FI++[a],IJ,L++[x],To++[(n,js)],cs++[p7],_,_,D?,aK (s8.trans Jb) MJ,by rw[af Pd];exact Jb _ _ FV,uAE,by rw[af BV.symm];exact Jb _ _ IZ,?_,B2,v! C4 (.cons IL .nil),IK,zS,IV,?_,(YW.mp II).1,D?⟩
   .have h1:=w9 (N:=E.length) (F:=FI) Pe MU;have h2:=vt (as:=zu) (N:=E.length) λp hp=>IM p (VT _ hp);have h3:(unt E.length (FI++[a])+1) * (E.length+1)<=unt E.length FI * (E.length+1):=Yg _ h1;rw[Nat.add_mul,Nat.one_mul]at h3;lia
   .refine v! (t! (λe' b' h'=>?_) DY) (.cons ?_ .nil)
    .exact(Pg.trans ((n! Jb).trans kE)) _ _ h'
    .exact kE _ _ eD
   .intro y hy Sm;rcases VP.mp Sm with h|h
    .exact zp y (VT _ hy) h
    .rw[VH.mp h]at hy;obtain⟨id,hid,hf⟩:=oF IK hy;have:=dQ zj.nd hf IL;have:=(YW.mp II).2.2 id hid a (VO ..);lia
 .have hz:as=[]:=by
   cases as with
   |nil=>rfl
   |cons y ys=>simp at cc
  subst hz;have MZ:xs=[]:=XO.mp (VZ GR).symm;subst MZ;have hL:L=post t []:=zS;subst hL;refine hid λZZ kZ=>?_;obtain⟨_,_,_,Sn⟩:=i3 t (L:=[]) (λu hu=>by cases hu) Yt;obtain⟨ix,BI⟩:=VL.mp Sn;obtain⟨id,hid,Jd⟩:=H! C4 BI;refine kZ ?_;have M0:=dQ zj.nd Jd zP;subst M0;refine⟨_,D?,tl,_,D?,.inl ⟨l! ML,λtp Es=>?_⟩⟩;have s5:=ao Es (.tup (cs.map k!))
  have FZ:bT (fkv FI) (Wt ((id:Nat):Int):Key)=A? (nV ix):=by
   cases Ja:bT (fkv FI) (Wt ((id:Nat):Int):Key)with
   |none=>exact g! (Vx hid) (iQ Ja).1
   | some u =>
     obtain⟨j0,rfl,Ct⟩:=i5 Ja;obtain⟨u',Cq,C2⟩:=u! C4 Ct;rw[Jd]at C2;cases C2;rw[dQ DZ.nd Cq BI];rfl
  refine⟨_,D?,_,D?,fr,nV ix,D?,?_,lnE rfl,λr Bp=>?_⟩
  .rw[<-FZ];exact DGet.k (k:=Wt ((id:Nat):Int)) (s5 _ _ KN)
  have s6:=s5.trans (ao Bp (.tup [.ref tp,nV ix]));exact q r tp cs To ix _ (s4.trans s6) ac (ao Bp _ _ _ ac) (t! (λe' b' h'=>s6 _ _ h') DY) DZ BI
inductive ig(vs:List V)(H:Hp)(Q:VK)(_E:XK):Prop
 |mk (a:Vy) (t:Th):vs=[.ref a]->At H t a->(∀p∈t.walk,p.isCall=C?)->t.size<=100000->(∀(r tp:Vy)(cs:List Vy)(To:List (V5×List Nat))(ix:Nat)(H':Hp),j! H H'->H' r=A? (.tup [.ref tp,.int (ix:Nat)])->H' tp=A? (.tup (cs.map k!))->Wc (EnA H') To cs->Cl To (post t [])->(post t [])[ix]?=A? t->Q (.ref r) H')->ig  vs H Q _E
theorem nH:∀{ts:List Th}{as:List Vy},Wc (At H) ts as->Ats H ts as
 |_,_,.nil=>.nil
 |_,_,.cons h t=>.cons h (nH t)
theorem sK{E:List (V5×List Nat)}{bs:List Vy}(h:Wc (λ(kv:List Key×V)b=>H b=A? (.tup (kv.1.map kV))) (kvsOf E) bs):Wc (EnA H) E bs:=by
 refine dM (by rw[<-jp];exact VZ h) λj e b he hb=>?_
 have hk:(kvsOf E)[j]?=A? (gM e,o! (j:Nat)):=by
  unfold kvsOf;rw[VA,List.getElem?_zipIdx,he];simp
 have:=ij h hk hb;dsimp only at this;rw[show e=(e.1,e.2)from rfl,oP]at this;exact this
theorem hX:bj P w K mg base CX0 3 T.g_10.f T.g_10.d ["tree"] ig:=by
 refine T.g_10.F.okA eV λzb A outer s H vs Q E hr h=>?_;obtain⟨a,t,rfl,hA,zp,hsz,q⟩:=h
 refine⟨_,(aj (am 1 eV.nd gu)
  (aj (am 2 eV.nd (pcF T.g_8 (pT T) hr (aa (pv 1) (aa (pcF T.g_1 (sk T) hr (aa (pv 0) ae)) (aa gu ae)))))
  (ak (aF (pcF T.g_9 (oA T) hr (aa (b8 (lb rfl) rfl T.n_4 PyProof.Rows.boot_list (aa (pv 1) ae)) (aa (pv 2) ae))))))),?_⟩
 try dsimp only[zy,yY]
 intro en Ip;dsimp only[av];refine gU Ip λH1 s1 e1=>?_;have e1:H1 en=A? (.dT (kvsOf [])):=e1;refine⟨_,D?,_,D?,a,t,D?,hA.mono (n! s1),hsz,λr as H2 s2 nr er hw=>?_⟩;intro nu M1;dsimp only;refine gU M1 λH3 s3 e3=>?_;have Pl:=s2.trans s3;have zk:nu≠en:=λz=>by rw[z,s2 _ _ e1]at M1;cases M1
 refine⟨en,r,nu,as,t,[],[],[],q!,t.walk.map (·.fill q!),D?,Pl _ _ e1,⟨D?,Yt,λi e h=>by simp at h⟩,(λe he=>by cases he),s3 _ _ er,hw.mono (n! s3),e3,zk,λs k hm=>(by have:=zp _ hm;cases this),hsz,(λu hu=>by cases hu),λn ks hm=>VX.mpr ⟨_,hm,rfl⟩,by rw[Vu,t.walk_len];lia,λE Ts at' H4 k4 e4 zj _ Ay zP FQ=>?_⟩;rw[qN]at zP;have s4:j! H H4:=λb o e=>k4 b o (aw e Ip) (Pl b o (s1 b o e));refine⟨_,D?,en,_,D?,e4,λl bs hl KL=>?_⟩;dsimp only;refine gU hl λH5 s5 e5=>?_
 have My:E.length<=900000:=by
  rw[zj.len];exact Wz (fo zj.nd Ay) (by rw[Vu,t.walk_len];lia)
 refine⟨_,D?,l,at',bs,E,Ts,t,D?,e5,t! (λe' b' h'=>s5 _ _ h') (sK KL),zj,zP,My,FQ,λr' tp cs To ix H6 s6 h1 h2 h3 h4 h5=>?_⟩;exact q r' tp cs To ix H6 (s4.trans (s5.trans s6)) h1 h2 h3 h4 h5
inductive jK(vs:List V)(H:Hp)(Q:VK)(_E:XK):Prop
 |mk (pa rt:Vy) (n:Nat) (p u:Th) (cs:List Vy) (To:List (V5×List Nat)) (Ls:List Th) (ar:V5->Nat):vs=[.ref pa,.ref rt,.int (n:Nat)]->At H p pa->H rt=A? (.tup (cs.map k!))->Wc (EnA H) To cs->Cl To Ls->Ls[n]?=A? u->Ars ar p->(∀t∈Ls,Ars ar t)->p.size<=10000->(∀H',j! H H'->(∀g,p.fill g≠u)->Q .non H')->(∀(d:Vy)(es:CLs)(H':Hp),j! H H'->H d=AQ->H' d=A? (.dT (dE es))->jD Ls p u es->Q (.ref d) H')->jK  vs H Q _E
theorem jJ:bj P w K mg base CX0 2 T.g_11.f T.g_11.d ["pattern","row","number"] jK:=by
 refine T.g_11.F.okA df λzb A outer s H vs Q E hr h=>?_;obtain⟨pa,rt,n,p,u,cs,To,Ls,ar,rfl,hA,Je,DY,zj,hn,So,Sq,hsz,q1,q2⟩:=h
 refine⟨_,(aj (am 3 df.nd gu)
  (aj (am 4 df.nd (bU (aa (bc (aa (pv 0) (aa (pv 2) ae))) ae)))
  (aj (i6 Wq (b7 (pv 4) (λ_=>rfl)) (aj (im (lg V7 YJ YI ko (pv 4)) (bM rfl (ay (pgN 5 df.nd) (ay (pgN 6 df.nd) bf))))
  (ak (bE (b7 (pcF T.g_2 (kG T) hr (aa (pv 5) ae)) (λ_=>rfl)) (ak (bE (aC tj (cB PySem.F.plainAttrs_dict Zz PySem.F.type_dict_setdefault (gY (dA hr)) (pv 3) (aa (pcF T.g_3 (iA T) hr (aa (pv 5) ae)) (aa (pv 6) ae))) (pv 6) (aJ _)) (ak (aF fG)) aT)) (ak (bE (aC tj (ax az (pv 5) ad (λ_ _=>rfl)) (ax az (ax az (pv 1) (pv 6) (λ_ _=>rfl)) ad (λ_ _=>rfl)) (aJ _)) (ak (aF fG)) (ak (aY (cB V7 PySem.F.slot_list_extend PySem.F.type_list_extend rM (pv 4) (aa (ph rfl rfl T.n_4 rfl T.n_11 (aa (aZ cR (pv 5) (br ad) bJ) (aa (aZ cR (ax az (pv 1) (pv 6) (λ_ _=>rfl)) (br ad) bJ) ae))) ae))))))))))
  (ak (aF (pv 3)))))),?_⟩
 try dsimp only[zy,yY]
 intro d hd;dsimp only[av];refine gU hd λH1 s1 e1=>?_;have e1:H1 d=A? (.dT (dE [])):=e1;refine⟨_,D?,_,D?,lnE rfl,λt0 EZ=>⟨lnE rfl,λal An=>?_⟩⟩;have CJ:d≠al:=λz=>by rw[<-z,(ao EZ _) _ _ e1]at An;cases An
 have s2:j! H (upd (upd H1 t0 (.tup [.ref pa,.int (n:Nat)])) al (.lst [.ref t0])):=s1.trans ((ao EZ _).trans (ao An _));have Pm:(upd (upd H1 t0 (.tup [.ref pa,.int (n:Nat)])) al (.lst [.ref t0])) d=A? (.dT (dE [])):=(ao An _) _ _ ((ao EZ _) _ _ e1);have GZ:(upd (upd H1 t0 (.tup [.ref pa,.int (n:Nat)])) al (.lst [.ref t0])) t0=A? (.tup [.ref pa,.int (n:Nat)]):=(ao An _) _ _ ac;have Pn:(upd (upd H1 t0 (.tup [.ref pa,.int (n:Nat)])) al (.lst [.ref t0])) al=A? (.lst (([t0]:List Vy).map k!)):=ac
 have Jf:H al=none:=by
  cases z:H al with
  |none=>rfl
  |some o=>rw[(ao EZ _) _ _ (s1 _ _ z)]at An;cases An
 generalize(upd (upd H1 t0 (.tup [.ref pa,.int (n:Nat)])) al (.lst [.ref t0]))=H2 at s2 Pm GZ Pn |-
 refine⟨λm σ H3=>Ex5 λ(as:List Vy)(As:List (Th×Nat))(es:CLs)(c5 c6:Option V)=>An8 (σ=[A? (.ref pa),A? (.ref rt),A? (.int (n:Nat)),A? (.ref d),A? (.ref al),c5,c6]) (j! H H3) (H3 al=A? (.lst (as.map k!))) (H3 d=A? (.dT (dE es))) (Wc (NdAt H3) As as) (NeedI Ls p u es As) (es.length+au (As.map (·.1))<=10000) (m=au (As.map (·.1))),
  ⟨_,[t0],[(p,n)],[],AQ,AQ,D?,s2,Pn,Pm,.cons ⟨pa,GZ,hA.mono (n! s2)⟩ .nil,NeedI.start hn,?_,D?⟩,?_⟩
 .show 0+au [p]<=10000;rw[au,au];lia
 rintro m σ H3 ⟨as,As,es,c5,c6,rfl,s3,ea,ed,KR,hN,Jg,rfl⟩;have hlen:As.length=as.length:=VZ KR;have Sr:=ii (As.map (·.1));rw[Vu]at Sr;refine⟨_,D?,_,.inl ⟨_,l! ea,D?⟩,?_⟩;refine eS (λc=>?_) (λc=>?_)
 .refine⟨_,λi' H' h=>h,?_⟩;have AL:as≠[]:=by intro z;subst z;simp at c
  refine hid λZZ kZ=>?_;obtain⟨zu,b,rfl⟩:∃zu b,as=zu++[b]:=⟨as.dropLast,as.getLast AL,(XS AL).symm⟩;obtain⟨Jh,⟨part,w⟩,rfl,M3,pb,eb,Po⟩:=P2.snoc_inv KR;refine kZ ?_;dsimp only at eb Po;rw[V3,cf]at Jg |-;have Ji:au ((([(part,w)]:List (Th×Nat))).map (·.1))=part.size:=by show au [part]=_;rw[au,au];lia
  rw[Ji]at Jg |-;have BW:=part.size_eq;refine⟨_,D?,.inl ⟨D?,_,l! ea⟩,al,_,.ref b,D?,D?,ea,by simp,b,_,D?,i! ((af (aH eb ea (λz=>nomatch z))).trans eb),D?,_,_,D?,_,_,D?,D?,?_⟩;dsimp only[av];have EV:((zu++[b]).map k!).dropLast=zu.map k!:=by simp
  rw[EV];have k4:KT H3 (upd H3 al (.lst (zu.map k!))):=cH ea;have s4:j! H (upd H3 al (.lst (zu.map k!))):=aK s3 Jf;have CN:(upd H3 al (.lst (zu.map k!))) d=A? (.dT (dE es)):=(af CJ).trans ed;have G0:(upd H3 al (.lst (zu.map k!))) al=A? (.lst (zu.map k!)):=ac;have U7:∀b,H b=AQ->b≠al->b≠d->True:=λ_ _ _ _=>trivial;generalize(upd H3 al (.lst (zu.map k!)))=H4 at k4 s4 CN G0 |-;have EW:=Po.mono k4;have M4:=t! (λa' b' h'=>NdAt.mono k4 h') M3;refine⟨_,D?,pb,part,D?,EW,_,D?,?_⟩;cases part with
  | call sn kn =>
    rw[show(q! sn kn).isCall=B? from rfl];refine dm ?_;refine⟨_,D?,.inr (.inr (.inl ⟨D?,.inr ⟨_,CN⟩⟩)),_,D?,pb,sn,kn,D?,EW,λcc D5=>⟨_,D?,?_⟩⟩;refine gU D5 λH5 s5 M5=>?_;have M5:H5 cc=A? (.tup ((ky (sn,kn)).map kV)):=M5;have Pp:=t! (λa' b' h'=>NdAt.mono (n! s5) h') M4;have B9:(dE es).length=es.length:=by unfold dE;rw[Vu]
    refine⟨d,cc,.int (w:Nat),ky (sn,kn),dE es,D?,D?,s5 _ _ CN,M5,bp (by lia),λu' hu=>?_,λhu=>?_⟩
    .rw[j9]at hu;obtain⟨v,hv,rfl⟩:=V1.mp hu;refine⟨_,D?,D?,_,D?,?_⟩;by_cases z:v=(w:Int)
     .subst z;rw[d! rfl];refine cz ⟨_,?_,zu,Jh,es,_,_,rfl,s4.trans s5,s5 _ _ G0,s5 _ _ CN,Pp,hN.same hv,by lia,rfl⟩;lia
     .rw[c! (λy=>z (V.int.inj y))];refine dm ?_;exact q1 _ (s4.trans s5) (hN.clash zj.nd hv z)
    .rw[j9]at hu
     have hv:dG es (sn,kn)=none:=by
      cases z:dG es (sn,kn)with
      |none=>rfl
      |some v=>rw[z]at hu;cases hu
     refine⟨_,D?,D?,_,D?,?_⟩;rw[d! rfl,qL];have k6:KT H5 (upd H5 d (.dT (dE (fB es (sn,kn) (w:Int))))):=λb xs e=>by rw[af (aH e (s5 _ _ CN) (λz=>nomatch z))];exact e
     have U8:=ox es (sn,kn) (w:Int);refine cz ⟨_,?_,zu,Jh,fB es (sn,kn) (w:Int),_,_,rfl,aK (s4.trans s5) hd,(af CJ.symm).trans (s5 _ _ G0),ac,t! (λa' b' h'=>NdAt.mono k6 h') Pp,hN.put hv,by lia,rfl⟩;lia
  | knot nm ks =>
    rw[show(r! nm ks).isCall=C? from rfl];refine cz ?_;have hw:=hN.ix (.knot nm ks,w) (by simp);dsimp only at hw;refine hid λZZ kZ=>?_;obtain⟨e0,GI⟩:∃e0,To[w]?=A? e0:=⟨_,Vw (by rw[zj.len];exact hw)⟩;obtain⟨M6,ids⟩:=e0;obtain⟨kids,KS,Jj⟩:=zj.ent w _ GI;dsimp only at KS Jj;have Er:Wc (λid u=>Ls[id]?=A? u) ids kids:=t! (λ_ _ h'=>h'.2) Jj;obtain⟨ca,D0,Fs⟩:=u! DY GI;have Ss:H ca=A? (.tup (.str M6::ids.map nV)):=Fs;have Jk:=s4 _ _ Ss;have Jl:=s4 _ _ Je;rw[At]at EW;obtain⟨IG,z9,Pq,Jm⟩:=EW;refine kZ ?_;refine⟨_,D?,pb,_,0,.str nm,D?,D?,i! Pq,at0,_,D?,_,D?,rt,_,(w:Int),.ref ca,D?,D?,i! Jl,bu (j:=w) (gmE D0),ca,_,0,.str M6,D?,D?,i! Jk,at0,D?,_,D?,?_⟩;by_cases BM:nm=M6
    .subst BM;rw[d! rfl];refine cz ?_
     have zU:ks.length=kids.length:=by
      have Bn:=hN.sub (.knot nm ks,w) (by simp);have h1:=So nm ks (Bn _ (by show _∈(r! nm ks).walk;rw[G!];exact VO ..));have h2:=(Sq _ (Vx KS)).len;lia
     refine⟨_,D?,.inl ⟨D?,_,l! G0⟩,?_⟩
     have hx:∀(x:V)(l:List V),¬(p! (x::l).length 0 (A? 1)=0/\p! (x::l).length (x::l).length AQ=(x::l).length):=λx l z=>by
      have:=z.1;simp[p!]at this
     refine⟨_,D?,1,D?,pb,_,D?,i! Pq,hx _ _,λr1 M7=>?_⟩;rw[cr];refine gU M7 λH5 s5 M8=>?_;refine⟨_,D?,_,D?,rt,_,(w:Int),.ref ca,D?,D?,i! (s5 _ _ Jl),bu (j:=w) (gmE D0),1,D?,ca,_,D?,i! (s5 _ _ Jk),hx _ _,λr2 Su=>?_⟩;rw[cr];refine gU Su λH6 s6 G1=>?_;refine⟨r1,r2,_,_,D?,i! (s6 _ _ M8),i! G1,λl ts H7 s7 nl el AM=>?_⟩;have Ep:=s5.trans (s6.trans s7);have Pr:=Ep _ _ G0;have U9:al≠l:=λz=>by rw[<-z,s6 _ _ (s5 _ _ G0)]at nl;cases nl
     have zh:=VZ AM;have Pt:=Jm.length;have IP:ids.length=kids.length:=VZ Er;rw[Y7,Vu,Vu]at zh;have U':=ii ks;refine⟨al,l,_,_,D?,D?,Pr,el,XH (bp ?_),?_⟩
     .have h1:=ii (Jh.map (·.1));rw[Vu]at h1;have h2:Jh.length=zu.length:=VZ M4;have h3:(r! nm ks).size=au ks+1:=by rw[L!]
      rw[Vu,Vu];lia
     have k8:KT H7 (upd H7 al (.lst (zu.map k!++ts.map k!))):=cH Pr;have hz:au ((ks.zip ids).map (·.1))=au ks:=mn ks ids (by lia);have h3:(r! nm ks).size=au ks+1:=by rw[L!]
     refine⟨_,?_,zu++ts,Jh++ks.zip ids,es,_,_,D?,aK (s4.trans Ep) Jf,by rw[ac,V3],(af CJ).trans (Ep _ _ CN),v! (t! (λa' b' h'=>NdAt.mono ((n! Ep).trans k8) h') M4) (dM (by rw[Y7];lia) λj a b ha hb=>?_),hN.knot KS Er zU,?_,D?⟩
     .rw[V3,cf,hz];lia
     .refine hid λZZ kZ=>?_;obtain⟨t1,i1⟩:=a;obtain⟨h4,h5⟩:=Xp.mp ha;obtain⟨ka,Ac,Sv⟩:=Jm.at h4;refine kZ ?_;refine⟨ka,k8 _ _ ?_,Sv.mono ((n! Ep).trans k8)⟩;exact ij AM (x:=(k! ka,nV i1)) (Xp.mpr ⟨by rw[VA,Ac];rfl,by rw[VA,h5];rfl⟩) hb
     .rw[V3,cf,hz];lia
    .rw[c! (λy=>BM (V.str.inj y))];refine dm ?_;exact q1 _ s4 (hN.other KS BM)
 .have has:as=[]:=by
   cases as with
   |nil=>rfl
   |cons b as=>simp at c
  subst has
  have Sw:As=[]:=by
   cases As with
   |nil=>rfl
   |cons a As=>simp at hlen
  subst Sw;exact⟨_,D?,q2 d es H3 s3 hd ed hN.done⟩
inductive eX(vs:List V)(H:Hp)(Q:VK)(_E:XK):Prop
 |mk (d ka:Vy) (b n:Int) (ks:List Nat) (D:List Cand):vs=[.ref d,.int b,.int n,.ref ka]->dq H d D->(D.map (·.b)).Nodup->H ka=A? (.tup (ks.map nW))->D.length<1000000->(∀(H':Hp)(D':List Cand),SameB d H H'->dq H' d D'->Kept D ⟨b,n,ks⟩ D'->Q .non H')->eX  vs H Q _E
theorem ie:bj P w K mg base CX0 1 T.g_12.f T.g_12.d ["rows","bits","knots","kids"] eX:=by
 refine T.g_12.F.okA lO λzb A outer s H vs Q E hr h=>?_;obtain⟨d,ka,b,n,ks,D,rfl,⟨kvs,ed,hD⟩,A',zJ,hl,q⟩:=h;refine⟨_,(ak (bE (N! (mm (m7 (gE (dA hr) (pv 1) (pv 0))) (kA (aC fc (pv 2) (ax az (iE (dA hr) (pv 0) (pv 1) (λ_ _=>rfl)) ad (λ_ _=>rfl)) (aJ _))))) (ak (jZ (dA hr) (pv 0) (pv 1) (bc (aa (pv 2) (aa (pv 3) ae))) rfl)) aT)),?_⟩
 try dsimp only[zy,yY]
 have zU:D.length=kvs.length:=VZ hD;have zO:=mi hD
 have KU:(kvs.map (·.1)).Nodup:=by
  rw[zO];have:=mP A';rw[Wk]at this;exact this
 have put:∀D',(∀p,H p=AQ->Wc (RowE (upd (upd H p (.tup [.int n,.ref ka])) d (.dK (putK kvs (Wt b) (.ref p))))) D' (putK kvs (Wt b) (.ref p)))->Kept D ⟨b,n,ks⟩ D'->∀p,H p=AQ->Q .non (upd (upd H p (.tup [.int n,.ref ka])) d (.dK (putK kvs (Wt b) (.ref p)))):=λD' h1 h2 p hp =>
  q _ D' (λc u hc e=>by rw[af hc,af (aw e hp)];exact e) ⟨_,ac,h1 p hp⟩ h2
 have kt:∀p,H p=AQ->KT H (upd (upd H p (.tup [.int n,.ref ka])) d (.dK (putK kvs (Wt b) (.ref p)))):=λp hp c xs e=>by
  rw[af (aH e ed (λz=>nomatch z)),af (aw e hp)];exact e
 have ent:∀p,H p=AQ->RowE (upd (upd H p (.tup [.int n,.ref ka])) d (.dK (putK kvs (Wt b) (.ref p)))) ⟨b,n,ks⟩ (Wt b,.ref p):=λp hp=>by
  have GW:p≠d:=λz=>by rw[z,ed]at hp;cases hp
  exact⟨D?,p,ka,D?,(af GW).trans ac,kt p hp _ _ zJ⟩
 have pd:∀p,H p=AQ->(upd H p (.tup [.int n,.ref ka])) d=A? (.dK kvs):=λp hp=>by rw[af (aw ed hp)];exact ed
 have zW:∀v,bT kvs (Wt b)=A? v->∃(i:Nat)(e:Cand),kvs[i]?=A? (Wt b,v)/\D[i]?=A? e/\e.b=b/\∃a KW,v=.ref a/\H a=A? (.tup [.int e.n,.ref KW]):=λv hv=>by
  obtain⟨i,hi⟩:=VL.mp (qF hv);obtain⟨e,he,h1,a,KW,h2,h3,_⟩:=H! hD hi;exact⟨i,e,hi,he,(Z2 h1).symm,a,KW,h2,h3⟩
 have FT:(bT kvs (Wt b)=AQ\/∃(i:Nat)(e:Cand)(v:V),kvs[i]?=A? (Wt b,v)/\D[i]?=A? e/\e.b=b/\n<=e.n)->∀p,H p=AQ->Q .non (upd (upd H p (.tup [.int n,.ref ka])) d (.dK (putK kvs (Wt b) (.ref p)))):=λh p hp=>by
  rcases h with h|⟨i,e,v,h1,h2,h3,h4⟩
  .have hk:=lz h
   have hb:b∉D.map (·.b):=λz=>hk (by
    rw[zO];obtain⟨c,hc,e⟩:=VX.mp z;exact VX.mpr ⟨c,hc,by rw[e]⟩)
   refine put (D++[⟨b,n,ks⟩]) (λp hp=>?_) ⟨by rw[VJ];exact VG _,λS hS=>hS.add hb⟩ p hp;have:=ent p hp;have k1:=kt p hp;rw[oz hk]at this k1 |-;exact v! (t! (λ_ _ h=>h.mono k1) hD) (.cons this .nil)
  .refine put (D.set i ⟨b,n,ks⟩) (λp hp=>?_) ⟨by rw[XR];lia,λS hS=>hS.set h2 h3 h4⟩ p hp;have:=ent p hp;have k1:=kt p hp;rw[n9 KU h1]at this k1 |-;exact v8 (t! (λ_ _ h=>h.mono k1) hD) i this
 have done:(bT kvs (Wt b)=AQ\/∃(i:Nat)(e:Cand)(v:V),kvs[i]?=A? (Wt b,v)/\D[i]?=A? e/\e.b=b/\n<=e.n)->∀p,H p=AQ->∃a H4,k! d=.ref a/\DPut (upd H p (.tup [.int n,.ref ka])) a (.int b) (.ref p) H4/\Q .non H4:=λh p hp=>⟨d,_,rfl,DPut.k (k:=Wt b) (pd p hp) (bp (by lia)),FT h p hp⟩;refine⟨_,D?,_,D?,d,_,D?,DGet.k (k:=Wt b) ed,_,D?,?_⟩;cases hv:bT kvs (Wt b)with
 |none=>exact dm (dm ⟨_,rfl,_,rfl,lnE rfl,λp hp=>⟨_,rfl,_,rfl,done (.inl hv) p hp⟩⟩)
 | some v =>
   refine cz ?_;refine hid λZZ kZ=>?_;obtain⟨i,e,h1,h2,h3,a,KW,rfl,h4⟩:=zW v hv;refine kZ ?_;refine⟨_,D?,_,D?,_,D?,d,_,D?,by rw[<-hv];exact DGet.k (k:=Wt b) ed,a,_,0,.int e.n,D?,D?,i! h4,at0,_,_,D?,D?,_,D?,?_⟩;by_cases yZ:n<e.n
   .rw[d! yZ];exact dm ⟨_,rfl,_,rfl,lnE rfl,λp hp=>⟨_,rfl,_,rfl,done (.inr ⟨i,e,_,h1,h2,h3,by lia⟩) p hp⟩⟩
   .rw[c! yZ];refine cz (q H D SameB.refl ⟨kvs,ed,hD⟩ ⟨by lia,λS hS=>hS.keep (Vx h2) h3 (by show e.n<=n;lia)⟩)
inductive jg(vs:List V)(H:Hp)(Q:VK)(_E:XK):Prop
 |mk (d ag sz nl:Vy) (A Z:List Int) (ns:List Nat) (D:List Cand):vs=[.ref d,.ref ag,.ref sz,.ref nl]->dq H d D->H ag=A? (.lst (A.map o!))->H sz=A? (.lst (Z.map o!))->H nl=A? (.lst (ns.map nW))->(∀n∈ns,n<A.length/\n<Z.length)->D.length * ns.length<=900000->(∀e∈D,e.ks.length<=10)->(∀(r:Vy)(H':Hp)(D':List Cand),j! H H'->H r=AQ->dq H' r D'->D'.length<=D.length * ns.length->Least (λx=>∃e∈D,∃n∈ns,x=e.ext A Z n) D'->Q (.ref r) H')->jg  vs H Q _E
theorem rQ:bj P w K mg base CX0 2 T.g_13.f T.g_13.d ["rows","agreeing","sizes","numbers"] jg:=by
 refine T.g_13.F.okA dL λzb A outer s H vs Q E hr h=>?_;obtain⟨d,ag,sz,nl,A,Z,ns,D,rfl,⟨kvs,ed,hD⟩,Pu,G2,DC,AE,hlen,zO,q⟩:=h
 refine⟨_,(aj (am 4 dL.nd kg)
  (aj (gF (bG Wq rfl (ll (pv 0)) (bM rfl (ay (pgN 5 dL.nd) (ay (bM rfl (ay (pgN 6 dL.nd) (ay (pgN 7 dL.nd) bf))) bf))) (ak (bG Wq rfl (bX (pv 3)) (pgN 8 dL.nd) (ak (aY (pcF T.g_12 (ie T) hr (aa (pv 4) (aa (aq pW (pv 5) (ax aS (pv 1) (pv 8) (λ_ _=>rfl))) (aa (aq bC (pv 6) (ax aS (pv 2) (pv 8) (λ_ _=>rfl))) (aa (aq eN (pv 7) (bc (aa (pv 8) ae))) ae)))))))))))
  (ak (aF (pv 4))))),?_⟩
 try dsimp only[zy,yY]
 intro td Et;dsimp only[av];refine gU Et λH1 s1 e1=>?_;have ES:td≠d:=λz=>by rw[z,ed]at Et;cases Et
 have B8:D.length=kvs.length:=VZ hD;have Pw:∀{H3:Hp},SameB d H H3->KT H H3:=λ{H3}s b xs e=>s b _ (aH e ed (λz=>nomatch z)) e;refine⟨_,D?,d,kvs,D?,s1 _ _ ed,λo=>?_⟩
 refine i8 (a:=d) (o:=o) (kvs:=kvs) (λi σ H3=>Ex5 λ(c5 c6 c7 c8:Option V)(Dt:List Cand)=>An6 (σ=[A? (.ref d),A? (.ref ag),A? (.ref sz),A? (.ref nl),A? (.ref td),c5,c6,c7,c8]) (SameB d H H3) (H3 d=A? (.frz o (.dK kvs))) (dq H3 td Dt) (Dt.length<=i * ns.length) (Least (λx=>∃e∈D.take i,∃n∈ns,x=e.ext A Z n) Dt))
  ⟨AQ,AQ,AQ,AQ,[],rfl,λb u hb e=>by rw[af hb];exact s1 _ _ e,ac,⟨[],(af ES).trans e1,.nil⟩,Wh _,?_⟩ (λi σ H3 _⟨_,_,_,_,_,_,_,e,_,_,_⟩=>e) ?_ ?_
 .refine Least.nil.congr λc=>⟨λz=>z.elim,λ⟨e,he,_⟩=>?_⟩;rw[X6]at he;cases he
 .rintro i kv p σ H3 zX hp ⟨c5,c6,c7,c8,Dt,rfl,s3,AN,⟨kt,M9,F0⟩,D3,hle⟩;refine hid λZZ kZ=>?_;obtain⟨e,he,Bs,a,ka,zm,ea,zJ⟩:=H! hD zX;have Va:i<kvs.length:=(glE zX);obtain⟨k,v⟩:=kv;refine kZ ?_;dsimp only at Bs zm;subst Bs zm;refine gU hp λH4 s4 ep=>?_;have ep:H4 p=A? (.tup [.int e.b,.ref a]):=ep;have D4:SameB d H H4:=λb u hb z=>s4 _ _ (s3 b u hb z);refine⟨p,_,D?,i! ep,D?,_,_,D?,_,_,D?,⟨a,_,D?,i! (Pw D4 _ _ ea),D?,_,_,D?,_,_,D?,D?,D?,?_⟩⟩;dsimp only[av];have Eu:∀{b:Vy}{xs:List V},H b=A? (.lst xs)->b≠d:=λe=>aH e ed (λz=>nomatch z)
  have hmul:i * ns.length+ns.length<=D.length * ns.length:=by
   rw[<-ZH];exact Yg _ (by lia)
  refine⟨_,D?,nl,D?,⟨_,l! (D4 _ _ (Eu DC) DC)⟩,?_⟩
  refine fj (K:=K) (a:=nl) (xs:=ns.map nW) (λj σ H5=>Ex2 λ(c8:Option V)(Dt:List Cand)=>An6 (σ=[A? (.ref d),A? (.ref ag),A? (.ref sz),A? (.ref nl),A? (.ref td),A? (.int e.b),A? (.int e.n),A? (.ref ka),c8]) (SameB d H H5) (H5 d=A? (.frz o (.dK kvs))) (dq H5 td Dt) (Dt.length<=i * ns.length+j) (Least (λx=>(∃e∈D.take i,∃n∈ns,x=e.ext A Z n)\/∃n∈ns.take j,x=e.ext A Z n) Dt))
   ⟨c8,Dt,rfl,D4,s4 _ _ AN,⟨kt,s4 _ _ M9,t! (λ_ _ h=>h.mono (n! s4)) F0⟩,D3,hle.congr λc=>⟨.inl,λz=>z.elim id λ⟨n,hn,_⟩=>?_⟩⟩ (λj σ H5 _⟨_,_,_,z,_,_,_,_⟩=>l! (z _ _ (Eu DC) DC)) ?_ ?_
  .rw[X6]at hn;cases hn
  .rintro j x σ H5 hx ⟨c8,Dt,rfl,s5,M',F1,Na,Ew⟩
   obtain⟨n,hn,rfl⟩:∃n,ns[j]?=A? n/\nW n=x:=by
    rw[VA]at hx;exact V1.mp hx
   have hj:j<ns.length:=(glE hn);obtain⟨Sy,Sz⟩:=AE n (Vx hn);have gA:A[n]?=A? (A.getD n 0):=by rw[V0,Vw Sy];rfl
   have gZ:Z[n]?=A? (Z.getD n 0):=by rw[V0,Vw Sz];rfl
   refine⟨_,D?,_,D?,_,D?,_,D?,ag,_,(n:Int),.int (A.getD n 0),D?,D?,l! (s5 _ _ (Eu Pu) Pu),bu (j:=n) (gmE gA),_,_,D?,D?,?_⟩;refine⟨_,D?,_,D?,_,D?,sz,_,(n:Int),.int (Z.getD n 0),D?,D?,l! (s5 _ _ (Eu G2) G2),bu (j:=n) (gmE gZ),_,_,D?,D?,?_⟩;have Nb:=Pw s5 _ _ zJ
   have go:∀(r:Vy)(H6:Hp),j! H5 H6->H6 r=A? (.tup ((e.ks++[n]).map nW))->eX [.ref td,.int (WL e.b (A.getD n 0)),.int (e.n+Z.getD n 0),.ref r] H6 (λv H7=>Ex2 λ(c8:Option V)(Dt:List Cand)=>An6 ([A? (k! d),A? (.ref ag),A? (.ref sz),A? (.ref nl),A? (.ref td),A? (.int e.b),A? (.int e.n),A? (.ref ka),A? (nW n)]=[A? (.ref d),A? (.ref ag),A? (.ref sz),A? (.ref nl),A? (.ref td),A? (.int e.b),A? (.int e.n),A? (.ref ka),c8]) (SameB d H H7) (H7 d=A? (.frz o (.dK kvs))) (dq H7 td Dt) (Dt.length<=i * ns.length+(j+1)) (Least (λx=>(∃e∈D.take i,∃n∈ns,x=e.ext A Z n)\/∃n∈ns.take (j+1),x=e.ext A Z n) Dt)) E0:=λr H6 s6 er=>by
    obtain⟨E1,SD,Jn⟩:=F1;refine⟨td,r,_,_,e.ks++[n],Dt,D?,⟨E1,s6 _ _ SD,t! (λ_ _ h=>h.mono (n! s6)) Jn⟩,Ew.nd,er,by lia,λH7 D7 s7 Ex hK=>⟨_,D7,D?,λb u hb z=>?_,s7 _ _ ES.symm (s6 _ _ M'),Ex,by have:=hK.len;lia,(hK.least _ Ew).congr λc=>?_⟩⟩
    .by_cases KA:b=td
     .rw[KA,Et]at z;cases z
     .exact s7 _ _ KA (s6 _ _ (s5 _ _ hb z))
    .rw[take_snoc hn];constructor
     .rintro((h|⟨m,hm,h⟩)|h)
      .exact .inl h
      .exact .inr ⟨m,VT _ hm,h⟩
      .exact .inr ⟨n,by simp,h⟩
     .rintro(h|⟨m,hm,h⟩)
      .exact .inl (.inl h)
      .rcases VP.mp hm with hm|hm
       .exact .inl (.inr ⟨m,hm,h⟩)
       .rw[VH.mp hm]at h;exact .inr h
   refine⟨_,D?,_,D?,lnE rfl,λp2 zC=>?_⟩;have s6:j! H5 (upd H5 p2 (.tup [nW n])):=ao zC _;have DB:(upd H5 p2 (.tup [nW n])) p2=A? (.tup [nW n]):=ac;have zU:=zO e (Vx he);refine⟨ka,p2,_,_,D?,D?,i! (s6 _ _ Nb),i! DB,XH (bp (by rw[Vu];show e.ks.length+1<=1000000;lia)),λF2=>go p2 _ s6 ?_,λ_ h=>(by cases h),λ_ _ p3 DA=>?_⟩
   .have hz:e.ks=[]:=List.map_eq_nil_iff.mp F2;rw[hz];exact DB
   .refine go p3 _ (s6.trans (ao DA _)) ?_;rw[ac,V3];rfl
  .rintro σ H5 ⟨c8,Dt,rfl,s5,M',F1,Na,Ew⟩;refine⟨_,_,_,_,Dt,D?,s5,M',F1,?_,Ew.congr λc=>?_⟩
   .rw[Vu]at Na;rw[ZH];exact Na
   .rw[show ns.take (ns.map nW).length=ns from WX (by rw[Vu];exact VG _),take_snoc he];constructor
    .rintro(⟨e',zI,h⟩|h)
     .exact⟨e',VT _ zI,h⟩
     .exact⟨e,by simp,h⟩
    .rintro⟨e',zI,h⟩;rcases VP.mp zI with zI|zI
     .exact .inl ⟨e',zI,h⟩
     .rw[VH.mp zI]at h;exact .inr h
 .rintro σ H3 ⟨c5,c6,c7,c8,Dt,rfl,s3,AN,⟨kt,M9,F0⟩,D3,hle⟩;rw[WX (by lia)]at hle;rw[<-B8]at D3;have k4:KT H3 (upd H3 d (.dK kvs)):=λb xs e=>by rw[af (aH e AN (λz=>nomatch z))];exact e
  refine⟨upd H3 d (.dK kvs),λb=>?_,_,D?,q td _ Dt (λb u e=>?_) Et ⟨kt,(af ES).trans M9,t! (λ_ _ h=>h.mono k4) F0⟩ D3 hle⟩
  .by_cases hb:b=d
   .rw[hb];exact .inr ⟨o,_,AN,s1 _ _ ed,ac⟩
   .exact .inl (af hb)
  .by_cases hb:b=d
   .rw[hb,ed]at e;rw[hb,ac];exact e
   .rw[af hb];exact s3 b u hb e
inductive fz(C:Vy)(vs:List V)(H:Hp)(Q:VK)(_E:XK):Prop
 |mk (w:Wy):vs=[.ref w.x]->WyAt C H w->w.ps.length<=1000000->Q (.int (ones w.ps.length)) H->fz C vs H Q _E
inductive fY(C:Vy)(vs:List V)(H:Hp)(Q:VK)(_E:XK):Prop
 |mk (w:Wy) (b:Int) (S:Nat):vs=[.ref w.x,.int b,.int (S:Nat)]->WyAt C H w->w.ps.length<=1000000->S<=100000->0<=b->(∀q∈w.ps,∃s:Nat,q.1=(s:Int)/\s<S)->(∀(r:Vy)(note:List Int)(H':Hp),j! H H'->H' r=A? (.tup (note.map o!))->NoteBy w.ps b S w.ps.length note->Q (.ref r) H')->fY C vs H Q _E
theorem cX:bj P w K mg base CX0 1 T.g_16.f T.g_16.d ["self"] (fz T.e_Ways):=by
 refine T.g_16.F.okA jc λzb A outer s H vs Q E hr h=>?_;obtain⟨w,rfl,hw,hl,q⟩:=h;refine⟨_,(ak (aF (aq gg (aq tV ad (aB aA rfl T.n_3 Wi (aa (bD (pv 0) rfl) ae))) ad))),?_⟩
 try dsimp only[zy,yY]
 refine⟨_,D?,w.x,T.e_Ways,w.dx,_,_,D?,hw.ins,T.cl_Ways,T.na_Ways_pairs,qP,w.pl,_,D?,.inl (l! hw.pl),_,_,D?,D?,⟨by lia,by rw[Vu];lia,by decide⟩,_,_,D?,D?,?_⟩;rw[Vu,Int.one_mul,VQ];exact q
theorem jT:bj P w K mg base CX0 1 T.g_19.f T.g_19.d ["self","bits","states"] (fY T.e_Ways):=by
 refine T.g_19.F.okA cp λzb A outer s H vs Q E hr h=>?_;obtain⟨w,b,S,rfl,hw,hl,hS,hb,zF,q⟩:=h
 refine⟨_,(aj (am 3 cp.nd (aq sL (bU (aa (re o6 ad) ae)) (pv 2)))
  (aj (bG Wq rfl (iC rfl T.n_1 (bD (pv 0) rfl)) (bM rfl (ay (pgN 4 cp.nd) (ay (bM rfl (ay (pgN 5 cp.nd) (ay (pgN 6 cp.nd) bf))) bf))) (ak (bE (aC cL (aq pW (aq wG (pv 1) (pv 4)) ad) ad (aJ _)) (ak (im (pv 6) (no (pv 3) (pv 5) set_list))) aT)))
  (ak (aF (b8 bz rfl T.n_10 WN (aa (pv 3) ae)))))),?_⟩
 try dsimp only[zy,yY]
 refine⟨_,D?,lnE rfl,λl0 HG=>?_⟩;refine gU HG λH0 s0 e0=>?_;refine⟨_,D?,l0,_,_,D?,D?,e0,by lia,by lia,XH (bp (by rw[VQ];show 1 * S<=1000000;lia)),λnl CO=>?_⟩;dsimp only[av]
 have Nc:(Wv ((S:Nat):Int).toNat [o! (-1)]).flatten=(Wv S (-1:Int)).map o!:=by
  rw[VQ,List.map_replicate];generalize S=n;induction n with
  |zero=>rfl
  |succ n ih=>rw[Xs,Xs,YO,ih];rfl
 rw[Nc];have s1:j! H (upd H0 nl (.lst ((Wv S (-1:Int)).map o!))):=s0.trans (ao CO _)
 have Nf:H nl=none:=by
  cases z:H nl with
  |none=>rfl
  |some o=>rw[s0 _ _ z]at CO;cases CO
 have e1:(upd H0 nl (.lst ((Wv S (-1:Int)).map o!))) nl=A? (.lst ((Wv S (-1:Int)).map o!)):=ac;generalize(upd H0 nl (.lst ((Wv S (-1:Int)).map o!)))=H1 at s1 e1 |-;refine⟨_,D?,w.x,T.e_Ways,w.dx,_,_,D?,s1 _ _ hw.ins,T.cl_Ways,T.na_Ways_pairs,qP,w.pl,D?,⟨_,l! (s1 _ _ hw.pl)⟩,?_⟩
 refine gJ (K:=K) (a:=w.pl) (xs:=w.ps.map λq=>k! q.2.2) (λj σ H2=>Ex4 λ(c4 c5 c6:Option V)(note:List Int)=>An4 (σ=[A? (.ref w.x),A? (.int b),A? (.int (S:Nat)),A? (.ref nl),c4,c5,c6]) (j! H H2) (H2 nl=A? (.lst (note.map o!))) (NoteBy w.ps b S j note))
  ⟨AQ,AQ,AQ,_,rfl,s1,e1,NoteBy.zero _ _ _⟩ (λj σ H2 _⟨_,_,_,_,_,s,_,_⟩=>l! (s _ _ hw.pl)) ?_ ?_
 .rintro j x p σ H2 hx hp ⟨c4,c5,c6,note,rfl,s2,en,hN⟩;rw[VA]at hx;obtain⟨q',hq,rfl⟩:=V1.mp hx;refine gU hp λH3 s3 ep=>?_;have Px:=Vx hq;have SE:=s3 _ _ (s2 _ _ (hw.pr q' Px));have hj:=(glE hq);refine⟨p,_,D?,i! ep,D?,_,_,D?,_,_,D?,⟨q'.2.2,_,D?,i! SE,D?,_,_,D?,_,_,D?,D?,D?,?_⟩⟩;dsimp only[av];refine⟨_,D?,_,D?,_,_,D?,D?,by lia,_,_,D?,D?,D?,_,D?,?_⟩;rw[j4,show(WL (b / 2 ^ ((j:Nat):Int).toNat) 1 == 1)=bt b j from by rw[<-wt hb j];exact(Bool.beq_eq_decide_eq ..)];have hlen:=hN.len;obtain⟨s0,FK,Kp⟩:=zF q' Px;refine eS (λc=>?_) (λc=>?_)
  .refine⟨_,D?,_,D?,_,D?,nl,_,q'.1,s0,D?,D?,s3 _ _ en,?_,?_⟩
   .rw[FK,Vu,hlen];unfold ixN;rw[b! (by lia),b! (by lia),VQ]
   .refine⟨_,_,_,note.set s0 q'.2.1,D?,aK (s2.trans s3) Nf,?_,hN.set hq c FK⟩;rw[ac,List.map_set]
  .exact⟨_,_,_,note,D?,s2.trans s3,s3 _ _ en,hN.skip hq (by cases z:bt b j with|false=>rfl|true=>exact g! z c)⟩
 .rintro σ H2 ⟨c4,c5,c6,note,rfl,s2,en,hN⟩;rw[Vu]at hN;refine⟨_,D?,nl,_,D?,.inl ⟨l! en,λr hr=>?_⟩⟩;exact q r note _ (s2.trans (ao hr _)) ac hN
inductive eE(C:Vy)(vs:List V)(H:Hp)(Q:VK)(_E:XK):Prop
 |mk (w:Wy) (na:Vy) (note:List Int) (Ws:List cu):vs=[.ref w.x,.ref na]->WyAt C H w->H na=A? (.tup (note.map o!))->w.ps.length=Ws.length->Ws.length<=1000000->(∀(k:Nat)(kd:Kd),w.ks[k]?=A? kd->NeedT Ws k kd.es)->(∀kd∈w.ks,(∀e∈kd.es,∃c:Nat,e.1.1=(c:Int)/\c<note.length)/\kd.ag.length<1000000)->(∀(H':Hp)(za:List Kd),FrB (w.ks.map (·.a)) H H'->WyAt C H' {w with ks:=za}->Took Ws note w.ks w.ks.length za->Q .non H')->eE C vs H Q _E
theorem iX:bj P w K mg base CX0 2 T.g_17.f T.g_17.d ["self","note"] (eE T.e_Ways):=by
 refine T.g_17.F.okA be λzb A outer s H vs Q E hr h=>?_;obtain⟨w,na,note,Ws,rfl,hw,FP,BW,Iv,hN,B9,q⟩:=h
 refine⟨_,(ak (bG Wq rfl (iC rfl T.n_1 (bD (pv 0) rfl)) (bM rfl (ay (pgN 2 be.nd) (ay (pgN 3 be.nd) bf))) (aj (am 4 be.nd ad)
  (aj (gF (bG Wq rfl (gH (pv 3)) (bM rfl (ay (bM rfl (ay (pgN 5 be.nd) (ay (pgN 6 be.nd) bf))) (ay (pgN 7 be.nd) bf))) (ak (bE (aC tj (ax az (pv 1) (pv 5) (λ_ _=>rfl)) (pv 6) (aJ _)) (ak (wN (i:=4) be.nd rfl (Z9 rfl) (pv 7) yd)) aT))))
  (ak (aY (cB V7 Wo Wn bq (ax aS (bD (pv 0) rfl) (pv 2) (λ_ _=>rfl)) (aa (aq pW (iR (pv 0) T.cl_Ways T.g_16.me (cX T) (hr.mono (by first|decide|lia)) T.g_16.b .nil cV ) (re wq (pv 4))) ae)))))))),?_⟩
 try dsimp only[zy,yY]
 refine⟨_,D?,w.x,T.e_Ways,w.dx,_,_,D?,hw.ins,T.cl_Ways,T.na_Ways_needing,tP,w.nl,D?,⟨_,l! hw.nl⟩,?_⟩
 refine gJ (K:=K) (a:=w.nl) (xs:=w.ks.map λk=>k! k.d) (λk σ H2=>Ex7 λ(c2 c3 c4 c5 c6 c7:Option V)(za:List Kd)=>An4 (σ=[A? (.ref w.x),A? (.ref na),c2,c3,c4,c5,c6,c7]) (FrB (w.ks.map (·.a)) H H2) (WyAt T.e_Ways H2 {w with ks:=za}) (Took Ws note w.ks k za))
  ⟨AQ,AQ,AQ,AQ,AQ,AQ,w.ks,rfl,FrB.refl,hw,Took.zero _ _ _⟩ (λk σ H2 _⟨_,_,_,_,_,_,za,_,_,h,ht⟩=>?_) ?_ ?_
 .have:=h.nl;dsimp only at this
  rw[show(za.map λk=>k! k.d)=(w.ks.map λk=>k! k.d)from by
   have:=h! (Zh k!) ht.map.2;rw[Wk,Wk]at this;exact this]at this
  exact l! this
 .rintro k x p σ H2 hx hp ⟨c2,c3,c4,c5,c6,c7,za,rfl,f2,Ng,ht⟩;rw[VA]at hx;obtain⟨kd,z8,rfl⟩:=V1.mp hx;have zt:=ht.hi k kd (VG _) z8;have Jo:=Vx zt;have AH:=Vx z8;have KY:=hN k kd z8;obtain⟨SF,An⟩:=B9 kd AH;refine gU hp λH3 s3 ep=>?_;have f3:=f2.trans (K! s3);have Bg:=Ng.same s3
  have SG:∀{b:Vy}{o:HO},H b=A? o->(∀xs,o≠.lst xs)->b∉w.ks.map (·.a):=λe zp z=>by
   obtain⟨AA,hm,e'⟩:=VX.mp z;have:=hw.ag AA hm;rw[e',e]at this;exact zp _ (VN this)
  have Py:∀{H3:Hp},FrB (w.ks.map (·.a)) H H3->KT H H3:=λf b xs e=>f b _ (SG e λxs z=>by cases z) e;have AN:H3 kd.d=A? (.dT (dE kd.es)):=Bg.nd kd Jo;refine⟨p,_,D?,i! ep,D?,_,_,D?,_,_,D?,D?,?_⟩;dsimp only[av];refine⟨_,D?,kd.d,_,D?,AN,λo=>?_⟩
  refine kb (a:=kd.d) (o:=o) (es:=kd.es) (λj σ H4=>Ex4 λ(c5 c6 c7:Option V)(x:Int)=>An4 (σ=[A? (.ref w.x),A? (.ref na),A? (.int (k:Nat)),A? (.ref kd.d),A? (.int x),c5,c6,c7]) (SameB kd.d H3 H4) (H4 kd.d=A? (.frz o (.dT (dE kd.es)))) (Agst kd.es note Ws.length j x))
   ⟨_,_,_,0,rfl,C!,ac,Agst.zero _ _ _⟩ (λj σ H4 _⟨_,_,_,_,_,_,e,_⟩=>e) ?_ ?_
  .rintro j e p2 b σ H4 he zC eb ⟨c5,c6,c7,x,rfl,s4,CN,hA⟩;refine gU zC λH5 s5 DB=>?_;have DD:=Vx he;refine hid λZZ kZ=>?_;obtain⟨c,hc,F3⟩:=SF e DD;have Nh:=s5 _ _ (s4 _ _ (aH (Py f3 _ _ FP) AN (λz=>nomatch z)) (Py f3 _ _ FP));obtain⟨Pz,PB⟩:=hA.step he (KY.rng e DD);obtain⟨v,hv⟩:∃v,note[c]?=A? v:=⟨_,Vw F3⟩;refine kZ ?_;refine⟨p2,_,D?,i! DB,D?,.ref b,_,D?,⟨b,_,D?,i! (s5 _ _ eb),D?,_,_,D?,_,_,D?,D?,_,_,D?,D?,?_⟩⟩;dsimp only[av];refine⟨_,D?,_,D?,na,_,e.1.1,.int v,D?,D?,i! Nh,?_,_,D?,D?,_,D?,?_⟩
   .rw[hc];exact bu (j:=c) (gmE hv)
   rw[hc,VQ,hv]at Pz PB;have PD:SameB kd.d H3 H5:=λb u hb z=>s5 _ _ (s4 b u hb z);by_cases z:v=e.1.2
   .rw[z,d! rfl];exact cz ⟨_,_,_,x,rfl,PD,s5 _ _ CN,Pz (by rw[z])⟩
   .rw[c! (λy=>z (V.int.inj y))];exact dm ⟨_,rfl,_,rfl,_,_,rfl,rfl,_,_,_,_,rfl,PD,s5 _ _ CN,PB (λy=>z (VN y))⟩
  .rintro σ H4 ⟨c5,c6,c7,x,rfl,s4,CN,hA⟩;obtain⟨b0,bb⟩:=hA.done KY
   have s5:j! H3 (upd H4 kd.d (.dT (dE kd.es))):=λb u z=>by
    by_cases hb:b=kd.d
    .rw[hb,AN]at z;rw[hb,ac];exact z
    .rw[af hb];exact s4 b u hb z
   refine⟨upd H4 kd.d (.dT (dE kd.es)),λb=>?_,?_⟩
   .by_cases hb:b=kd.d
    .rw[hb];exact .inr ⟨o,_,CN,AN,ac⟩
    .exact .inl (af hb)
   generalize(upd H4 kd.d (.dT (dE kd.es)))=H5 at s5 |-;have Bh:=Bg.same s5;have PF:H5 kd.a=_:=Bh.ag kd Jo;refine⟨_,D?,w.x,T.e_Ways,w.dx,_,_,D?,Bh.ins,T.cl_Ways,T.na_Ways_agreeing,qJ,_,D?,w.al,_,(k:Int),.ref kd.a,D?,D?,l! Bh.al,bu (j:=k) (by rw[VA];show(za[k]?).map _=_;rw[zt];rfl),.inl ⟨D?,_,l! PF⟩,?_⟩;refine⟨_,D?,w.x,w.dx,_,D?,Bh.ins,gq,{w with ks:=za},D?,Bh,(by show w.ps.length<=1000000;lia),?_⟩;refine⟨_,D?,_,D?,_,_,D?,D?,kd.a,_,_,D?,D?,PF,lbE (by lia),?_⟩;rw[show(ones ({w with ks:=za}:Wy).ps.length)=ones Ws.length from by rw[<-BW]];have Ey:=Bh.setAg (l:=kd.ag++[WL (ones Ws.length) (W9 x)]) zt;rw[V3]at Ey;exact⟨_,_,_,_,_,_,_,D?,f3.trans ((K! s5).trans (M! (VX.mpr ⟨kd,AH,D?⟩))),Ey,ht.step z8 b0 bb⟩
 .rintro σ H2 ⟨c2,c3,c4,c5,c6,c7,za,rfl,f2,Ng,ht⟩;rw[Vu]at ht;exact q H2 za f2 Ng ht
inductive eG(C:Vy)(vs:List V)(H:Hp)(Q:VK)(_E:XK):Prop
 |mk (w:Wy) (sz:Vy) (last:Nat) (Z:List Int):vs=[.ref w.x,.int (last:Nat),.ref sz]->WyAt C H w->w.ps.length<=1000000->H sz=A? (.lst (Z.map o!))->last<Z.length->last<=30->w.ks.length<=3->(∀k∈w.ks,last<k.ag.length)->(∀(r:Vy)(H':Hp)(D:List Cand),j! H H'->H r=AQ->dq H' r D->D.length<=100000->Least (λc=>∃ks:List Nat,ks.length=w.ks.length/\((∀n∈ks,n<=last)/\last∈ks)/\c=cnd (w.ks.map (·.ag)) Z (ones w.ps.length) ks) D->Q (.ref r) H')->eG C vs H Q _E
theorem iZ:bj P w K mg base CX0 3 T.g_18.f T.g_18.d ["self","last","sizes"] (eG T.e_Ways):=by
 refine T.g_18.F.okA aI λzb A outer s H vs Q E hr h=>?_;obtain⟨w,sz,last,Z,rfl,hw,BW,G2,Vb,SH,KZ,SI,q⟩:=h
 refine⟨_,(aj (am 3 aI.nd kg)
  (aj (bG Wq rfl (bW rfl T.n_7 (aa (aB aA rfl T.n_3 Wi (aa (bD (pv 0) rfl) ae)) ae)) (pgN 4 aI.nd) (aj (am 5 aI.nd (uG (tq (iR (pv 0) T.cl_Ways T.g_16.me (cX T) (hr.mono (by first|decide|lia)) T.g_16.b .nil cV ) (bc (aa ad (aa (bc ae) ae))) uE) rfl rfl (by decide) (by decide)))
  (aj (bG Wq rfl (iC rfl T.n_1 (bD (pv 0) rfl)) (bM rfl (ay (pgN 6 aI.nd) (ay (pgN 7 aI.nd) bf))) (aj (am 8 aI.nd (oN (aC cL (pv 6) (pv 4) (aJ _)) (pv 1) ad))
  (aj (am 9 aI.nd (oN (aC fc (pv 6) (pv 4) (aJ _)) (pv 1) (aq bC (pv 1) ad)))
  (ak (am 5 aI.nd (pcF T.g_13 (rQ T) hr (aa (pv 5) (aa (pv 7) (aa (pv 2) (aa (tQ rfl rfl T.n_4 rfl T.n_7 (aa (pv 8) (aa (pv 9) ae))) ae))))))))))
  (ak (gF (bG Wq rfl (ll (pv 5)) (bM rfl (ay (pgN 10 aI.nd) (ay (bM rfl (ay (pgN 11 aI.nd) (ay (pgN 12 aI.nd) bf))) bf))) (ak (aY (pcF T.g_12 (ie T) hr (aa (pv 3) (aa (pv 10) (aa (pv 11) (aa (pv 12) ae)))))))))))))
  (ak (aF (pv 3))))),?_⟩
 try dsimp only[zy,yY]
 intro td Et;dsimp only[av];refine gU Et λH1 s1 e1=>?_;have pw:∀p,p<=3->31 ^ p<=29791:=λp hp=>Wz (XB (by decide) hp) (by decide);refine⟨_,D?,w.x,T.e_Ways,w.dx,_,_,D?,s1 _ _ hw.ins,T.cl_Ways,T.na_Ways_agreeing,qJ,w.al,_,D?,.inl (l! (s1 _ _ hw.al)),_,D?,by lia,by rw[Vu];lia,?_⟩;rw[Vu,VQ]
 refine cw (lo:=0) (n:=w.ks.length) (λf σ H2=>yi λ(c4 c5 c6 c7 c8 c9 Cu Cv Cw:Option V)(Dt:List Cand)=>An5 (σ=[A? (.ref w.x),A? (.int (last:Nat)),A? (.ref sz),A? (.ref td),c4,c5,c6,c7,c8,c9,Cu,Cv,Cw]) (j! H H2) (dq H2 td Dt) (Dt.length<=f * 29791) (Least (λc=>∃f',f'<f/\SrcP (w.ks.map (·.ag)) Z (ones w.ps.length) (loF last f') (hiF last f') w.ks.length c) Dt))
  ⟨AQ,AQ,AQ,AQ,AQ,AQ,AQ,AQ,AQ,[],rfl,s1,⟨[],e1,.nil⟩,Wh _,Least.nil.congr λc=>⟨λz=>z.elim,λ⟨f',h,_⟩=>g! h (Y5 _)⟩⟩ ?_ ?_
 .rintro f σ H2 hf ⟨c4,c5,c6,c7,c8,c9,Cu,Cv,Cw,Dt,rfl,s2,⟨kt,GZ,F0⟩,Ae,F4⟩;rw[Int.zero_add];dsimp only[av];intro rd GD
  have Bt:∀{b:Vy},H2 b=AQ->H b=none:=λ{b}z=>by
   cases y:H b with
   |none=>rfl
   |some o=>rw[s2 _ _ y]at z;cases z
  have s3:j! H2 (upd H2 rd (.dK [])):=ao GD _;have e3:(upd H2 rd (.dK [])) rd=A? (.dK []):=ac;have SJ:rd≠td:=λz=>by rw[z,GZ]at GD;cases GD
  generalize(upd H2 rd (.dK []))=H3 at s3 e3 |-;have Bg:=hw.same (s2.trans s3);refine⟨_,D?,w.x,w.dx,_,D?,Bg.ins,gq,w,D?,Bg,BW,?_⟩;refine⟨lnE rfl,λt0 EZ=>⟨lnE rfl,λt1 Ai=>?_⟩⟩;have s4:j! H3 (upd (upd H3 t0 (.tup [])) t1 (.tup [.int 0,.ref t0])):=(ao EZ _).trans (ao Ai _);have PH:(upd (upd H3 t0 (.tup [])) t1 (.tup [.int 0,.ref t0])) t0=A? (.tup []):=(ao Ai _) _ _ ac;have PJ:(upd (upd H3 t0 (.tup [])) t1 (.tup [.int 0,.ref t0])) t1=A? (.tup [.int 0,.ref t0]):=ac;generalize(upd (upd H3 t0 (.tup [])) t1 (.tup [.int 0,.ref t0]))=H4 at s4 PH PJ |-;refine⟨s4 _ _ e3,[(Wt (ones w.ps.length),.ref t1)],D?,(by show 1<=15;decide),?_⟩;have HF:jz [] [((Wt (ones w.ps.length):Key),k! t1)]=[(Wt (ones w.ps.length),.ref t1)]:=rfl;rw[HF];have SK:=s4 _ _ e3;have s5:j! H2 (upd H4 rd (.dK [((Wt (ones w.ps.length):Key),k! t1)])):=aK (s3.trans s4) GD;have k5:KT H4 (upd H4 rd (.dK [((Wt (ones w.ps.length):Key),k! t1)])):=λb xs z=>by rw[af (aH z SK (λy=>nomatch y))];exact z
  have F5:dq (upd H4 rd (.dK [((Wt (ones w.ps.length):Key),k! t1)])) rd [⟨ones w.ps.length,0,[]⟩]:=⟨_,ac,.cons ⟨rfl,t1,t0,rfl,k5 _ _ PJ,k5 _ _ PH⟩ .nil⟩;generalize(upd H4 rd (.dK [((Wt (ones w.ps.length):Key),k! t1)]))=H5 at s5 F5 |-;dsimp only[av];refine⟨_,D?,w.x,T.e_Ways,w.dx,_,_,D?,s5 _ _ (s2 _ _ hw.ins),T.cl_Ways,T.na_Ways_agreeing,qJ,w.al,D?,⟨_,l! (s5 _ _ (s2 _ _ hw.al))⟩,?_⟩
  refine gJ (K:=K) (a:=w.al) (xs:=w.ks.map λk=>k! k.a) (λp σ H6=>Ex9 λ(r:Vy)(c6 c7 c8 c9 Cu Cv Cw:Option V)(D:List Cand)=>An6 (σ=[A? (.ref w.x),A? (.int (last:Nat)),A? (.ref sz),A? (.ref td),A? (.int (f:Nat)),A? (.ref r),c6,c7,c8,c9,Cu,Cv,Cw]) (j! H2 H6) ((r≠td/\H r=AQ)) (dq H6 r D) (D.length<=31 ^ p) (Least (SrcP (w.ks.map (·.ag)) Z (ones w.ps.length) (loF last f) (hiF last f) p) D))
   ⟨rd,_,_,_,_,_,_,_,_,rfl,s5,⟨SJ,Bt GD⟩,F5,VG 1,(Least.one _).congr λc=>SrcP.zero ..⟩ (λp σ H6 _⟨_,_,_,_,_,_,_,_,_,_,s,_,_,_,_⟩=>l! (s _ _ (s2 _ _ hw.al))) ?_ ?_
  .rintro p x p0 σ H6 hx Jp ⟨r,c6,c7,c8,c9,Cu,Cv,Cw,D,rfl,s6,Ez,⟨kr,Jq,K0⟩,Jr,hle⟩;rw[VA]at hx;obtain⟨kd,z8,rfl⟩:=V1.mp hx;have AH:=Vx z8;have Am:=(glE z8);refine gU Jp λH7 s7 ep=>?_;refine⟨p0,_,D?,i! ep,D?,_,_,D?,_,_,D?,D?,?_⟩;dsimp only[av];refine aN (λi' H'=>An2 (H'=H7) (i'=[A? (.ref w.x),A? (.int (last:Nat)),A? (.ref sz),A? (.ref td),A? (.int (f:Nat)),A? (.ref r),A? (.int (p:Nat)),A? (.ref kd.a),A? (.int (loF last f p:Nat)),c9,Cu,Cv,Cw])) (λkk hk=>?_) ?_
   .refine⟨_,D?,_,D?,D?,_,D?,?_⟩;by_cases z:p=f
    .rw[d! (show o! ((p:Nat):Int)=o! ((f:Nat):Int)by rw[z])];refine dm ⟨_,rfl,hk _ _ ⟨rfl,?_⟩⟩;unfold loF;rw[b! z];rfl
    .rw[c! (show¬o! ((p:Nat):Int)=o! ((f:Nat):Int)fromλy=>z (by injection y with y;lia))];refine cz (hk _ _ ⟨rfl,?_⟩);unfold loF;rw[a! z];rfl
   rintro i' H' ⟨rfl,rfl⟩;refine aN (λi' CP=>CP=H'/\i'=[A? (.ref w.x),A? (.int (last:Nat)),A? (.ref sz),A? (.ref td),A? (.int (f:Nat)),A? (.ref r),A? (.int (p:Nat)),A? (.ref kd.a),A? (.int (loF last f p:Nat)),A? (.int (hiF last f p:Nat)),Cu,Cv,Cw]) (λkk hk=>?_) ?_
   .refine⟨_,D?,_,D?,_,_,D?,D?,_,D?,?_⟩;by_cases z:p<f
    .rw[d! (show(p:Int)<(f:Int)by lia)];refine dm ⟨_,rfl,hk _ _ ⟨rfl,?_⟩⟩;unfold hiF;rw[b! z];rfl
    .rw[c! (show¬(p:Int)<(f:Int)by lia)];refine cz ⟨_,rfl,_,_,rfl,rfl,hk _ _ ⟨rfl,?_⟩⟩;unfold hiF;rw[a! z];rfl
   rintro i' CP ⟨rfl,rfl⟩;have QP:loF last f p<=last:=by unfold loF;split <;> lia
   have Vc:hiF last f p<=last+1:=by unfold hiF;split <;> lia
   refine⟨_,D?,_,D?,_,D?,_,D?,_,D?,loF last f p,hiF last f p,D?,by lia,by lia,λnl CO=>?_⟩;have s8:j! CP (upd CP nl (.lst ((YV (loF last f p) (hiF last f p - loF last f p)).map nW))):=ao CO _;have DC:(upd CP nl (.lst ((YV (loF last f p) (hiF last f p - loF last f p)).map nW))) nl=A? (.lst ((YV (loF last f p) (hiF last f p - loF last f p)).map nW)):=ac;show jg _ (upd CP nl (.lst ((YV (loF last f p) (hiF last f p - loF last f p)).map nW))) _ _;generalize(upd CP nl (.lst ((YV (loF last f p) (hiF last f p - loF last f p)).map nW)))=H8 at s8 DC |-;have K1:j! H2 H8:=s6.trans (s7.trans s8);have PK:=s7.trans s8;have zC:p<=2:=by lia
   have SM:31 ^ p<=961:=Wz (XB (by decide) zC) (by decide);have AE:(YV (loF last f p) (hiF last f p - loF last f p)).length<=31:=by rw[List.length_range'];lia
   have hmul:D.length * (YV (loF last f p) (hiF last f p - loF last f p)).length<=31 ^ p * 31:=Nat.mul_le_mul Jr AE;have hA:(w.ks.map (·.ag)).getD p []=kd.ag:=by rw[V0,VA,z8];rfl
   refine⟨r,kd.a,sz,nl,kd.ag,Z,_,D,D?,⟨kr,PK _ _ Jq,t! (λ_ _ h=>h.mono (n! PK)) K0⟩,K1 _ _ (s2 _ _ (hw.ag kd AH)),K1 _ _ (s2 _ _ G2),DC,λn hn=>?_,by lia,λe he=>?_,λr' H9 D9 s9 nr Ni Vd Nj=>?_⟩
   .have:=(List.mem_range'_1.mp hn).2;have:=SI kd AH;lia
   .refine hid λZZ kZ=>?_;obtain⟨ks,h1,_,h3⟩:=hle.sub e he;refine kZ ?_;rw[h3,xr];lia
   .have Bp:H2 r'=none:=by
     cases y:H2 r' with
     |none=>rfl
     |some o=>rw[K1 _ _ y]at nr;cases nr
    refine⟨r',_,_,_,_,_,_,_,D9,D?,K1.trans s9,⟨λz=>(by rw[z,GZ]at Bp;cases Bp),Bt Bp⟩,Ni,by rw[Nat.pow_succ];lia,?_⟩;have:=hle.trans Nj;rw[<-hA]at this;exact this.congr λc=>SrcP.succ _ _ _ _ _ _ _ (λn=>by rw[List.mem_range'_1];lia) c
  .rintro σ H6 ⟨r,c6,c7,c8,c9,Cu,Cv,Cw,D,rfl,s6,⟨Ez,PL⟩,⟨kvs,Jq,K0⟩,Jr,hle⟩;rw[Vu]at Jr hle;have Ve:=Wz Jr (pw _ KZ);have SN:D.length=kvs.length:=VZ K0;refine⟨_,D?,r,kvs,D?,Jq,λo=>?_⟩;have k0:KT H6 (upd H6 r (.frz o (.dK kvs))):=λb xs z=>by rw[af (aH z Jq (λy=>nomatch y))];exact z
   have Nk:=s2.trans s6
   refine i8 (a:=r) (o:=o) (kvs:=kvs) (λj σ H7=>Ex4 λ(Cu Cv Cw:Option V)(F6:List Cand)=>An7 (σ=[A? (.ref w.x),A? (.int (last:Nat)),A? (.ref sz),A? (.ref td),A? (.int (f:Nat)),A? (.ref r),c6,c7,c8,c9,Cu,Cv,Cw]) (j! H H7) (H7 r=A? (.frz o (.dK kvs))) (Wc (RowE H7) D kvs) (dq H7 td F6) (F6.length<=f * 29791+j) (Least (λc=>(∃f',f'<f/\SrcP (w.ks.map (·.ag)) Z (ones w.ps.length) (loF last f') (hiF last f') w.ks.length c)\/∃e∈D.take j,c=e) F6))
    ⟨Cu,Cv,Cw,Dt,rfl,λb u z=>by rw[af (λy=>by rw[y,PL]at z;cases z)];exact Nk _ _ z,ac,t! (λ_ _ h=>h.mono k0) K0,⟨kt,(af Ez.symm).trans (s6 _ _ GZ),t! (λ_ _ h=>(h.mono (n! s6)).mono k0) F0⟩,Ae,F4.congr λc=>⟨.inl,λz=>z.elim id λ⟨e,he,_⟩=>by rw[X6]at he;cases he⟩⟩ (λj σ H7 _⟨_,_,_,_,_,_,e,_,_,_,_⟩=>e) ?_ ?_
   .rintro j kv p0 σ H7 zX Jp ⟨Cu,Cv,Cw,F6,rfl,s7,Cd,Ex,⟨Nl,K2,F7⟩,SO,DE⟩;refine hid λZZ kZ=>?_;obtain⟨e,he,Bs,a,ka,zm,ea,zJ⟩:=H! Ex zX;have DT:=(glE zX);obtain⟨k,v⟩:=kv;refine kZ ?_;dsimp only at Bs zm;subst Bs zm;refine gU Jp λH8 s8 ep=>?_;have ep:H8 p0=A? (.tup [.int e.b,.ref a]):=ep;refine⟨p0,_,D?,i! ep,D?,_,_,D?,_,_,D?,⟨a,_,D?,i! (s8 _ _ ea),D?,_,_,D?,_,_,D?,D?,D?,?_⟩⟩;dsimp only[av];refine⟨_,D?,_,D?,_,D?,_,D?,td,ka,e.b,e.n,e.ks,F6,D?,⟨Nl,s8 _ _ K2,t! (λ_ _ h=>h.mono (n! s8)) F7⟩,DE.nd,s8 _ _ zJ,by lia,λH9 D9 s9 Ni hK=>?_⟩;have k9:KT H8 H9:=λb xs z=>s9 _ _ (aH z (s8 _ _ K2) (λy=>nomatch y)) z;refine⟨_,_,_,D9,D?,λb u z=>s9 _ _ (λy=>by rw[y,Et]at z;cases z) (s8 _ _ (s7 _ _ z)),s9 _ _ Ez (s8 _ _ Cd),t! (λ_ _ h=>(h.mono (n! s8)).mono k9) Ex,Ni,by have:=hK.len;lia,(hK.least _ DE).congr λc=>?_⟩;rw[take_snoc he];constructor
    .rintro((h|⟨e',zI,h⟩)|h)
     .exact .inl h
     .exact .inr ⟨e',VT _ zI,h⟩
     .exact .inr ⟨e,by simp,h⟩
    .rintro(h|⟨e',zI,h⟩)
     .exact .inl (.inl h)
     .rcases VP.mp zI with zI|zI
      .exact .inl (.inr ⟨e',zI,h⟩)
      .rw[VH.mp zI]at h;exact .inr h
   .rintro σ H7 ⟨Cu,Cv,Cw,F6,rfl,s7,Cd,Ex,⟨Nl,K2,F7⟩,SO,DE⟩;rw[WX (by lia)]at DE;have k8:KT H7 (upd H7 r (.dK kvs)):=λb xs z=>by rw[af (aH z Cd (λy=>nomatch y))];exact z
    refine⟨upd H7 r (.dK kvs),λb=>?_,_,_,_,_,_,_,_,_,_,F6,D?,λb u z=>by rw[af (λy=>by rw[y,PL]at z;cases z)];exact s7 _ _ z,⟨Nl,(af Ez.symm).trans K2,t! (λ_ _ h=>h.mono k8) F7⟩,?_,(DE.join hle).congr λc=>?_⟩
    .by_cases hb:b=r
     .rw[hb];exact .inr ⟨o,_,Cd,Jq,ac⟩
     .exact .inl (af hb)
    .rw[ZH];lia
    .constructor
     .rintro(⟨f',h1,h2⟩|h)
      .exact⟨f',by lia,h2⟩
      .exact⟨f,by lia,h⟩
     .rintro⟨f',h1,h2⟩;by_cases z:f'=f
      .rw[z]at h2;exact .inr h2
      .exact .inl ⟨f',by lia,h2⟩
 .rintro σ H2 ⟨c4,c5,c6,c7,c8,c9,Cu,Cv,Cw,Dt,rfl,s2,F0,Ae,F4⟩;refine⟨_,D?,q td H2 Dt s2 Et F0 (by lia) (F4.congr λc=>?_)⟩;constructor
  .rintro⟨f',C2,ks,h1,h2,h3⟩;exact⟨ks,h1,(lC h1).mp ⟨f',C2,h2⟩,h3⟩
  .rintro⟨ks,h1,h2,h3⟩;obtain⟨f',C2,h4⟩:=(lC h1).mpr h2;exact⟨f',C2,ks,h1,h4,h3⟩
def yg(C:Vy)(w:Wy)(s p:Int)(Ws:List cu)(nv:V)(H:Hp)(Q:VK):Prop:=(nv=.non/\Q .non H)\/∃(d:Vy)(L:CLs),nv=.ref d/\H d=A? (.dT (dE L))/\d∉w.ks.map (·.d)/\L.length<=100/\(∀e∈L,∃k:Nat,e.1.2=(k:Int)/\k<w.ks.length)/\∀(H':Hp)(a:Vy)(za:List Kd),FrB (w.pl::w.ks.map (·.d)) H H'->WyAt C H' {w with ps:=w.ps++[(s,p,a)],ks:=za}->(∀(k:Nat)(kd:Kd),za[k]?=A? kd->NeedT (Ws++[(s,p,L)]) k kd.es/\kd.es.length<=100 * (Ws.length+1))->za.map Kd.sh=w.ks.map Kd.sh->Q .non H'
inductive f8(C:Vy)(vs:List V)(H:Hp)(Q:VK)(_E:XK):Prop
 |mk (w:Wy) (s p:Int) (nv:V) (Ws:List cu):vs=[.ref w.x,.int s,.int p,nv]->WyAt C H w->w.ps.length=Ws.length->Ws.length<=5000->(∀(k:Nat)(kd:Kd),w.ks[k]?=A? kd->NeedT Ws k kd.es/\kd.es.length<=100 * Ws.length)->yg C w s p Ws nv H Q->f8 C vs H Q _E
theorem jU:bj P w K mg base CX0 1 T.g_15.f T.g_15.d ["self","state","part","needs"] (f8 T.e_Ways):=by
 refine T.g_15.F.okA cm λzb A outer s H vs Q E hr h=>?_;obtain⟨w,st,pt,nv,Ws,rfl,hw,BW,Iv,hN,SQ⟩:=h
 refine⟨_,(ak (bE (aC j5 (pv 3) fG (aJ _)) (aj (gF (bG Wq rfl (gH (pv 3)) (bM rfl (ay (bM rfl (ay (pgN 4 cm.nd) (ay (pgN 5 cm.nd) bf))) (ay (pgN 6 cm.nd) bf))) (aj (am 7 cm.nd (sQ (dA hr) (ax aS (bD (pv 0) rfl) (pv 5) (λ_ _=>rfl)) (bc (aa (pv 4) (aa (pv 6) ae))) ad ⟨D?,D?,D?,D?⟩))
  (ak (jZ (dA hr) (ax aS (bD (pv 0) rfl) (pv 5) (λ_ _=>rfl)) (bc (aa (pv 4) (aa (pv 6) ae))) (aq xY (pv 7) (aq tV ad (aB aA rfl T.n_3 Wi (aa (bD (pv 0) rfl) ae)))) rfl)))))
  (ak (aY (cB V7 Wo Wn bq (bD (pv 0) rfl) (aa (bc (aa (pv 1) (aa (pv 2) ae))) ae))))) aT)),?_⟩
 try dsimp only[zy,yY]
 rcases SQ with⟨rfl,q⟩|⟨d,L,rfl,ed,Cc,KP,SR,q⟩
 .exact⟨_,D?,D?,_,D?,cz q⟩
 refine⟨_,D?,D?,_,D?,dm ?_⟩;refine⟨_,D?,d,_,D?,ed,λo=>?_⟩;have SS:∀k∈w.ks,k.d≠d:=λk hk z=>Cc (VX.mpr ⟨k,hk,z⟩);have k0:KT H (upd H d (.frz o (.dT (dE L)))):=λb xs z=>by rw[af (aH z ed (λy=>nomatch y))];exact z
 have G3:WyAt T.e_Ways (upd H d (.frz o (.dT (dE L)))) w:=hw.keep k0 λb hb u e=>by
  refine(af ?_).trans e;rintro rfl;rw[ed]at e;unfold Wy.own at hb;simp only[VS,VP]at hb;rcases hb with rfl|rfl|rfl|rfl|hb|hb
  .rw[hw.ins]at ed;cases ed
  .rw[hw.pl]at ed;cases ed
  .rw[hw.nl]at ed;cases ed
  .rw[hw.al]at ed;cases ed
  .exact Cc hb
  .obtain⟨kd,hm,e'⟩:=VX.mp hb;have:=hw.ag kd hm;rw[e',ed]at this;cases this
 refine kb (a:=d) (o:=o) (es:=L) (λj σ H3=>Ex5 λ(c4 c5 c6 c7:Option V)(za:List Kd)=>An6 (σ=[A? (.ref w.x),A? (.int st),A? (.int pt),A? (.ref d),c4,c5,c6,c7]) (FrB (d::w.ks.map (·.d)) H H3) (H3 d=A? (.frz o (.dT (dE L)))) (WyAt T.e_Ways H3 {w with ks:=za}) ((∀(k:Nat)(kd:Kd),za[k]?=A? kd->NeedT (Ws++[(st,pt,L.take j)]) k kd.es/\kd.es.length<=100 * Ws.length+j)) (za.map Kd.sh=w.ks.map Kd.sh))
  ⟨AQ,AQ,AQ,AQ,w.ks,rfl,M! (VO ..),ac,G3,λk kd hk=>⟨by rw[X6];exact(hN k kd hk).1.more st pt,(hN k kd hk).2⟩,rfl⟩ (λj σ H3 _⟨_,_,_,_,_,_,_,e,_,_,_⟩=>e) ?_ ?_
 .rintro j e p2 b σ H3 he zC eb ⟨c4,c5,c6,c7,za,rfl,f3,AN,Bg,Js,Eb⟩;refine gU zC λH4 s4 DB=>?_;refine hid λZZ kZ=>?_;obtain⟨k,hk,zU⟩:=SR e (Vx he)
  have hlen:za.length=w.ks.length:=by
   have:=h! Xd Eb;rw[Vu,Vu]at this;exact this
  obtain⟨kd,z8⟩:∃kd,za[k]?=A? kd:=⟨_,Vw (by lia)⟩;have AH:=Vx z8;obtain⟨KY,CF⟩:=Js k kd z8;refine kZ ?_;have Vf:=(glE he)
  have SU:za.map (·.d)=w.ks.map (·.d):=by
   have:=h! (Zh (·.1)) Eb;rw[Wk,Wk]at this;exact this
  have Jt:kd.d∈w.ks.map (·.d):=by rw[<-SU];exact VX.mpr ⟨kd,AH,rfl⟩
  have KU:kd.d≠d:=λz=>Cc (z ▸ Jt);have BX:=Bg.same s4;refine⟨p2,_,D?,i! DB,D?,.ref b,_,D?,⟨b,_,D?,i! (s4 _ _ eb),D?,_,_,D?,_,_,D?,D?,_,_,D?,D?,?_⟩⟩;dsimp only[av];refine⟨_,D?,w.x,T.e_Ways,w.dx,_,_,D?,BX.ins,T.cl_Ways,T.na_Ways_needing,tP,_,D?,w.nl,_,e.1.2,.ref kd.d,D?,D?,l! BX.nl,?_,kd.d,D?,.inr ⟨_,.inl (BX.nd kd AH)⟩,_,D?,_,D?,lnE rfl,λc1 SV=>?_⟩
  .rw[hk];exact bu (j:=k) (by rw[VA];show(za[k]?).map _=_;rw[z8];rfl)
  refine gU SV λH5 s5 Nn=>?_;have Nn:H5 c1=A? (.tup ((ky (e.1.1,e.2)).map kV)):=Nn;have Bh:=BX.same s5;refine⟨_,DGet.t (Bh.nd kd AH) Nn,?_⟩;rw[j9];have hg:((dG kd.es (e.1.1,e.2)).map o!).getD (.int 0)=.int ((dG kd.es (e.1.1,e.2)).getD 0):=by cases dG kd.es (e.1.1,e.2) <;> rfl
  rw[hg];dsimp only[av];refine⟨_,D?,_,D?,w.x,T.e_Ways,w.dx,_,_,D?,Bh.ins,T.cl_Ways,T.na_Ways_pairs,qP,w.pl,_,D?,.inl (l! Bh.pl),_,_,D?,D?,⟨by lia,by rw[Vu];show((w.ps.length:Nat):Int)<=_;lia,by decide⟩,_,_,D?,D?,?_⟩;refine⟨_,D?,w.x,T.e_Ways,w.dx,_,_,D?,Bh.ins,T.cl_Ways,T.na_Ways_needing,tP,_,D?,w.nl,_,e.1.2,.ref kd.d,D?,D?,l! Bh.nl,?_,_,D?,_,D?,lnE rfl,λc2 AX=>?_⟩
  .rw[hk];exact bu (j:=k) (by rw[VA];show(za[k]?).map _=_;rw[z8];rfl)
  refine gU AX λH6 s6 Np=>?_;have Np:H6 c2=A? (.tup ((ky (e.1.1,e.2)).map kV)):=Np;have PM:=Bh.same s6;refine⟨kd.d,_,D?,DPut.t (PM.nd kd AH) Np (bp (by unfold dE;rw[Vu];lia)),?_⟩;rw[qL,Vu,show(({w with ks:=za}:Wy).ps.length)=Ws.length from BW];have Ey:=PM.setEs (es:=fB kd.es (e.1.1,e.2) (XT ((dG kd.es (e.1.1,e.2)).getD 0) (1 * 2 ^ ((Ws.length:Nat):Int).toNat))) z8;have G5:=s4.trans (s5.trans s6);refine⟨_,_,_,_,_,D?,f3.trans ((K! G5).trans (M! (VR _ Jt))),(af KU.symm).trans (G5 _ _ AN),Ey,λk' AA zt=>?_,?_⟩
  .rw[Xu,he];show NeedT (Ws++[(st,pt,L.take j++[e])]) k' AA.es/\_;by_cases z:k=k'
   .subst z;rw[W5 (show k<za.length by lia)]at zt;cases zt;have h1:=KY.put (c:=e.1.1) (w:=e.2);rw[<-hk]at h1;have h2:=ox kd.es (e.1.1,e.2) (XT ((dG kd.es (e.1.1,e.2)).getD 0) (1 * 2 ^ ((Ws.length:Nat):Int).toNat));exact⟨h1,Wz h2 (by lia)⟩
   .rw[W6 z]at zt;obtain⟨h1,h2⟩:=Js k' AA zt;exact⟨h1.other (by rw[hk];lia),by lia⟩
  .rw[<-Eb];exact map_set _ z8 rfl
 .rintro σ H3 ⟨c4,c5,c6,c7,za,rfl,f3,AN,Bg,Js,Eb⟩;rw[XJ]at Js;have k4:KT H3 (upd H3 d (.dT (dE L))):=λb xs z=>by rw[af (aH z AN (λy=>nomatch y))];exact z
  have BX:=Bg.keep (H':=upd H3 d (.dT (dE L))) k4 λb hb u e=>by
   refine(af ?_).trans e;rintro rfl;rw[AN]at e;unfold Wy.own at hb;simp only[VS,VP]at hb;rcases hb with rfl|rfl|rfl|rfl|hb|hb
   .have:=Bg.ins;rw[AN]at this;cases this
   .have:=Bg.pl;rw[AN]at this;cases this
   .have:=Bg.nl;rw[AN]at this;cases this
   .have:=Bg.al;rw[AN]at this;cases this
   .obtain⟨kd,hm,e'⟩:=VX.mp hb;have:=Bg.nd kd hm;rw[e',AN]at this;cases this
   .obtain⟨kd,hm,e'⟩:=VX.mp hb;have:=Bg.ag kd hm;rw[e',AN]at this;cases this
  have f4:FrB (w.pl::w.ks.map (·.d)) H (upd H3 d (.dT (dE L))):=λb u hb z=>by
   by_cases K3:b=d
   .rw[K3,ed]at z;rw[K3,ac];exact z
   .rw[af K3];exact f3 b u (λy=>(VS.mp y).elim K3 λy=>hb (VR _ y)) z
  refine⟨upd H3 d (.dT (dE L)),λb=>?_,?_⟩
  .by_cases hb:b=d
   .rw[hb];exact .inr ⟨o,_,AN,ed,ac⟩
   .exact .inl (af hb)
  generalize(upd H3 d (.dT (dE L)))=H4 at BX f4 |-;refine⟨_,D?,w.x,T.e_Ways,w.dx,_,_,D?,BX.ins,T.cl_Ways,T.na_Ways_pairs,qP,.inl ⟨D?,_,l! BX.pl⟩,_,D?,_,D?,lnE rfl,λa ha=>?_⟩;refine gU ha λH5 s5 ea=>?_;have Bh:=BX.same s5;refine⟨w.pl,_,_,D?,D?,Bh.pl,bp (by rw[Vu];show w.ps.length<=1000000;lia),?_⟩
  exact q _ a za (f4.trans ((K! s5).trans (M! (VO ..)))) (Bh.addP ea) (λk kd hk=>by
   obtain⟨h1,h2⟩:=Js k kd hk;exact⟨h1,by lia⟩) Eb
structure WIn(H:Hp)(rt:Vy)(cs:List Vy)(To:List (V5×List Nat))(Ls:List Th)(ar:V5->Nat)(m S:Nat)(pats:List Th):Prop where
 rt:H rt=A? (.tup (cs.map k!))
 to:Wc (EnA H) To cs
 cl:Cl To Ls
 aL:∀t∈Ls,Ars ar t
 ap:∀p∈pats,Ars ar p/\p.size<=100/\∀s k:Int,q! s k∈p.walk->(∃k':Nat,k=(k':Int)/\k'<m)/\∃s':Nat,s=(s':Int)/\s'<S
 hS:pats.length=S
 big:S * Ls.length<=4000
theorem WIn.mono{rt:Vy}{cs:List Vy}{To:List (V5×List Nat)}{S:Nat}(h:WIn H rt cs To Ls ar m S pats)(k:KT H H'):WIn H' rt cs To Ls ar m S pats :=
 ⟨k _ _ h.rt,t! (λ_ _ z=>k _ _ z) h.to,h.cl,h.aL,h.ap,h.hS,h.big⟩
structure WOk(Ls pats:List Th)(w:Wy)(Ws:List cu):Prop where
 sp:WSp Ls pats (λ_ _=>True) Ws
 ps:w.ps.map (λq=>(q.1,q.2.1))=Ws.map (λq=>(q.1,q.2.1))
 nt:∀(k:Nat)(kd:Kd),w.ks[k]?=A? kd->NeedT Ws k kd.es/\kd.es.length<=100 * Ws.length
 len:Ws.length<=4000
structure WI(C:Vy)(H:Hp)(w0:Wy)(Ls pats:List Th)(H7:Hp)(w:Wy)(Ws:List cu)(d:Nat->Nat->Prop)(n:Nat):Prop where
 sb:SameB w0.x H H7
 wa:WyAt C H7 w
 eq:w.x=w0.x/\w.nm=w0.nm/\w.pl=w0.pl/\w.nl=w0.nl/\w.al=w0.al
 sh:w.ks.map Kd.sh=w0.ks.map Kd.sh
 sp:WSp Ls pats d Ws
 ps:w.ps.map (λq=>(q.1,q.2.1))=Ws.map (λq=>(q.1,q.2.1))
 nt:∀(k:Nat)(kd:Kd),w.ks[k]?=A? kd->NeedT Ws k kd.es/\kd.es.length<=100 * Ws.length
 len:Ws.length<=n
theorem WI.same{w0:Wy}{w:Wy}{d d':Nat->Nat->Prop}{n':Nat}(h:WI C H w0 Ls pats H7 w Ws d n)(s:j! H7 H8)(e:∀st pt,(∃p,pats[st]?=A? p)->(∃u,Ls[pt]?=A? u)->d' st pt->d st pt)(hn:n<=n'):WI C H w0 Ls pats H8 w Ws d' n' :=
 ⟨h.sb.trans (z! s),h.wa.same s,h.eq,h.sh,h.sp.congr e,h.ps,h.nt,Wz h.len hn⟩
theorem WI.psl{w0:Wy}{w:Wy}{d:Nat->Nat->Prop}(h:WI C H w0 Ls pats H7 w Ws d n):w.ps.length=Ws.length:=by
 have:=h! Xd h.ps;rw[Vu,Vu]at this;exact this
inductive iM(C:Vy)(vs:List V)(H:Hp)(Q:VK)(_E:XK):Prop
 |mk (x dx ka pa rt:Vy) (nm:V5) (m S:Nat) (pats:List Th) (F8 cs:List Vy) (To:List (V5×List Nat)) (Ls:List Th) (ar:V5->Nat):vs=[.ref x,.ref ka,.ref pa,.ref rt]->H x=A? (.ins C dx [])->H ka=A? (.tup [.str nm,.int (m:Nat)])->m<=3->H pa=A? (.lst (F8.map k!))->Ats H pats F8->WIn H rt cs To Ls ar m S pats->(∀(w:Wy)(H':Hp)(Ws:List cu),w.x=x->w.nm=nm->SameB x H H'->WyAt C H' w->w.ks.length=m->(∀k∈w.ks,k.ag=[])->WOk Ls pats w Ws->(∀b∈w.pl::w.nl::w.al::(w.ks.map (·.d)++w.ks.map (·.a)),H b=AQ)->Q .non H')->iM C vs H Q _E
theorem mV:bj P w K mg base CX0 3 T.g_14.f T.g_14.d ["self","kind","patterns","row"] (iM T.e_Ways):=by
 refine T.g_14.F.okA dF λzb A outer s H vs Q E hr h=>?_;obtain⟨x,dx,ka,pa,rt,nm,m,S,pats,F8,cs,To,Ls,ar,rfl,ex,zJ,hm,C3,BW,zW,q⟩:=h
 refine⟨_,(aj (gB (pv 0) (ax az (pv 1) ad (λ_ _=>rfl)) rfl)
  (aj (gB (pv 0) (bU ae) rfl)
  (aj (gB (pv 0) (bd (N:=["kid"]) (js:=[AQ]) (g:=(av 0)) (tt:=aR) (te:=sZ) rfl (bK rfl (by decide +kernel) (by decide +kernel) rfl rfl rfl) (bW rfl T.n_7 (aa (ax az (pv 1) ad (λ_ _=>rfl)) ae)) (λ_ _ _ _ _ _=>(pgN 0 wC)) (aE rfl) (λ_ _ _ _ _ _=>aU) (λ_ _ _ _ _ _=>gu)) rfl)
  (aj (gB (pv 0) (bd (N:=["kid"]) (js:=[AQ]) (g:=(av 0)) (tt:=aR) (te:=(xO jx)) rfl (bK rfl (by decide +kernel) (by decide +kernel) rfl rfl rfl) (bW rfl T.n_7 (aa (ax az (pv 1) ad (λ_ _=>rfl)) ae)) (λ_ _ _ _ _ _=>(pgN 0 wC)) (aE rfl) (λ_ _ _ _ _ _=>aU) (λ_ _ _ _ _ _=>(bU ae))) rfl)
  (ak (bG Wq rfl (iC rfl T.n_1 (pv 2)) (bM rfl (ay (pgN 4 dF.nd) (ay (pgN 5 dF.nd) bf))) (ak (bG Wq rfl (bW rfl T.n_7 (aa (aB aA rfl T.n_3 Wi (aa (pv 3) ae)) ae)) (pgN 6 dF.nd) (ak (aY (fL (pv 0) T.cl_Ways T.g_15.me (jU T) (hr.mono (by first|decide|lia)) T.g_15.b .nil cV (aa (pv 4) (aa (pv 6) (aa (pcF T.g_11 (jJ T) hr (aa (pv 5) (aa (pv 3) (aa (pv 6) ae)))) ae)))))))))))))),?_⟩
 try dsimp only[zy,yY]
 refine⟨_,D?,ka,_,0,.str nm,D?,D?,i! zJ,at0,_,D?,x,T.e_Ways,dx,_,D?,ex,T.cl_Ways,T.na_Ways_kind_name,(by show 0<1000;decide),?_⟩;have b1:SameB x H (upd H x (.ins T.e_Ways dx (aO (VE "kind_name") (.str nm) []))):=C!;have x1:(upd H x (.ins T.e_Ways dx (aO (VE "kind_name") (.str nm) []))) x=A? (.ins T.e_Ways dx (aO (VE "kind_name") (.str nm) [])):=ac
 have fr:∀{H1:Hp}{o:HO},SameB x H H1->H1 x=A? o->∀b,H1 b=AQ->H b=AQ/\b≠x:=λ{H1 o}s e b z=>by
  have hb:b≠x:=λy=>by rw[y,e]at z;cases z
  refine⟨?_,hb⟩;cases y:H b with
  |none=>rfl
  |some u=>rw[s b u hb y]at z;cases z
 generalize(upd H x (.ins T.e_Ways dx (aO (VE "kind_name") (.str nm) [])))=H1 at b1 x1 |-;refine⟨lnE rfl,λpl Am=>?_⟩;obtain⟨PN,K4⟩:=fr b1 x1 pl Am;refine⟨_,D?,x,T.e_Ways,dx,_,D?,(af K4.symm).trans x1,T.cl_Ways,T.na_Ways_pairs,(by show 1<1000;decide),?_⟩;have b2:SameB x H (upd (upd H1 pl (.lst [])) x (.ins T.e_Ways dx (aO (VE "pairs") (.ref pl) (aO (VE "kind_name") (.str nm) [])))):=b1.trans ((z! (ao Am _)).trans C!);have x2:(upd (upd H1 pl (.lst [])) x (.ins T.e_Ways dx (aO (VE "pairs") (.ref pl) (aO (VE "kind_name") (.str nm) [])))) x=A? (.ins T.e_Ways dx (aO (VE "pairs") (.ref pl) (aO (VE "kind_name") (.str nm) []))):=ac;have p2:(upd (upd H1 pl (.lst [])) x (.ins T.e_Ways dx (aO (VE "pairs") (.ref pl) (aO (VE "kind_name") (.str nm) [])))) pl=A? (.lst []):=(af K4).trans ac;generalize(upd (upd H1 pl (.lst [])) x (.ins T.e_Ways dx (aO (VE "pairs") (.ref pl) (aO (VE "kind_name") (.str nm) []))))=H2 at b2 x2 p2 |-;have kx:ka≠x:=aH zJ ex (λz=>nomatch z);refine⟨_,D?,ka,_,1,.int (m:Nat),D?,D?,i! (b2 _ _ kx zJ),at1,(m:Nat),D?,by lia,by lia,?_⟩;rw[VQ];refine oG (n:=m) (o:=.dT []) (by lia) (λi H3 R _ hR=>λd hd=>hR d hd) λnl H3 ds CO s3 e3 dl SW AD=>?_;obtain⟨SX,PQ⟩:=fr b2 x2 nl CO;refine⟨_,D?,x,T.e_Ways,dx,_,D?,s3 _ _ x2,T.cl_Ways,T.na_Ways_needing,(by show 2<1000;decide),?_⟩;have b3:=b2.trans (z! s3)
 have K5:∀d∈ds,d≠x/\H d=none:=λd hd=>by
  obtain⟨h1,h2,h3⟩:=AD d hd;obtain⟨h4,h5⟩:=fr b2 x2 d h2;exact⟨h5,h4⟩
 have b4:SameB x H (upd H3 x (.ins T.e_Ways dx (aO (VE "needing") (.ref nl) (aO (VE "pairs") (.ref pl) (aO (VE "kind_name") (.str nm) []))))):=b3.trans C!;have x4:(upd H3 x (.ins T.e_Ways dx (aO (VE "needing") (.ref nl) (aO (VE "pairs") (.ref pl) (aO (VE "kind_name") (.str nm) []))))) x=A? (.ins T.e_Ways dx (aO (VE "needing") (.ref nl) (aO (VE "pairs") (.ref pl) (aO (VE "kind_name") (.str nm) [])))):=ac;have p4:(upd H3 x (.ins T.e_Ways dx (aO (VE "needing") (.ref nl) (aO (VE "pairs") (.ref pl) (aO (VE "kind_name") (.str nm) []))))) pl=A? (.lst []):=(af K4).trans (s3 _ _ p2);have n4:(upd H3 x (.ins T.e_Ways dx (aO (VE "needing") (.ref nl) (aO (VE "pairs") (.ref pl) (aO (VE "kind_name") (.str nm) []))))) nl=A? (.lst (ds.map k!)):=(af PQ).trans e3;have d4:∀d∈ds,(upd H3 x (.ins T.e_Ways dx (aO (VE "needing") (.ref nl) (aO (VE "pairs") (.ref pl) (aO (VE "kind_name") (.str nm) []))))) d=A? (.dT (dE [])):=λd hd=>(af (K5 d hd).1).trans (AD d hd).1;generalize(upd H3 x (.ins T.e_Ways dx (aO (VE "needing") (.ref nl) (aO (VE "pairs") (.ref pl) (aO (VE "kind_name") (.str nm) [])))))=H4 at b4 x4 p4 n4 d4 |-;refine⟨_,D?,ka,_,1,.int (m:Nat),D?,D?,i! (b4 _ _ kx zJ),at1,(m:Nat),D?,by lia,by lia,?_⟩;rw[VQ];refine oG (n:=m) (o:=.lst []) (by lia) (λi H5 R _ hR=>⟨lnE rfl,λd hd=>hR d hd⟩) λal H5 as An s5 e5 SY and' has=>?_;obtain⟨S3,S4⟩:=fr b4 x4 al An;refine⟨_,D?,x,T.e_Ways,dx,_,D?,s5 _ _ x4,T.cl_Ways,T.na_Ways_agreeing,(by show 3<1000;decide),?_⟩
 have PR:∀a∈as,a≠x/\H a=none:=λa ha=>by
  obtain⟨h1,h2,h3⟩:=has a ha;obtain⟨h4,h5⟩:=fr b4 x4 a h2;exact⟨h5,h4⟩
 rw[uW nm pl nl al];have S5:pl≠nl:=λz=>by rw[z,CO]at p2;cases p2
 have S6:pl≠al:=λz=>by rw[z,An]at p4;cases p4
 have S7:nl≠al:=λz=>by rw[z,An]at n4;cases n4
 obtain⟨md,ma,me⟩:=ui (ds:=ds) (as:=as) (dl.trans SY.symm);have z8:∀k∈ik ds as,k.d∈ds/\k.a∈as:=λk hk=>⟨by rw[<-md];exact VX.mpr ⟨k,hk,rfl⟩,by rw[<-ma];exact VX.mpr ⟨k,hk,rfl⟩⟩
 have zU:(ik ds as).length=m:=by
  have:=h! Xd md;rw[Vu]at this;exact this.trans dl
 have b6:SameB x H (upd H5 x (.ins T.e_Ways dx (wyF nm pl nl al))):=b4.trans ((z! s5).trans C!)
 have G3:WyAt T.e_Ways (upd H5 x (.ins T.e_Ways dx (wyF nm pl nl al))) ⟨x,dx,nm,pl,nl,al,[],ik ds as⟩:=by
  refine⟨ac,(af K4).trans (s5 _ _ p4),(by intro q hq;cases hq),?_,?_,λk hk=>?_,λk hk=>?_,S5,S6,S7,λk hk=>?_,?_,?_⟩
  .have:=h! (Zh k!) md;rw[Wk]at this;exact((af PQ).trans (s5 _ _ n4)).trans (h! (λz=>A? (HO.lst z)) this.symm)
  .have:=h! (Zh k!) ma;rw[Wk]at this;exact((af S4).trans e5).trans (h! (λz=>A? (HO.lst z)) this.symm)
  .have h1:=(z8 k hk).1;rw[(me k hk).1];exact(af (K5 _ h1).1).trans (s5 _ _ (d4 _ h1))
  .have h1:=(z8 k hk).2;rw[(me k hk).2];exact(af (PR _ h1).1).trans (has _ h1).1
  .obtain⟨_,h2,h3⟩:=has _ (z8 k hk).2;exact⟨λz=>(by rw[z,p4]at h2;cases h2),λz=>(by rw[z,n4]at h2;cases h2),h3⟩
  .exact(h! List.Nodup ma).mpr and'
  .exact(h! List.Nodup md).mpr SW
 have F9:∀b∈pl::ds,H b=none:=λb hb=>by
  rcases VS.mp hb with rfl|hb
  .exact PN
  .exact(K5 b hb).2
 have G6:WI T.e_Ways H ⟨x,dx,nm,pl,nl,al,[],ik ds as⟩ Ls pats (upd H5 x (.ins T.e_Ways dx (wyF nm pl nl al))) ⟨x,dx,nm,pl,nl,al,[],ik ds as⟩ [] (λ_ _=>False) 0 :=
  ⟨b6,G3,⟨rfl,rfl,rfl,rfl,rfl⟩,rfl,WSp.nil _ _,rfl,λk kd hk=>by
   have:=(me kd (Vx hk)).1;rw[this];exact⟨NeedT.nil k,Wh _⟩,Wh _⟩
 generalize(upd H5 x (.ins T.e_Ways dx (wyF nm pl nl al)))=H6 at G6 |-
 have PU:∀w:Wy,w.ks.map Kd.sh=(ik ds as).map Kd.sh->w.ks.map (·.d)=ds/\w.ks.map (·.a)=as/\(∀k∈w.ks,k.ag=[])/\w.ks.length=m:=λw h=>by
  have h1:=h! (Zh (·.1)) h;have h2:=h! (Zh (·.2.1)) h;have h3:=h! Xd h;rw[Wk,Wk]at h1 h2;rw[Vu,Vu]at h3;refine⟨(show w.ks.map (·.d)=(ik ds as).map (·.d)from h1).trans md,(show w.ks.map (·.a)=(ik ds as).map (·.a)from h2).trans ma,λk hk=>?_,h3.trans zU⟩;obtain⟨k',zt,e⟩:=VX.mp (h ▸ VX.mpr ⟨k,hk,rfl⟩);have e2:k'.ag=k.ag:=h! (λz:Vy×Vy×List Int=>z.2.2) e;rw[<-e2];exact(me k' zt).2
 clear G3 b6 b4 x4 p4 n4 d4 b3 s3 s5 AD has;have PV:pa≠x:=aH C3 ex (λz=>nomatch z);refine⟨_,D?,pa,D?,⟨_,l! (G6.sb _ _ PV C3)⟩,?_⟩
 refine gJ (K:=K) (a:=pa) (xs:=F8.map k!) (λi σ H7=>Ex5 λ(c4 c5 c6:Option V)(w:Wy)(Ws:List cu)=>An2 (σ=[A? (.ref x),A? (.ref ka),A? (.ref pa),A? (.ref rt),c4,c5,c6]) (WI T.e_Ways H ⟨x,dx,nm,pl,nl,al,[],ik ds as⟩ Ls pats H7 w Ws (λs _=>s<i) (i * Ls.length)))
  ⟨AQ,AQ,AQ,_,[],rfl,G6.same (λ_ _ e=>e) (λs _ _ _ h=>by lia) (Wh _)⟩ (λi σ H7 _⟨_,_,_,_,_,_,h⟩=>l! (h.sb _ _ PV C3)) ?_ ?_
 .rintro i x' p σ H7 hx hp ⟨c4,c5,c6,w,Ws,rfl,hI⟩;rw[VA]at hx;refine hid λZZ kZ=>?_;obtain⟨pi,Nq,rfl⟩:=V1.mp hx;obtain⟨pat,BJ,DV⟩:=BW.get Nq;have KD:=Vx BJ;have Ab:=(glE BJ);obtain⟨S8,hsz,Bi⟩:=zW.ap pat KD;refine kZ ?_;refine gU hp λH8 s8 ep=>?_;have Nr:∀{H9:Hp},SameB x H H9->KT H H9:=λ{H9}s b xs e=>s b _ (aH e ex (λz=>nomatch z)) e
  have Nt:cs.length=Ls.length:=by
   have h1:To.length=cs.length:=VZ zW.to;rw[<-h1,zW.cl.len]
  refine⟨p,_,D?,i! ep,D?,_,_,D?,_,_,D?,D?,?_⟩;dsimp only[av];have Nu:SameB x H H8:=hI.sb.trans (z! s8)
  have Vg:Ls.length<=4000:=by
   have h1:=zW.hS;have h2:=zW.big;have:1 * Ls.length<=S * Ls.length:=Yg _ (by lia);lia
  refine⟨_,D?,rt,_,D?,.inr (i! (Nr Nu _ _ zW.rt)),_,D?,by lia,by rw[Vu];lia,?_⟩;rw[Vu,VQ,Nt]
  refine cw (lo:=0) (n:=Ls.length) (λj σ H9=>Ex3 λ(c6:Option V)(w:Wy)(Ws:List cu)=>An2 (σ=[A? (.ref x),A? (.ref ka),A? (.ref pa),A? (.ref rt),A? (.int (i:Nat)),A? (.ref pi),c6]) (WI T.e_Ways H ⟨x,dx,nm,pl,nl,al,[],ik ds as⟩ Ls pats H9 w Ws (λs pt=>s<i\/(s=i/\pt<j)) (i * Ls.length+j)))
   ⟨c6,w,Ws,rfl,hI.same s8 (λs pt _ _ h=>by lia) (VG _)⟩ ?_ ?_
  .rintro j σ H9 hj ⟨c6,w,Ws,rfl,Al⟩;rw[Int.zero_add];refine hid λZZ kZ=>?_;obtain⟨u,hu⟩:∃u,Ls[j]?=A? u:=⟨_,Vw hj⟩;have Ju:=zW.mono (Nr Al.sb);have S9:=DV.mono (Nr Al.sb);obtain⟨g1,g2,g3,g4,g5⟩:=Al.eq;obtain⟨h1,h2,h3,h4⟩:=PU w Al.sh;refine kZ ?_
   have B1:Ws.length<=5000:=by
    have q1:=Al.len;have q2:(i+1) * Ls.length<=S * Ls.length:=Yg _ (by have:=zW.hS;lia);have q3:=zW.big;rw[ZH]at q2;lia
   have Nv:∀{GF:Hp},j! H9 GF->WyAt T.e_Ways GF w:=λs=>Al.wa.same s;refine⟨_,D?,x,w.dx,_,D?,by rw[<-(show w.x=x from g1)];exact Al.wa.ins,gq,_,D?,_,D?,_,D?,_,D?,_,D?,pi,rt,j,pat,u,cs,To,Ls,ar,D?,S9,Ju.rt,Ju.to,zW.cl,hu,S8,zW.aL,by lia,λGF EJ zp=>?_,λd L GF EJ Cc ed hL=>?_⟩
   .refine⟨w,_,_,_,Ws,by rw[g1];rfl,Nv EJ,Al.psl,B1,Al.nt,.inl ⟨D?,?_⟩⟩;refine⟨_,w,Ws,D?,⟨Al.sb.trans (z! EJ),Nv EJ,Al.eq,Al.sh,(Al.sp.none BJ hu zp).congr λs pt _ _ h=>?_,Al.ps,Al.nt,by have:=Al.len;lia⟩⟩;lia
   .have Ec:d∉w.ks.map (·.d):=λz=>by
     obtain⟨kd,hm,e⟩:=VX.mp z;have:=Al.wa.nd kd hm;rw[e,Cc]at this;cases this
    refine⟨w,_,_,_,Ws,by rw[g1];rfl,Nv EJ,Al.psl,B1,Al.nt,.inr ⟨d,L,D?,ed,Ec,by have:=lU hL;lia,λe he=>?_,λQY a za Ta Nw Tc Eb=>?_⟩⟩
    .obtain⟨k',e1,e2⟩:=(Bi _ _ (hL.ok e he).2).1;exact⟨k',e1,by lia⟩
    .refine⟨_,_,Ws++[(_,_,L)],D?,⟨?_,Nw,⟨g1,g2,g3,g4,g5⟩,Eb.trans Al.sh,(Al.sp.add BJ hu hL).congr λs pt _ _ h=>?_,?_,?_,?_⟩⟩
     .intro b o hb e;refine Ta b o (λz=>?_) (EJ _ _ (Al.sb b o hb e));rw[h1,g3]at z;rw[F9 b z]at e;cases e
     .lia
     .rw[V3,V3,Al.ps];rfl
     .intro k kd hk;rw[VJ,Wa];exact Tc k kd hk
     .rw[VJ,Wa];have:=Al.len;lia
  .rintro σ H9 ⟨c6,w,Ws,rfl,Al⟩;refine⟨_,_,_,w,Ws,D?,Al.same (λ_ _ e=>e) (λs pt _ FL h=>?_) (by rw[ZH];exact VG _)⟩;obtain⟨u,hu⟩:=FL;have:=(glE hu);lia
 .rintro σ H7 ⟨c4,c5,c6,w,Ws,rfl,hI⟩;refine hid λZZ kZ=>?_;obtain⟨h1,h2,h3,h4⟩:=PU w hI.sh;obtain⟨g1,g2,g3,g4,g5⟩:=hI.eq;refine kZ ?_;have Am:pats.length=F8.length:=BW.length.symm;refine q w H7 Ws g1 g2 hI.sb hI.wa h4 h3 ⟨hI.sp.congr λs pt hs _ _=>?_,hI.ps,hI.nt,?_⟩ λb hb=>?_
  .obtain⟨p,hp⟩:=hs;have:=(glE hp);rw[Vu];lia
  .have:=hI.len;rw[Vu,<-Am,zW.hS]at this;exact Wz this zW.big
  .rw[h1,h2,g3,g4,g5]at hb;simp only[VS,VP]at hb;rcases hb with rfl|rfl|rfl|hb|hb
   .exact PN
   .exact SX
   .exact S3
   .exact(K5 b hb).2
   .exact(PR b hb).2
inductive gb(CT CW CM:Vy)(vs:List V)(H:Hp)(Q:VK)(E:XK):Prop
 |mk (tb:Tb) (w:Wy) (b:Int) (n:Nat) (ka:Vy) (ks:List Nat):vs=[.ref tb.x,.ref w.x,.int b,.int (n:Nat),.ref ka]->TbAt CT CW H tb->w∈tb.ws->H ka=A? (.tup (ks.map nW))->(∀k∈ks,k<tb.settled.length)->ks.length<=3->0<=b->(∀q∈w.ps,∃s:Nat,q.1=(s:Int)/\s<tb.S)->w.ps.length<=1000000->tb.S<=100000->(tb.found.map (·.note)).Nodup->tb.found.length<=30->w.nm≠q->(∀(note:List Int)(H':Hp),NoteBy w.ps b tb.S w.ps.length note->note∉tb.found.map (·.note)->tb.found.length=30->j! H H'->E (.ref CM) AQ H')->(∀(c:NtE)(H':Hp)(F':List NtE),NoteBy w.ps b tb.S w.ps.length c.note->c.n=n+1->c.t=.knot w.nm (aG tb.settled ks)->Entd tb.found c F'->SameB tb.fd H H'->TbAt CT CW H' {tb with found:=F'}->Q .non H')->gb CT CW CM vs H Q E
theorem fV:bj P w K mg base (CX1 P w) 2 T.g_21.f T.g_21.d ["self","ways","bits","knots","kids"] (gb T.e_Table T.e_Ways T.e_Many):=by
 refine T.g_21.F.ok1 d7 (λvs H Q E h=>?_) (λzb A outer s H vs Q E hr h=>?_)
 .obtain⟨tb,w,b,n,ka,ks,rfl,_⟩:=h;rfl
 obtain⟨tb,w,b,n,ka,ks,rfl,ht,E2,zJ,zO,zU,hb,zF,BW,hS,A',Vh,IG,qE,q⟩:=h
 refine⟨_,(aj (am 5 d7.nd (fL (pv 1) T.cl_Ways T.g_19.me (jT T) (hr.mono (by first|decide|lia)) T.g_19.b .nil cV (aa (pv 2) (aa (bD (pv 0) rfl) ae))))
  (aj (bE (N! (dP (m7 (gE (dA hr) (pv 5) (bD (pv 0) rfl))) (da (aC cL (aB ju rfl T.n_3 Wi (aa (bD (pv 0) rfl) ae)) (nw (v:=.int (30)) rfl T.c_MOST_NOTES.choose_spec ⟨_,D?⟩) (aJ _))))) (ak (tH T.X_Many T.x_Many il)) aT)
  (ak (bE (N! (mm (m7 (gE (dA hr) (pv 5) (bD (pv 0) rfl))) (kA (aC fc (aq bC (pv 3) ad) (ax az (iE (dA hr) (bD (pv 0) rfl) (pv 5) (λ_ _=>rfl)) ad (λ_ _=>rfl)) (aJ _))))) (aj (am 6 d7.nd (aq m9 (bc (aa (bD (pv 1) rfl) ae)) (b8 bz rfl T.n_10 WN (aa (bd (N:=["kid","self"]) (js:=[AQ,A? 0]) (g:=(av 0)) (tt:=aR) (te:=(tOp (eg K) (tOp (ya K) (yj K (bB 1) "settled") (bB 0)) (tC (.int 2)))) rfl (bK rfl (by decide +kernel) (by decide +kernel) rfl rfl rfl) (b9 (pv 4)) (λ_ _ _ _ _ _=>(pgN 0 yT)) (aE rfl) (λ_ _ _ _ _ _=>aU) (λ_ _ _ _ _ _=>(ax az (ax aS (bD (pv 1) rfl) (pv 0) (λ_ _=>rfl)) ad (λ_ _=>rfl)))) ae))))
  (ak (jZ (dA hr) (bD (pv 0) rfl) (pv 5) (bc (aa (aq bC (pv 3) ad) (aa (pv 5) (aa (pv 6) ae)))) rfl))) aT)))),?_⟩
 try dsimp only[zy,yY]
 have AI:=ht.wa w E2;refine⟨_,D?,w.x,w.dx,_,D?,AI.ins,gq,_,D?,_,D?,tb.x,T.e_Table,tb.dx,_,_,D?,ht.ins,T.cl_Table,T.na_Table_states,yh,w,b,tb.S,D?,AI,BW,hS,hb,zF,λr note H1 s1 er hN=>?_⟩;dsimp only[av];have Ai:=ht.same s1;have ek:H1 r=A? (.tup ((f9 note).map kV)):=by rw[sX];exact er
 refine aN (λi' H'=>i'=[A? (.ref tb.x),A? (.ref w.x),A? (.int b),A? (.int (n:Nat)),A? (.ref ka),A? (.ref r),AQ]/\H'=H1/\(note∉tb.found.map (·.note)->tb.found.length≠30)) (λkk hk=>?_) ?_
 .refine⟨_,D?,_,D?,tb.x,T.e_Table,tb.dx,_,_,D?,Ai.ins,T.cl_Table,T.na_Table_found,kW,tb.fd,_,D?,DGet.t Ai.fd ek,_,D?,?_⟩;cases hv:bT (nfv tb.found) (f9 note)with
  | some v =>
    refine hid λZZ kZ=>?_;obtain⟨i,e,h1,h2,_⟩:=qK hv;refine kZ ?_;exact cz (cz (hk _ _ ⟨rfl,rfl,λz=>g! (VX.mpr ⟨e,Vx h1,h2⟩) z⟩))
  | none =>
    refine dm ⟨_,rfl,tb.x,T.e_Table,tb.dx,_,_,rfl,Ai.ins,T.cl_Table,T.na_Table_found,kW,tb.fd,_,rfl,Ai.fd,rfl,_,rfl,?_⟩;rw[j8];by_cases z:tb.found.length=30
    .rw[d! (show o! ((tb.found.length:Nat):Int)=o! 30 by rw[z];rfl)];exact dm (qE note H1 hN (kB hv) z s1)
    .rw[c! (show¬o! ((tb.found.length:Nat):Int)=o! 30 fromλy=>z (by injection y with y;lia))];exact cz (hk _ _ ⟨rfl,rfl,λ_=>z⟩)
 rintro i' H' ⟨rfl,rfl,GU⟩;refine cn (λb' CP=>CP=H'/\(b'=B?->∃F':NtE->List NtE,∀c:NtE,c.note=note->c.n=n+1->putK (nfv tb.found) (f9 c.note) (.ref c.a)=nfv (F' c)/\Entd tb.found c (F' c))/\(b'=C?->∃e∈tb.found,e.note=note/\e.n<=n+1)) (λk2 zm=>?_) ?_ ?_
 .refine⟨_,D?,_,D?,tb.x,T.e_Table,tb.dx,_,_,D?,Ai.ins,T.cl_Table,T.na_Table_found,kW,tb.fd,_,D?,DGet.t Ai.fd ek,_,D?,?_⟩;cases hv:bT (nfv tb.found) (f9 note)with
  | none =>
    refine dm (zm _ _ ⟨rfl,λ_=>⟨λc=>tb.found++[c],λc hc _=>?_⟩,λz=>(nomatch z)⟩);subst hc;exact⟨u5 hv,.add (kB hv) (GU (kB hv))⟩
  | some v =>
    obtain⟨i,e,h1,h2,rfl⟩:=qK hv;have DD:=Vx h1;have Nx:=Ai.fe e DD;refine cz ⟨_,rfl,_,_,rfl,rfl,_,rfl,tb.x,T.e_Table,tb.dx,_,_,rfl,Ai.ins,T.cl_Table,T.na_Table_found,kW,_,rfl,tb.fd,_,rfl,by rw[<-hv];exact DGet.t Ai.fd ek,e.a,_,0,.int (e.n:Nat),rfl,rfl,i! Nx.a,at0,_,_,rfl,rfl,_,rfl,?_⟩;by_cases z:n+1<e.n
    .rw[d! (show(n:Int)+1<(e.n:Int)by lia)];refine zm _ _ ⟨rfl,λ_=>⟨λc=>tb.found.set i c,λc hc F3=>?_⟩,λz=>(nomatch z)⟩;subst hc;exact⟨uR A' h1 h2,.set i e h1 h2 (by lia)⟩
    .rw[c! (show¬(n:Int)+1<(e.n:Int)by lia)];exact zm _ _ ⟨rfl,λz=>(nomatch z),λ_=>⟨e,DD,h2,by lia⟩⟩
 .rintro CP ⟨rfl,hF,_⟩;obtain⟨F',Td⟩:=hF rfl;refine aN (λPX H5=>Ex1 λtr=>An3 (PX=[A? (.ref tb.x),A? (.ref w.x),A? (.int b),A? (.int (n:Nat)),A? (.ref ka),A? (.ref r),A? (.ref tr)]) (j! CP H5) (At H5 (.knot w.nm (aG tb.settled ks)) tr)) (λkk hk=>?_) ?_
  .refine⟨_,D?,w.x,T.e_Ways,w.dx,_,_,D?,(Ai.wa w E2).ins,T.cl_Ways,T.na_Ways_kind_name,xQ,lnE rfl,λp1 Aq=>?_⟩;refine gU Aq λH2 s2 PY=>?_;have Ga:=Ai.same s2;have Jv:=s2 _ _ (s1 _ _ zJ);refine⟨_,D?,ka,D?,⟨_,i! Jv⟩,bY ks (λk=>k! (((tb.settled[k]?).map (·.ta)).getD 0)) (i! Jv) (by rw[Vu]) (by rw[Vu];lia) (λi x z H3 R W' hx hz s3 hR=>?_) (λD H3 hD s3 e3=>?_)⟩
   .rw[VA,hz]at hx;cases hx;have K6:=zO z (Vx hz);have ez:=Vw K6;have Ny:=Ga.same s3;have Te:=Ny.se _ (WQ K6);refine⟨_,D?,tb.x,T.e_Table,tb.dx,_,_,D?,Ny.ins,T.cl_Table,T.na_Table_settled,mD,_,D?,tb.st,_,(z:Int),.ref (tb.settled[z]).a,D?,D?,l! Ny.st,bu (j:=z) (gmE ez),_,_,2,.ref (tb.settled[z]).ta,D?,D?,i! Te.a,at2,?_⟩;have:=hR H3 (λ_ _ e=>e);rw[ez]at this;exact this
   .have KR:=qY (H:=H3) zO λe he=>((Ga.same s3).se e he);refine⟨D,_,D?,.inl ⟨l! e3,λp2 zC=>?_⟩⟩;refine gU zC λH4 s4 DB=>?_;have K7:(ks.map λk=>k! (((tb.settled[k]?).map (·.ta)).getD 0))=(ks.map λk=>((tb.settled[k]?).map (·.ta)).getD 0).map k!:=by rw[Wk];rfl
    have E3:=s2.trans (s3.trans s4)
    have mk:∀(tr:Vy)(H5:Hp),j! H4 H5->H5 tr=A? (.tup (.str w.nm::(ks.map λk=>k! (((tb.settled[k]?).map (·.ta)).getD 0))))->At H5 (.knot w.nm (aG tb.settled ks)) tr:=λtr H5 s5 e5=>by
     rw[K7]at e5;rw[At];exact⟨IG,_,e5,KR.mono (n! (s4.trans s5))⟩
    refine⟨p1,p2,_,_,D?,D?,i! (s4 _ _ (s3 _ _ PY)),i! DB,by simp,XH (bp (by rw[Vu];show 1+_<=1000000;lia)),λF2=>?_,λ_ p3 DA=>?_⟩
    .refine hk _ _ ⟨p1,rfl,E3,mk p1 H4 (λ_ _ e=>e) ?_⟩;rw[F2];exact s4 _ _ (s3 _ _ PY)
    .exact hk _ _ ⟨p3,rfl,E3.trans (ao DA _),mk p3 _ (ao DA _) ac⟩
  rintro PX H5 ⟨tr,rfl,s5,Tf⟩;refine⟨_,D?,_,_,D?,D?,_,D?,_,D?,lnE rfl,λpe Tg=>?_⟩;refine gU Tg λH6 s6 Ti=>?_;have E4:=s5.trans s6;have K8:=Ai.same E4;refine⟨_,D?,tb.x,T.e_Table,tb.dx,_,_,D?,K8.ins,T.cl_Table,T.na_Table_found,kW,_,D?,tb.fd,_,D?,DPut.t K8.fd (E4 _ _ ek) (bp (by rw[j8];lia)),?_⟩;have hc:=Td ⟨n+1,note,.knot w.nm (aG tb.settled ks),pe,r,tr⟩ rfl rfl;have h1:=hc.1;dsimp only at h1;rw[h1];refine q ⟨n+1,note,.knot w.nm (aG tb.settled ks),pe,r,tr⟩ _ _ hN rfl rfl hc.2 ((z! (s1.trans E4)).trans C!) (K8.setFound λe he=>?_);rcases hc.2.mem e he with he|rfl
  .exact K8.fe e he
  .exact⟨Ti,E4 _ _ er,Tf.mono (n! s6)⟩
 .rintro CP ⟨rfl,_,hF⟩;refine hid λZZ kZ=>?_;obtain⟨e,he,h1,h2⟩:=hF rfl;refine kZ ?_;exact q ⟨n+1,note,.knot w.nm (aG tb.settled ks),0,0,0⟩ CP tb.found hN rfl rfl (.keep e he h1 h2) (z! s1) Ai
inductive f6(CT CW CM:Vy)(vs:List V)(H:Hp)(Q:VK)(E:XK):Prop
 |mk (tb:Tb) (e:NtE) (ins:List (V5×Int)) (rows:List (List Th)) (Ls:List Th) (old:List NtE) (cl:V5->List Nat->Prop):vs=[.ref tb.x,.ref e.a]->TbAt CT CW H tb->TInv ins rows Ls old tb.ws.length cl tb->GoodN ins->Ls.Nodup->tb.S<=100000->e∈tb.found->e∉tb.settled->(∀y∈tb.found,y∉tb.settled->keyLt y.key e.key=C?)->(∀H',FrB tb.mut H H'->Over ins rows Ls->E (.ref CM) AQ H')->(∀(zl:Tb)(H':Hp),FrB tb.mut H H'->TbAt CT CW H' zl->zl.x=tb.x->zl.settled=tb.settled++[e]->zl.mut=tb.mut->zl.ws.length=tb.ws.length->TInv ins rows Ls tb.settled zl.ws.length (λnm ks=>(cl nm ks/\∀k∈ks,k<tb.settled.length)\/((∃m:Nat,ins[m]?=A? (nm,((ks.length:Nat):Int)))/\(∀n∈ks,n<=tb.settled.length)/\tb.settled.length∈ks)) zl->Q .non H')->f6 CT CW CM vs H Q E
theorem i7:bj P w K mg base (CX1 P w) 4 T.g_22.f T.g_22.d ["self","entry"] (f6 T.e_Table T.e_Ways T.e_Many):=by
 refine T.g_22.F.ok1 bV (λvs H Q E h=>?_) (λzb A outer s H vs Q E hr h=>?_)
 .obtain⟨tb,e,ins,rows,Ls,old,cl,rfl,_⟩:=h;rfl
 obtain⟨tb,e,ins,rows,Ls,old,cl,rfl,ht,hI,hg,A',hS,K9,B9,Cb,qE,q⟩:=h
 refine⟨_,(aj (aY (cB V7 Wo Wn bq (bD (pv 0) rfl) (aa (pv 1) ae)))
  (aj (dC (i:=2) (N:=["knots","note","tree"]) (js:=[AQ,AQ,AQ]) (g:=(lI K 3 (cJ (av 0) (cJ (av 1) (cJ (av 2) lH))))) (tt:=aR) (te:=(bB 0)) bV.nd rfl (Z9 rfl) rfl (bK rfl (by decide +kernel) (by decide +kernel) rfl rfl rfl) (bX (bD (pv 0) rfl)) (λ_ _ _ _ _ _=>(bM rfl (ay (pgN 0 nD) (ay (pgN 1 nD) (ay (pgN 2 nD) bf))))) (jj (ck bA (aE rfl) (ck bA (aE rfl) (ck bA (aE rfl) jf)))) (λ_ _ _ _ _ _=>aU) (λ_ _ _ _ _ _=>(pv 0)))
  (ak (bG Zw rfl (bX (bD (pv 0) rfl)) (pgN 3 bV.nd) (aj (aY (fL (pv 3) T.cl_Ways T.g_17.me (iX T) (hr.mono (by first|decide|lia)) T.g_17.b .nil cV (aa (ax az (pv 1) ad (λ_ _=>rfl)) ae)))
  (ak (gF (bG Zw rfl (ll (fL (pv 3) T.cl_Ways T.g_18.me (iZ T) (hr.mono (by first|decide|lia)) T.g_18.b .nil cV (aa (aq gg (aB aA rfl T.n_3 Wi (aa (pv 2) ae)) ad) (aa (pv 2) ae)))) (bM rfl (ay (pgN 4 bV.nd) (ay (bM rfl (ay (pgN 5 bV.nd) (ay (pgN 6 bV.nd) bf))) bf))) (ak (aY (fL (pv 0) T.cl_Table T.g_21.me (fV T) (hr.mono (by first|decide|lia)) T.g_21.b .nil n5 (aa (pv 3) (aa (pv 4) (aa (pv 5) (aa (pv 6) ae))))))))))))))),?_⟩
 try dsimp only[zy,yY]
 obtain⟨G6,Nz⟩:=hI.settle K9 B9 Cb;have Nx:=ht.fe e K9;have GU:(tb.settled++[e]).length<=30:=G6.p.s30;rw[VJ,Wa]at GU;refine⟨_,D?,tb.x,T.e_Table,tb.dx,_,_,D?,ht.ins,T.cl_Table,T.na_Table_settled,mD,.inl ⟨D?,_,l! ht.st⟩,_,D?,tb.st,_,_,D?,D?,ht.st,lbE (by lia),?_⟩;have f1:FrB tb.mut H (upd H tb.st (.lst ((tb.settled.map λe=>k! e.a)++[.ref e.a]))):=M! (by unfold Tb.mut;simp);have Ai:=ht.push Nx;generalize(upd H tb.st (.lst ((tb.settled.map λe=>k! e.a)++[.ref e.a])))=H1 at f1 Ai |-;refine⟨_,D?,tb.x,T.e_Table,tb.dx,_,_,D?,Ai.ins,T.cl_Table,T.na_Table_settled,mD,tb.st,D?,⟨_,l! Ai.st⟩,iY (tb.settled++[e]) (λy=>o! (y.n:Nat)) (l! Ai.st) (by rw[Vu]) (by rw[Vu,VJ,Wa];lia) (λi x z H2 R W' hx hz s2 hR=>?_) (λsz H2 hsz s2 G2=>?_)⟩
 .rw[VA,hz]at hx;cases hx;have Jw:=(Ai.same s2).se z (Vx hz);refine⟨z.a,_,D?,i! Jw.a,D?,_,_,D?,_,_,D?,_,_,D?,D?,?_⟩;exact⟨_,D?,hR H2 (λ_ _ e=>e)⟩
 dsimp only[av];have Ga:=Ai.same s2
 have NA:sz∉tb.mut:=λz=>by
  have DF:∀{b:Vy}{o:HO},H1 b=A? o->b≠sz:=λe z=>by rw[z,hsz]at e;cases e
  unfold Tb.mut at z;rcases VS.mp z with z|z
  .exact DF Ai.fd z.symm
  .rcases VS.mp z with z|z
   .exact DF Ai.st z.symm
   .obtain⟨v,hv,z⟩:=Yu.mp z;obtain⟨kd,z8,z⟩:=VX.mp z;exact DF ((Ai.wa v hv).ag kd z8) z
 refine⟨_,D?,tb.x,T.e_Table,tb.dx,_,_,D?,Ga.ins,T.cl_Table,T.na_Table_ways,vI,tb.wl,D?,⟨_,l! Ga.wl⟩,?_⟩
 refine fj (K:=K) (a:=tb.wl) (xs:=tb.ws.map λw=>k! w.x) (λi σ H3=>Ex5 λ(c3 c4 c5 c6:Option V)(zl:Tb)=>An5 (σ=[A? (.ref tb.x),A? (.ref e.a),A? (.ref sz),c3,c4,c5,c6]) (FrB tb.mut H2 H3) (TbAt T.e_Table T.e_Ways H3 zl) ((zl.x=tb.x/\zl.settled=tb.settled++[e]/\zl.mut=tb.mut/\zl.ws.map (·.x)=tb.ws.map (·.x)/\zl.wl=tb.wl)) (TInv ins rows Ls tb.settled i (λnm ks=>(cl nm ks/\∀k∈ks,k<tb.settled.length)\/((∃m:Nat,m<i/\ins[m]?=A? (nm,((ks.length:Nat):Int)))/\(∀n∈ks,n<=tb.settled.length)/\tb.settled.length∈ks)) zl))
  ⟨AQ,AQ,AQ,AQ,{tb with settled:=tb.settled++[e]},rfl,FrB.refl,Ga,⟨rfl,rfl,rfl,rfl,rfl⟩,G6.congr λnm ks z=>z.elim id λz=>?_⟩ (λi σ H3 _⟨_,_,_,_,zl,_,_,h3,⟨_,_,_,hx,hw⟩,_⟩=>?_) ?_ ?_
 .refine hid λZZ kZ=>?_;obtain⟨⟨m,hm,_⟩,_⟩:=z;refine kZ ?_;exact g! hm (Y5 _)
 .have:=h3.wl;have e3:=h! (Zh k!) hx;rw[Wk,Wk]at e3;rw[hw,show(zl.ws.map λw=>k! w.x)=(tb.ws.map λw=>k! w.x)from e3]at this;exact l! this
 .rintro i x σ H3 hx ⟨c3,c4,c5,c6,zl,rfl,f3,h3,⟨x1,x2,x3,x4,x5⟩,Gb⟩
  have FN:∃w',zl.ws[i]?=A? w'/\x=.ref w'.x:=by
   have Bc:(tb.ws.map (·.x))[i]?.map k!=A? x:=by rw[<-VA,Wk];exact hx
   rw[<-x4,VA,Option.map_map]at Bc;obtain⟨w',h1,h2⟩:=V1.mp Bc;exact⟨w',h1,h2.symm⟩
  obtain⟨w',AZ,rfl⟩:=FN;have E2:=Vx AZ;have AI:=h3.wa w' E2;have PZ:e∈zl.settled:=by rw[x2];simp
  have Jx:=h3.se e PZ;obtain⟨Ws,hk⟩:=Gb.k i w' AZ;rw[a! (W0 _)]at hk;have Bz:=Gb.p.f1 e (Gb.p.s1 e PZ);dsimp only[av];refine⟨_,D?,w'.x,w'.dx,_,D?,AI.ins,gq,_,D?,e.a,_,1,.ref e.na,D?,D?,i! Jx.a,at1,w',e.na,e.note,Ws,D?,AI,Jx.na,hk.psl,(by have:=hk.len;lia),hk.nt,λkd z8=>⟨λy hy=>?_,by have:=hk.ag.len kd z8;lia⟩,λH4 za f4 BX G7=>?_⟩
  .rw[Bz.note.len,cQ Bz];exact hk.nc kd z8 y hy
  have Vi:za.length=w'.ks.length:=G7.len;have Au:=hk.take G7;have hi:=(Xe.mp AZ).1
  have Ay:∀b∈w'.ks.map (·.a),b∈tb.mut:=λb hb=>by
   rw[<-x3];unfold Tb.mut;exact VR _ (VR _ (Yu.mpr ⟨w',E2,hb⟩))
  refine hid λZZ kZ=>?_
  obtain⟨t3,h4,⟨y1,y2,y3,y4,y5⟩,NB,Bg⟩:∃t3:Tb,TbAt T.e_Table T.e_Ways H4 t3/\(t3.x=tb.x/\t3.settled=tb.settled++[e]/\t3.mut=tb.mut/\t3.ws.map (·.x)=tb.ws.map (·.x)/\t3.wl=tb.wl)/\TInv ins rows Ls tb.settled (i+1) (λnm ks=>(cl nm ks/\∀k∈ks,k<tb.settled.length)\/((∃m:Nat,m<i/\ins[m]?=A? (nm,((ks.length:Nat):Int)))/\(∀n∈ks,n<=tb.settled.length)/\tb.settled.length∈ks)) t3/\t3.ws[i]?=A? {w' with ks:=za}:=by
   refine⟨{zl with ws:=zl.ws.set i {w' with ks:=za}},h3.setWy AZ f4 BX rfl ?_,⟨x1,x2,?_,?_,x5⟩,Gb.take x2 AZ hk G7,W5 hi⟩
   .unfold Wy.bs;show w'.pl::w'.nl::w'.al::(za.map (·.d)++za.map (·.a))=_;rw[G7.map.1,G7.map.2]
   .rw[<-x3];unfold Tb.mut;show zl.fd::zl.st::(zl.ws.set i _).flatMap _=_;rw[List.flatMap_def,List.flatMap_def,map_set _ AZ (by show za.map (·.a)=_;exact G7.map.1)]
   .rw[<-x4];exact map_set (λw:Wy=>w.x) AZ rfl
  refine kZ ?_;have NC:FrB tb.mut H2 H4:=f3.trans (f4.more Ay)
  have Jy:H4 sz=A? (.lst (((tb.settled++[e]).map λy=>((y.n:Nat):Int)).map o!)):=by
   rw[Wk];exact NC _ _ NA G2
  have NF:∀k∈za,k.ag.length=tb.settled.length+1:=λk hk=>by
   have:=Au.ag.len k hk;rw[VJ,Wa]at this;exact this
  refine⟨_,D?,w'.x,w'.dx,_,D?,BX.ins,gq,_,D?,sz,_,D?,.inl (l! Jy),_,_,D?,D?,_,D?,{w' with ks:=za},sz,tb.settled.length,(tb.settled++[e]).map λy=>((y.n:Nat):Int),?_,BX,?_,Jy,?_,?_,?_,λk hk=>?_,λr H5 D s5 hr F5 Jr hle=>?_⟩
  .rw[Vu,Vu,VJ,Wa];refine h! (λz:Int=>[k! w'.x,.int z,.ref sz]) ?_;lia
  .have:=Au.len;have h':=Au.psl;lia
  .rw[Vu,VJ,Wa];lia
  .lia
  .exact Au.m3
  .rw[NF k hk];lia
  obtain⟨kvs,E5,F5⟩:=F5;refine⟨r,kvs,D?,E5,λo=>?_⟩;have k0:KT H5 (upd H5 r (.frz o (.dK kvs))):=λb xs z=>by rw[af (aH z E5 (λy=>nomatch y))];exact z
  have Eh:∀{Ha:Hp}{u:HO},FrB tb.mut H4 Ha->FrB tb.mut H4 (upd Ha r u):=λf b u hb z=>by rw[af (λy=>by rw[y,hr]at z;cases z)];exact f b u hb z
  have B8:D.length=kvs.length:=VZ F5;have zF:∀y∈tb.settled++[e],Told ins rows Ls y:=λy hy=>NB.p.f1 y (NB.p.s1 y (by rw[y2];exact hy))
  refine i8 (a:=r) (o:=o) (kvs:=kvs) (λj σ H7=>Ex4 λ(c4 c5 c6:Option V)(t:Tb)=>An8 (σ=[A? (.ref tb.x),A? (.ref e.a),A? (.ref sz),A? (.ref w'.x),c4,c5,c6]) (FrB tb.mut H4 H7) (H7 r=A? (.frz o (.dK kvs))) (Wc (RowE H7) D kvs) (TbAt T.e_Table T.e_Ways H7 t) ((t.x=tb.x/\t.settled=tb.settled++[e]/\t.mut=tb.mut/\t.ws.map (·.x)=tb.ws.map (·.x)/\t.wl=tb.wl/\t.ws[i]?=A? {w' with ks:=za})) ((∀c∈D.take j,∃note,NoteBy w'.ps c.b rows.length w'.ps.length note)) (TInv ins rows Ls tb.settled (i+1) (λnm ks=>((cl nm ks/\∀k∈ks,k<tb.settled.length)\/((∃m:Nat,m<i/\ins[m]?=A? (nm,((ks.length:Nat):Int)))/\(∀n∈ks,n<=tb.settled.length)/\tb.settled.length∈ks))\/(nm=w'.nm/\∃c∈D.take j,ks=c.ks)) t))
   ⟨c4,c5,c6,t3,rfl,Eh (K! s5),ac,t! (λ_ _ h=>h.mono k0) F5,(h4.same s5).beside E5 (λ_ z=>nomatch z) (λ_ z=>nomatch z) (λ_ z=>nomatch z) (λ_ _ _ z=>nomatch z),⟨y1,y2,y3,y4,y5,Bg⟩,?_,NB.congr λnm ks z=>z.elim id λ⟨_,c,hc,_⟩=>?_⟩ (λj σ H7 _⟨_,_,_,_,_,_,e7,_,_,_,_,_⟩=>e7) ?_ ?_
  .intro c hc;rw[X6]at hc;cases hc
  .rw[X6]at hc;cases hc
  .rintro j kv p0 σ H7 zX Jp ⟨d4,d5,d6,t,rfl,f7,Cd,Ex,h7,⟨z1,z2,z3,z4,z5,z6⟩,K',Ce⟩;refine hid λZZ kZ=>?_;obtain⟨c,hc,Bs,a,ka,zm,ea,zJ⟩:=H! Ex zX;have Tj:=Vx hc;obtain⟨k,v⟩:=kv;refine kZ ?_;dsimp only at Bs zm;subst Bs zm;refine gU Jp λH8 s8 ep=>?_;have ep:H8 p0=A? (.tup [.int c.b,.ref a]):=ep;refine hid λZZ kZ=>?_;obtain⟨js,DT,⟨ET,CI⟩,NG⟩:=hle.sub c Tj;have D3:js.length=za.length:=DT
   have D1:∀n∈js,n<(tb.settled++[e]).length:=λn hn=>by
    rw[VJ,Wa];have:=ET n hn;lia
   obtain⟨F3,Jz⟩:=kX (AG:=za.map (·.ag)) (all:=ones w'.ps.length) js D1 (λy hy=>(zF y hy).n);refine kZ ?_;have Cf:c=cnd (za.map (·.ag)) ((tb.settled++[e]).map λy=>((y.n:Nat):Int)) (ones w'.ps.length) js:=NG;rw[<-Cf]at F3 Jz
   have Tn:0<=c.b:=by
    have:=(Au.ag.bits (Z:=(tb.settled++[e]).map λy=>((y.n:Nat):Int)) D3 D1).1;rw[<-Au.psl]at this;rw[Cf];exact this
   have h8:=h7.same s8;refine⟨p0,_,D?,i! ep,D?,_,_,D?,_,_,D?,⟨a,_,D?,i! (s8 _ _ ea),D?,_,_,D?,_,_,D?,D?,D?,?_⟩⟩;dsimp only[av];have JA:H8 tb.x=A? (.ins T.e_Table t.dx (tbF t.S t.wl t.fd t.st)):=by rw[<-z1];exact h8.ins
   have Aq:=Ce.p;refine⟨_,D?,tb.x,t.dx,_,D?,JA,mZ,_,D?,_,D?,_,D?,_,D?,t,{w' with ks:=za},c.b,au (aG (tb.settled++[e]) js),ka,c.ks,?_,h8,Vx z6,s8 _ _ zJ,?_,?_,Tn,?_,?_,?_,Aq.f2,Aq.f3,Au.nq,λnote H9 hN zp hF s9=>?_,λx H9 F' hN P0 GS hE Bn h9=>?_⟩
   .rw[z1,F3];rfl
   .rw[Jz,z2];exact D1
   .rw[Jz,D3];exact Au.m3
   .rw[Ce.S];exact Au.pz
   .have:=Au.len;have h':=Au.psl;lia
   .rw[Ce.S,<-hI.S];exact hS
   .rw[Ce.S,Cf]at hN;have:=Au.told (c:=⟨(r! w'.nm (aG (tb.settled++[e]) js)).size,note,.knot w'.nm (aG (tb.settled++[e]) js),0,0,0⟩) hg A' zF D3 D1 hN rfl rfl;exact qE H9 ((f1.trans (K! s2)).trans (NC.trans (f7.trans (K! (s8.trans s9))))) (Aq.over hF zp this.fit this.note)
   .have NH:=hN;rw[Ce.S]at NH;rw[Ce.S,Cf]at hN;rw[Jz,z2]at GS;have hx:=Au.told hg A' zF D3 D1 hN GS P0;have k9:KT H8 H9:=λb xs z=>Bn _ _ (aH z h8.fd (λy=>nomatch y)) z;refine⟨_,_,_,{t with found:=F'},D?,f7.trans ((K! s8).trans λb u hb z=>Bn b u (λy=>hb (by rw[y,<-z3];unfold Tb.mut;simp)) z),Bn _ _ (aH (s8 _ _ Cd) h8.fd (λy=>nomatch y)) (s8 _ _ Cd),t! (λ_ _ h=>(h.mono (n! s8)).mono k9) Ex,h9,⟨z1,z2,z3,z4,z5,z6⟩,λc' zV=>?_,?_⟩
    .rw[take_snoc hc]at zV;rcases VP.mp zV with zV|zV
     .exact K' c' zV
     .rw[VH.mp zV];exact⟨_,NH⟩
    .refine(Ce.enter (nm:=w'.nm) (js:=js) hE hx (by rw[z2];exact GS) (λy hy=>?_) (by rw[z2];exact D1)).congr λnm ks z=>?_
     .rw[z2]at hy;have h1:=Nz y hy;have h2:=(zF e (by simp)).n;have h3:e.t∈aG (tb.settled++[e]) js:=VX.mpr ⟨_,CI,by rw[Ww (VG _),YY];rfl⟩;have h4:=uk h3;have h5:x.n=au (aG (tb.settled++[e]) js)+1:=P0;lia
     .rcases z with z|⟨rfl,c',zV,rfl⟩
      .exact .inl (.inl z)
      .rw[take_snoc hc]at zV;rcases VP.mp zV with zV|zV
       .exact .inl (.inr ⟨rfl,c',zV,rfl⟩)
       .rw[VH.mp zV];exact .inr ⟨rfl,Jz⟩
  .rintro σ H7 ⟨d4,d5,d6,t,rfl,f7,Cd,Ex,h7,⟨z1,z2,z3,z4,z5,z6⟩,K',Ce⟩;rw[WX (by lia)]at K' Ce;refine⟨H7,Thaws.refl _ _,_,_,_,_,t,D?,NC.trans f7,h7,⟨z1,z2,z3,z4,z5⟩,Ce.more λnm ks z=>?_⟩
   .rcases z with z|⟨⟨m,hm,E6⟩,Bs,zm⟩
    .exact .inl (.inl (.inl z))
    .by_cases y:m=i
     .subst y;right;have BM:=Au.nm;rw[E6]at BM;injection BM with BM;have e1:nm=w'.nm:=h! Prod.fst BM;have e2:((ks.length:Nat):Int)=((za.length:Nat):Int):=h! Prod.snd BM;have zU:ks.length=za.length:=by lia
      subst e1
      have Cy:∀{l:List Nat},(∀n∈l,n<=tb.settled.length)->∀n∈l,n<(tb.settled++[e]).length:=λh n hn=>by
       rw[VJ,Wa];have:=h n hn;lia
      refine hid λZZ kZ=>?_;obtain⟨c0,JB,Tp,Km⟩:=hle.le _ ⟨ks,zU,⟨Bs,zm⟩,rfl⟩;obtain⟨js,DT,⟨ET,CI⟩,NG⟩:=hle.sub c0 JB;obtain⟨a1,a2⟩:=kX (AG:=za.map (·.ag)) (all:=ones w'.ps.length) js (Cy ET) (λy hy=>(zF y hy).n);obtain⟨b1,b2⟩:=kX (AG:=za.map (·.ag)) (all:=ones w'.ps.length) ks (Cy Bs) (λy hy=>(zF y hy).n);have Cf:c0=cnd (za.map (·.ag)) ((tb.settled++[e]).map λy=>((y.n:Nat):Int)) (ones w'.ps.length) js:=NG;rw[<-Cf]at a1 a2;obtain⟨y,hy,g1,g2⟩:=Ce.p.cl w'.nm c0.ks (.inr ⟨rfl,c0,JB,rfl⟩);rw[z2,a2]at g1 g2;obtain⟨note,hN⟩:=K' c0 JB;refine kZ ?_;have n1:=Au.ag.note (nm:=w'.nm) (js:=js) (Z:=(tb.settled++[e]).map λy=>((y.n:Nat):Int)) A' (Au.ix hg) rfl Au.sp Au.ps DT (Cy ET) zF (λy hy=>cQ (zF y hy)) Au.call (by rw[Cf]at hN;exact hN);have n2:=Au.ag.note (nm:=w'.nm) (js:=ks) (Z:=(tb.settled++[e]).map λy=>((y.n:Nat):Int)) A' (Au.ix hg) rfl Au.sp Au.ps zU (Cy Bs) zF (λy hy=>cQ (zF y hy)) Au.call (by rw[Tp]at hN;exact hN);refine⟨y,hy,by rw[z2,g1.uniq A' n1];exact n2,?_⟩;have Tq:c0.n<=((au (aG (tb.settled++[e]) ks):Nat):Int):=by rw[<-b1];exact Km
      rw[z2];have q1:(r! w'.nm (aG (tb.settled++[e]) js)).size=au (aG (tb.settled++[e]) js)+1:=rfl;have q2:(r! w'.nm (aG (tb.settled++[e]) ks)).size=au (aG (tb.settled++[e]) ks)+1:=rfl;lia
     .exact .inl (.inl (.inr ⟨⟨m,by lia,E6⟩,Bs,zm⟩))
 .rintro σ H3 ⟨c3,c4,c5,c6,zl,rfl,f3,h3,⟨x1,x2,x3,x4,x5⟩,Gb⟩;have hl:=h! Xd x4;rw[Vu,Vu]at hl;rw[Vu]at Gb;refine q zl H3 ((f1.trans (K! s2)).trans f3) h3 x1 x2 x3 hl ?_;rw[hl];refine Gb.congr λnm ks z=>z.imp id λ⟨⟨m,hm⟩,z⟩=>⟨⟨m,?_,hm⟩,z⟩;rw[hI.n];exact(glE hm)
def aM:WB:=match bR fK with
 | [_,.While _ [_,_,.Expr (.Call _ [.Call _ _ [⟨_,l,_⟩] _] _ _) _] _ _]=>l
 |_=>.Name "" ⟨0,0,0,0⟩
def xn:WB->Arguments
 |.Lambda p _ _ _=>p
 |_=>cA fK
def wI:WB->WB
 |.Lambda _ b _ _=>b
 |e=>e
def u7:WB->Yz
 |.Lambda _ _ s _=>s
 |_=>aD fK
def cg:WB->YF
 |.Lambda _ _ _ p=>p
 |_=>⟨0,0,0,0⟩
def eY:V5:="Table.fill.<locals>."++"<lambda>"
def ub(f c':Vy):Sp:=λvs H Q _=>∃e:NtE,vs=[.ref e.a]/\LamAt H f c' "<lambda>" eY (xn aM) (wI aM) (u7 aM) []/\CodeAt H c' eY/\NtA H e/\∀(κ:Vy)(H':Hp),j! H H'->lQ H' κ e.key->Q (.ref κ) H'
theorem xj:oT ["entry"] ["entry"] [] (u7 aM):=by
 refine⟨D?,D?,D?,by decide +kernel,by decide +kernel,D?,by decide +kernel,by decide +kernel,λx h=>?_,λx y c1 h1 h2=>?_⟩
 .exfalso;have hm:=Xr h;have y8:∀z∈(u7 aM).names,z.2≠.free:=by decide +kernel
  exact y8 _ hm rfl
 .exact g! (Xr h1) (by simp)
include T in
theorem wP(f c':Vy):rO P w K mg base CX0 2 f (ub f c'):=by
 refine wH (k:=1) (c':=c') (name:="<lambda>") (qual:=eY) (params:=xn aM) (body:=wI aM) xj (λpm BE us hl=>?_) (λvs H Q E h=>?_) λA outer s H vs Q E hr h=>?_
 .obtain⟨u,rfl⟩:=us1 hl;rfl
 .obtain⟨e,rfl,hl,hc,_,_⟩:=h;exact⟨D?,hl,hc,λb' hb=>(nomatch hb),λx c1 hx=>(nomatch hx)⟩
 .obtain⟨e,rfl,hl,hc,he,q⟩:=h;refine⟨_,[],.nil,aZ cR (pv 0) bJ (br ad),?_⟩;have e0:fgt (([]:List (V5×Vy)).map (·.2)) H=H:=funext λb=>eF (λz=>nomatch z);rw[e0];refine⟨_,D?,_,D?,e.a,_,D?,i! he.a,?_,λp hp=>?_⟩
  .show¬(p! 3 0 AQ=0/\p! 3 3 (A? 2)=3);decide
  have e1:rst (([]:List (V5×Vy)).map (·.2)) H (upd H p (.tup (dw [.int (e.n:Nat),.ref e.na,.ref e.ta] AQ (A? 2))))=upd H p (.tup [.int (e.n:Nat),.ref e.na]):=funext λb=>a! (λz=>nomatch z);refine Eq.subst (motive:=λh=>Q (.ref p) h) e1.symm (q p _ (ao hp _) ⟨e.na,ac,?_⟩);exact ao hp _ _ _ he.na
theorem WOk.kok{a:Nat}{w:Wy}(h:WOk Ls (rows.map λrow=>row.getD a bg) w Ws)(hi:ins[a]?=A? (nm,((m:Nat):Int)))(hn:w.nm=nm)(hm:w.ks.length=m)(m3:m<=3)(ha:∀k∈w.ks,k.ag=[])
 (hc:∀p∈rows.map (λrow=>row.getD a bg),∀s k:Int,q! s k∈p.walk->(∃k':Nat,k=(k':Int)/\k'<m)/\∃s':Nat,s=(s':Int)/\s'<rows.length) (nq:nm≠q):KOk ins rows Ls [] a w Ws :=
 ⟨by rw[hn,hm];exact hi,by lia,h.sp,h.ps,λk kd hk=>(h.nt k kd hk).1,h.len,by rw[hm];exact hc,KAg.nil ha,by rw[hn];exact nq⟩
inductive g8(C CW:Vy)(vs:List V)(H:Hp)(Q:VK)(_E:XK):Prop
 |mk (x dx ba ia ra rt:Vy) (v2 v3:V) (zi zx:List Vy) (ins:List (V5×Int)) (rows:List (List Th)) (cs:List Vy) (To:List (V5×List Nat)) (Ls:List Th) (ar:V5->Nat):vs=[.ref x,.ref ba,.ref rt]->H x=A? (.ins C dx [])->H ba=A? (.tup [.ref ia,v2,v3,.ref ra])->H ia=A? (.tup (zi.map k!))->KsAt H ins zi->H ra=A? (.tup (zx.map k!))->Wc (RowAt H) rows zx->ins.length<=1000->rows.length<=1000->(∀row∈rows,row.length=ins.length)->(∀(a:Nat)(nm:V5)(c:Int),ins[a]?=A? (nm,c)->nm≠q/\∃m:Nat,c=(m:Int)/\m<=3/\WIn H rt cs To Ls ar m rows.length (rows.map λrow=>row.getD a bg))->(∀(tb:Tb)(H':Hp),tb.x=x->tb.settled=[]->tb.S=rows.length->SameB x H H'->TbAt C CW H' tb->TInv ins rows Ls [] tb.ws.length (λ_ _=>False) tb->(∀b∈tb.mut,H b=AQ)->Q .non H')->g8 C CW vs H Q _E
theorem lG:bj P w K mg base CX0 5 T.g_20.f T.g_20.d ["self","book","row"] (g8 T.e_Table T.e_Ways):=by
 refine T.g_20.F.okA eZ λzb A outer s H vs Q E hr h=>?_;obtain⟨x,dx,ba,ia,ra,rt,v2,v3,zi,zx,ins,rows,cs,To,Ls,ar,rfl,ex,JC,La,zO,era,Gd,Ab,JD,zN,zW,q⟩:=h
 refine⟨_,(aj (gB (pv 0) (pcF T.g_7 (nG T) hr (aa (pv 1) ae)) rfl)
  (aj (gB (pv 0) (bU ae) rfl)
  (aj (bG Wq rfl (vD rfl T.n_1 (pcF T.g_4 (rB T) hr (aa (pv 1) ae))) (bM rfl (ay (pgN 3 eZ.nd) (ay (pgN 4 eZ.nd) bf))) (ak (aY (cB V7 Wo Wn bq (bD (pv 0) rfl) (aa (qI ⟨T.mi_Ways.1,T.g_14.me.1,T.g_14.me.2,T.mi_Ways.2⟩ (mV T) (hr.mono (by first|decide|lia)) rfl T.x_Ways T.g_14.b .nil cV (aa (pv 4) (aa (bd (N:=["patterns","at"]) (js:=[AQ,A? 3]) (g:=(av 0)) (tt:=aR) (te:=(tOp (eg K) (bB 0) (bB 1))) rfl (bK rfl (by decide +kernel) (by decide +kernel) rfl rfl rfl) (b9 (pcF T.g_6 (jR T) hr (aa (pv 1) ae))) (λ_ _ _ _ _ _=>(pgN 0 yx)) (aE rfl) (λ_ _ _ _ _ _=>aU) (λ_ _ _ _ _ _=>(ax az (pv 0) (pv 1) (λ_ _=>rfl)))) (aa (pv 2) ae)))) ae)))))
  (aj (gB (pv 0) gu rfl)
  (ak (gB (pv 0) (bU ae) rfl)))))),?_⟩
 try dsimp only[zy,yY]
 have Lb:rows.length=zx.length:=VZ Gd;have Tr:ins.length=zi.length:=VZ zO;have nx:∀{b:Vy}{xs:List V},H b=A? (.tup xs)->b≠x:=λe=>aH e ex (λz=>nomatch z);refine⟨_,D?,ba,_,_,_,ra,_,D?,JC,era,_,D?,x,T.e_Table,dx,_,D?,ex,T.cl_Table,T.na_Table_states,(by show 0<1000;decide),?_⟩;rw[Vu,<-Lb];have b1:SameB x H (upd H x (.ins T.e_Table dx (aO (VE "states") (.int (rows.length:Nat)) []))):=C!;have x1:(upd H x (.ins T.e_Table dx (aO (VE "states") (.int (rows.length:Nat)) []))) x=A? (.ins T.e_Table dx (aO (VE "states") (.int (rows.length:Nat)) [])):=ac;generalize(upd H x (.ins T.e_Table dx (aO (VE "states") (.int (rows.length:Nat)) [])))=H1 at b1 x1 |-;refine⟨lnE rfl,λwl B1=>?_⟩;have FN:wl≠x:=λz=>by rw[z,x1]at B1;cases B1
 have Tt:H wl=none:=by
  cases z:H wl with
  |none=>rfl
  |some o=>rw[b1 wl o FN z]at B1;cases B1
 refine⟨_,D?,x,T.e_Table,dx,_,D?,(af FN.symm).trans x1,T.cl_Table,T.na_Table_ways,(by show 1<1000;decide),?_⟩
 have I0:TiI T.e_Table T.e_Ways H x dx wl ins rows Ls 0 rows.length (upd (upd H1 wl (.lst [])) x (.ins T.e_Table dx (aO (VE "ways") (.ref wl) (aO (VE "states") (.int (rows.length:Nat)) [])))) [] :=
  ⟨b1.trans ((z! (ao B1 _)).trans C!),ac,(af FN).trans ac,Tt,(by intro w hw;cases hw),(by intro b hb;cases hb),Yt,rfl,λa w hw=>by simp at hw⟩
 generalize(upd (upd H1 wl (.lst [])) x (.ins T.e_Table dx (aO (VE "ways") (.ref wl) (aO (VE "states") (.int (rows.length:Nat)) []))))=H2 at I0 |-;refine⟨_,D?,ba,_,_,_,_,D?,I0.sb _ _ (nx JC) JC,ia,D?,⟨_,i! (I0.sb _ _ (nx La) La)⟩,?_⟩
 refine um (K:=K) (a:=ia) (xs:=zi.map k!) (λi σ H3=>Ex3 λ(c3 c4:Option V)(ws:List Wy)=>An2 (σ=[A? (.ref x),A? (.ref ba),A? (.ref rt),c3,c4]) (TiI T.e_Table T.e_Ways H x dx wl ins rows Ls i rows.length H3 ws))
  ⟨AQ,AQ,[],rfl,I0⟩ (λi σ H3 _⟨_,_,_,_,h⟩=>i! (h.sb _ _ (nx La) La)) ?_ ?_
 .rintro i x' p σ H3 hx hp ⟨c3,c4,ws,rfl,I3⟩;rw[VA]at hx;refine hid λZZ kZ=>?_;obtain⟨ka,Ac,rfl⟩:=V1.mp hx;obtain⟨⟨nm,c⟩,hi,zJ⟩:=H! zO Ac;obtain⟨IG,m,rfl,KZ,hW⟩:=zW i nm c hi;refine kZ ?_;have Tu:=(glE hi);have I4:=I3.same (ao (p:=p) hp (.tup [.int (i:Nat),.ref ka]));have ep:(upd H3 p (.tup [.int (i:Nat),.ref ka])) p=A? (.tup [.int (i:Nat),.ref ka]):=ac;generalize(upd H3 p (.tup [.int (i:Nat),.ref ka]))=H4 at I4 ep |-;refine⟨p,_,D?,i! ep,D?,_,_,D?,_,_,D?,D?,?_⟩;dsimp only[av];refine⟨_,D?,x,T.e_Table,dx,_,_,D?,I4.self,T.cl_Table,T.na_Table_ways,ug,.inl ⟨D?,_,l! I4.wll⟩,?_⟩;have kt:∀{H9:Hp},SameB x H H9->KT H H9:=λ{H9}s b xs e=>s b _ (nx e) e;have EA:=kt I4.sb _ _ era;have NI:=t! (λ_ _ e=>RowAt.mono (kt I4.sb) e) Gd;refine⟨_,D?,_,D?,ba,_,_,_,_,D?,I4.sb _ _ (nx JC) JC,ra,D?,⟨_,i! EA⟩,gD (F:=λH(row:List Th)a=>At H (row.getD i bg) a) (xs:=zx.map k!) rows (λH1 H2 z p kt h=>h.mono kt) (by rw[Vu];exact Lb) (by rw[Vu];lia) (λj Hx sx hj=>⟨_,_,i! (sx _ _ EA),Vw hj⟩) (λHx sx=>⟨_,i! (sx _ _ EA),VG _⟩) (λj Hx y Hy sx hj hy=>⟨hy.1,hy.2 _ (i! (sx _ _ EA))⟩) (λj y row Hx R W' hy G8 sx hR=>?_) (λpa H5 F8 BS s5 C3 Mu=>?_)⟩
  .rw[VA]at hy;refine hid λZZ kZ=>?_;obtain⟨rj,NJ,rfl⟩:=V1.mp hy;obtain⟨as,Tv,has⟩:=(ij NI G8 NJ).mono (n! sx);have Tw:=zN row (Vx G8)
   have Ge:row[i]?=A? (row.getD i bg):=by
    rw[V0,Vw (by lia)];rfl
   obtain⟨ai,Ed,Tx⟩:=has.get' Ge;refine kZ ?_;refine⟨_,D?,_,D?,rj,_,(i:Nat),.ref ai,D?,D?,i! Tv,?_,hR Hx ai (λ_ _ e=>e) Tx⟩;exact bu (gmE Ed)
  have I5:=I4.same s5;refine⟨_,D?,λy dy hy KH zk=>?_⟩;have Lc:=hW.mono (kt I5.sb);have Vj:wl≠y:=aw I5.wll hy;have BG:∀{b:Vy}{o:HO},H5 b=A? o->(upd (upd H5 dy (.own y)) y (.ins T.e_Ways dy [])) b=A? o:=λe=>by rw[af (aw e hy),af (aw e KH)];exact e
  have k5:KT H5 (upd (upd H5 dy (.own y)) y (.ins T.e_Ways dy [])):=λb xs e=>BG e;refine⟨y,dy,ka,pa,rt,nm,m,rows.length,_,F8,cs,To,Ls,ar,D?,ac,BG (kt I5.sb _ _ zJ),KZ,BG C3,nH (P2.mapl (R:=At (upd (upd H5 dy (.own y)) y (.ins T.e_Ways dy []))) (f:=λrow:List Th=>row.getD i bg) (t! (λ_ _ e=>At.mono k5 e) Mu)),Lc.mono k5,λw H8 Ws wx wn Nu Tz wm TB TC TF=>?_⟩;have JE:j! H5 H8:=lS hy KH Nu;have I8:=I5.same JE
  have Gf:∀b∈w.bs,H5 b=none:=λb hb=>by
   have:=TF b hb;cases z:H5 b with
   |none=>rfl
   |some o=>rw[BG z]at this;cases this
  have I9:=I8.add Tz (λb hb=>⟨(I5.null (Gf b hb)).1,(I5.null (Gf b hb)).2.2⟩) (λb hb z=>by
   obtain⟨v,hv,Ld⟩:=Yu.mp z;obtain⟨o,e,_⟩:=(I5.wa v hv).some_bs b Ld;rw[Gf b hb]at e;cases e) ⟨Ws,TC.kok hi wn wm KZ TB (λp hp=>(hW.ap p hp).2.2) IG⟩
  refine⟨D?,wl,_,_,D?,D?,I8.wll,bp (by rw[Vu,I8.len];lia),?_⟩;exact⟨_,_,_,D?,wx ▸ I9⟩
 .rintro σ H3 ⟨c3,c4,ws,rfl,I3⟩;rw[Vu,<-Tr]at I3;refineλfd JF=>?_;have e3:(upd H3 fd (.dT [])) x=A? (.ins T.e_Table dx (lJ rows.length wl)):=(af (I3.null JF).2.1.symm).trans I3.self;refine⟨_,D?,x,T.e_Table,dx,_,D?,e3,T.cl_Table,T.na_Table_found,(by show 2<1000;decide),?_⟩;have b4:SameB x H3 (upd (upd H3 fd (.dT [])) x (.ins T.e_Table dx (aO (VE "found") (.ref fd) (lJ rows.length wl)))):=(z! (ao JF _)).trans C!;have x4:(upd (upd H3 fd (.dT [])) x (.ins T.e_Table dx (aO (VE "found") (.ref fd) (lJ rows.length wl)))) x=A? (.ins T.e_Table dx (aO (VE "found") (.ref fd) (lJ rows.length wl))):=ac;have f4:(upd (upd H3 fd (.dT [])) x (.ins T.e_Table dx (aO (VE "found") (.ref fd) (lJ rows.length wl)))) fd=A? (.dT []):=(af (I3.null JF).2.1).trans ac;generalize(upd (upd H3 fd (.dT [])) x (.ins T.e_Table dx (aO (VE "found") (.ref fd) (lJ rows.length wl))))=H4 at b4 x4 f4 |-;refine⟨lnE rfl,λst zF=>?_⟩;have NK:st≠x:=λz=>by rw[z,x4]at zF;cases zF
  have TH:st≠fd:=λz=>by rw[z,f4]at zF;cases zF
  have Kn:H3 st=none:=by
   cases z:H3 st with
   |none=>rfl
   |some o=>rw[b4 st o NK z]at zF;cases zF
  refine⟨_,D?,x,T.e_Table,dx,_,D?,(af NK.symm).trans x4,T.cl_Table,T.na_Table_settled,(by show 3<1000;decide),?_⟩;rw[tX];refine hid λZZ kZ=>?_;obtain⟨h1,h2,h3,h4⟩:=I3.done (fd:=fd) (st:=st) (Hd:=H4) (He:=upd (upd H4 st (.lst [])) x (.ins T.e_Table dx (tbF rows.length wl fd st))) rfl rfl (b4.trans ((z! (ao zF _)).trans C!)) ac ((af (I3.null JF).2.1).trans ((af TH.symm).trans f4)) ((af NK).trans ac) JF Kn;refine kZ ?_;exact q _ _ rfl rfl rfl h3 h1 h2 h4
inductive gP(CT CW CM tp:Vy)(vs:List V)(H:Hp)(Q:VK)(E:XK):Prop
 |mk (tb:Tb) (ins:List (V5×Int)) (rows:List (List Th)) (Ls:List Th):vs=[.ref tb.x]->TbAt CT CW H tb->TInv ins rows Ls [] tb.ws.length (λ_ _=>False) tb->GoodN ins->Ls.Nodup->tb.S<=100000->tb.settled=[]->TabSt H tp (cg aM) eY->(∀H',FrB (tp::tb.mut) H H'->TabSt H' tp (cg aM) eY->Over ins rows Ls->E (.ref CM) AQ H')->(∀(zl:Tb)(H':Hp),FrB (tp::tb.mut) H H'->TabSt H' tp (cg aM) eY->TbAt CT CW H' zl->zl.x=tb.x->PInv ins rows Ls zl.found zl.settled (ClAll ins zl.settled.length)->(∀e∈zl.found,e∈zl.settled)->Q .non H')->gP CT CW CM tp vs H Q E
theorem kM(L:Lam mg base T.g_23.tc T.g_23.tp):bj P w K mg base (CX1 P w) 6 T.g_23.f T.g_23.d ["self"] (gP T.e_Table T.e_Ways T.e_Many T.g_23.tp):=by
 refine T.g_23.F.okT1 T.g_23.th db (λvs H Q E h=>?_) (λA outer s H vs Q E hr h=>?_)
 .obtain⟨tb,ins,rows,Ls,rfl,_⟩:=h;rfl
 obtain⟨tb,ins,rows,Ls,rfl,ht,hI,hg,A',hS,FK,AO,qE,q⟩:=h
 refine⟨_,(aj (bG Zw rfl (bX (bD (pv 0) rfl)) (pgN 1 db.nd) (ak (bE (qh (b7 (bD (pv 1) rfl) (λ_=>rfl))) (ak (aY (fL (pv 0) T.cl_Table T.g_21.me (fV T) (hr.mono (by first|decide|lia)) T.g_21.b .nil n5 (aa (pv 1) (aa (iR (pv 1) T.cl_Ways T.g_16.me (cX T) (hr.mono (by first|decide|lia)) T.g_16.b .nil cV ) (aa ad (aa (bc ae) ae))))))) aT)))
  (ak (i6 Zw (aC fc (aB aA rfl T.n_3 Wi (aa (bD (pv 0) rfl) ae)) (aB ju rfl T.n_3 Wi (aa (bD (pv 0) rfl) ae)) (aJ _)) (aj (am 2 db.nd (bd (N:=["knots","note","tree"]) (js:=[AQ,AQ,AQ]) (g:=(lI K 3 (cJ (av 0) (cJ (av 1) (cJ (av 2) lH))))) (tt:=aR) (te:=(bB 1)) rfl (bK rfl (by decide +kernel) (by decide +kernel) rfl rfl rfl) (bX (bD (pv 0) rfl)) (λ_ _ _ _ _ _=>(bM rfl (ay (pgN 0 nD) (ay (pgN 1 nD) (ay (pgN 2 nD) bf))))) (jj (ck bA (aE rfl) (ck bA (aE rfl) (ck bA (aE rfl) jf)))) (λ_ _ _ _ _ _=>aU) (λ_ _ _ _ _ _=>(pv 1))))
  (aj (gF (dC (i:=3) (N:=["note","entry","done"]) (js:=[AQ,AQ,A? 2]) (g:=(lI K 2 (cJ (av 0) (cJ (av 1) lH)))) (tt:=(lV (tOp (qy K 150) (bB 0) (bB 2)))) (te:=(bB 1)) db.nd rfl (Z9 rfl) rfl (bK rfl (by decide +kernel) (by decide +kernel) rfl rfl rfl) (gH (bD (pv 0) rfl)) (λ_ _ _ _ _ _=>(bM rfl (ay (pgN 0 yo) (ay (pgN 1 yo) bf)))) (jj (ck bA (aE rfl) (ck bA (aE rfl) jf))) (λ_ _ _ _ _ _=>iI (aC (sH (B:=150) (kT hr)) (pv 0) (pv 2) (by with_unfolding_all rfl))) (λ_ _ _ _ _ _=>(pv 1))))
  (ak (aY (fL (pv 0) T.cl_Table T.g_22.me (i7 T) (hr.mono (by first|decide|lia)) T.g_22.b .nil n5 (aa (uI (k:=2) rfl (hr.mono (by first|decide|lia)) rfl T.n_6 (aa (pv 3) ae) (wJ (pos:=cg aM) (params:=xn aM) (body:=wI aM) (scope:=u7 aM) (cl:=[]) L rfl rfl)) ae))))))))),?_⟩
 try dsimp only[zy,yY]
 refine⟨_,D?,tb.x,T.e_Table,tb.dx,_,_,D?,ht.ins,T.cl_Table,T.na_Table_ways,vI,tb.wl,D?,⟨_,l! ht.wl⟩,?_⟩
 refine fj (K:=K) (a:=tb.wl) (xs:=tb.ws.map λw=>k! w.x) (λi σ H1=>Ex4 λ(c1 c2 c3:Option V)(zl:Tb)=>An5 (σ=[A? (.ref tb.x),c1,AQ,AQ]) (FrB tb.mut H H1) (TbAt T.e_Table T.e_Ways H1 zl) ((zl.x=tb.x/\zl.settled=[]/\zl.mut=tb.mut/\zl.ws=tb.ws/\zl.wl=tb.wl/\zl.S=tb.S)) (TInv ins rows Ls [] zl.ws.length (λnm ks=>(∃m:Nat,m<i/\ins[m]?=A? (nm,0))/\ks=[]) zl))
  ⟨AQ,AQ,AQ,tb,rfl,FrB.refl,ht,⟨rfl,FK,rfl,rfl,rfl,rfl⟩,hI.congr λnm ks z=>?_⟩ (λi σ H1 _⟨_,_,_,zl,_,_,h1,⟨_,_,_,hw,hl,_⟩,_⟩=>?_) ?_ ?_
 .refine hid λZZ kZ=>?_;obtain⟨⟨m,hm,_⟩,_⟩:=z;refine kZ ?_;exact g! hm (Y5 _)
 .have:=h1.wl;rw[hw,hl]at this;exact l! this
 .rintro i x σ H1 hx ⟨c1,c2,c3,zl,rfl,f1,h1,⟨x1,x2,x3,x4,x5,x6⟩,DG⟩;rw[VA]at hx;obtain⟨w',AZ,rfl⟩:=V1.mp hx;have NL:zl.ws[i]?=A? w':=by rw[x4];exact AZ
  have E2:=Vx NL;have AI:=h1.wa w' E2;have Ab:=(glE NL);obtain⟨Ws,hk⟩:=DG.k i w' NL;rw[b! Ab]at hk;dsimp only[av];refine⟨_,D?,w'.x,T.e_Ways,w'.dx,_,_,D?,AI.ins,T.cl_Ways,T.na_Ways_agreeing,qJ,!w'.ks.isEmpty,.inl ⟨_,l! AI.al,by cases w'.ks <;> rfl⟩,?_⟩;cases NM:w'.ks.isEmpty with
  | true =>
    have zO:w'.ks=[]:=List.isEmpty_iff.mp NM;refine dm ⟨_,rfl,tb.x,zl.dx,_,rfl,by rw[<-x1];exact h1.ins,mZ,_,rfl,_,rfl,w'.x,w'.dx,_,rfl,AI.ins,gq,w',rfl,AI,(by have:=hk.len;have h':=hk.psl;lia),lnE rfl,λka Ac=>?_⟩;refine gU Ac λH2 s2 zJ=>?_;have h2:=h1.same s2;have Aq:=DG.p;have NN:([]:List Nat).length=w'.ks.length:=by rw[zO];rfl
    have Ct:∀n∈([]:List Nat),n<zl.settled.length:=by intro n hn;cases hn
    have JG:∀e∈zl.settled,Told ins rows Ls e:=λe he=>by rw[x2]at he;cases he
    have Gg:ones w'.ps.length=(cnd (w'.ks.map (·.ag)) [] (ones w'.ps.length) []).b:=rfl;refine⟨zl,w',ones w'.ps.length,0,ka,[],?_,h2,E2,zJ,Ct,by simp,?_,by rw[DG.S];exact hk.pz,(by have:=hk.len;have h':=hk.psl;lia),by rw[x6];exact hS,Aq.f2,Aq.f3,hk.nq,λnote H3 hN zp hF s3=>?_,λc H3 F' hN F3 P1 hE Bn h3=>?_⟩
    .rw[x1];rfl
    .rw[Gg,hk.psl];exact(hk.ag.bits (Z:=[]) NN Ct).1
    .rw[DG.S,Gg]at hN;have:=hk.told (c:=⟨(r! w'.nm (aG zl.settled [])).size,note,.knot w'.nm (aG zl.settled []),0,0,0⟩) hg A' JG NN Ct hN rfl rfl;refine qE H3 (((f1.trans (K! (s2.trans s3))).more λb hb=>VR _ hb)) ?_ (Aq.over hF zp this.fit this.note);exact AO.frb ht.mutOk (f1.trans (K! (s2.trans s3)))
    .have NH:=hN;rw[DG.S,Gg]at hN;have hx:=hk.told hg A' JG NN Ct hN P1 (by rw[F3];rfl);refine⟨_,AQ,AQ,{zl with found:=F'},D?,f1.trans (((K! s2).trans λb u hb z=>Bn b u (λy=>hb (by rw[y,<-x3];unfold Tb.mut;simp)) z)),h3,⟨x1,x2,x3,x4,x5,x6⟩,?_⟩;refine(DG.enter (nm:=w'.nm) (js:=[]) hE hx P1 (λy hy=>?_) Ct).congr λnm ks z=>?_
     .rw[x2]at hy;cases hy
     .obtain⟨⟨m,hm,E6⟩,rfl⟩:=z;by_cases y:m=i
      .subst y;have BM:=hk.nm;rw[E6]at BM;exact .inr ⟨h! Prod.fst (VN BM),rfl⟩
      .exact .inl ⟨⟨m,by lia,E6⟩,rfl⟩
  | false =>
    have zO:w'.ks≠[]:=λz=>by rw[z]at NM;cases NM
    refine cz ⟨_,AQ,AQ,zl,rfl,f1,h1,⟨x1,x2,x3,x4,x5,x6⟩,DG.congr λnm ks z=>?_⟩;obtain⟨⟨m,hm,E6⟩,rfl⟩:=z;by_cases y:m=i
    .subst y;have BM:=hk.nm;rw[E6]at BM;have:=h! Prod.snd (VN BM);have h0:(0:Int)=((w'.ks.length:Nat):Int):=this;exact g! (XO.mp (by lia)) zO
    .exact⟨⟨m,by lia,E6⟩,D?⟩
 rintro σ H1 ⟨c1,c2,c3,TJ,rfl,f1,h1,⟨x1,x2,x3,x4,x5,x6⟩,DG⟩;rw[Vu]at DG;have JH:=AO.frb ht.mutOk f1
 refine⟨λm σ H2=>Ex4 λ(d1 d2 d3:Option V)(t:Tb)=>An9 (σ=[A? (.ref tb.x),d1,d2,d3]) (FrB (T.g_23.tp::tb.mut) H H2) (TabSt H2 T.g_23.tp (cg aM) eY) (TbAt T.e_Table T.e_Ways H2 t) (t.x=tb.x) (t.mut=tb.mut) (t.S=tb.S) ((∃old,TInv ins rows Ls old t.ws.length (ClAll ins t.settled.length) t)) (m=30 - t.settled.length),
  ⟨_,_,_,_,TJ,D?,f1.more (λb hb=>VR _ hb),JH,h1,x1,x3,x6,⟨[],DG.congr λnm ks z=>?_⟩,D?⟩,?_⟩
 .obtain⟨⟨m,hm⟩,hk⟩:=z;rw[x2]at hk
  have:ks=[]:=by
   cases ks with
   |nil=>rfl
   |cons k ks=>exact g! (hk k (VO ..)) (Y5 _)
  subst this;refine⟨⟨m,?_,hm⟩,D?⟩;have:=(glE hm);have h':=DG.n;rw[x4]at h';lia
 rintro m σ H2 ⟨d1,d2,d3,t,rfl,f2,zQ,h2,y1,y3,y6,⟨old,JI⟩,rfl⟩;have zC:=JI.p;have BN:H2 tb.x=A? (.ins T.e_Table t.dx (tbF t.S t.wl t.fd t.st)):=by rw[<-y1];exact h2.ins
 refine⟨_,D?,tb.x,T.e_Table,t.dx,_,_,D?,BN,T.cl_Table,T.na_Table_settled,mD,t.st,_,D?,.inl (l! h2.st),_,D?,tb.x,T.e_Table,t.dx,_,_,D?,BN,T.cl_Table,T.na_Table_found,kW,t.fd,_,D?,h2.fd,_,_,D?,D?,_,D?,?_⟩;rw[Vu,j8];by_cases yZ:t.settled.length<t.found.length
 .rw[d! (show((t.settled.length:Nat):Int)<((t.found.length:Nat):Int)by lia)];refine dm ⟨_,λi' H' h=>h,?_⟩;obtain⟨e0,GI,Km⟩:=zC.some_late yZ;have Vk:=zC.s30;have Vl:=zC.f3;refine⟨_,D?,tb.x,T.e_Table,t.dx,_,_,D?,BN,T.cl_Table,T.na_Table_settled,mD,t.st,D?,⟨_,l! h2.st⟩,iY t.settled (λe=>k! e.na) (l! h2.st) (by rw[Vu]) (by rw[Vu];lia) (λi x z H3 R W' hx hz s3 hR=>?_) (λdn H3 Cc s3 El=>?_)⟩
  .rw[VA,hz]at hx;cases hx;have Jw:=(h2.same s3).se z (Vx hz);refine⟨z.a,_,D?,i! Jw.a,D?,_,_,D?,_,_,D?,_,_,D?,D?,?_⟩;exact⟨_,D?,hR H3 (λ_ _ e=>e)⟩
  have h3:=h2.same s3;have JJ:=zQ.mono s3;dsimp only[av];change kF _ _ _ _;refine nX (d:=t.fd) (kvs:=nfv t.found) (p:=λkv=>!decide (o8 kv.1∈t.settled.map (·.note))) (λR hR=>⟨_,rfl,tb.x,T.e_Table,t.dx,_,_,rfl,s3 _ _ BN,T.cl_Table,T.na_Table_found,kW,hR⟩) h3.fd (by rw[j8];lia) (λi kv pa b H4 R W' zX GO C3 eb NO NP=>?_) (λla H4 s4 Ee G9=>?_)
  .obtain⟨e,he,rfl⟩:∃e,t.found[i]?=A? e/\(f9 e.note,k! e.a)=kv:=by
    unfold nfv at zX;rw[VA]at zX;exact V1.mp zX
   dsimp only at C3 eb NO NP;rw[sX]at eb;have Ec:dn≠t.fd:=aH El h3.fd (λz=>nomatch z);have k4:KT H3 H4:=λc xs ec=>GO c _ (aH ec h3.fd (λz=>nomatch z)) ec;refine⟨pa,_,D?,i! C3,D?,_,_,D?,_,_,D?,D?,?_⟩;dsimp only[av];refine⟨_,D?,_,D?,dn,_,nDv e.note,t.settled.map λe=>nDv e.note,D?,l! (GO _ _ Ec El),tW eb,qZ λy hy=>(h3.se y hy).mono k4,Wz l8 (by decide),λr hr=>⟨r,D?,?_⟩⟩;have K7:r=B?↔e.note∉t.settled.map (·.note):=hr.trans (not_congr ve);rw[gh]at NO NP;by_cases z:e.note∈t.settled.map (·.note)
   .have:r=false:=by
     cases r with
     |false=>rfl
     |true=>exact g! z (K7.mp rfl)
    subst this;refine NP ?_;rw[d! z];rfl
   .rw[K7.mpr z];refine⟨_,D?,NO ?_⟩;rw[c! z];rfl
  rw[sF]at G9;have h4:=h3.same s4;have E7:=JJ.mono s4;have E3:=s3.trans s4;dsimp only[av]
  refine⟨_,D?,tb.x,t.dx,_,D?,E3 _ _ BN,mZ,_,D?,E7,λf c' H5 s5 et Bm JK hf=>?_⟩;have P4:=E7.sameO s5;have h5:=h4.sameO P4;have JL:=P4 _ _ G9 (λ_ z=>nomatch z);have JM:TabSt H5 T.g_23.tp (cg aM) eY:=.inr ⟨c',et,Bm⟩;have TL:FrB (T.g_23.tp::tb.mut) H2 H5:=λb o hb e=>s5 b o (λz=>hb (by rw[z];exact VO ..)) (E3 b o e)
  have P5:(nfv (g7 t.found t.settled)).map (·.2)=(g7 t.found t.settled).map λe=>k! e.a:=by
   unfold nfv;rw[Wk];rfl
  rw[P5]at JL;have zZ:0<(g7 t.found t.settled).length:=List.length_pos_of_mem ((gL zC).mpr ⟨GI,Km⟩)
  have P6:∀{i:Nat}{x:V},((g7 t.found t.settled).map λe=>k! e.a)[i]?=A? x->∃e,(g7 t.found t.settled)[i]?=A? e/\x=.ref e.a:=λh=>by
   rw[VA]at h;obtain⟨e,h1,h2⟩:=V1.mp h;exact⟨e,h1,h2.symm⟩
  refine⟨la,f,_,λi=>(((g7 t.found t.settled)[i]?).map NtE.key).getD (0,[]),ub f c',D?,D?,JL,by rw[Vu];exact zZ,wP T f c',λi x H6 hx s6=>?_,λi x H6 hx s6 Cb=>?_⟩
  .obtain⟨e,he,rfl⟩:=P6 hx;have DD:=((gL zC).mp (Vx he)).1;refine⟨e,D?,JK.mono s6,Bm.mono s6,(h5.same s6).fe e DD,λκ H7 s7 hk=>⟨κ,D?,s7,?_⟩⟩;rw[he];exact hk
  obtain⟨e,he,rfl⟩:=P6 hx;obtain⟨K9,B9⟩:=(gL zC).mp (Vx he);have h6:=h5.same s6;have P7:FrB (T.g_23.tp::tb.mut) H2 H6:=TL.trans (K! s6);have E8:=JM.mono s6;have sub:∀b∈t.mut,b∈T.g_23.tp::tb.mut:=λb hb=>by rw[y3]at hb;exact VR _ hb
  refine⟨t,e,ins,rows,Ls,old,_,by rw[y1];rfl,h6,JI,hg,A',by rw[y6];exact hS,K9,B9,λy hy Cn=>?_,λH7 f7 ho=>qE H7 (f2.trans (P7.trans (f7.more sub))) (E8.frb h6.mutOk f7) ho,λt' H7 f7 h7 z1 z2 z3 z4 Ce=>?_⟩
  .obtain⟨j,hj⟩:=VL.mp ((gL zC).mpr ⟨hy,Cn⟩);have:=Cb j (by rw[Vu];exact(glE hj));rw[hj,he]at this;exact this
  have Kp:=Ce.p.s30;rw[z2,VJ,Wa]at Kp;refine⟨30 - t'.settled.length,?_,_,_,_,t',D?,f2.trans (P7.trans (f7.more sub)),E8.frb h6.mutOk f7,h7,z1.trans y1,z3.trans y3,?_,⟨_,Ce.congr λnm ks z=>?_⟩,D?⟩
  .rw[z2,VJ,Wa];lia
  .have g1:=Ce.S;have g2:=JI.S;lia
  .rw[z2,VJ,Wa]at z;rcases z.succ with z|z
   .exact .inl z
   .exact .inr z
 .rw[c! (show¬((t.settled.length:Nat):Int)<((t.found.length:Nat):Int)by lia)];refine cz ?_;exact q t H2 f2 zQ h2 y1 zC (zC.all (by lia))
inductive om(vs:List V)(H:Hp)(Q:VK)(_E:XK):Prop
 |mk (d na:Vy) (es:CLs) (note:List Int):vs=[.ref d,.ref na]->H d=A? (.dT (dE es))->H na=A? (.tup (note.map o!))->es.length<=10000->note.length<=1000000->(∀e∈es,∃s:Nat,e.1.1=(s:Int)/\s<note.length)->(∀(b:Bool)(H':Hp),j! H H'->(b=B?↔Makes es note)->Q (.bl b) H')->om  vs H Q _E
theorem tD:bj P w K mg base CX0 1 T.g_25.f T.g_25.d ["needs","note"] om:=by
 refine T.g_25.F.okA sR λzb A outer s H vs Q E hr h=>?_;obtain⟨d,na,es,note,rfl,ed,FP,CF,CO,B9,q⟩:=h;refine⟨_,(ak (aF (aB (oH rfl) rfl T.n_0 PyProof.Rows.boot_all (aa (uV (bd (N:=["state","kid","wished","note"]) (js:=[AQ,AQ,AQ,A? 1]) (g:=(lI K 2 (cJ (lI K 2 (cJ (av 0) (cJ (av 1) lH))) (cJ (av 2) lH)))) (tt:=aR) (te:=(tOp (rEq) (tOp (eg K) (bB 3) (bB 0)) (bB 2))) rfl (bK rfl (by decide +kernel) (by decide +kernel) rfl rfl rfl) (gH (pv 0)) (λ_ _ _ _ _ _=>(bM rfl (ay (bM rfl (ay (pgN 0 wy) (ay (pgN 1 wy) bf))) (ay (pgN 2 wy) bf)))) (jj (ck qo (jj (ck bA (aE rfl) (ck bA (aE rfl) jf))) (ck bA (aE rfl) jf))) (λ_ _ _ _ _ _=>aU) (λ_ _ _ _ _ _=>(nn cL (ax az (pv 3) (pv 0) (λ_ _=>rfl)) (pv 2) (aJ _))))) ae)))),?_⟩
 try dsimp only[zy,yY]
 change kF _ _ _ _;refine oy (d:=d) (es:=es) (val:=λe=>V.bl ((note[e.1.1.toNat]?).getD 0 == e.2)) (λR hR=>⟨_,rfl,hR⟩) ed CF (λi e p b H2 R he sb ep eb hR=>?_) (λD H2 s2 eD=>?_)
 .obtain⟨s',h1,h2⟩:=B9 e (Vx he);have A':na≠d:=aH FP ed (λz=>nomatch z);have TM:H2 b=A? (.tup [.int e.1.1,.int e.1.2]):=eb;refine⟨p,_,D?,i! ep,D?,_,_,D?,⟨b,_,D?,i! TM,D?,_,_,D?,_,_,D?,D?,_,_,D?,D?,?_⟩⟩;dsimp only[av];refine⟨_,D?,_,D?,na,_,(s':Int),.int (note[s']),D?,by rw[h1],i! (sb _ _ A' FP),bu (j:=s') (by rw[VA,Vw h2];rfl),_,D?,D?,?_⟩
  have:V.bl (decide (o! note[s']=o! e.2))=V.bl ((note[e.1.1.toNat]?).getD 0 == e.2):=by
   rw[j4,h1,VQ,Vw h2];rfl
  rw[this];exact hR
 .refine⟨D,es.map λe=>(note[e.1.1.toNat]?).getD 0 == e.2,D?,?_,q _ H2 s2 ?_⟩
  .rw[Wk];exact l! eD
  .rw[List.all_map,X2];unfold Makes;refine forall_congr' λe=>forall_congr' λhe=>?_;obtain⟨s',h1,h2⟩:=B9 e he;show((note[e.1.1.toNat]?).getD 0 == e.2)=B?↔_;rw[h1,VQ,Vw h2,beq_iff_eq];exact⟨λz=>h! A? z,λz=>VN z⟩
inductive jB(CT CW CM tp:Vy)(vs:List V)(H:Hp)(Q:VK)(E:XK):Prop
 |mk (ba wa:Vy) (ins:List (V5×Int)) (head:Th) (rows:List (List Th)) (t:Th) (ar:V5->Nat):vs=[.ref ba,.ref wa]->WBk H ins head rows ba->At H t wa->WCd ins rows t ar->TabSt H tp (cg aM) eY->(∀H',SameT tp H H'->TabSt H' tp (cg aM) eY->Over ins rows (post t [])->E (.ref CM) AQ H')->(∀(l:Vy)(ps:List Vy)(F St:List NtE)(H':Hp),SameT tp H H'->TabSt H' tp (cg aM) eY->H' l=A? (.lst (ps.map k!))->Wc (λ(e:NtE)p=>H' p=A? (.tup [.ref e.na,.ref e.ta])) St ps->(∀e∈St,NtA H' e)->PInv ins rows (post t []) F St (ClAll ins St.length)->(∀e∈F,e∈St)->Q (.ref l) H')->jB CT CW CM tp vs H Q E
theorem mY(L:Lam mg base T.g_23.tc T.g_23.tp):bj P w K mg base (CX1 P w) 8 T.g_24.f T.g_24.d ["book","wish"] (jB T.e_Table T.e_Ways T.e_Many T.g_23.tp):=by
 refine T.g_24.F.ok1 eK (λvs H Q E h=>?_) (λzb A outer s H vs Q E hr h=>?_)
 .obtain⟨ba,wa,ins,head,rows,t,ar,rfl,_⟩:=h;rfl
 obtain⟨ba,wa,ins,head,rows,t,ar,rfl,hb,hA,hc,AO,qE,q⟩:=h
 refine⟨_,(aj (im (pcF T.g_10 (hX T) hr (aa (pv 1) ae)) (bM rfl (ay (pgN 2 eK.nd) (ay (pgN 3 eK.nd) bf))))
  (aj (am 4 eK.nd (qI ⟨T.mi_Table.1,T.g_20.me.1,T.g_20.me.2,T.mi_Table.2⟩ (lG T) (hr.mono (by first|decide|lia)) rfl T.x_Table T.g_20.b .nil cV (aa (pv 0) (aa (pv 2) ae))))
  (aj (aY (iR (pv 4) T.cl_Table T.g_23.me (kM T L) (hr.mono (by first|decide|lia)) T.g_23.b .nil n5 ))
  (ak (aF (bd (N:=["knots","note","tree"]) (js:=[AQ,AQ,AQ]) (g:=(lI K 3 (cJ (av 0) (cJ (av 1) (cJ (av 2) lH))))) (tt:=aR) (te:=(xX (cO (bB 1) (cO (bB 2) jx)))) rfl (bK rfl (by decide +kernel) (by decide +kernel) rfl rfl rfl) (bX (bD (pv 4) rfl)) (λ_ _ _ _ _ _=>(bM rfl (ay (pgN 0 nD) (ay (pgN 1 nD) (ay (pgN 2 nD) bf))))) (jj (ck bA (aE rfl) (ck bA (aE rfl) (ck bA (aE rfl) jf)))) (λ_ _ _ _ _ _=>aU) (λ_ _ _ _ _ _=>(bc (aa (pv 1) (aa (pv 2) ae)))))))))),?_⟩
 try dsimp only[zy,yY]
 refine⟨_,D?,wa,t,D?,hA,hc.tc,hc.ts,λr rt cs To ix H1 s1 er Je DY zj BI=>?_⟩;refine⟨r,_,D?,i! er,D?,_,_,D?,_,_,D?,D?,?_⟩;dsimp only[av];refine⟨_,D?,_,D?,λx dx hx P8 zk=>?_⟩;have Le:∀{b:Vy}{o:HO},H1 b=A? o->(upd (upd H1 dx (.own x)) x (.ins T.e_Table dx [])) b=A? o:=λe=>by rw[af (aw e hx),af (aw e P8)];exact e
 have k1:KT H (upd (upd H1 dx (.own x)) x (.ins T.e_Table dx [])):=λb xs e=>Le (s1 _ _ e);refine hid λZZ kZ=>?_;obtain⟨ia,ha,ra,v2,zi,zx,e1,e2,e3,e4,e5,e6⟩:=(hb.mono k1).ex;refine kZ ?_
 have KP:(post t []).length<=t.size:=by
  have:=(tI t []).2;rw[YH]at this;lia
 refine⟨x,dx,ba,ia,ra,rt,v2,.ref ha,zi,zx,ins,rows,cs,To,post t [],ar,D?,ac,e1,e2,e3,e4,e5,(by have:=hc.gi.le;lia),hc.rl,hc.row,λa nm c hi=>⟨hc.nq _ (Vx hi),?_⟩,λtb H2 z1 z2 z3 Dc h2 JI Eh=>?_⟩
 .have zT:=hc.gi.num _ (Vx hi);obtain⟨m,rfl⟩:=Yv zT.1;refine⟨m,D?,by have:=zT.2;dsimp only at this;lia,Le Je,t! (λ_ _ e=>Le e) DY,zj,t4 (λu hu v hv=>Ars.kids hu hv) hc.ta,λp hp=>?_,Vu _,Wz (Nat.mul_le_mul_left _ KP) hc.big⟩;obtain⟨h1,h3,h4⟩:=hc.pt a nm _ hi p hp;refine⟨h1,h3,λs k hm=>?_⟩;refine hid λZZ kZ=>?_;obtain⟨⟨k',h5,h6⟩,h7⟩:=h4 s k hm;refine kZ ?_;exact⟨⟨k',h5,by lia⟩,h7⟩
 have s2:j! H1 H2:=lS hx P8 Dc;have Ad:=s1.trans s2;have zQ:=AO.mono Ad
 have nul:∀b∈tb.mut,H b=none:=λb zB=>by
  have:=Eh b zB;cases z:H b with
  |none=>rfl
  |some o=>rw[Le (s1 _ _ z)]at this;cases this
 have toT:∀{H3:Hp},FrB (T.g_23.tp::tb.mut) H2 H3->SameT T.g_23.tp H H3:=λf b o zB e=>f b o (λz=>by
  rcases VS.mp z with z|z
  .exact zB z
  .rw[nul b z]at e;cases e) (Ad b o e)
 refine⟨D?,?_⟩;refine⟨_,D?,x,tb.dx,_,D?,by rw[<-z1];exact h2.ins,mZ,tb,ins,rows,post t [],by rw[z1];rfl,h2,JI,hc.gi,fH t,by rw[z3];have:=hc.rl;lia,z2,zQ,λH3 f3 t3 ho=>qE H3 (toT f3) t3 ho,λt' H3 f3 t3 h3 y1 DA y8=>?_⟩;have TN:=DA.s30;refine⟨_,D?,x,T.e_Table,t'.dx,_,_,D?,by rw[<-z1,<-y1];exact h3.ins,T.cl_Table,T.na_Table_settled,mD,t'.st,D?,⟨_,l! h3.st⟩,gD (F:=λH(e:NtE)p=>H p=A? (.tup [.ref e.na,.ref e.ta])) (xs:=t'.settled.map λe=>k! e.a) t'.settled (λHa Hb z p kt h=>kt _ _ h) (by rw[Vu]) (by rw[Vu];lia) (λi Hx sx hi=>⟨_,_,l! (sx _ _ h3.st),Vw hi⟩) (λHx sx=>⟨_,l! (sx _ _ h3.st),VG _⟩) (λi Hx y Hy sx hi hy=>⟨hy.1,hy.2 _ (l! (sx _ _ h3.st))⟩) (λi y z Hx R W' hy hz sx hR=>?_) (λl H4 ps hl s4 el BW=>?_)⟩
 .rw[VA,hz]at hy;cases hy;have Jw:=(h3.same sx).se z (Vx hz);refine⟨z.a,_,D?,i! Jw.a,D?,_,_,D?,_,_,D?,_,_,D?,D?,?_⟩;dsimp only[av];exact⟨_,D?,_,D?,lnE rfl,λp hp=>hR _ p (ao hp _) ac⟩
 .refine q l ps t'.found t'.settled H4 ((toT f3).trans (s4.t _)) (t3.mono s4) el BW (λe he=>(h3.se e he).mono (n! s4)) DA y8
inductive jv(CT CW CM tp:Vy)(vs:List V)(H:Hp)(Q:VK)(E:XK):Prop
 |mk (ba wa:Vy) (ins:List (V5×Int)) (head:Th) (rows:List (List Th)) (t:Th) (ar:V5->Nat):vs=[.ref ba,.ref wa]->WBk H ins head rows ba->At H t wa->WCd ins rows t ar->wE rows ar head->TabSt H tp (cg aM) eY->(∀H',SameT tp H H'->TabSt H' tp (cg aM) eY->Over ins rows (post t [])->E (.ref CM) AQ H')->(∀H',SameT tp H H'->TabSt H' tp (cg aM) eY->tZ ins rows t->(∀u:Th,u.Fit ins->dZ ins rows head u≠t)->Q .non H')->(∀(ua:Vy)(u:Th)(H':Hp),SameT tp H H'->TabSt H' tp (cg aM) eY->tZ ins rows t->At H' u ua->u.Fit ins->u.tall<=31->dZ ins rows head u=t->(∀v:Th,v.Fit ins->dZ ins rows head v=t->u.size<=v.size)->Q (.ref ua) H')->jv CT CW CM tp vs H Q E
theorem qi(L:Lam mg base T.g_23.tc T.g_23.tp):bj P w K mg base (CX1 P w) 10 T.g_26.f T.g_26.d ["book","wish"] (jv T.e_Table T.e_Ways T.e_Many T.g_23.tp):=by
 refine T.g_26.F.ok1 dO (λvs H Q E h=>?_) (λzb A outer s H vs Q E hr h=>?_)
 .obtain⟨ba,wa,ins,head,rows,t,ar,rfl,_⟩:=h;rfl
 obtain⟨ba,wa,ins,head,rows,t,ar,rfl,hb,hA,hc,hh,AO,qE,q0,q⟩:=h
 refine⟨_,(aj (im (pcF T.g_10 (hX T) hr (aa (pv 1) ae)) (bM rfl (ay (pgN 2 dO.nd) (ay (pgN 3 dO.nd) bf))))
  (aj (am 4 dO.nd (pcF T.g_11 (jJ T) hr (aa (pcF T.g_5 (pG T) hr (aa (pv 0) ae)) (aa (pv 2) (aa (pv 3) ae)))))
  (aj (bG Zw rfl (bX (de (mY T L) (hr.mono (by first|decide|lia)) rfl T.g_24.m T.g_24.F.kp T.g_24.b .nil n5 (aa (pv 0) (aa (pv 1) ae)))) (bM rfl (ay (pgN 5 dO.nd) (ay (pgN 6 dO.nd) bf))) (ak (bE (N! (dP (aC j5 (pv 4) fG (aJ _)) (da (b7 (pcF T.g_25 (tD T) hr (aa (pv 4) (aa (pv 5) ae))) (λ_=>rfl))))) (ak (aF (pv 6))) aT)))
  (ak (aF fG))))),?_⟩
 try dsimp only[zy,yY]
 refine⟨_,D?,wa,t,D?,hA,hc.tc,hc.ts,λr rt cs To ix H1 s1 er Je DY zj BI=>?_⟩;refine⟨r,_,D?,i! er,D?,_,_,D?,_,_,D?,D?,?_⟩;dsimp only[av];have hb1:=hb.mono (n! s1);refine hid λZZ kZ=>?_;obtain⟨ia,ha,ra,v2,zi,zx,e1,e2,e3,e4,e5,e6⟩:=hb1.ex;refine kZ ?_;refine aN (λi' H'=>Ex1 λ(nv:V)=>An3 (i'=[A? (.ref ba),A? (.ref wa),A? (.ref rt),A? (.int (ix:Nat)),A? nv,AQ,AQ]) (j! H1 H') (((nv=.non/\∀g,head.fill g≠t)\/∃(d:Vy)(es:CLs),nv=.ref d/\H' d=A? (.dT (dE es))/\jD (post t []) head t es))) (λkk hk=>?_) ?_
 .refine⟨_,D?,ba,_,_,_,_,D?,e1,_,D?,_,D?,ha,rt,ix,head,t,cs,To,post t [],ar,D?,e6,Je,DY,zj,BI,hh.ar,t4 (λu hu v hv=>Ars.kids hu hv) hc.ta,hh.sz,λH2 s2 zp=>?_,λd es H2 s2 _ ed hn=>?_⟩
  .exact hk _ _ ⟨.non,rfl,s2,.inl ⟨rfl,zp⟩⟩
  .exact hk _ _ ⟨.ref d,rfl,s2,.inr ⟨d,es,rfl,ed,hn⟩⟩
 rintro i' H2 ⟨nv,rfl,s2,P9⟩;have Ad:=s1.trans s2;have zQ:=AO.mono Ad;refine⟨_,D?,_,D?,ba,wa,ins,head,rows,t,ar,D?,hb.mono (n! Ad),hA.mono (n! Ad),hc,zQ,λH3 s3 t3 ho=>qE H3 ((Ad.t _).trans s3) t3 ho,λl ps F St H3 s3 t3 el BW TQ hp y8=>?_⟩;have JN:=zQ.sameO s3;have E9:tZ ins rows t:=⟨F,St,hp,y8⟩;have NQ:St.length=ps.length:=VZ BW;have JO:∀e∈St,Told ins rows (post t []) e:=λe he=>hp.f1 e (hp.s1 e he);refine⟨l,D?,⟨_,l! el⟩,?_⟩
 refine fj (K:=K) (a:=l) (xs:=ps.map k!) (λi σ H4=>Ex2 λ(c5 c6:Option V)=>An3 (σ=[A? (.ref ba),A? (.ref wa),A? (.ref rt),A? (.int (ix:Nat)),A? nv,c5,c6]) (j! H3 H4) (∀e∈St.take i,dZ ins rows head e.t≠t))
  ⟨AQ,AQ,rfl,λ_ _ e=>e,by intro e he;rw[X6]at he;cases he⟩ (λi σ H4 _⟨_,_,_,s4,_⟩=>l! (s4 _ _ el)) ?_ ?_
 .rintro i x σ H4 hx ⟨c5,c6,rfl,s4,zp⟩;rw[VA]at hx;obtain⟨p,Nq,rfl⟩:=V1.mp hx;obtain⟨e,he,ep⟩:=H! BW Nq;have DD:=Vx he;have zk:=TQ e DD;have Bz:=JO e DD;refine⟨p,_,D?,i! (s4 _ _ ep),D?,_,_,D?,_,_,D?,D?,?_⟩;dsimp only[av]
  have JP:dZ ins rows head e.t≠t->∀f∈St.take (i+1),dZ ins rows head f.t≠t:=λh f hf=>by
   rw[take_snoc he]at hf;rcases VP.mp hf with hf|hf
   .exact zp f hf
   .rw[VH.mp hf];exact h
  rcases P9 with⟨rfl,FE⟩|⟨d,es,rfl,ed,hn⟩
  .refine⟨_,D?,D?,_,D?,?_⟩;rw[d! (show V.non=V.non from rfl)];refine cz (cz ⟨_,_,rfl,s4,JP λz=>?_⟩);exact FE _ z
  .have CN:=s4 _ _ (JN _ _ ed (λ_ z=>nomatch z));refine⟨_,D?,D?,_,D?,?_⟩;rw[c! (show¬k! d=V.non fromλz=>nomatch z)];have CO:e.note.length=rows.length:=by rw[Bz.note.len,cQ Bz]
   have BM:(∀e'∈es,∃s:Nat,e'.1.1=(s:Int)/\s<e.note.length):=λe' zI=>by
    obtain⟨_,s',h1,h2⟩:=hh.c _ _ (hn.ok e' zI).2;exact⟨s',h1,by lia⟩
   refine dm ⟨_,rfl,_,rfl,d,e.na,es,e.note,rfl,CN,s4 _ _ zk.na,?_,?_,BM,λb H5 s5 TR=>⟨b,rfl,?_⟩⟩
   .exact Wz (lU hn) hh.sz
   .have:=hc.rl;lia
   have Qa:=TR.trans (dX (fH t) hn hh.c Bz.note (cQ Bz));cases b with
   |false=>exact cz ⟨_,_,rfl,s4.trans s5,JP λz=>by cases Qa.mpr z⟩
   | true =>
     refine dm ⟨_,rfl,?_⟩;refine q e.ta e.t H5 ((Ad.t _).trans (s3.trans ((s4.trans s5).t _))) (t3.mono (s4.trans s5)) E9 (zk.ta.mono (n! (s4.trans s5))) Bz.fit (by have:=hp.t2 e (hp.s1 e DD);have GU:=hp.s30;lia) (Qa.mp rfl) λv hv TU=>?_;refine hid λZZ kZ=>?_;obtain⟨f,hf,Fh,TV⟩:=hc.full hp y8 v hv
     have JQ:(aP ins rows v).length=rows.length:=by
      cases v with
      |call s k=>rw[A!]at hv;exact hv.elim
      |knot n ks=>rw[ce,Vu]
     have h1:=(dX (fH t) hn hh.c Fh JQ).mpr TU;have h2:=(dX (fH t) hn hh.c (JO f hf).note (cQ (JO f hf))).mp h1;obtain⟨j,hj⟩:=VL.mp hf;refine kZ ?_
     have TY:i<=j:=by
      refine Z1 λz=>?_;exact zp f (Vx (i:=j) (by rw[List.getElem?_take,b! (by lia)];exact hj)) h2
     have Ip:e.n<=f.n:=by
      rcases Nat.eq_or_lt_of_le TY with z|z
      .subst z;rw[he]at hj;cases hj;exact VG _
      .have:=nM hp.s2 he hj z;have:=qR this;have h9:(e.n:Int)<=(f.n:Int):=this;lia
     have:=Bz.n;lia
 .rintro σ H4 ⟨c5,c6,rfl,s4,zp⟩;rw[Vu,<-NQ,XJ]at zp;refine q0 H4 ((Ad.t _).trans (s3.trans (s4.t _))) (t3.mono s4) E9 λu hu ho=>?_;refine hid λZZ kZ=>?_;obtain⟨f,hf,Fh,TV⟩:=hc.full hp y8 u hu;refine kZ ?_;rcases P9 with⟨rfl,FE⟩|⟨d,es,rfl,ed,hn⟩
  .exact FE _ ho
  .have JQ:(aP ins rows u).length=rows.length:=by
    cases u with
    |call s k=>rw[A!]at hu;exact hu.elim
    |knot n ks=>rw[ce,Vu]
   have h1:=(dX (fH t) hn hh.c Fh JQ).mpr ho;exact zp f hf ((dX (fH t) hn hh.c (JO f hf).note (cQ (JO f hf))).mp h1)
inductive fX(K:VD)(vs:List V)(H:Hp)(Q:VK)(_E:XK):Prop
 |mk (a:Vy) (ns:List Int) (k:Int):vs=[.ref a,.int k]->SqL K H a (ns.map o!)->0<=k->Q (.int (cellAt ns k)) H->fX K vs H Q _E
theorem aW:bj P w K mg base CX0 1 T.g_27.f T.g_27.d ["script","k"] (fX K):=by
 refine T.g_27.F.okA jW λzb A outer s H vs Q E hr h=>?_;obtain⟨a,ns,k,rfl,hS,h0,q⟩:=h
 refine⟨_,(aj (bE (aC fc (pv 1) (aB aA rfl T.n_3 Wi (aa (pv 0) ae)) (aJ _)) (ak (aF (aq aX (ax aS (pv 0) (pv 1) (λ_ _=>rfl)) (aq pK ad ad)))) aT)
  (ak (aF ad))),?_⟩
 try dsimp only[zy,yY]
 refine⟨_,D?,_,D?,a,_,D?,.inl hS,_,_,D?,D?,_,D?,?_⟩;refine eS (λc=>?_) (λc=>?_)
 .have c':k<(((ns.map o!).length:Nat):Int):=e! c;rw[Vu]at c';refine⟨_,D?,_,D?,a,_,k,_,D?,D?,hS,int_at h0 c',_,_,D?,D?,⟨by decide,by decide,by decide⟩,_,_,D?,D?,?_,?_⟩
  .show(0:Int)<10 ^ 60;decide
  .have e:cellAt ns k=ns.getD k.toNat 0%10 ^ 60:=by unfold cellAt;rw[b! c']
   rw[e]at q;exact q
 .have c':¬k<(((ns.map o!).length:Nat):Int):=of_decide_eq_false (Z5.mpr c);rw[Vu]at c';have e:cellAt ns k=0:=by unfold cellAt;rw[a! c']
  rw[e]at q;exact q
inductive iU(vs:List V)(H:Hp)(Q:VK)(_E:XK):Prop
 |mk (base n:Int):vs=[.int base,.int n]->0<=base->0<=n->Q (.str (nameOf base n)) H->iU  vs H Q _E
theorem nh:bj P w K mg base CX0 1 T.g_28.f T.g_28.d ["base","n"] iU:=by
 refine T.g_28.F.okA bH λzb A outer s H vs Q E hr h=>?_;obtain⟨b,n,rfl,h0,hn,q⟩:=h
 refine⟨_,(aj (am 2 bH.nd il)
  (aj (am 3 bH.nd il)
  (aj (am 4 bH.nd (aq bF (pv 0) ad))
  (aj (bG Wq rfl (bW rfl T.n_7 (aa ad ae)) (pgN 5 bH.nd) (aj (am 3 bH.nd (aq ir (pv 3) (ax pZ (pv 2) (aq aX (pv 4) ad) (λ_ _=>rfl))))
  (ak (am 4 bH.nd (aq bF (pv 4) ad)))))
  (aj (bE (aC cL (aq aX (pv 0) ad) ad (aJ _)) (ak (aF (aZ pD (pv 3) bJ (br (aq bC (pv 1) ad))))) aT)
  (aj (am 6 bH.nd (aq bC ad (aq aX (aq bF (pv 0) ad) ad)))
  (aj (am 7 bH.nd (aq aX (aq aX (aq bF (pv 0) ad) ad) (pv 6)))
  (aj (am 8 bH.nd (ax pZ (pv 2) (aq aX (aq bC (cB PySem.F.plainAttrs_str PySem.F.slot_str_index PySem.F.type_str_index sU (pv 2) (aa (ax pZ (pv 3) (pv 7) (λ_ _=>rfl)) ae)) (pv 1)) ad) (λ_ _=>rfl)))
  (ak (aF (aq ir (aq ir (aZ pD (pv 3) bJ (br (pv 7))) (pv 8)) (aZ pD (pv 3) (br (aq bC (pv 7) ad)) (br (pv 6)))))))))))))),?_⟩
 try dsimp only[zy,yY]
 refine⟨_,D?,_,_,D?,D?,⟨by decide,by decide⟩,?_⟩;refine⟨8,D?,by decide,by decide,?_⟩;refine cw (n:=8) (λi σ H2=>Ex1 λkv=>An2 (H2=H) (σ=[A? (.int b),A? (.int n),A? (.str dB),A? (.str (cM (b / 112) i)),A? (.int (b / 112 / 26 ^ i)),kv,AQ,AQ,AQ])) ⟨AQ,rfl,?_⟩ ?_ ?_
 .have e1:cM (b / 112) 0=VE "":=by
   show(⟨([]:List Nat).toArray⟩:V5)=VE "";decide +kernel
  have e2:b / 112 / 26 ^ 0=b / 112:=by rw[Int.pow_zero,Int.ediv_one]
  rw[e1,e2];rfl
 .rintro i σ H2 hi ⟨kv,rfl,rfl⟩;have h1:=Wl (b / 112 / 26 ^ i) (by decide:(26:Int)≠0);have h2:=Wg (b / 112 / 26 ^ i) (by decide:(0:Int)<26);refine⟨_,D?,_,D?,_,D?,_,_,D?,D?,(by show(0:Int)<26;decide),dB,_,_,D?,D?,cG (by rw[jC];decide),mI h1 h2,_,_,D?,D?,cG ?_,?_⟩
  .rw[dI];show i+1<=1000000;lia
  .refine⟨_,D?,_,_,D?,D?,⟨by decide,by decide⟩,A? (.int (0+i)),D?,?_⟩
   have e1:b / 112 / 26 ^ (i+1)=b / 112 / 26 ^ i / 26:=by
    rw[Int.pow_succ,Int.ediv_ediv_of_nonneg (Int.le_of_lt (Int.pow_pos (by decide)))]
   rw[pO,e1];rfl
 .rintro σ H2 ⟨kv,rfl,rfl⟩;have hw:=dI (b / 112) 8;refine⟨_,D?,_,_,D?,D?,(by show(0:Int)<2;decide),D?,_,D?,?_⟩;refine eS (λc=>?_) (λc=>?_)
  .have c':b%2=1:=V.int.inj (e! c);refine⟨_,D?,_,D?,_,_,D?,D?,_,D?,_,D?,cG (by rw[hw];decide),?_⟩;have e:nameOf b n=fO (cM (b / 112) 8) AQ (A? (n+1)):=by unfold nameOf;rw[b! c']
   rw[e]at q;exact q
  .have c':¬b%2=1:=λz=>c (d! (h! o! z));have hs:=jq b;have ha:=t9 b;refine⟨_,D?,_,_,D?,D?,⟨by decide,by decide⟩,_,_,D?,D?,(by show(0:Int)<8;decide),_,_,D?,D?,?_⟩;refine⟨_,D?,_,_,D?,D?,⟨by decide,by decide⟩,_,_,D?,D?,(by show(0:Int)<7;decide),_,D?,_,_,D?,D?,(by show(0:Int)<eI b;lia),?_⟩;have hk:(nAt b).toNat<8:=by lia
   have AI:atI (cM (b / 112) 8).cps.toList (nAt b)=A? (97+((b / 112 / 26 ^ (nAt b).toNat)%26).toNat):=by
    refine at_nonneg ha.1 ?_;show(fR (b / 112) 8)[(nAt b).toNat]?=_;unfold fR;rw[VA,List.getElem?_range hk];rfl
   have h1:=Wl (b / 112 / 26 ^ (nAt b).toNat) (by decide:(26:Int)≠0);have h2:=Wg (b / 112 / 26 ^ (nAt b).toNat) (by decide:(0:Int)<26);have h3:=Wl ((((b / 112 / 26 ^ (nAt b).toNat)%26).toNat:Int)+n) (by decide:(26:Int)≠0);have h4:=Wg ((((b / 112 / 26 ^ (nAt b).toNat)%26).toNat:Int)+n) (by decide:(0:Int)<26);refine⟨_,D?,_,D?,D?,_,D?,_,D?,_,nAt b,_,D?,D?,cG (by rw[hw];decide),AI,dB,_,_,[],D?,D?,rJ _ (by lia),_,D?,_,_,D?,D?,_,_,D?,D?,(by show(0:Int)<26;decide),dB,_,_,D?,D?,cG (by rw[jC];decide),mI h3 h4,?_⟩;have l1:=eM (cM (b / 112) 8) AQ (A? (nAt b));have l2:=eM (cM (b / 112) 8) (A? (nAt b+1)) (A? (eI b));rw[hw]at l1 l2;refine⟨_,D?,_,D?,_,D?,_,D?,cG (by rw[hw];decide),_,D?,_,_,D?,D?,cG ?_,_,D?,_,D?,_,_,D?,D?,_,D?,_,D?,_,D?,_,D?,cG (by rw[hw];decide),_,_,D?,D?,cG ?_,?_⟩
   .show(fO (cM (b / 112) 8) AQ (A? (nAt b))).length+1<=1000000;lia
   .rw[strLen_append];show(fO (cM (b / 112) 8) AQ (A? (nAt b))).length+1+(fO (cM (b / 112) 8) (A? (nAt b+1)) (A? (eI b))).length<=1000000;lia
   .have e:nameOf b n=fO (cM (b / 112) 8) AQ (A? (nAt b))++⟨#[kj b n]⟩++fO (cM (b / 112) 8) (A? (nAt b+1)) (A? (eI b)):=by unfold nameOf;rw[a! c']
    rw[e]at q;exact q
inductive g9(vs:List V)(H:Hp)(Q:VK)(_E:XK):Prop
 |mk (cell:Int):vs=[.int cell]->0<=cell->(∀(r:Vy)(as:List Vy)(H':Hp),j! H H'->H' r=A? (.tup (as.map k!))->KsAt H' (du cell) as->Q (.ref r) H')->g9  vs H Q _E
theorem hZ:bj P w K mg base CX0 2 T.g_29.f T.g_29.d ["cell"] g9:=by
 refine T.g_29.F.okA bQ λzb A outer s H vs Q E hr h=>?_;obtain⟨cell,rfl,h0,q⟩:=h
 refine⟨_,(aj (am 1 bQ.nd (aq bC (aq fN (pv 0) ad) ad))
  (aj (am 2 bQ.nd (aq bC ad (aq aX (pv 1) ad)))
  (aj (am 3 bQ.nd (aq bF (pv 1) ad))
  (aj (am 4 bQ.nd (bU ae))
  (aj (bG Wq rfl (bW rfl T.n_7 (aa (pv 2) ae)) (pgN 5 bQ.nd) (aj (aY (cB V7 Wo Wn bq (pv 4) (aa (bc (aa (pcF T.g_28 (nh T) hr (aa (aq bF (pv 1) ad) (aa (pv 5) ae))) (aa (ax aS (bU (aa ad (aa ad (aa ad (aa ad (aa ad (aa ad ae))))))) (aq aX (pv 3) ad) (λ_ _=>rfl)) ae))) ae)))
  (ak (am 3 bQ.nd (aq bC (aq bF (pv 3) ad) (pv 5))))))
  (aj (am 6 bQ.nd (aq aX (aq bF (pv 1) ad) (pv 2)))
  (aj (im (bc (aa (ax az (ax aS (pv 4) (pv 6) (λ_ _=>rfl)) ad (λ_ _=>rfl)) (aa ad ae))) (no (pv 4) (pv 6) set_list))
  (ak (aF (b8 bz rfl T.n_10 WN (aa (pv 4) ae))))))))))),?_⟩
 try dsimp only[zy,yY]
 have hM:=uw h0;have hm:=jh cell;have ha:=nK cell;refine⟨_,D?,_,_,D?,D?,.inr ⟨by decide,by decide⟩,_,_,D?,D?,?_⟩;refine⟨_,D?,_,_,D?,D?,(by show(0:Int)<4;decide),_,_,D?,D?,?_⟩;refine⟨_,D?,_,_,D?,D?,⟨by decide,by decide⟩,?_⟩;refine⟨lnE rfl,λkl zU=>?_⟩;refine⟨_,D?,cy cell,D?,by lia,by lia,?_⟩
 refine cw (n:=(cy cell).toNat) (λi σ H2=>Ex2 λkv as=>An4 (σ=[A? (.int cell),A? (.int (eQ cell)),A? (.int (cy cell)),A? (.int (gf (eQ cell / 7) i)),A? (.ref kl),kv,AQ]) (j! H H2) (H2 kl=A? (.lst (as.map k!))) (KsAt H2 ((jP cell).take i) as))
  ⟨AQ,[],rfl,ao zU _,ac,.nil⟩ ?_ ?_
 .rintro i σ H2 hi ⟨kv,as,rfl,sm,e,hp⟩;have hb:0<=eQ cell / 36:=Int.ediv_nonneg hM (by decide)
  have hl:as.length=i:=by
   have:=VZ hp;rw[WA,fD]at this;lia
  refine⟨_,D?,.inl ⟨D?,_,l! e⟩,_,D?,_,_,D?,D?,⟨by decide,by decide⟩,_,D?,eQ cell / 36,0+(i:Int),D?,hb,by lia,lnE rfl,λvl JQ=>?_⟩;refine gr JQ λH3 s3 e3=>?_;have sm:=sm.trans s3;have e:=s3 _ _ e;have hp:=hp.mono (n! s3);refine⟨_,D?,_,_,D?,D?,(by show(0:Int)<6;decide),vl,_,_,_,D?,D?,l! e3,vp _,lnE rfl,λp BQ=>?_⟩;have Bq:kl≠p:=aw e BQ;refine⟨kl,_,_,D?,D?,by rw[af Bq];exact e,lbE (by lia),?_⟩;refine⟨_,D?,_,_,D?,D?,⟨by decide,by decide⟩,_,D?,_,_,D?,D?,A? (.int (0+(i:Int))),as++[p],?_,aK (aK sm (sm.free BQ)) zU,?_,?_⟩
  .have e1:gf (eQ cell / 7) (i+1)=gf (eQ cell / 7) i / 6+(0+(i:Int)):=by rw[gf];lia
   rw[e1];rfl
  .rw[ac,V3];rfl
  .have L7:i<(cy cell).toNat:=hi;rw[Xu,ja L7];have kt:KT H3 (upd (upd H3 p (.tup [.str (nameOf (eQ cell / 36) (0+(i:Int))),.int (nO (gf (eQ cell / 7) i))])) kl (.lst (as.map k!++[.ref p]))):=(iq BQ).trans (cH (xs:=as.map k!) (by rw[af Bq];exact e));refine v! (hp.mono kt) (.cons ?_ .nil);show(upd (upd H3 p _) kl _) p=_;rw[af Bq.symm,ac,Int.zero_add]
 .rintro σ H2 ⟨kv,as,rfl,sm,e,hp⟩;have hk:(jP cell).take (cy cell).toNat=jP cell:=by rw[<-fD,XJ]
  rw[hk]at hp
  have hl:as.length=(cy cell).toNat:=by
   have:=VZ hp;rw[fD]at this;lia
  obtain⟨pa,BS,Qb⟩:=u! hp (ja (cell:=cell) (i:=(fA cell).toNat) (by lia));have zP:atI (as.map k!) (fA cell)=A? (.ref pa):=at_nonneg ha.1 (gmE BS);have JR:(((fA cell).toNat:Nat):Int)=fA cell:=by lia
  rw[JR]at Qb;refine⟨_,D?,_,_,D?,D?,⟨by decide,by decide⟩,_,D?,_,_,D?,D?,(by show(0:Int)<cy cell;lia),?_⟩;refine⟨_,D?,_,D?,kl,_,fA cell,.ref pa,D?,D?,l! e,zP,pa,_,0,_,D?,D?,i! Qb,at0,lnE rfl,λp BQ=>?_⟩;have Bq:kl≠p:=aw e BQ;refine⟨_,D?,_,D?,kl,_,fA cell,(fA cell).toNat,D?,D?,by rw[af Bq];exact e,?_,?_⟩
  .unfold ixN;rw[b! ha.1,b! (by rw[Vu,hl];lia)]
  .refine⟨_,D?,kl,_,D?,.inl ⟨l! ac,λl CU=>?_⟩⟩;have kt:KT H2 (upd (upd H2 p (.tup [.str (nameOf (eQ cell / 36) (fA cell)),.int 0])) kl (.lst ((as.map k!).set (fA cell).toNat (.ref p)))):=(iq BQ).trans (cH (xs:=as.map k!) (by rw[af Bq];exact e));refine q l (as.set (fA cell).toNat p) _ (aK (aK (aK sm (sm.free BQ)) zU) ?_) ?_ ?_
   .exact(aK (aK sm (sm.free BQ)) zU).free CU
   .rw[ac,List.map_set]
   .have MA:=kt.trans (iq (o:=.tup ((as.map k!).set (fA cell).toNat (.ref p))) CU);refine P2.set ?_ _ (hp.mono MA)
    have NQ:p≠l:=by
     intro z;rw[<-z,af Bq.symm,ac]at CU;cases CU
    show(upd _ l _) p=_;rw[af NQ,af Bq.symm,ac]
theorem vg(n:Nat)(z:Int):(Wv n [o! z]).flatten=(Wv n z).map o!:=by
 induction n with
 |zero=>rfl
 |succ n ih=>rw[Xs,YO,ih,Xs];rfl
inductive gd(K:VD)(vs:List V)(H:Hp)(Q:VK)(_E:XK):Prop
 |mk (a:Vy) (xs:List V) (many:Int):vs=[.ref a,.int many]->H a=A? (.lst xs)->(∀v∈xs,∃z,v=.int z)->xs.length<=1000->1<=many->many<=1000->(∀(r:Vy)(cs:List Int)(H':Hp),j! H H'->H' r=A? (.lst (cs.map o!))->cs.length=many.toNat->Q (.ref r) H')->gd K vs H Q _E
theorem kz:bj P w K mg base CX0 1 T.g_30.f T.g_30.d ["script","many"] (gd K):=by
 refine T.g_30.F.okA dY λzb A outer s H vs Q E hr h=>?_;obtain⟨a,xs,many,rfl,ea,hint,Qc,m1,m2,q⟩:=h
 refine⟨_,(aj (am 2 dY.nd (aq sL (bU (aa ad ae)) (pv 1)))
  (aj (bG Wq rfl (bW rfl T.n_7 (aa (aB aA rfl T.n_3 Wi (aa (pv 0) ae)) ae)) (pgN 3 dY.nd) (ak (im (aq aX (aq bC (aq fN (ax aS (pv 2) (aq aX (pv 3) (pv 1)) (λ_ _=>rfl)) ad) (ax aS (pv 0) (pv 3) (λ_ _=>rfl))) (aq pK ad ad)) (no (pv 2) (aq aX (pv 3) (pv 1)) set_list))))
  (ak (aF (pv 2))))),?_⟩
 try dsimp only[zy,yY]
 refine⟨lnE rfl,λl1 Bd=>?_⟩;refine gU Bd λH1 s1 e1=>?_;refine⟨_,D?,l1,_,_,D?,D?,e1,by lia,by lia,cG (by show 1 * many.toNat<=1000000;lia),λkl zU=>?_⟩;dsimp only;rw[vg];have s2:j! H (upd H1 kl (.lst ((Wv many.toNat (0:Int)).map o!))):=s1.trans (ao zU _);have e2:(upd H1 kl (.lst ((Wv many.toNat (0:Int)).map o!))) kl=A? (.lst ((Wv many.toNat (0:Int)).map o!)):=ac;have TZ:H kl=none:=s1.free zU;generalize(upd H1 kl (.lst ((Wv many.toNat (0:Int)).map o!)))=H2 at s2 e2 |-;refine⟨_,D?,a,_,D?,.inl (l! (s2 _ _ ea)),_,D?,by lia,by lia,?_⟩
 refine cw (n:=((xs.length:Nat):Int).toNat) (λi σ H3=>Ex2 λ(kv:Option V)(cs:List Int)=>An4 (σ=[A? (.ref a),A? (.int many),A? (.ref kl),kv]) (j! H H3) (H3 kl=A? (.lst (cs.map o!))) (cs.length=many.toNat))
  ⟨AQ,_,rfl,s2,e2,List.length_replicate⟩ ?_ ?_
 .rintro i σ H3 hi ⟨kv,cs,rfl,s3,e3,zj⟩
  have By:i<xs.length:=by
   have:i<((xs.length:Nat):Int).toNat:=hi;lia
  have y0:=Wl (0+(i:Int)) (show many≠0 by lia);have y1:=Wg (0+(i:Int)) (show 0<many by lia);obtain⟨ix,BI⟩:∃ix:Nat,(0+(i:Int))%many=(ix:Int):=⟨_,(Int.toNat_of_nonneg y0).symm⟩;obtain⟨c,hc⟩:∃c,cs[ix]?=A? c:=⟨_,Vw (by lia)⟩;obtain⟨x,hx⟩:∃x,xs[i]?=A? x:=⟨_,Vw By⟩;obtain⟨z,rfl⟩:=hint x (Vx hx);refine⟨_,D?,_,D?,_,D?,_,_,D?,D?,(by show 0<many;lia),kl,_,_,.int c,D?,D?,l! e3,at_nonneg y0 (by rw[BI,VQ,VA,hc];rfl),_,_,D?,D?,.inr ⟨by decide,by decide⟩,?_⟩;refine⟨_,D?,_,D?,a,_,_,.int z,D?,D?,l! (s3 _ _ ea),at_nonneg (by lia) (by rw[show(0+(i:Int)).toNat=i by lia];exact hx),_,_,D?,D?,_,_,D?,D?,⟨by decide,by decide,by decide⟩,_,_,D?,D?,(by show(0:Int)<10 ^ 60;decide),?_⟩;refine⟨_,D?,_,D?,_,D?,_,_,D?,D?,(by show 0<many;lia),kl,_,_,ix,D?,D?,e3,?_,?_⟩
  .rw[BI];unfold ixN;rw[b! (by lia),b! (by rw[Vu];lia)];simp
  .refine⟨_,cs.set ix ((c * 31+z)%10 ^ 60),D?,aK s3 TZ,?_,by rw[XR];exact zj⟩;rw[ac,List.map_set];rfl
 .rintro σ H3 ⟨kv,cs,rfl,s3,e3,zj⟩;exact⟨_,D?,q kl cs H3 s3 e3 zj⟩
theorem jl:∀{ks:List (V5×Int)}{as:List Vy},KsAt H ks as->∀z∈ks.zip as,z.1∈ks/\KAt H z.1 z.2
 |_,_,.nil,z,hz=>by simp at hz
 | _,_,.cons (a:=k) (b:=a) r t,z,hz=>by
   rw[Zb]at hz;rcases VS.mp hz with rfl|hz
   .exact⟨VO ..,r⟩
   .obtain⟨h1,h2⟩:=jl t z hz;exact⟨VR _ h1,h2⟩
theorem kR{te:TE}{kr:Vy}{z9:List Vy}{ks:List (V5×Int)}(e:H kr=A? (.tup (z9.map k!)))(zO:KsAt H ks z9)(g:gQ ks)
 (CC:∀(z:V5×Int)(ka:Vy)(H2:Hp)(R:Bool->Hp->Prop),j! H H2->KAt H2 z ka->R (decide (o! z.2=o! 0)) H2->tt ((cσ js σ).set 0 (A? (.ref ka))) H2 R)
 (Bz:∀(ka:Vy)(H2:Hp)(R:VK),R (.ref ka) H2->te ((cσ js σ).set 0 (A? (.ref ka))) H2 R)
 (q:∀(D:Vy)(k0:V5×Int)(ka:Vy)(rs:List V)(H':Hp),H D=AQ->j! H H'->H' D=A? (.lst (.ref ka::rs))->k0∈ks->k0.2=0->KAt H' k0 ka->fin D H') :
 ∀D,H D=AQ->∃(n:Nat)(W:Nat->Hp->Prop),W 0 (upd H D (.lst []))/\fU js (av 0) tt te σ (Itt K kr) D n W λH'=>fin D H':=by
 have zU:ks.length=z9.length:=VZ zO;have NR:=g.le;have K6:(ks.zip z9).length=ks.length:=by rw[Y7];lia
 have LV:∀(i:Nat)(x:V)(z:(V5×Int)×Vy),(z9.map k!)[i]?=A? x->(ks.zip z9)[i]?=A? z->x=.ref z.2:=λi x z hx hz=>by
  obtain⟨ka,rfl,Ac⟩:=cD hx;obtain⟨h1,h2⟩:=Xp.mp hz;rw[Ac]at h2;cases h2;rfl
 refine ej (ks.zip z9) (λz=>decide (o! z.1.2=o! 0)) (λz=>.ref z.2) (i! e) (by rw[K6,Vu];exact zU) (by rw[Vu];lia) (λi x z H2 R hx hz sm r=>?_) (λi x z H2 R hx hz _ sm r=>?_) (λD hD=>?_)
 .rw[LV i x z hx hz];have:=(jl zO z (Vx hz)).2;exact CC z.1 z.2 H2 R sm (sm _ _ this) r
 .rw[LV i x z hx hz];exact Bz z.2 H2 R r
 .obtain⟨k,hk,BY⟩:=g.zero;obtain⟨i,hi,rfl⟩:=List.getElem_of_mem hk;have hz:(ks.zip z9)[i]'(by lia)∈(ks.zip z9).filter λz=>decide (o! z.1.2=o! 0):=Xy.mpr ⟨WQ _,by rw[List.getElem_zip];exact d! (h! o! BY)⟩
  have y8:∀z∈(ks.zip z9).filter λz=>decide (o! z.1.2=o! 0),z.1∈ks/\z.1.2=0/\KAt H z.1 z.2:=λz hz=>by
   obtain⟨h1,h2⟩:=Xy.mp hz;obtain⟨h3,h4⟩:=jl zO z h1;exact⟨h3,V.int.inj (e! h2),h4⟩
  generalize((ks.zip z9).filter λz=>decide (o! z.1.2=o! 0))=bs at hz y8 |-;cases bs with
  |nil=>cases hz
  | cons z0 bs =>
    obtain⟨h1,h2,h3⟩:=y8 z0 (VO ..);exact q D z0.1 z0.2 _ _ hD (ao hD _) ac h1 h2 (ao hD _ _ _ h3)
inductive fQ(n:Nat)(vs:List V)(H:Hp)(Q:VK)(_E:XK):Prop
 |mk (cell:Int) (oa:Vy) (zD:List Vy) (outs:List (V5×Int)) (S C deep:Int):vs=[.int cell,.ref oa,.int S,.int C,.int deep]->H oa=A? (.tup (zD.map k!))->KsAt H outs zD->gQ outs->0<=S->S<=20->0<=C->C<=3->0<=deep->deep<(n:Int)->(∀(t:Th)(r:Vy)(H':Hp),j! H H'->At H' t r->t.FitS outs S C->t.tall<=deep.toNat+1->Q (.ref r) H')->fQ n vs H Q _E
theorem di:∀n:Nat,bj P w K mg base CX0 (n+2) T.g_31.f T.g_31.d ["cell","outs","states","kids","deep"] (fQ n)
 |0=>⟨λ_ _ _ _ h=>by obtain⟨_,_,_,_,_,_,_,_,_,_,_,_,_,_,_,h1,h2,_⟩:=h;lia,λ_ _ _ _ _ _ _ _ _ _ _ _ _ h=>by obtain⟨_,_,_,_,_,_,_,_,_,_,_,_,_,_,_,h1,h2,_⟩:=h;lia⟩
 | n+1=>by
   have ih:=di n;refine T.g_31.F.okA bN λzb A outer s H vs Q E hr h=>?_;obtain⟨cell,oa,zD,outs,S,C,deep,rfl,eo,zO,g,S0,S1,C0,C1,d0,d1,q⟩:=h
   refine⟨_,(aj (bE (N! (dP (aC qt (aq fN (pv 2) (pv 3)) ad (aJ _)) (da (N! (mm (aC fc (aq aX (pv 0) ad) ad (aJ _)) (kA (N! (dP (aC cL (pv 4) ad (aJ _)) (da (aC fc (aq aX (pv 0) ad) ad (aJ _))))))))))) (ak (aF (bc (aa il (aa (aq aX (aq bF (pv 0) ad) (pv 2)) (aa (aq aX (aq bF (aq bF (pv 0) ad) (pv 2)) (pv 3)) ae)))))) aT)
    (aj (am 5 bN.nd (ax az (pv 1) (aq aX (aq bF (pv 0) ad) (aB aA rfl T.n_3 Wi (aa (pv 1) ae))) (λ_ _=>rfl)))
    (aj (bE (aC cL (pv 4) ad (aJ _)) (ak (am 5 bN.nd (ax aS (bd (N:=["one"]) (js:=[AQ]) (g:=(av 0)) (tt:=(lV (tOp (rEq) (tOp (eg K) (bB 0) (tC (.int 1))) (tC (.int 0))))) (te:=(bB 0)) rfl (bK rfl (by decide +kernel) (by decide +kernel) rfl rfl rfl) (b9 (pv 1)) (λ_ _ _ _ _ _=>(pgN 0 xT)) (aE rfl) (λ_ _ _ _ _ _=>iI (aC cL (ax az (pv 0) ad (λ_ _=>rfl)) ad (aJ _))) (λ_ _ _ _ _ _=>(pv 0))) ad (λ_ _=>rfl)))) aT)
    (aj (am 6 bN.nd (bc ae))
    (aj (bG Wq rfl (bW rfl T.n_7 (aa (ax az (pv 5) ad (λ_ _=>rfl)) ae)) (pgN 7 bN.nd) (aj (am 8 bN.nd (de (ih) (hr.mono (VG _)) rfl T.g_31.m T.g_31.F.kp T.g_31.b .nil cV (aa (aq aX (aq fN (aq bC (aq bC (aq bF (pv 0) ad) (pv 7)) ad) ad) ad) (aa (pv 1) (aa (pv 2) (aa (pv 3) (aa (aq gg (pv 4) ad) ae)))))))
    (ak (am 6 bN.nd (aq eN (pv 6) (bc (aa (pv 8) ae)))))))
    (ak (aF (aq eN (bc (aa (ax az (pv 5) ad (λ_ _=>rfl)) ae)) (pv 6))))))))),?_⟩
   try dsimp only[zy,yY]
   have zU:outs.length=zD.length:=VZ zO;have NR:=g.le;have Bs:=g.ne;refine aN (λi' H'=>An2 (H=H') (i'=[A? (.int cell),A? (.ref oa),A? (.int S),A? (.int C),A? (.int deep),AQ,AQ,AQ,AQ])) (λkk hk=>?_) ?_
   .refine cn (λb H'=>An2 (H=H') ((b=B?->0<S/\0<C))) (λk2 zm=>?_) (λH' hb=>?_) (λH' hb=>?_)
    .refine⟨_,D?,_,D?,_,_,D?,D?,.inl ⟨by lia,by lia⟩,_,_,D?,D?,_,D?,?_⟩;refine eS (λc1=>?_) (λc1=>zm _ _ ⟨rfl,λz=>g! z VY⟩)
     have JS:0<S/\0<C:=by
      have Lf:0<S * C:=e! c1;refine⟨?_,?_⟩
      .rcases Int.lt_or_eq_of_le S0 with h|h
       .exact h
       .rw[<-h]at Lf;simp at Lf
      .rcases Int.lt_or_eq_of_le C0 with h|h
       .exact h
       .rw[<-h]at Lf;simp at Lf
     refine⟨_,D?,_,_,D?,D?,(by show(0:Int)<5;decide),_,_,D?,D?,_,D?,?_⟩;refine eS (λc2=>zm _ _ ⟨rfl,λ_=>JS⟩) (λc2=>?_);refine⟨_,D?,D?,_,D?,?_⟩;refine eS (λc3=>?_) (λc3=>zm _ _ ⟨rfl,λ_=>JS⟩);exact⟨_,D?,_,_,D?,D?,(by show(0:Int)<5;decide),_,_,D?,D?,_,D?,zm _ _ ⟨D?,λ_=>JS⟩⟩
    .obtain⟨rfl,hb⟩:=hb;obtain⟨hS,hC⟩:=hb rfl;refine⟨_,D?,_,_,D?,D?,⟨by decide,by decide⟩,_,D?,_,_,D?,D?,hS,_,D?,_,_,D?,D?,⟨by decide,by decide⟩,_,D?,_,_,D?,D?,⟨hS,by lia⟩,_,D?,_,_,D?,D?,hC,lnE rfl,λca D0=>?_⟩;have y0:=Wl (cell / 5) (show S≠0 by lia);have y1:=Wg (cell / 5) hS;have y2:=Wl (cell / 5 / S) (show C≠0 by lia);have y3:=Wg (cell / 5 / S) hC;refine q (.call (cell / 5%S) (cell / 5 / S%C)) ca _ (ao D0 _) ?_ ?_ ?_
     .rw[At];exact ac
     .rw[I!];exact⟨y0,by lia,y2,by lia⟩
     .rw[w!];lia
    .obtain⟨rfl,_⟩:=hb;exact hk _ _ ⟨rfl,rfl⟩
   rintro i' H' ⟨rfl,rfl⟩;have m0:=Wl (cell / 5) (show((zD.map k!).length:Int)≠0 by rw[Vu];lia);have m1:=Wg (cell / 5) (show(0:Int)<((zD.map k!).length:Int)by rw[Vu];lia);refine hid λZZ kZ=>?_;obtain⟨k0,BY⟩:∃k0,outs[(cell / 5%((zD.map k!).length:Int)).toNat]?=A? k0:=⟨_,Vw (by rw[Vu]at m0 m1 |-;lia)⟩;obtain⟨ka,Ac,zJ⟩:=u! zO BY;refine kZ ?_;refine⟨_,D?,_,D?,_,_,D?,D?,⟨by decide,by decide⟩,_,D?,oa,_,D?,.inr (i! eo),_,_,D?,D?,(by show(0:Int)<((zD.map k!).length:Int);rw[Vu];lia),oa,_,_,.ref ka,D?,D?,i! eo,at_nonneg m0 (gmE Ac),?_⟩;dsimp only[av];refine aN (λi' H'=>Ex2 λ(k0:V5×Int)(ka:Vy)=>An5 (k0∈outs) (KAt H' k0 ka) ((deep=0->k0.2=0)) (j! H H') (i'=[A? (.int cell),A? (.ref oa),A? (.int S),A? (.int C),A? (.int deep),A? (.ref ka),AQ,AQ,AQ])) (λkk hk=>?_) ?_
   .refine cn (λb H'=>An2 (H=H') ((b=C?->deep≠0))) (λk2 zm=>?_) (λH' hb=>?_) (λH' hb=>?_)
    .exact⟨_,D?,D?,_,D?,zm _ _ ⟨D?,λz z2=>of_decide_eq_false z (h! o! z2)⟩⟩
    .obtain⟨rfl,_⟩:=hb;refine⟨_,D?,oa,D?,⟨_,i! eo⟩,kR (K:=K) eo zO g (λz ka H2 R sm hz r=>⟨_,D?,ka,_,1,_,D?,D?,i! hz,at1,D?,_,D?,r⟩) (λka H2 R r=>⟨_,D?,r⟩) (λD k1 JT rs H1 hD s1 eD NS Ji e1=>?_)⟩;exact⟨D,_,0,.ref JT,D?,D?,l! eD,at0,hk _ _ ⟨k1,JT,NS,e1,λ_=>Ji,s1,D?⟩⟩
    .obtain⟨rfl,hb⟩:=hb;exact hk _ _ ⟨k0,ka,Vx BY,zJ,λz=>g! z (hb rfl),.refl _,rfl⟩
   rintro i' H1 ⟨k0,ka,Cg,zJ,hz,s1,rfl⟩;have zT:=g.num k0 Cg;refine⟨lnE rfl,λpl Am=>?_⟩;refine gU Am λH2 s2 e2=>?_;have e2:H2 pl=A? (.tup (([]:List Vy).map k!)):=e2;have JU:=s1.trans s2;refine⟨_,D?,ka,_,1,_,D?,D?,i! (s2 _ _ zJ),at1,k0.2,D?,by lia,by lia,?_⟩
   refine cw (n:=k0.2.toNat) (λi σ H3=>Ex5 λ(c7 c8:Option V)(pl:Vy)(bs:List Vy)(ts:List Th)=>An6 (σ=[A? (.int cell),A? (.ref oa),A? (.int S),A? (.int C),A? (.int deep),A? (.ref ka),A? (.ref pl),c7,c8]) (j! H1 H3) (H3 pl=A? (.tup (bs.map k!))) (Ats H3 ts bs) (ts.length=i) (∀t∈ts,t.FitS outs S C/\t.tall<=(deep - 1).toNat+1))
    ⟨AQ,AQ,pl,[],[],rfl,s2,e2,.nil,rfl,λt ht=>by cases ht⟩ ?_ ?_
   .rintro i σ H3 hi ⟨c7,c8,pl,bs,ts,rfl,s3,e3,AM,zh,y8⟩;have Qd:i<k0.2.toNat:=hi;have sB:j! H H3:=s1.trans s3
    have JV:1<=deep:=by
     by_cases z:deep=0
     .have:=hz z;lia
     .lia
    refine⟨_,D?,_,_,D?,D?,⟨by decide,by decide⟩,_,D?,_,_,D?,D?,_,_,D?,D?,_,_,D?,D?,.inr ⟨by decide,by decide⟩,_,_,D?,D?,(by show(0:Int)<2147483647;decide),?_⟩;refine⟨_,D?,_,D?,_,D?,_,D?,_,_,D?,D?,_,oa,zD,outs,S,C,deep - 1,D?,sB _ _ eo,zO.mono (n! sB),g,S0,S1,C0,C1,by lia,by lia,λt r H4 s4 zP zK zz=>?_⟩;have AF:bs.length=ts.length:=AM.length;refine⟨_,D?,_,D?,lnE rfl,λp1 Aq=>?_⟩;dsimp only;refine gU Aq λH5 s5 e5=>?_;refine pX (s5 _ _ (s4 _ _ e3)) e5 (by rw[Vu];show bs.length+1<=1000000;lia) λp H6 s6 e6=>?_;have AJ:=s4.trans (s5.trans s6);refine⟨_,_,p,bs++[r],ts++[t],D?,s3.trans AJ,by rw[e6,V3];rfl,(AM.mono (n! AJ)).append (.cons (zP.mono (n! (s5.trans s6))) .nil),by rw[VJ,zh];rfl,λu hu=>?_⟩;rcases VP.mp hu with hu|hu
    .exact y8 u hu
    .rw[VH.mp hu];exact⟨zK,zz⟩
   .rintro σ H3 ⟨c7,c8,pl,bs,ts,rfl,s3,e3,AM,zh,y8⟩;have AF:bs.length=ts.length:=AM.length;refine⟨_,D?,ka,_,0,.str k0.1,D?,D?,i! (s3 _ _ zJ),at0,lnE rfl,λp1 Aq=>?_⟩;dsimp only;refine gU Aq λH4 s4 e4=>?_;refine⟨_,D?,?_⟩;refine pX e4 (s4 _ _ e3) (by rw[Vu];show 1+bs.length<=1000000;lia) λp H6 s6 e6=>?_;have Gh:=(g.low k0 Cg).1;refine q (.knot k0.1 ts) p H6 (s1.trans (s3.trans (s4.trans s6))) ?_ ?_ ?_
    .rw[At];exact⟨oM Gh,bs,e6,AM.mono (n! (s4.trans s6))⟩
    .rw[I!];refine⟨?_,FitSs.of λt ht=>(y8 t ht).1⟩
     have:(k0.1,(ts.length:Int))=k0:=by
      rw[zh];exact Prod.ext rfl (by show((k0.2.toNat:Nat):Int)=k0.2;lia)
     rw[this];exact Cg
    .rw[w!];by_cases z:deep=0
     .have zm:=hz z;have:ts=[]:=XO.mp (by lia);subst this;rw[bw];lia
     .have:=l4 (n:=(deep - 1).toNat+1) λt ht=>(y8 t ht).2;lia
inductive gy(n:Nat)(vs:List V)(H:Hp)(Q:VK)(_E:XK):Prop
 |mk (l:Vy) (x:Int) (oa:Vy) (zD:List Vy) (outs:List (V5×Int)) (S C deep:Int):vs=[.ref l,.ref oa,.int S,.int C,.int deep]->H l=A? (.lst [.int x])->H oa=A? (.tup (zD.map k!))->KsAt H outs zD->gQ outs->0<=S->S<=20->0<=C->C<=3->0<=deep->deep<(n:Int)->(∀(t:Th)(r:Vy)(x':Int)(H':Hp),SameB l H H'->H' l=A? (.lst [.int x'])->At H' t r->t.FitS outs S C->t.tall<=deep.toNat+1->Q (.ref r) H')->gy n vs H Q _E
theorem d8:∀n:Nat,bj P w K mg base CX0 (n+2) T.g_32.f T.g_32.d ["own","outs","states","kids","deep"] (gy n)
 |0=>⟨λ_ _ _ _ h=>by obtain⟨_,_,_,_,_,_,_,_,_,_,_,_,_,_,_,_,_,h1,h2,_⟩:=h;lia,λ_ _ _ _ _ _ _ _ _ _ _ _ _ h=>by obtain⟨_,_,_,_,_,_,_,_,_,_,_,_,_,_,_,_,_,h1,h2,_⟩:=h;lia⟩
 | n+1=>by
   have ih:=d8 n;refine T.g_32.F.okA bL λzb A outer s H vs Q E hr h=>?_;obtain⟨l,x,oa,zD,outs,S,C,deep,rfl,el,eo,zO,g,S0,S1,C0,C1,d0,d1,q⟩:=h
   refine⟨_,(aj (am 5 bL.nd (aq fN (pv 2) (pv 3)))
    (aj (am 6 bL.nd (aq aX (ax aS (pv 0) ad (λ_ _=>rfl)) (aq bC (pv 5) (aB aA rfl T.n_3 Wi (aa (pv 1) ae)))))
    (aj (im (aq bF (ax aS (pv 0) ad (λ_ _=>rfl)) (aq bC (pv 5) (aB aA rfl T.n_3 Wi (aa (pv 1) ae)))) (no (pv 0) ad set_list))
    (aj (bE (aC fc (pv 6) (pv 5) (aJ _)) (ak (aF (bc (aa il (aa (aq aX (pv 6) (pv 2)) (aa (aq bF (pv 6) (pv 2)) ae)))))) aT)
    (aj (am 7 bL.nd (ax az (pv 1) (aq gg (pv 6) (pv 5)) (λ_ _=>rfl)))
    (aj (bE (aC cL (pv 4) ad (aJ _)) (ak (am 7 bL.nd (ax aS (bd (N:=["one"]) (js:=[AQ]) (g:=(av 0)) (tt:=(lV (tOp (rEq) (tOp (eg K) (bB 0) (tC (.int 1))) (tC (.int 0))))) (te:=(bB 0)) rfl (bK rfl (by decide +kernel) (by decide +kernel) rfl rfl rfl) (b9 (pv 1)) (λ_ _ _ _ _ _=>(pgN 0 xT)) (aE rfl) (λ_ _ _ _ _ _=>iI (aC cL (ax az (pv 0) ad (λ_ _=>rfl)) ad (aJ _))) (λ_ _ _ _ _ _=>(pv 0))) ad (λ_ _=>rfl)))) aT)
    (aj (am 8 bL.nd (bc ae))
    (aj (bG Wq rfl (bW rfl T.n_7 (aa (ax az (pv 7) ad (λ_ _=>rfl)) ae)) (pgN 9 bL.nd) (ak (am 8 bL.nd (aq eN (pv 8) (bc (aa (de (ih) (hr.mono (VG _)) rfl T.g_32.m T.g_32.F.kp T.g_32.b .nil cV (aa (pv 0) (aa (pv 1) (aa (pv 2) (aa (pv 3) (aa (aq gg (pv 4) ad) ae)))))) ae))))))
    (ak (aF (aq eN (bc (aa (ax az (pv 7) ad (λ_ _=>rfl)) ae)) (pv 8)))))))))))),?_⟩
   try dsimp only[zy,yY]
   have zU:outs.length=zD.length:=VZ zO;have NR:=g.le;have Bs:=g.ne;have Lg:((zD.map k!).length:Int)=(outs.length:Int):=by rw[Vu,zU]
   have JS:0<=S * C:=Int.mul_nonneg S0 C0
   have NT:S * C<=60:=by
    have:S * C<=20 * 3:=Int.mul_le_mul S1 C1 C0 (by decide);lia
   refine⟨_,D?,_,D?,_,_,D?,D?,.inl ⟨by lia,by lia⟩,?_⟩;dsimp only[av];have zZ:0<S * C+((zD.map k!).length:Int):=by lia
   refine⟨_,D?,l,_,0,.int x,D?,D?,l! el,at0,_,D?,_,D?,oa,_,D?,.inr (i! eo),_,_,D?,D?,_,_,D?,D?,zZ,?_⟩;refine⟨_,D?,l,_,0,.int x,D?,D?,l! el,at0,_,D?,_,D?,oa,_,D?,.inr (i! eo),_,_,D?,D?,_,_,D?,D?,⟨zZ,by show S * C+((zD.map k!).length:Int)<1073741824;lia⟩,?_⟩;refine⟨_,D?,l,_,0,0,D?,D?,el,D?,?_⟩;dsimp only;have p0:=Wl x (show S * C+((zD.map k!).length:Int)≠0 by lia);have p1:=Wg x zZ;generalize x%(S * C+((zD.map k!).length:Int))=pick at p0 p1 |-;generalize x / (S * C+((zD.map k!).length:Int))=x1;have e1:(upd H l (.lst ([o! x].set 0 (.int x1)))) l=A? (.lst [.int x1]):=by rw[ac];rfl
   have s1:SameB l H (upd H l (.lst ([o! x].set 0 (.int x1)))):=.set;generalize(upd H l (.lst ([o! x].set 0 (.int x1))))=H1 at e1 s1 |-;have Lh:H1 oa=A? (.tup (zD.map k!)):=s1 _ _ (aH eo el (by intro z;cases z)) eo;have T1:KT H H1:=s1.kt el;have Gi:=zO.mono T1;generalize Bi:S * C=calls at JS NT p1 zZ |-;refine aN (λi' H'=>An3 (H1=H') (¬pick<calls) (i'=[A? (.ref l),A? (.ref oa),A? (.int S),A? (.int C),A? (.int deep),A? (.int calls),A? (.int pick),AQ,AQ,AQ])) (λkk hk=>?_) ?_
   .refine cn (λb H'=>An2 (H1=H') (b=decide (pick<calls))) (λk2 zm=>?_) (λH' hb=>?_) (λH' hb=>?_)
    .exact⟨_,D?,_,D?,_,_,D?,D?,_,D?,zm _ _ ⟨D?,D?⟩⟩
    .obtain⟨rfl,hb⟩:=hb;have yZ:=e! hb.symm
     have hS:0<S:=by
      rcases Int.lt_or_eq_of_le S0 with h|h
      .exact h
      .rw[<-h,Int.zero_mul]at Bi;lia
     have y0:=Wl pick (show S≠0 by lia);have y1:=Wg pick hS;have y2:0<=pick / S:=Int.ediv_nonneg p0 (by lia);have y3:pick / S<C:=Int.ediv_lt_of_lt_mul hS (by rw[Int.mul_comm,Bi];exact yZ);refine⟨_,D?,_,D?,_,_,D?,D?,hS,_,D?,_,D?,_,_,D?,D?,⟨hS,by lia⟩,lnE rfl,λca D0=>?_⟩;have zj:l≠ca:=λz=>by rw[<-z,e1]at D0;cases D0
     refine q (.call (pick%S) (pick / S)) ca x1 _ (s1.trans (.of (ao D0 _))) (by rw[af zj];exact e1) ?_ ?_ ?_
     .rw[At];exact ac
     .rw[I!];exact⟨y0,by lia,y2,by lia⟩
     .rw[w!];lia
    .obtain⟨rfl,hb⟩:=hb;exact hk _ _ ⟨rfl,of_decide_eq_false hb.symm,rfl⟩
   rintro i' H' ⟨rfl,GN,rfl⟩;refine hid λZZ kZ=>?_;obtain⟨k0,BY⟩:∃k0,outs[(pick - calls).toNat]?=A? k0:=⟨_,Vw (by lia)⟩;obtain⟨ka,Ac,zJ⟩:=u! Gi BY;refine kZ ?_;refine⟨_,D?,_,D?,_,D?,_,_,D?,D?,oa,_,_,.ref ka,D?,D?,i! Lh,at_nonneg (by lia) (gmE Ac),?_⟩;dsimp only[av];refine aN (λi' H'=>Ex2 λ(k0:V5×Int)(ka:Vy)=>An5 (k0∈outs) (KAt H' k0 ka) ((deep=0->k0.2=0)) (j! H1 H') (i'=[A? (.ref l),A? (.ref oa),A? (.int S),A? (.int C),A? (.int deep),A? (.int calls),A? (.int pick),A? (.ref ka),AQ,AQ])) (λkk hk=>?_) ?_
   .refine cn (λb H'=>An2 (H1=H') ((b=C?->deep≠0))) (λk2 zm=>?_) (λH' hb=>?_) (λH' hb=>?_)
    .exact⟨_,D?,D?,_,D?,zm _ _ ⟨D?,λz z2=>of_decide_eq_false z (h! o! z2)⟩⟩
    .obtain⟨rfl,_⟩:=hb;refine⟨_,D?,oa,D?,⟨_,i! Lh⟩,kR (K:=K) Lh Gi g (λz ka H2 R sm hz r=>⟨_,D?,ka,_,1,_,D?,D?,i! hz,at1,D?,_,D?,r⟩) (λka H2 R r=>⟨_,D?,r⟩) (λD k1 JT rs H2 hD s2 eD NS Ji e2=>?_)⟩;exact⟨D,_,0,.ref JT,D?,D?,l! eD,at0,hk _ _ ⟨k1,JT,NS,e2,λ_=>Ji,s2,D?⟩⟩
    .obtain⟨rfl,hb⟩:=hb;exact hk _ _ ⟨k0,ka,Vx BY,zJ,λz=>g! z (hb rfl),.refl _,rfl⟩
   clear BY Ac zJ;rintro i' H2 ⟨k0,ka,Cg,zJ,hz,s2,rfl⟩;have zT:=g.num k0 Cg;have Gj:=s2 _ _ e1;refine⟨lnE rfl,λpl Am=>?_⟩;refine gU Am λH3 s3 e3=>?_;have e3:H3 pl=A? (.tup (([]:List Vy).map k!)):=e3;refine⟨_,D?,ka,_,1,_,D?,D?,i! (s3 _ _ zJ),at1,k0.2,D?,by lia,by lia,?_⟩
   refine cw (n:=k0.2.toNat) (λi σ H4=>Ex5 λ(c9:Option V)(pl:Vy)(bs:List Vy)(ts:List Th)(x':Int)=>An7 (σ=[A? (.ref l),A? (.ref oa),A? (.int S),A? (.int C),A? (.int deep),A? (.int calls),A? (.int pick),A? (.ref ka),A? (.ref pl),c9]) (SameB l H2 H4) (H4 l=A? (.lst [.int x'])) (H4 pl=A? (.tup (bs.map k!))) (Ats H4 ts bs) (ts.length=i) (∀t∈ts,t.FitS outs S C/\t.tall<=(deep - 1).toNat+1))
    ⟨AQ,pl,[],[],x1,rfl,.of s3,s3 _ _ Gj,e3,.nil,rfl,λt ht=>by cases ht⟩ ?_ ?_
   .rintro i σ H4 hi ⟨c9,pl,bs,ts,x',rfl,s4,Li,e4,AM,zh,y8⟩;have Qd:i<k0.2.toNat:=hi;have Lj:KT H2 H4:=s4.kt Gj
    have JV:1<=deep:=by
     by_cases z:deep=0
     .have:=hz z;lia
     .lia
    refine⟨_,D?,_,D?,_,D?,_,D?,_,D?,_,D?,_,_,D?,D?,l,x',oa,zD,outs,S,C,deep - 1,D?,Li,Lj _ _ (s2 _ _ Lh),Gi.mono ((n! s2).trans Lj),g,S0,S1,C0,C1,by lia,by lia,λt r x5 H5 s5 T2 zP zK zz=>?_⟩;have AF:bs.length=ts.length:=AM.length;have E1:KT H4 H5:=s5.kt Li;refine⟨lnE rfl,λT3 Aq=>?_⟩;dsimp only;refine gU Aq λH6 s6 e6=>?_;refine pX (s6 _ _ (E1 _ _ e4)) e6 (by rw[Vu];show bs.length+1<=1000000;lia) λp H7 s7 e7=>?_;have Cz:=s6.trans s7;refine⟨_,p,bs++[r],ts++[t],x5,D?,s4.trans (s5.trans (.of Cz)),Cz _ _ T2,by rw[e7,V3];rfl,(AM.mono (E1.trans (n! Cz))).append (.cons (zP.mono (n! Cz)) .nil),by rw[VJ,zh];rfl,λu hu=>?_⟩;rcases VP.mp hu with hu|hu
    .exact y8 u hu
    .rw[VH.mp hu];exact⟨zK,zz⟩
   .rintro σ H4 ⟨c9,pl,bs,ts,x',rfl,s4,Li,e4,AM,zh,y8⟩;have AF:bs.length=ts.length:=AM.length;have Lj:KT H2 H4:=s4.kt Gj;refine⟨_,D?,ka,_,0,.str k0.1,D?,D?,i! (Lj _ _ zJ),at0,lnE rfl,λT3 Aq=>?_⟩;dsimp only;refine gU Aq λH5 s5 e5=>?_;refine⟨_,D?,?_⟩;refine pX e5 (s5 _ _ e4) (by rw[Vu];show 1+bs.length<=1000000;lia) λp H6 s6 e6=>?_;have E4:=s5.trans s6;have Gh:=(g.low k0 Cg).1;refine q (.knot k0.1 ts) p x' H6 (s1.trans ((z! s2).trans (s4.trans (.of E4)))) (E4 _ _ Li) ?_ ?_ ?_
    .rw[At];exact⟨oM Gh,bs,e6,AM.mono (n! E4)⟩
    .rw[I!];refine⟨?_,FitSs.of λt ht=>(y8 t ht).1⟩
     have:(k0.1,(ts.length:Int))=k0:=by
      rw[zh];exact Prod.ext rfl (by show((k0.2.toNat:Nat):Int)=k0.2;lia)
     rw[this];exact Cg
    .rw[w!];by_cases z:deep=0
     .have zm:=hz z;have:ts=[]:=XO.mp (by lia);subst this;rw[bw];lia
     .have:=l4 (n:=(deep - 1).toNat+1) λt ht=>(y8 t ht).2;lia
theorem uM(h:v∈dw xs lo hi):v∈xs:=by
 unfold dw at h;exact List.mem_of_mem_drop (List.mem_of_mem_take h)
theorem xC(xs:List V)(lo hi:Option Int):(dw xs lo hi).length<=xs.length:=by
 unfold dw;rw[WA,WO];lia
theorem SameB.fresh(hl:H l=AQ)(s:j! H H1)(b:SameB l H1 H'):j! H H':=λa o e=>b a o (λz=>by rw[z,hl]at e;cases e) (s a o e)
def G4(ks:List (V5×Int)):Prop:=GoodN ks/\ks.length<=4
theorem G4.g{ks:List (V5×Int)}(h:G4 ks):gQ ks:=h.1.goodK h.2
def TsF(ins outs:List (V5×Int))(S:Int)(ts:List Th):Prop:=∀(j:Nat)(t:Th)(k:V5×Int),ts[j]?=A? t->ins[j]?=A? k->t.FitS outs S k.2/\t.tall<=3
def RwF(ins outs:List (V5×Int))(S:Int)(row:List Th):Prop:=row.length=ins.length/\TsF ins outs S row
theorem TsF.snoc{S:Int}{ts:List Th}{t:Th}{k:V5×Int}(h:TsF ins outs S ts)(hk:ins[ts.length]?=A? k)(hf:t.FitS outs S k.2)(ht:t.tall<=3):TsF ins outs S (ts++[t]):=λj u k' hu zt=>by
 by_cases hj:j<ts.length
 .rw[Wj hj]at hu;exact h j u k' hu zt
 .have CI:=(glE hu);rw[VJ,Wa]at CI;obtain rfl:j=ts.length:=by lia
  rw[Ww (VG _),YY]at hu;cases hu;rw[hk]at zt;cases zt;exact⟨hf,ht⟩
structure Bk48(ins outs:List (V5×Int))(head:Th)(rows:List (List Th)):Prop where
 gi:G4 ins
 go:G4 outs
 few:rows.length<=6
 row:∀row∈rows,RwF ins outs (rows.length:Nat) row
 hd:head.FitS outs (rows.length:Nat) 1/\head.tall<=3
inductive iB(K:VD)(vs:List V)(H:Hp)(Q:VK)(_E:XK):Prop
 |mk (a:Vy) (ns:List Int):vs=[.ref a,.int 3,.int 2]->SqL K H a (ns.map o!)->ns.length<=63->(∀(r:Vy)(ins outs:List (V5×Int))(head:Th)(rows:List (List Th))(H':Hp),j! H H'->Bk H' ins outs head rows r->Bk48 ins outs head rows->Q (.ref r) H')->iB K vs H Q _E
theorem mT:bj P w K mg base CX0 9 T.g_33.f T.g_33.d ["script","most","deep"] (iB K):=by
 refine T.g_33.F.okA aQ λzb A outer s H vs Q E hr h=>?_;obtain⟨a,ns,rfl,hS,AE,q⟩:=h
 refine⟨_,(aj (am 3 aQ.nd (pcF T.g_29 (hZ T) hr (aa (pcF T.g_27 (aW T) hr (aa (pv 0) (aa ad ae))) ae)))
  (aj (am 4 aQ.nd (pcF T.g_29 (hZ T) hr (aa (pcF T.g_27 (aW T) hr (aa (pv 0) (aa ad ae))) ae)))
  (aj (bE (aC cL (aq aX (aq bF (pcF T.g_27 (aW T) hr (aa (pv 0) (aa ad ae))) ad) ad) ad (aJ _)) (ak (am 4 aQ.nd (pv 3))) aT)
  (aj (am 5 aQ.nd (aq aX (pcF T.g_27 (aW T) hr (aa (pv 0) (aa ad ae))) (aq bC (pv 1) ad)))
  (aj (bE (aC cL (aq aX (aq bF (pcF T.g_27 (aW T) hr (aa (pv 0) (aa ad ae))) ad) ad) ad (aJ _)) (ak (am 5 aQ.nd (aq bC ad (aq aX (aq bF (pcF T.g_27 (aW T) hr (aa (pv 0) (aa ad ae))) ad) ad)))) aT)
  (aj (bE (aC mC ad (bd (N:=["pair"]) (js:=[AQ]) (g:=(av 0)) (tt:=aR) (te:=(tOp (eg K) (bB 0) (tC (.int 1)))) rfl (bK rfl (by decide +kernel) (by decide +kernel) rfl rfl rfl) (b9 (pv 3)) (λ_ _ _ _ _ _=>(pgN 0 sV)) (aE rfl) (λ_ _ _ _ _ _=>aU) (λ_ _ _ _ _ _=>(ax az (pv 0) ad (λ_ _=>rfl)))) (by with_unfolding_all rfl)) (ak (am 5 aQ.nd (aB (sE rfl) rfl T.n_6 PyProof.Rows.boot_min (aa (pv 5) (aa ad ae))))) aT)
  (aj (am 6 aQ.nd (pcF T.g_30 (kz T) hr (aa (aZ j6 (pv 0) (br ad) bJ) (aa (aq bC (aq fN (pv 5) (aB aA rfl T.n_3 Wi (aa (pv 3) ae))) ad) ae))))
  (aj (am 7 aQ.nd (nn cL (aq aX (aq bF (pcF T.g_27 (aW T) hr (aa (pv 0) (aa ad ae))) ad) ad) ad (aJ _)))
  (aj (am 8 aQ.nd (bU ae))
  (aj (bG Wq rfl (bW rfl T.n_7 (aa (pv 5) ae)) (pgN 9 aQ.nd) (aj (am 10 aQ.nd (bU ae))
  (aj (bG Wq rfl (bW rfl T.n_7 (aa (aB aA rfl T.n_3 Wi (aa (pv 3) ae)) ae)) (pgN 11 aQ.nd) (aj (am 12 aQ.nd (aq bC (aq bC (ax aS (pv 6) (aq bC (aq bC ad (aq fN (pv 9) (aB aA rfl T.n_3 Wi (aa (pv 3) ae)))) (pv 11)) (λ_ _=>rfl)) (aq fN ad (pv 11))) (pv 9)))
  (ak (bE (b7 (pv 7) (λ_=>rfl)) (ak (aY (cB V7 Wo Wn bq (pv 10) (aa (pcF T.g_32 (d8 T 5) hr (aa (bU (aa (pv 12) ae)) (aa (pv 4) (aa (pv 5) (aa (ax az (ax az (pv 3) (pv 11) (λ_ _=>rfl)) ad (λ_ _=>rfl)) (aa (pv 2) ae)))))) ae)))) (ak (aY (cB V7 Wo Wn bq (pv 10) (aa (pcF T.g_31 (di T 5) hr (aa (pv 12) (aa (pv 4) (aa (pv 5) (aa (ax az (ax az (pv 3) (pv 11) (λ_ _=>rfl)) ad (λ_ _=>rfl)) (aa (aq aX (aq bF (pv 12) ad) (aq bC (pv 2) ad)) ae)))))) ae))))))))
  (ak (aY (cB V7 Wo Wn bq (pv 8) (aa (b8 bz rfl T.n_10 WN (aa (pv 10) ae)) ae)))))))
  (aj (am 13 aQ.nd (pcF T.g_31 (di T 5) hr (aa (ax aS (pv 6) ad (λ_ _=>rfl)) (aa (pv 4) (aa (pv 5) (aa ad (aa (pv 2) ae)))))))
  (aj (bE (b7 (pv 7) (λ_=>rfl)) (ak (am 13 aQ.nd (pcF T.g_32 (d8 T 5) hr (aa (bU (aa (ax aS (pv 6) ad (λ_ _=>rfl)) ae)) (aa (pv 4) (aa (pv 5) (aa ad (aa (pv 2) ae)))))))) aT)
  (ak (aF (bc (aa (pv 3) (aa (pv 4) (aa (pv 13) (aa (b8 bz rfl T.n_10 WN (aa (pv 8) ae)) ae))))))))))))))))))),?_⟩
 try dsimp only[zy,yY]
 refine⟨_,D?,a,ns,0,D?,hS,by decide,cellAt ns 0,D?,mL ns 0,λia zi H1 s1 ei Ci=>?_⟩;refine⟨_,D?,a,ns,1,D?,s1.seq hS,by decide,cellAt ns 1,D?,mL ns 1,λT4 NU H2 s2 Qe Gk=>?_⟩;have gI:G4 (du (cellAt ns 0)):=jO _;have NV:G4 (du (cellAt ns 1)):=jO _;generalize du (cellAt ns 0)=ins at Ci gI;generalize du (cellAt ns 1)=JW at Gk NV;have gi:=gI.g;have Ci:=Ci.mono (n! s2);have ei:=s2 _ _ ei;have JU:=s1.trans s2;have hS:=JU.seq hS;dsimp only[av];refine aN (λi' H'=>Ex3 λ(oa:Vy)(zD:List Vy)(outs:List (V5×Int))=>An5 (H2=H') (H2 oa=A? (.tup (zD.map k!))) (KsAt H2 outs zD) (G4 outs) (i'=[A? (.ref a),A? (.int 3),A? (.int 2),A? (.ref ia),A? (.ref oa),AQ,AQ,AQ,AQ,AQ,AQ,AQ,AQ,AQ])) (λkk hk=>?_) ?_
 .refine cn (λb H'=>H2=H') (λk2 zm=>?_) (λH' hb=>?_) (λH' hb=>?_)
  .exact⟨_,D?,a,ns,1,D?,hS,by decide,_,_,D?,D?,⟨by decide,by decide⟩,_,_,D?,D?,(by show(0:Int)<3;decide),D?,_,D?,zm _ _ rfl⟩
  .subst hb;exact⟨_,D?,hk _ _ ⟨ia,zi,ins,D?,ei,Ci,gI,D?⟩⟩
  .subst hb;exact hk _ _ ⟨T4,NU,JW,rfl,Qe,Gk,NV,rfl⟩
 clear Qe Gk NV;rintro i' H' ⟨oa,zD,outs,rfl,eo,EB,gO,rfl⟩;have go:=gO.g;have Ab:ins.length=zi.length:=VZ Ci;have Rj:=gi.le;have JD:((zi.map k!).length:Int)=(ins.length:Int):=by rw[Vu,Ab]
 refine⟨_,D?,a,ns,2,D?,hS,by decide,_,D?,_,_,D?,D?,_,_,D?,D?,(by show(0:Int)<3+1;decide),?_⟩;have JX:=Wl (cellAt ns 2) (show(3+1:Int)≠0 by decide);have Lk:=Wg (cellAt ns 2) (show(0:Int)<3+1 by decide);dsimp only[av];have T5:=gI.2;generalize cellAt ns 2%(3+1)=Sx at JX Lk |-;refine aN (λi' H'=>Ex1 λ(S:Int)=>An4 (H2=H') (0<=S) (S<=6) (i'=[A? (.ref a),A? (.int 3),A? (.int 2),A? (.ref ia),A? (.ref oa),A? (.int S),AQ,AQ,AQ,AQ,AQ,AQ,AQ,AQ])) (λkk hk=>?_) ?_
 .refine⟨_,D?,a,ns,2,D?,hS,by decide,_,_,D?,D?,⟨by decide,by decide⟩,_,_,D?,D?,(by show(0:Int)<4;decide),D?,_,D?,?_⟩;refine eS (λ_=>?_) (λ_=>?_)
  .have y0:=Wl (cellAt ns 2 / 112) (show(3:Int)≠0 by decide);have y1:=Wg (cellAt ns 2 / 112) (show(0:Int)<3 by decide);exact⟨_,D?,a,ns,2,D?,hS,by decide,_,_,D?,D?,⟨by decide,by decide⟩,_,_,D?,D?,(by show(0:Int)<3;decide),_,_,D?,D?,hk _ _ ⟨_,D?,by lia,by lia,D?⟩⟩
  .exact hk _ _ ⟨Sx,rfl,JX,by lia,rfl⟩
 clear JX Lk;rintro i' H' ⟨Sx,rfl,JX,Lk,rfl⟩;refine aN (λi' H'=>Ex1 λ(S:Int)=>An4 (j! H2 H') (0<=S) (S<=6) (i'=[A? (.ref a),A? (.int 3),A? (.int 2),A? (.ref ia),A? (.ref oa),A? (.int S),AQ,AQ,AQ,AQ,AQ,AQ,AQ,AQ])) (λkk hk=>?_) ?_
 .refine⟨_,D?,ia,D?,⟨_,i! ei⟩,bY (zs:=ins) (f:=λk=>o! k.2) (i! ei) (by rw[Vu];exact Ab) (by rw[Vu];lia) (λi x z Hx R W' hx hz sx hR=>?_) (λl Hx hl sx el=>?_)⟩
  .obtain⟨ka,Ac,zJ⟩:=u! Ci hz;rw[VA,Ac]at hx;cases hx;exact⟨_,D?,ka,_,1,_,D?,D?,i! (sx _ _ zJ),at1,hR Hx (λ_ _ e=>e)⟩
  refine⟨l,_,D?,.inl (l! el),D?,?_,_,D?,?_⟩
  .rw[List.all_map,X2];intro x _;rfl
  dsimp only;refine eS (λ_=>?_) (λ_=>?_)
  .refine⟨_,D?,_,_,D?,hk _ _ ⟨_,sx,?_,?_,D?⟩⟩
   .split <;> lia
   .split <;> lia
  .exact hk _ _ ⟨Sx,sx,by lia,by lia,rfl⟩
 rintro i' Vm ⟨S,G',S0,S1,rfl⟩;have Ci:=Ci.mono (n! G');have ei:=G' _ _ ei;have eo:=G' _ _ eo;have EB:=EB.mono (n! G');have JU:=JU.trans G';have hS:=G'.seq hS;clear JX Lk;have T6:0<=S * (ins.length:Int):=Int.mul_nonneg S0 (by lia)
 have NW:S * (ins.length:Int)<=24:=by
  have:S * (ins.length:Int)<=6 * 4:=Int.mul_le_mul (by lia) (by lia) (by lia) (by decide);lia
 rw[<-JD]at T6 NW;refine⟨_,D?,3,D?,a,_,D?,hS,λp hp=>?_⟩;dsimp only[av];refine gU hp λH3 s3 e3=>?_;have FO:=xC (ns.map o!) (A? 3) AQ;rw[Vu]at FO;refine⟨_,D?,_,D?,ia,_,D?,.inr (i! (s3 _ _ ei)),_,_,D?,D?,.inl ⟨by lia,by lia⟩,_,_,D?,D?,p,_,_,D?,e3,(λv hv=>(VX.mp (uM hv)).elim λz hz=>⟨z,hz.2.symm⟩),by lia,by lia,by lia,λca cs H4 s4 ec zj=>?_⟩;have D4:=s3.trans s4;have hS:=D4.seq hS;have T7:=JU.trans D4;have ei:=D4 _ _ ei;have Ci:=Ci.mono (n! D4);have eo:=D4 _ _ eo;have EB:=EB.mono (n! D4);refine⟨_,D?,a,ns,2,D?,hS,by decide,_,_,D?,D?,⟨by decide,by decide⟩,_,_,D?,D?,(by show(0:Int)<2;decide),D?,?_⟩;dsimp only[av];generalize decide (o! (cellAt ns 2 / 7%2)=o! 1)=dg;refine⟨lnE rfl,λrl JY=>?_⟩;refine gU JY λH5 T8 M8=>?_;refine⟨_,D?,S,D?,by lia,by lia,?_⟩
 refine cw (n:=S.toNat) (λi σ H3=>Ex6 λ(sv rv kv cv:Option V)(zx:List Vy)(rows:List (List Th))=>An6 (σ=[A? (.ref a),A? (.int 3),A? (.int 2),A? (.ref ia),A? (.ref oa),A? (.int S),A? (.ref ca),A? (.bl dg),A? (.ref rl),sv,rv,kv,cv,AQ]) (j! H4 H3) (H3 rl=A? (.lst (zx.map k!))) (Wc (RowAt H3) rows zx) (rows.length=i) (∀row∈rows,RwF ins outs S row))
  ⟨AQ,AQ,AQ,AQ,[],[],rfl,T8,M8,.nil,rfl,λt ht=>by cases ht⟩ ?_ ?_
 .rintro i σ H3 hi ⟨sv,rv,kv,cv,zx,rows,rfl,s3,Ll,BO,NX,y8⟩;have Qd:i<S.toNat:=hi;have JZ:rows.length=zx.length:=VZ BO;refine⟨lnE rfl,λrw Gd=>?_⟩;have NY:H4 rw=none:=s3.free Gd;have NZ:rw≠rl:=λz=>by rw[z,Ll]at Gd;cases Gd
  refine gU Gd λH6 s6 T9=>?_;refine⟨_,D?,ia,_,D?,.inr (i! (s6 _ _ (s3 _ _ ei))),_,D?,by lia,by lia,?_⟩
  refine cw (n:=((zi.map k!).length:Int).toNat) (λj σ H5=>Ex4 λ(kv cv:Option V)(bs:List Vy)(ts:List Th)=>An8 (σ=[A? (.ref a),A? (.int 3),A? (.int 2),A? (.ref ia),A? (.ref oa),A? (.int S),A? (.ref ca),A? (.bl dg),A? (.ref rl),A? (.int (0+(i:Int))),A? (.ref rw),kv,cv,AQ]) (j! H4 H5) (H5 rl=A? (.lst (zx.map k!))) (KT H6 H5) (H5 rw=A? (.lst (bs.map k!))) (Ats H5 ts bs) (ts.length=j) (TsF ins outs S ts))
   ⟨kv,cv,[],[],rfl,s3.trans s6,s6 _ _ Ll,λ_ _ e=>e,T9,.nil,rfl,λj t k h=>by simp at h⟩ ?_ ?_
  .rintro j σ H5 hj ⟨kv,cv,bs,ts,rfl,s5,E5,E1,J0,AM,zh,DH⟩
   have Ua:j<ins.length:=by
    have:j<((zi.map k!).length:Int).toNat:=hj;lia
   refine hid λZZ kZ=>?_;obtain⟨k0,BY⟩:∃k0,ins[j]?=A? k0:=⟨_,Vw Ua⟩;obtain⟨ka,Ac,zJ⟩:=u! Ci BY;have zT:=gi.num k0 (Vx BY);have zP:atI (zi.map k!) (0+(j:Int))=A? (.ref ka):=at_nonneg (by lia) (by rw[show(0+(j:Int)).toNat=j by lia,VA,Ac];rfl);have hmul:0<=(0+(i:Int)) * ((zi.map k!).length:Int):=Int.mul_nonneg (by lia) (by lia)
   have Qf:(0+(i:Int)) * ((zi.map k!).length:Int)+((zi.map k!).length:Int)<=S * ((zi.map k!).length:Int):=by
    have h1:(0+(i:Int)+1) * ((zi.map k!).length:Int)<=S * ((zi.map k!).length:Int):=Int.mul_le_mul_of_nonneg_right (by lia) (by lia);rw[Int.add_mul (0+(i:Int)) 1,Int.one_mul]at h1;exact h1
   obtain⟨c,hc⟩:∃c,cs[(1+(0+(i:Int)) * ((zi.map k!).length:Int)+(0+(j:Int))).toNat]?=A? c:=⟨_,Vw (by lia)⟩;refine kZ ?_;refine⟨_,D?,_,D?,_,D?,ia,_,D?,.inr (i! (s5 _ _ ei)),_,_,D?,D?,.inl ⟨by lia,by lia⟩,_,_,D?,D?,_,D?,_,_,D?,D?,ca,_,_,.int c,D?,D?,l! (s5 _ _ ec),at_nonneg (by lia) (gmE hc),?_⟩;refine⟨_,D?,_,_,D?,D?,.inl ⟨by decide,by decide⟩,_,_,D?,D?,_,D?,_,_,D?,D?,?_⟩;dsimp only[av];generalize c+7 * (0+(j:Int))+(0+(i:Int))=cell
   have fin:∀(t:Th)(r:Vy)(H7:Hp),j! H5 H7->At H7 t r->t.FitS outs S k0.2->t.tall<=3->(rh (k! rw) [k! r] H7 λ_ H8=>Ex4 λ(kv cv:Option V)(bs:List Vy)(ts:List Th)=>An8 ([A? (k! a),A? (.int 3),A? (.int 2),A? (.ref ia),A? (.ref oa),A? (.int S),A? (.ref ca),A? (.bl dg),A? (.ref rl),A? (.int (0+(i:Int))),A? (.ref rw),A? (.int (0+(j:Int))),A? (.int cell),AQ]=[A? (.ref a),A? (.int 3),A? (.int 2),A? (.ref ia),A? (.ref oa),A? (.int S),A? (.ref ca),A? (.bl dg),A? (.ref rl),A? (.int (0+(i:Int))),A? (.ref rw),kv,cv,AQ]) (j! H4 H8) (H8 rl=A? (.lst (zx.map k!))) (KT H6 H8) (H8 rw=A? (.lst (bs.map k!))) (Ats H8 ts bs) (ts.length=j+1) (TsF ins outs S ts)):=by
    intro t r H7 s7 zP zK zz;have Qg:=s7 _ _ J0;have Cd:=s7 _ _ E5;have AF:bs.length=ts.length:=AM.length;refine⟨rw,_,_,D?,D?,Qg,lbE (by lia),?_⟩;have kt:KT H7 (upd H7 rw (.lst (bs.map k!++[.ref r]))):=cH Qg;refine⟨_,_,bs++[r],ts++[t],D?,aK (s5.trans s7) NY,by rw[af NZ.symm];exact Cd,E1.trans ((n! s7).trans kt),?_,?_,?_,?_⟩
    .rw[ac,V3];rfl
    .exact(AM.mono ((n! s7).trans kt)).append (.cons (zP.mono kt) .nil)
    .rw[VJ,zh];rfl
    .exact DH.snoc (by rw[zh];exact BY) zK zz
   refine cn (λb H'=>H5=H') (λk2 zm=>?_) (λH' hb=>?_) (λH' hb=>?_)
   .exact⟨_,D?,_,D?,zm _ _ rfl⟩
   .subst hb;refine⟨_,D?,.inl ⟨D?,_,l! J0⟩,_,D?,lnE rfl,λol FJ=>?_⟩;dsimp only;refine gU FJ λH7 s7 e7=>?_;have Cz:=s5.trans s7;refine⟨_,D?,_,D?,_,D?,_,D?,ia,_,_,.ref ka,D?,D?,i! (Cz _ _ ei),zP,ka,_,1,_,D?,D?,i! (Cz _ _ zJ),at1,_,D?,ol,cell,oa,zD,outs,S,k0.2,2,D?,e7,Cz _ _ eo,EB.mono (n! Cz),go,S0,by lia,zT.1,zT.2,by decide,by decide,λt r x' H8 s8 _ zP zK zz=>?_⟩;exact fin t r H8 (SameB.fresh FJ s7 s8) zP zK zz
   .subst hb;have y0:=Wl (cell / 3) (show(2+1:Int)≠0 by decide);have y1:=Wg (cell / 3) (show(0:Int)<2+1 by decide);refine⟨_,D?,.inl ⟨D?,_,l! J0⟩,_,D?,_,D?,_,D?,_,D?,_,D?,ia,_,_,.ref ka,D?,D?,i! (s5 _ _ ei),zP,ka,_,1,_,D?,D?,i! (s5 _ _ zJ),at1,_,D?,_,_,D?,D?,⟨by decide,by decide⟩,_,D?,_,_,D?,D?,_,_,D?,D?,(by show(0:Int)<2+1;decide),cell,oa,zD,outs,S,k0.2,_,D?,s5 _ _ eo,EB.mono (n! s5),go,S0,by lia,zT.1,zT.2,y0,by show cell / 3%(2+1)<((5:Nat):Int);lia,λt r H8 s8 zP zK zz=>?_⟩;exact fin t r H8 s8 zP zK (by lia)
  .rintro σ H5 ⟨kv,cv,bs,ts,rfl,s5,E5,E1,J0,AM,zh,DH⟩;refine⟨_,D?,.inl ⟨D?,_,l! E5⟩,_,D?,rw,_,D?,.inl ⟨l! J0,λtp Es=>?_⟩⟩;refine gU Es λH7 s7 e7=>?_;have Cd:=s7 _ _ E5;refine⟨rl,_,_,D?,D?,Cd,lbE (by lia),?_⟩;have kt:KT H7 (upd H7 rl (.lst (zx.map k!++[.ref tp]))):=cH Cd;have Ub:KT H3 (upd H7 rl (.lst (zx.map k!++[.ref tp]))):=(n! s6).trans (E1.trans ((n! s7).trans kt));refine⟨_,_,_,_,zx++[tp],rows++[ts],D?,aK (s5.trans s7) JY,?_,?_,?_,?_⟩
   .rw[ac,V3];rfl
   .exact v! (t! (λ_ _ e=>RowAt.mono Ub e) BO) (.cons ⟨bs,kt _ _ e7,AM.mono ((n! s7).trans kt)⟩ .nil)
   .rw[VJ,NX];rfl
   .intro row zN;rcases VP.mp zN with zN|zN
    .exact y8 row zN
    .rw[VH.mp zN];exact⟨by rw[zh];lia,DH⟩
 .rintro σ H3 ⟨sv,rv,kv,cv,zx,rows,rfl,s3,Ll,BO,NX,y8⟩;have JZ:rows.length=zx.length:=VZ BO;obtain⟨c,hc⟩:∃c,cs[0]?=A? c:=⟨_,Vw (by lia)⟩;have J1:atI (cs.map o!) 0=A? (.int c):=at_nonneg (by decide) (by rw[VA];show(cs[0]?).map o!=_;rw[hc];rfl);refine⟨_,D?,ca,_,0,.int c,D?,D?,l! (s3 _ _ ec),J1,_,D?,_,D?,_,D?,c,oa,zD,outs,S,1,2,D?,s3 _ _ eo,EB.mono (n! s3),go,S0,by lia,by decide,by decide,by decide,by decide,λt ha H6 s6 zP zK zz=>?_⟩;dsimp only[av];have Qh:j! H4 H6:=s3.trans s6;refine aN (λi' H7=>Ex2 λ(t:Th)(ha:Vy)=>An5 (j! H6 H7) (At H7 t ha) (t.FitS outs S 1) (t.tall<=3) (i'=[A? (.ref a),A? (.int 3),A? (.int 2),A? (.ref ia),A? (.ref oa),A? (.int S),A? (.ref ca),A? (.bl dg),A? (.ref rl),sv,rv,kv,cv,A? (.ref ha)])) (λkk hk=>?_) ?_
  .refine cn (λb H'=>H6=H') (λk2 zm=>?_) (λH' hb=>?_) (λH' hb=>?_)
   .exact⟨_,D?,_,D?,zm _ _ rfl⟩
   .subst hb;refine⟨_,D?,ca,_,0,.int c,D?,D?,l! (Qh _ _ ec),J1,lnE rfl,λol FJ=>?_⟩;dsimp only;refine gU FJ λH7 s7 e7=>?_;have Cz:=Qh.trans s7;exact⟨_,D?,_,D?,_,D?,ol,c,oa,zD,outs,S,1,2,D?,e7,Cz _ _ eo,EB.mono (n! Cz),go,S0,by lia,by decide,by decide,by decide,by decide,λt r x' H8 s8 _ zP zK zz=>hk _ _ ⟨t,r,SameB.fresh FJ s7 s8,zP,zK,zz,D?⟩⟩
   .subst hb;exact hk _ _ ⟨t,ha,.refl _,zP,zK,zz,rfl⟩
  clear zP zK zz;rintro i' H7 ⟨t,ha,s7,zP,zK,zz,rfl⟩;have Cd:=s7 _ _ (s6 _ _ Ll);refine⟨_,D?,_,D?,_,D?,_,D?,rl,_,D?,.inl ⟨l! Cd,λra Uc=>?_⟩⟩;refine gU Uc λH8 s8 e8=>?_;refine⟨lnE rfl,λr Bp=>?_⟩;have s9:j! H8 (upd H8 r (.tup [.ref ia,.ref oa,.ref ha,.ref ra])):=ao Bp _;have sA:=s6.trans (s7.trans (s8.trans s9));have sB:=s3.trans sA;have Qi:((rows.length:Nat):Int)=S:=by rw[NX];lia
  exact q r ins outs t rows _ (T7.trans sB) ⟨ia,oa,ha,ra,zi,zD,zx,ac,sB _ _ ei,Ci.mono (n! sB),sB _ _ eo,EB.mono (n! sB),zP.mono (n! (s8.trans s9)),s9 _ _ e8,t! (λ_ _ e=>RowAt.mono (n! sA) e) BO⟩ ⟨gI,gO,by lia,by rw[Qi];exact y8,by rw[Qi];exact zK,zz⟩
inductive eu(n:Nat)(vs:List V)(H:Hp)(Q:VK)(_E:XK):Prop
 |mk (pa kl:Vy) (CQ:List Vy) (p:Th) (Ao:List (List Th)):vs=[.ref pa,.ref kl]->At H p pa->H kl=A? (.lst (CQ.map k!))->Wc (LsT H) Ao CQ->InK Ao p->p.tall<=n->au p.kids<=1000->(∀(r:Vy)(H':Hp),j! H H'->At H' (p.fill (pickK Ao)) r->Q (.ref r) H')->eu n vs H Q _E
theorem dN(g:Int->Int->Th):∀ts:List Th,fills g ts=ts.map (·.fill g)
 | []=>rfl
 |t::ts=>by rw[fills,dN g ts,V6]
theorem gm:∀n:Nat,bj P w K mg base CX0 (n+1) T.g_37.f T.g_37.d ["pattern","kids"] (eu n)
 |0=>⟨λ_ _ _ _ h=>by obtain⟨_,_,_,p,_,_,_,_,_,_,h1,_⟩:=h;have:=p.tall_eq;lia,λ_ _ _ _ _ _ _ _ _ _ _ _ _ h=>by obtain⟨_,_,_,p,_,_,_,_,_,_,h1,_⟩:=h;have:=p.tall_eq;lia⟩
 | n+1=>by
   have ih:=gm n;refine T.g_37.F.okA oq λzb A outer s H vs Q E hr h=>?_;obtain⟨pa,kl,CQ,p,Ao,rfl,hA,EC,zO,zW,zh,hsz,q⟩:=h
   refine⟨_,(aj (bE (aC cL (ax az (pv 0) ad (λ_ _=>rfl)) il (aJ _)) (ak (aF (ax aS (ax aS (pv 1) (ax az (pv 0) ad (λ_ _=>rfl)) (λ_ _=>rfl)) (ax az (pv 0) ad (λ_ _=>rfl)) (λ_ _=>rfl)))) aT)
    (ak (aF (aq eN (bc (aa (ax az (pv 0) ad (λ_ _=>rfl)) ae)) (b8 bz rfl T.n_10 WN (aa (bd (N:=["part","kids"]) (js:=[AQ,A? 1]) (g:=(av 0)) (tt:=aR) (te:=(gN (eu _) [] E0 (cO (bB 0) (cO (bB 1) jx)))) rfl (bK rfl (by decide +kernel) (by decide +kernel) rfl rfl rfl) (b9 (aZ cR (pv 0) (br ad) bJ)) (λ_ _ _ _ _ _=>(pgN 0 vU)) (aE rfl) (λ_ _ _ _ _ _=>aU) (λ_ _ _ _ _ _=>(de (ih) (hr.mono (VG _)) rfl T.g_37.m T.g_37.F.kp T.g_37.b .nil cV (aa (pv 0) (aa (pv 1) ae))))) ae)))))),?_⟩
   try dsimp only[zy,yY]
   cases p with
   | call s0 k0 =>
     refine hid λZZ kZ=>?_;obtain⟨k',s',ts,t,rfl,rfl,hk,hs⟩:=zW s0 k0 (by rw[G!];exact VO ..);obtain⟨la,Ee,as,G9,has⟩:=u! zO hk;obtain⟨ta,BV,Ud⟩:=has.get' hs;refine kZ ?_;rw[At]at hA;refine⟨_,D?,pa,_,0,.str (VE "?"),D?,D?,i! hA,at0,D?,_,D?,?_⟩;rw[d! (show D! (VE "?")=D! (VE "?")from rfl)];refine dm ⟨_,rfl,_,rfl,pa,_,2,_,rfl,rfl,i! hA,at2,kl,_,(k':Int),.ref la,rfl,rfl,l! EC,bu (gmE Ee),_,rfl,pa,_,1,_,rfl,rfl,i! hA,at1,la,_,(s':Int),.ref ta,rfl,rfl,l! G9,bu (gmE BV),?_⟩;refine q ta H (λ_ _ e=>e) ?_;rw[B!];unfold pickK;rw[VQ,VQ,V0,V0,hk];show At H ((ts[s']?).getD bg) ta;rw[hs];exact Ud
   | knot m ts =>
     rw[w!]at zh;rw[At]at hA;refine hid λZZ kZ=>?_;obtain⟨Fb,EU,ea,BV⟩:=hA;refine kZ ?_;have hsz:au ts<=1000:=hsz;have Ue:=dH ts;have En:EU.length=ts.length:=BV.length;refine⟨_,D?,pa,_,0,.str m,D?,D?,i! ea,at0,D?,_,D?,?_⟩;rw[c! (show¬D! m=D! (VE "?")fromλz=>Fb (V.str.inj z))];refine cz ⟨_,rfl,pa,_,0,.str m,rfl,rfl,i! ea,at0,lnE rfl,λp1 Aq=>?_⟩;refine gr Aq λH1 s1 e1=>?_;refine⟨_,D?,1,D?,pa,_,D?,i! (s1 _ _ ea),?_,λp2 zC=>?_⟩
     .rintro⟨z,_⟩;rw[VU,show(1:Int)=((1:Nat):Int)by rfl,x!]at z;lia
     dsimp only;rw[cr];refine gr zC λH2 s2 e2=>?_;have Ad:=s1.trans s2;refine⟨p2,D?,⟨_,i! e2⟩,gD (F:=λH o a=>At H o a) (xs:=EU.map k!) (ts.map (·.fill (pickK Ao))) (λH1 H2 z p kt h=>h.mono kt) (by rw[Vu,Vu];lia) (by rw[Vu];lia) (λi Hx sx hi=>⟨_,_,i! (sx _ _ e2),Vw hi⟩) (λHx sx=>⟨_,i! (sx _ _ e2),VG _⟩) (λi Hx x Hy sx hi hy=>⟨hy.1,hy.2 _ (i! (sx _ _ e2))⟩) (λi x z Hx R W' hx Aj sx hR=>?_) (λD H3 as hD s3 eD BR=>?_)⟩
     .obtain⟨ua,rfl,DI⟩:=cD hx;obtain⟨u,hu,DJ⟩:=BV.get DI;rw[VA,hu]at Aj;cases Aj;have Bj:=Vx hu;have Ap:=Ad.trans sx;have J2:=dh Bj;have Ug:=dJ Bj;have GC:=u.size_eq;refine⟨_,D?,_,D?,ua,kl,CQ,u,Ao,D?,DJ.mono (n! Ap),Ap _ _ EC,t! (λ_ _ h=>h.same Ap) zO,zW.kid Bj,by lia,by lia,λr H4 s4 J3=>hR H4 r s4 J3⟩
     have An:ts.length=as.length:=by
      have:(ts.map (·.fill (pickK Ao))).length=as.length:=VZ BR;rw[Vu]at this;exact this
     refine⟨D,_,D?,.inl ⟨l! eD,λtp Es=>?_⟩⟩;refine gr Es λH4 s4 e4=>?_;refine pX (s4 _ _ (s3 _ _ (s2 _ _ e1))) e4 (by rw[Vu];show 1+as.length<=1000000;lia) λp H5 s5 e5=>?_;refine q p H5 (Ad.trans (s3.trans (s4.trans s5))) ?_;rw[B!,dN,At];exact⟨Fb,as,e5,nH (t! (λ_ _ e=>e.mono (n! (s4.trans s5))) BR)⟩
inductive eU(n:Nat)(vs:List V)(H:Hp)(Q:VK)(_E:XK):Prop
 |mk (ba ta:Vy) (ins:List (V5×Int)) (head:Th) (rows:List (List Th)) (t:Th):vs=[.ref ba,.ref ta]->WBk H ins head rows ba->At H t ta->BkC ins rows->t.Fit ins->t.tall<=n->(∀(r:Vy)(H':Hp),j! H H'->H r=AQ->LsT H' (aP ins rows t) r->Q (.ref r) H')->eU n vs H Q _E
theorem hV:∀n:Nat,bj P w K mg base CX0 (n+5) T.g_38.f T.g_38.d ["book","tree"] (eU n)
 |0=>⟨λ_ _ _ _ h=>by obtain⟨_,_,_,_,_,t,_,_,_,_,_,h1,_⟩:=h;have:=t.tall_eq;lia,λ_ _ _ _ _ _ _ _ _ _ _ _ _ h=>by obtain⟨_,_,_,_,_,t,_,_,_,_,_,h1,_⟩:=h;have:=t.tall_eq;lia⟩
 | n+1=>by
   have ih:=hV n;refine T.g_38.F.okA cZ λzb A outer s H vs Q E hr h=>?_;obtain⟨ba,ta,ins,head,rows,t,rfl,hB,hA,hC,hF,zh,q⟩:=h
   refine⟨_,(aj (am 2 cZ.nd (bd (N:=["kid","book"]) (js:=[AQ,A? 0]) (g:=(av 0)) (tt:=aR) (te:=(gN (eU _) [] E0 (cO (bB 1) (cO (bB 0) jx)))) rfl (bK rfl (by decide +kernel) (by decide +kernel) rfl rfl rfl) (b9 (aZ cR (pv 1) (br ad) bJ)) (λ_ _ _ _ _ _=>(pgN 0 vN)) (aE rfl) (λ_ _ _ _ _ _=>aU) (λ_ _ _ _ _ _=>(de (ih) (hr.mono (VG _)) rfl T.g_38.m T.g_38.F.kp T.g_38.b .nil cV (aa (pv 1) (aa (pv 0) ae))))))
    (aj (dC (i:=3) (N:=["pair"]) (js:=[AQ]) (g:=(av 0)) (tt:=aR) (te:=(tOp (eg K) (bB 0) (tC (.int 0)))) cZ.nd rfl (Z9 rfl) rfl (bK rfl (by decide +kernel) (by decide +kernel) rfl rfl rfl) (b9 (ax az (pv 0) ad (λ_ _=>rfl))) (λ_ _ _ _ _ _=>(pgN 0 sV)) (aE rfl) (λ_ _ _ _ _ _=>aU) (λ_ _ _ _ _ _=>(ax az (pv 0) ad (λ_ _=>rfl))))
    (aj (am 4 cZ.nd (cB V7 PySem.F.slot_list_index PySem.F.type_list_index mB (pv 3) (aa (ax az (pv 1) ad (λ_ _=>rfl)) ae)))
    (ak (aF (bd (N:=["row","kids","at"]) (js:=[AQ,A? 2,A? 4]) (g:=(av 0)) (tt:=aR) (te:=(gN (eu _) [] E0 (cO (tOp (eg K) (bB 0) (bB 2)) (cO (bB 1) jx)))) rfl (bK rfl (by decide +kernel) (by decide +kernel) rfl rfl rfl) (b9 (ax az (pv 0) ad (λ_ _=>rfl))) (λ_ _ _ _ _ _=>(pgN 0 v5)) (aE rfl) (λ_ _ _ _ _ _=>aU) (λ_ _ _ _ _ _=>(pcF T.g_37 (gm T 3) hr (aa (ax az (pv 0) (pv 2) (λ_ _=>rfl)) (aa (pv 1) ae)))))))))),?_⟩
   try dsimp only[zy,yY]
   cases t with
   |call s0 k0=>rw[A!]at hF;exact hF.elim
   | knot m ks =>
     rw[w!]at zh;rw[A!]at hF;refine hid λZZ kZ=>?_;obtain⟨hm,hK⟩:=hF;obtain⟨a,ha⟩:=VL.mp hm;have zT:=(hC.gi.num _ hm).2;dsimp only at zT;rw[At]at hA;obtain⟨Fb,z9,ea,Ac⟩:=hA;have zU:z9.length=ks.length:=Ac.length;obtain⟨ia,CJ,ra,v2,zi,zx,b1,b2,b3,b4,b5,b6⟩:=hB.ex;refine kZ ?_;have Ab:ins.length=zi.length:=VZ b3;have JD:rows.length=zx.length:=VZ b5;have Uh:=hC.gi.le;have M7:=hC.rl;refine⟨_,D?,1,D?,ta,_,D?,i! ea,?_,λp2 zC=>?_⟩
     .rintro⟨z,_⟩;rw[VU,show(1:Int)=((1:Nat):Int)by rfl,x!]at z;lia
     dsimp only;rw[cr];refine gr zC λH2 s2 e2=>?_;refine⟨p2,D?,⟨_,i! e2⟩,qX (F:=LsT) (xs:=z9.map k!) (ks.map (aP ins rows)) (λH1 H2 z p kt o h=>h.up kt o) (by rw[Vu,Vu];lia) (by rw[Vu];lia) (λi Hx sx hi=>⟨_,_,i! (sx _ _ e2),Vw hi⟩) (λHx sx=>⟨_,i! (sx _ _ e2),VG _⟩) (λi Hx x Hy sx hi hy=>⟨hy.1,hy.2 _ (i! (sx _ _ e2))⟩) (λi x z Hx R W' hx Aj sx hR=>?_) (λkl H3 CQ N0 s3 EC Bq=>?_)⟩
     .obtain⟨ua,rfl,DI⟩:=cD hx;obtain⟨u,hu,DJ⟩:=Ac.get DI;rw[VA,hu]at Aj;cases Aj;have Bj:=Vx hu;have Ap:=s2.trans sx;have J2:=dh Bj;exact⟨_,D?,_,D?,ba,ua,ins,head,rows,u,D?,hB.mono (n! Ap),DJ.mono (n! Ap),hC,dU hK u Bj,by lia,λr H4 s4 J3 h4=>hR H4 r s4 J3 h4⟩
     dsimp only[av];have Br:=s2.trans s3;refine⟨_,D?,ba,_,0,.ref ia,D?,D?,i! (Br _ _ b1),at0,ia,D?,⟨_,i! (Br _ _ b2)⟩,bY (zs:=ins) (f:=λk=>D! k.1) (i! (Br _ _ b2)) (by rw[Vu];exact Ab) (by rw[Vu];lia) (λi x z Hx R W' hx hz sx hR=>?_) (λnl H4 CO s4 DC=>?_)⟩
     .obtain⟨ka,Gm,zJ⟩:=u! b3 hz;rw[VA,Gm]at hx;cases hx;exact⟨_,D?,ka,_,0,_,D?,D?,i! (sx _ _ (Br _ _ zJ)),at0,hR Hx (λ_ _ e=>e)⟩
     dsimp only[av];have BP:=Br.trans s4;have BI:=jn hC.gi ha;have DK:H4 nl=A? (.lst ((ins.map (·.1)).map D!)):=by rw[Wk];exact DC
     refine⟨_,D?,.inl ⟨D?,_,l! DK⟩,_,D?,ta,_,0,.str m,D?,D?,i! (BP _ _ ea),at0,nl,ins.map (·.1),m,a,D?,D?,l! DK,by rw[VA,ha];rfl,λi hi e=>?_,by rw[Vu];lia,?_⟩
     .rw[VA]at e;obtain⟨k2,zm,e⟩:=V1.mp e;have:=hC.gi.nd _ _ _ _ zm ha e;lia
     dsimp only[av];refine⟨_,D?,ba,_,3,.ref ra,D?,D?,i! (BP _ _ b1),at3,ra,D?,⟨_,i! (BP _ _ b4)⟩,gD (F:=λH o a=>At H o a) (xs:=zx.map k!) (rows.map λrow=>(row.getD a bg).fill (pickK (ks.map (aP ins rows)))) (λH1 H2 z p kt h=>h.mono kt) (by rw[Vu,Vu];lia) (by rw[Vu];lia) (λi Hx sx hi=>⟨_,_,i! (sx _ _ (BP _ _ b4)),Vw hi⟩) (λHx sx=>⟨_,i! (sx _ _ (BP _ _ b4)),VG _⟩) (λi Hx x Hy sx hi hy=>⟨hy.1,hy.2 _ (i! (sx _ _ (BP _ _ b4)))⟩) (λi x z Hx R W' hx Aj sx hR=>?_) (λD H5 as hD s5 eD BR=>?_)⟩
     .refine hid λZZ kZ=>?_;obtain⟨rj,rfl,G8⟩:=cD hx;obtain⟨row,zN,N1,Gn,Gp⟩:=H! b5 G8;rw[VA,zN]at Aj;cases Aj;have Gq:=Vx zN;have An:a<row.length:=by rw[hC.row row Gq];exact(glE ha)
      have Ge:row[a]?=A? (row.getD a bg):=by
       rw[V0,Vw An];rfl
      obtain⟨pa,BS,DV⟩:=Gp.get' Ge;refine kZ ?_;have Ap:=BP.trans sx;have Es:=hC.tl row Gq _ (Vx Ge);refine⟨_,D?,_,D?,rj,_,(a:Nat),.ref pa,D?,D?,i! (Ap _ _ Gn),bu (gmE BS),_,D?,pa,kl,CQ,_,_,D?,DV.mono (n! Ap),(s4.trans sx) _ _ EC,t! (λ_ _ h=>h.same (s4.trans sx)) Bq,hC.inK ha hK Gq,Es.1,by have:=(row.getD a bg).size_eq;lia,λr H6 s6 Ui=>hR H6 r s6 Ui⟩
     refine q D H5 (BP.trans s5) (BP.free hD) ?_;rw[ce,BI];exact⟨as,eD,nH BR⟩
inductive fW(vs:List V)(H:Hp)(Q:VK)(_E:XK):Prop
 |mk (ba ta:Vy) (ins:List (V5×Int)) (head:Th) (rows:List (List Th)) (t:Th):vs=[.ref ba,.ref ta]->WBk H ins head rows ba->At H t ta->BkC ins rows->t.Fit ins->t.tall<=40->head.tall<=3->head.size<=100->(∀s k:Int,q! s k∈head.walk->k=0/\∃s':Nat,s=(s':Int)/\s'<rows.length)->(∀(r:Vy)(H':Hp),j! H H'->At H' (dZ ins rows head t) r->Q (.ref r) H')->fW  vs H Q _E
theorem dk:bj P w K mg base CX0 46 T.g_39.f T.g_39.d ["book","tree"] fW:=by
 refine T.g_39.F.okA jY λzb A outer s H vs Q E hr h=>?_;obtain⟨ba,ta,ins,head,rows,t,rfl,hB,hA,hC,hF,zh,N2,Uj,N3,q⟩:=h;refine⟨_,(ak (aF (pcF T.g_37 (gm T 3) hr (aa (ax az (pv 0) ad (λ_ _=>rfl)) (aa (bU (aa (pcF T.g_38 (hV T 40) hr (aa (pv 0) (aa (pv 1) ae))) ae)) ae))))),?_⟩
 try dsimp only[zy,yY]
 refine hid λZZ kZ=>?_;obtain⟨ia,CJ,ra,v2,zi,zx,b1,b2,b3,b4,b5,b6⟩:=hB.ex;refine kZ ?_;refine⟨_,D?,ba,_,2,.ref CJ,D?,D?,i! b1,at2,_,D?,_,D?,ba,ta,ins,head,rows,t,D?,hB,hA,hC,hF,zh,λla H1 s1 Ee h1=>⟨lnE rfl,λkl zU=>?_⟩⟩;refine gr zU λH2 s2 e2=>?_;have Ad:=s1.trans s2;refine⟨CJ,kl,[la],head,[aP ins rows t],D?,b6.mono (n! Ad),e2,.cons (h1.same s2) .nil,λs k hm=>?_,N2,by have:=head.size_eq;lia,λr H3 s3 h3=>q r H3 (Ad.trans s3) h3⟩;obtain⟨rfl,s',rfl,Bo⟩:=N3 s k hm;have hl:s'<(aP ins rows t).length:=by rw[dR hF];exact Bo
 exact⟨0,s',_,_,D?,D?,D?,Vw hl⟩
inductive eO(n:Nat)(vs:List V)(H:Hp)(Q:VK)(_E:XK):Prop
 |mk (pa kl:Vy) (CQ:List Vy) (p:Th) (Ao:List (List Th)):vs=[.ref pa,.ref kl]->At H p pa->H kl=A? (.lst (CQ.map k!))->Wc (LsN H) Ao CQ->InK Ao p->p.tall<=n->au p.kids<=1000->(∀H':Hp,j! H H'->Q (.int (((p.fill (pickK Ao)).size:Nat):Int)) H')->eO n vs H Q _E
theorem gz:∀n:Nat,bj P w K mg base CX0 (n+1) T.g_43.f T.g_43.d ["pattern","kids"] (eO n)
 |0=>⟨λ_ _ _ _ h=>by obtain⟨_,_,_,p,_,_,_,_,_,_,h1,_⟩:=h;have:=p.tall_eq;lia,λ_ _ _ _ _ _ _ _ _ _ _ _ _ h=>by obtain⟨_,_,_,p,_,_,_,_,_,_,h1,_⟩:=h;have:=p.tall_eq;lia⟩
 | n+1=>by
   have ih:=gz n;refine T.g_43.F.okA oB λzb A outer s H vs Q E hr h=>?_;obtain⟨pa,kl,CQ,p,Ao,rfl,hA,EC,zO,zW,zh,hsz,q⟩:=h
   refine⟨_,(aj (bE (aC cL (ax az (pv 0) ad (λ_ _=>rfl)) il (aJ _)) (ak (aF (ax aS (ax aS (pv 1) (ax az (pv 0) ad (λ_ _=>rfl)) (λ_ _=>rfl)) (ax az (pv 0) ad (λ_ _=>rfl)) (λ_ _=>rfl)))) aT)
    (ak (aF (aq bC ad (aB (gC rfl) rfl T.n_9 YK (aa (bd (N:=["part","kids"]) (js:=[AQ,A? 1]) (g:=(av 0)) (tt:=aR) (te:=(gN (eO _) [] E0 (cO (bB 0) (cO (bB 1) jx)))) rfl (bK rfl (by decide +kernel) (by decide +kernel) rfl rfl rfl) (b9 (aZ cR (pv 0) (br ad) bJ)) (λ_ _ _ _ _ _=>(pgN 0 vU)) (aE rfl) (λ_ _ _ _ _ _=>aU) (λ_ _ _ _ _ _=>(de (ih) (hr.mono (VG _)) rfl T.g_43.m T.g_43.F.kp T.g_43.b .nil cV (aa (pv 0) (aa (pv 1) ae))))) ae)))))),?_⟩
   try dsimp only[zy,yY]
   cases p with
   | call s0 k0 =>
     refine hid λZZ kZ=>?_;obtain⟨k',s',ts,t,rfl,rfl,hk,hs⟩:=zW s0 k0 (by rw[G!];exact VO ..);obtain⟨la,Ee,G9⟩:=u! zO hk;refine kZ ?_;rw[At]at hA;refine⟨_,D?,pa,_,0,.str (VE "?"),D?,D?,i! hA,at0,D?,_,D?,?_⟩;rw[d! (show D! (VE "?")=D! (VE "?")from rfl)];refine dm ⟨_,rfl,_,rfl,pa,_,2,_,rfl,rfl,i! hA,at2,kl,_,(k':Int),.ref la,rfl,rfl,l! EC,bu (gmE Ee),_,rfl,pa,_,1,_,rfl,rfl,i! hA,at1,la,_,(s':Int),.int ((t.size:Nat):Int),rfl,rfl,l! G9,bu (by rw[VA,VA,hs];rfl),?_⟩
     have hf:(q! (s':Int) (k':Int)).fill (pickK Ao)=t:=by
      rw[B!];unfold pickK;rw[VQ,VQ,V0,V0,hk];show(ts[s']?).getD bg=t;rw[hs];rfl
     have:=q H (λ_ _ e=>e);rw[hf]at this;exact this
   | knot m ts =>
     rw[w!]at zh;rw[At]at hA;refine hid λZZ kZ=>?_;obtain⟨Fb,EU,ea,BV⟩:=hA;refine kZ ?_;have hsz:au ts<=1000:=hsz;have Ue:=dH ts;have En:EU.length=ts.length:=BV.length;refine⟨_,D?,pa,_,0,.str m,D?,D?,i! ea,at0,D?,_,D?,?_⟩;rw[c! (show¬D! m=D! (VE "?")fromλz=>Fb (V.str.inj z))];refine cz ⟨_,rfl,1,rfl,pa,_,rfl,i! ea,?_,λp2 zC=>?_⟩
     .rintro⟨z,_⟩;rw[VU,show(1:Int)=((1:Nat):Int)by rfl,x!]at z;lia
     dsimp only;rw[cr];refine gr zC λH2 s2 e2=>?_;refine⟨p2,D?,⟨_,i! e2⟩,bY (zs:=ts) (f:=λt=>o! (((t.fill (pickK Ao)).size:Nat):Int)) (i! e2) (by rw[Vu];lia) (by rw[Vu];lia) (λi x z Hx R W' hx Aj sx hR=>?_) (λD H3 hD s3 eD=>?_)⟩
     .obtain⟨ua,rfl,DI⟩:=cD hx;obtain⟨u,hu,DJ⟩:=BV.get DI;rw[hu]at Aj;have Aj:u=z:=VN Aj;subst Aj;have Bj:=Vx hu;have Ap:=s2.trans sx;have J2:=dh Bj;have Ug:=dJ Bj;have GC:=u.size_eq;exact⟨_,D?,_,D?,ua,kl,CQ,u,Ao,D?,DJ.mono (n! Ap),Ap _ _ EC,t! (λ_ _ h=>Ap _ _ h) zO,zW.kid Bj,by lia,by lia,λH4 s4=>hR H4 s4⟩
     have J4:H3 D=A? (.lst (((ts.map (·.fill (pickK Ao))).map λt=>((t.size:Nat):Int)).map o!)):=by
      rw[Wk,Wk];exact eD
     refine⟨D,_,D?,l! J4,_,_,D?,D?,?_⟩;have:=q H3 (s2.trans s3);rw[B!,dN]at this
     have e:((r! m (ts.map (·.fill (pickK Ao)))).size:Int)=1+(((ts.map (·.fill (pickK Ao))).map λt=>((t.size:Nat):Int)).sum):=by
      rw[i9];show((au _+1:Nat):Int)=_;lia
     rw[e]at this;exact this
inductive dW(n:Nat)(vs:List V)(H:Hp)(Q:VK)(_E:XK):Prop
 |mk (ba ta:Vy) (ins:List (V5×Int)) (head:Th) (rows:List (List Th)) (t:Th):vs=[.ref ba,.ref ta]->WBk H ins head rows ba->At H t ta->BkC ins rows->t.Fit ins->t.tall<=n->(∀(r:Vy)(H':Hp),j! H H'->H r=AQ->LsN H' (aP ins rows t) r->Q (.ref r) H')->dW n vs H Q _E
theorem gp:∀n:Nat,bj P w K mg base CX0 (n+5) T.g_42.f T.g_42.d ["book","tree"] (dW n)
 |0=>⟨λ_ _ _ _ h=>by obtain⟨_,_,_,_,_,t,_,_,_,_,_,h1,_⟩:=h;have:=t.tall_eq;lia,λ_ _ _ _ _ _ _ _ _ _ _ _ _ h=>by obtain⟨_,_,_,_,_,t,_,_,_,_,_,h1,_⟩:=h;have:=t.tall_eq;lia⟩
 | n+1=>by
   have ih:=gp n;refine T.g_42.F.okA cP λzb A outer s H vs Q E hr h=>?_;obtain⟨ba,ta,ins,head,rows,t,rfl,hB,hA,hC,hF,zh,q⟩:=h
   refine⟨_,(aj (am 2 cP.nd (bd (N:=["kid","book"]) (js:=[AQ,A? 0]) (g:=(av 0)) (tt:=aR) (te:=(gN (dW _) [] E0 (cO (bB 1) (cO (bB 0) jx)))) rfl (bK rfl (by decide +kernel) (by decide +kernel) rfl rfl rfl) (b9 (aZ cR (pv 1) (br ad) bJ)) (λ_ _ _ _ _ _=>(pgN 0 vN)) (aE rfl) (λ_ _ _ _ _ _=>aU) (λ_ _ _ _ _ _=>(de (ih) (hr.mono (VG _)) rfl T.g_42.m T.g_42.F.kp T.g_42.b .nil cV (aa (pv 1) (aa (pv 0) ae))))))
    (aj (dC (i:=3) (N:=["pair"]) (js:=[AQ]) (g:=(av 0)) (tt:=aR) (te:=(tOp (eg K) (bB 0) (tC (.int 0)))) cP.nd rfl (Z9 rfl) rfl (bK rfl (by decide +kernel) (by decide +kernel) rfl rfl rfl) (b9 (ax az (pv 0) ad (λ_ _=>rfl))) (λ_ _ _ _ _ _=>(pgN 0 sV)) (aE rfl) (λ_ _ _ _ _ _=>aU) (λ_ _ _ _ _ _=>(ax az (pv 0) ad (λ_ _=>rfl))))
    (aj (am 4 cP.nd (cB V7 PySem.F.slot_list_index PySem.F.type_list_index mB (pv 3) (aa (ax az (pv 1) ad (λ_ _=>rfl)) ae)))
    (ak (aF (bd (N:=["row","kids","at"]) (js:=[AQ,A? 2,A? 4]) (g:=(av 0)) (tt:=aR) (te:=(gN (eO _) [] E0 (cO (tOp (eg K) (bB 0) (bB 2)) (cO (bB 1) jx)))) rfl (bK rfl (by decide +kernel) (by decide +kernel) rfl rfl rfl) (b9 (ax az (pv 0) ad (λ_ _=>rfl))) (λ_ _ _ _ _ _=>(pgN 0 v5)) (aE rfl) (λ_ _ _ _ _ _=>aU) (λ_ _ _ _ _ _=>(pcF T.g_43 (gz T 3) hr (aa (ax az (pv 0) (pv 2) (λ_ _=>rfl)) (aa (pv 1) ae)))))))))),?_⟩
   try dsimp only[zy,yY]
   cases t with
   |call s0 k0=>rw[A!]at hF;exact hF.elim
   | knot m ks =>
     rw[w!]at zh;rw[A!]at hF;refine hid λZZ kZ=>?_;obtain⟨hm,hK⟩:=hF;obtain⟨a,ha⟩:=VL.mp hm;have zT:=(hC.gi.num _ hm).2;dsimp only at zT;rw[At]at hA;obtain⟨Fb,z9,ea,Ac⟩:=hA;have zU:z9.length=ks.length:=Ac.length;obtain⟨ia,CJ,ra,v2,zi,zx,b1,b2,b3,b4,b5,b6⟩:=hB.ex;refine kZ ?_;have Ab:ins.length=zi.length:=VZ b3;have JD:rows.length=zx.length:=VZ b5;have Uh:=hC.gi.le;have M7:=hC.rl;refine⟨_,D?,1,D?,ta,_,D?,i! ea,?_,λp2 zC=>?_⟩
     .rintro⟨z,_⟩;rw[VU,show(1:Int)=((1:Nat):Int)by rfl,x!]at z;lia
     dsimp only;rw[cr];refine gr zC λH2 s2 e2=>?_;refine⟨p2,D?,⟨_,i! e2⟩,qX (F:=LsN) (xs:=z9.map k!) (ks.map (aP ins rows)) (λH1 H2 z p kt o h=>o _ h) (by rw[Vu,Vu];lia) (by rw[Vu];lia) (λi Hx sx hi=>⟨_,_,i! (sx _ _ e2),Vw hi⟩) (λHx sx=>⟨_,i! (sx _ _ e2),VG _⟩) (λi Hx x Hy sx hi hy=>⟨hy.1,hy.2 _ (i! (sx _ _ e2))⟩) (λi x z Hx R W' hx Aj sx hR=>?_) (λkl H3 CQ N0 s3 EC Bq=>?_)⟩
     .obtain⟨ua,rfl,DI⟩:=cD hx;obtain⟨u,hu,DJ⟩:=Ac.get DI;rw[VA,hu]at Aj;cases Aj;have Bj:=Vx hu;have Ap:=s2.trans sx;have J2:=dh Bj;exact⟨_,D?,_,D?,ba,ua,ins,head,rows,u,D?,hB.mono (n! Ap),DJ.mono (n! Ap),hC,dU hK u Bj,by lia,λr H4 s4 J3 h4=>hR H4 r s4 J3 h4⟩
     dsimp only[av];have Br:=s2.trans s3;refine⟨_,D?,ba,_,0,.ref ia,D?,D?,i! (Br _ _ b1),at0,ia,D?,⟨_,i! (Br _ _ b2)⟩,bY (zs:=ins) (f:=λk=>D! k.1) (i! (Br _ _ b2)) (by rw[Vu];exact Ab) (by rw[Vu];lia) (λi x z Hx R W' hx hz sx hR=>?_) (λnl H4 CO s4 DC=>?_)⟩
     .obtain⟨ka,Gm,zJ⟩:=u! b3 hz;rw[VA,Gm]at hx;cases hx;exact⟨_,D?,ka,_,0,_,D?,D?,i! (sx _ _ (Br _ _ zJ)),at0,hR Hx (λ_ _ e=>e)⟩
     dsimp only[av];have BP:=Br.trans s4;have BI:=jn hC.gi ha;have DK:H4 nl=A? (.lst ((ins.map (·.1)).map D!)):=by rw[Wk];exact DC
     refine⟨_,D?,.inl ⟨D?,_,l! DK⟩,_,D?,ta,_,0,.str m,D?,D?,i! (BP _ _ ea),at0,nl,ins.map (·.1),m,a,D?,D?,l! DK,by rw[VA,ha];rfl,λi hi e=>?_,by rw[Vu];lia,?_⟩
     .rw[VA]at e;obtain⟨k2,zm,e⟩:=V1.mp e;have:=hC.gi.nd _ _ _ _ zm ha e;lia
     dsimp only[av];refine⟨_,D?,ba,_,3,.ref ra,D?,D?,i! (BP _ _ b1),at3,ra,D?,⟨_,i! (BP _ _ b4)⟩,bY (zs:=rows) (f:=λrow=>o! ((((row.getD a bg).fill (pickK (ks.map (aP ins rows)))).size:Nat):Int)) (i! (BP _ _ b4)) (by rw[Vu];exact JD) (by rw[Vu];lia) (λi x z Hx R W' hx Aj sx hR=>?_) (λD H5 hD s5 eD=>?_)⟩
     .refine hid λZZ kZ=>?_;obtain⟨rj,rfl,G8⟩:=cD hx;obtain⟨row,zN,N1,Gn,Gp⟩:=H! b5 G8;refine kZ ?_;rw[zN]at Aj;have Aj:row=z:=VN Aj;subst Aj;have Gq:=Vx zN;have An:a<row.length:=by rw[hC.row row Gq];exact(glE ha)
      have Ge:row[a]?=A? (row.getD a bg):=by
       rw[V0,Vw An];rfl
      obtain⟨pa,BS,DV⟩:=Gp.get' Ge;have Ap:=BP.trans sx;have Es:=hC.tl row Gq _ (Vx Ge);refine⟨_,D?,_,D?,rj,_,(a:Nat),.ref pa,D?,D?,i! (Ap _ _ Gn),bu (gmE BS),_,D?,pa,kl,CQ,_,_,D?,DV.mono (n! Ap),(s4.trans sx) _ _ EC,t! (λ_ _ h=>(s4.trans sx) _ _ h) Bq,hC.inK ha hK Gq,Es.1,by have:=(row.getD a bg).size_eq;lia,λH6 s6=>hR H6 s6⟩
     refine q D H5 (BP.trans s5) (BP.free hD) ?_;rw[ce,BI];unfold LsN;rw[Wk,Wk];exact eD
inductive iO(vs:List V)(H:Hp)(Q:VK)(_E:XK):Prop
 |mk (ba ta:Vy) (ins:List (V5×Int)) (head:Th) (rows:List (List Th)) (t:Th):vs=[.ref ba,.ref ta]->WBk H ins head rows ba->At H t ta->BkC ins rows->t.Fit ins->t.tall<=40->head.tall<=3->head.size<=100->(∀s k:Int,q! s k∈head.walk->k=0/\∃s':Nat,s=(s':Int)/\s'<rows.length)->(∀H':Hp,j! H H'->Q (.int (((dZ ins rows head t).size:Nat):Int)) H')->iO  vs H Q _E
theorem iV:bj P w K mg base CX0 46 T.g_41.f T.g_41.d ["book","tree"] iO:=by
 refine T.g_41.F.okA i4 λzb A outer s H vs Q E hr h=>?_;obtain⟨ba,ta,ins,head,rows,t,rfl,hB,hA,hC,hF,zh,N2,Uj,N3,q⟩:=h
 refine⟨_,(aj (am 2 i4.nd (bU (aa (pcF T.g_42 (gp T 40) hr (aa (pv 0) (aa (pv 1) ae))) ae)))
  (ak (aF (pcF T.g_43 (gz T 3) hr (aa (ax az (pv 0) ad (λ_ _=>rfl)) (aa (pv 2) ae)))))),?_⟩
 try dsimp only[zy,yY]
 refine hid λZZ kZ=>?_;obtain⟨ia,CJ,ra,v2,zi,zx,b1,b2,b3,b4,b5,b6⟩:=hB.ex;refine kZ ?_;refine⟨_,D?,_,D?,ba,ta,ins,head,rows,t,D?,hB,hA,hC,hF,zh,λla H1 s1 Ee h1=>⟨lnE rfl,λkl zU=>?_⟩⟩;refine gr zU λH2 s2 e2=>?_;dsimp only[av];have Ad:=s1.trans s2;refine⟨_,D?,ba,_,2,.ref CJ,D?,D?,i! (Ad _ _ b1),at2,_,D?,CJ,kl,[la],head,[aP ins rows t],D?,b6.mono (n! Ad),e2,.cons (s2 _ _ h1) .nil,λs k hm=>?_,N2,by have:=head.size_eq;lia,λH3 s3=>q H3 (Ad.trans s3)⟩;obtain⟨rfl,s',rfl,Bo⟩:=N3 s k hm;have hl:s'<(aP ins rows t).length:=by rw[dR hF];exact Bo
 exact⟨0,s',_,_,D?,D?,D?,Vw hl⟩
def ext(_:Th):List V:=[]
inductive iJ(vs:List V)(H:Hp)(Q:VK)(_E:XK):Prop
 |mk (n:V5):vs=[.str n]->n≠q->(∀(a:Vy)(H':Hp),j! H H'->EAt ext H' (.knot n []) a->Q (.ref a) H')->iJ  vs H Q _E
theorem iH:bj P w K mg base CX0 1 T.g_34.f T.g_34.d ["name"] iJ:=by
 refine T.g_34.F.okA nB λzb A outer s H vs Q E hr h=>?_;obtain⟨n,rfl,hn,k⟩:=h;refine⟨_,(ak (aF (bc (aa (bc (aa (pv 0) ae)) (aa ad (aa ad ae)))))),?_⟩
 try dsimp only[zy,yY]
 refine⟨_,D?,lnE rfl,λp hp=>⟨lnE rfl,λa ha=>?_⟩⟩;have BS:p≠a:=λz=>by rw[<-z,ac]at ha;cases ha
 refine k a _ ((ao hp _).trans (ao ha _)) ⟨p,?_,?_⟩
 .rw[ac];unfold ext;rw[w!,bw,L!,au];rfl
 .rw[At];exact⟨hn,[],by rw[af BS,ac];rfl,.nil⟩
inductive iN(K:VD)(vs:List V)(H:Hp)(Q:VK)(_E:XK):Prop
 |mk (n:V5) (pl:Vy) (es:List Vy) (ts:List Th):vs=[.str n,.ref pl]->n≠q->n.length<=8->SqL K H pl (es.map k!)->EsAt ext H ts es->ts≠[]->Nms 8 ts->au ts<=1000->(∀(a:Vy)(H':Hp),j! H H'->EAt ext H' (.knot n ts) a->Q (.ref a) H')->iN K vs H Q _E
theorem nE:bj P w K mg base CX0 1 T.g_35.f T.g_35.d ["name","parts"] (iN K):=by
 refine T.g_35.F.okA dD λzb A outer s H vs Q E hr h=>?_;obtain⟨n,pl,es,ts,rfl,hn,Vn,hS,hE,zk,hN,hz,k⟩:=h
 refine⟨_,(aj (am 2 dD.nd (aq m9 (bc (aa (pv 0) ae)) (b8 bz rfl T.n_10 WN (aa (bd (N:=["part"]) (js:=[AQ]) (g:=(av 0)) (tt:=aR) (te:=(tOp (eg K) (bB 0) (tC (.int 0)))) rfl (bK rfl (by decide +kernel) (by decide +kernel) rfl rfl rfl) (bX (pv 1)) (λ_ _ _ _ _ _=>(pgN 0 ml)) (aE rfl) (λ_ _ _ _ _ _=>aU) (λ_ _ _ _ _ _=>(ax az (pv 0) ad (λ_ _=>rfl)))) ae))))
  (aj (am 3 dD.nd (aq bC ad (aB (lX rfl) rfl T.n_5 PyProof.Rows.boot_max (aa (bd (N:=["part"]) (js:=[AQ]) (g:=(av 0)) (tt:=aR) (te:=(tOp (eg K) (bB 0) (tC (.int 1)))) rfl (bK rfl (by decide +kernel) (by decide +kernel) rfl rfl rfl) (bX (pv 1)) (λ_ _ _ _ _ _=>(pgN 0 ml)) (aE rfl) (λ_ _ _ _ _ _=>aU) (λ_ _ _ _ _ _=>(ax az (pv 0) ad (λ_ _=>rfl)))) ae))))
  (aj (am 4 dD.nd (aq bC ad (aB (gC rfl) rfl T.n_9 YK (aa (bd (N:=["part"]) (js:=[AQ]) (g:=(av 0)) (tt:=aR) (te:=(tOp (eg K) (bB 0) (tC (.int 2)))) rfl (bK rfl (by decide +kernel) (by decide +kernel) rfl rfl rfl) (bX (pv 1)) (λ_ _ _ _ _ _=>(pgN 0 ml)) (aE rfl) (λ_ _ _ _ _ _=>aU) (λ_ _ _ _ _ _=>(ax az (pv 0) ad (λ_ _=>rfl)))) ae))))
  (ak (aF (bc (aa (pv 2) (aa (pv 3) (aa (pv 4) ae))))))))),?_⟩
 try dsimp only[zy,yY]
 refine hid λZZ kZ=>?_;obtain⟨bs,hb,AF,Uk⟩:=oK hE;refine kZ ?_;have CF:ts.length=es.length:=VZ hE;have zh:ts.length<=1000:=Wz (dH ts) hz;have zZ:1<=ts.length:=List.length_pos_iff.mpr zk;have hl:(es.map k!).length<=1000000:=by rw[Vu];lia
 have yZ:ts.length=(es.map k!).length:=by rw[Vu];exact CF
 refine aN (λi' H'=>Ex1 λtr=>An3 (i'=[A? (.str n),A? (.ref pl),A? (.ref tr),AQ,AQ]) (j! H H') (H' tr=A? (.tup (.str n::bs.map k!)))) (λkk hk=>?_) ?_
 .refine⟨_,D?,lnE rfl,λp1 Aq=>?_⟩;have s1:j! H (upd H p1 (.tup [.str n])):=ao Aq _;refine⟨_,D?,pl,D?,⟨_,s1.seq hS⟩,?_⟩;refine cF bs (λ_=>B?) k! (s1.seq hS) (by rw[Vu,AF]) hl (λi x z H2 R _ _ _ r=>r) (λi x z H2 R hx hz _ sm r=>?_) (λD hD=>?_)
  .obtain⟨a,r',rfl,ha⟩:=Uk i x z hx hz;exact⟨_,D?,a,_,0,_,D?,D?,i! (sm _ _ (s1 _ _ ha)),at0,r⟩
  .rw[filter_tt];refine⟨D,_,D?,.inl ⟨l! ac,λp2 zC=>?_⟩⟩;have s2:j! (upd H p1 (.tup [.str n])) (upd (upd (upd H p1 (.tup [.str n])) D (.lst (bs.map k!))) p2 (.tup (bs.map k!))):=(ao hD _).trans (ao zC _);refine⟨p1,p2,_,_,D?,D?,i! (s2 _ _ ac),i! ac,by simp,cG ?_,λz=>?_,λ_ p3 DA=>?_⟩
   .rw[Vu,AF];show 1+es.length<=1000000;lia
   .have:=h! Xd z;rw[Vu,AF]at this;have this:es.length=0:=this;lia
   .exact hk _ _ ⟨p3,rfl,s1.trans (s2.trans (ao DA _)),ac⟩
 rintro σ H2 ⟨tr,rfl,s2,e2⟩;have J5:EsAt ext H2 ts es:=hE.mono (n! s2);refine⟨_,D?,pl,D?,⟨_,s2.seq hS⟩,?_⟩;refine cF ts (λ_=>B?) (λt=>.int ((t.tall:Nat):Int)) (s2.seq hS) yZ hl (λi x z H3 R _ _ _ r=>r) (λi x z H3 R hx hz _ sm r=>?_) (λD hD=>?_)
 .refine hid λZZ kZ=>?_;obtain⟨a,b,rfl,_,ha,_⟩:=J5.at hx hz;refine kZ ?_;exact⟨_,D?,a,_,1,_,D?,D?,i! (sm _ _ ha),at1,r⟩
 rw[filter_tt];refine⟨D,ts.map (λt=>((t.tall:Nat):Int)),D?,l! (by rw[<-ints_map];exact ac),by simpa using zk,λM m1 m2=>⟨_,_,D?,D?,?_⟩⟩;rw[l7 m1 m2];have s3:j! H2 (upd H2 D (.lst (ts.map λt=>o! ((t.tall:Nat):Int)))):=ao hD _;generalize(upd H2 D (.lst (ts.map λt=>o! ((t.tall:Nat):Int))))=H3 at s3;refine⟨_,D?,pl,D?,⟨_,(s2.trans s3).seq hS⟩,?_⟩;have Qj:EsAt ext H3 ts es:=J5.mono (n! s3);refine cF ts (λ_=>B?) (λt=>.int ((t.size:Nat):Int)) ((s2.trans s3).seq hS) yZ hl (λi x z H4 R _ _ _ r=>r) (λi x z H4 R hx hz _ sm r=>?_) (λD2 FY=>?_)
 .refine hid λZZ kZ=>?_;obtain⟨a,b,rfl,_,ha,_⟩:=Qj.at hx hz;refine kZ ?_;exact⟨_,D?,a,_,2,_,D?,D?,i! (sm _ _ ha),at2,r⟩
 rw[filter_tt];refine⟨D2,ts.map (λt=>((t.size:Nat):Int)),D?,l! (by rw[<-ints_map];exact ac),⟨_,_,D?,D?,?_⟩⟩;rw[jk];have s4:j! H3 (upd H3 D2 (.lst (ts.map λt=>o! ((t.size:Nat):Int)))):=ao FY _;generalize(upd H3 D2 (.lst (ts.map λt=>o! ((t.size:Nat):Int))))=H4 at s4;have E3:j! H H4:=s2.trans (s3.trans s4);have Gr:EsAt ext H4 ts es:=Qj.mono (n! s4);refine⟨_,D?,_,D?,_,D?,lnE rfl,λa ha=>?_⟩;have s5:j! H4 (upd H4 a (.tup [.ref tr,.int (1+(bw ts:Nat)),.int (1+(au ts:Nat))])):=ao ha _;refine k a _ (E3.trans s5) ⟨tr,?_,?_⟩
 .rw[ac];have a1:(((r! n ts).tall:Nat):Int)=1+(bw ts:Nat):=by rw[w!];lia
  have a2:(((r! n ts).size:Nat):Int)=1+(au ts:Nat):=by rw[L!];lia
  unfold ext;rw[a1,a2]
 .rw[At];exact⟨hn,bs,s5 _ _ (s4 _ _ (s3 _ _ e2)),hb.mono (n! (E3.trans s5))⟩
inductive gW(K:VD)(vs:List V)(H:Hp)(Q:VK)(_E:XK):Prop
 |mk (a:Vy) (ns:List Int) (kr:Vy) (z9:List Vy) (ks:List (V5×Int)) (top most:Int):vs=[.ref a,.ref kr,.int top,.int most]->SqL K H a (ns.map o!)->ns.length<=63->SqT K H kr (z9.map k!)->KsAt H ks z9->gQ ks->1<=top->1<=most->most<=1000->(∀(r:Vy)(es:List Vy)(ts:List Th)(H':Hp),j! H H'->H' r=A? (.lst (es.map k!))->EsAt ext H' ts es->(∀t∈ts,GT ks top most t)->1<=ts.length->ts.length<=64->Q (.ref r) H')->gW K vs H Q _E
def wj(a kr lv:Vy)(top most:Int)(ks:List (V5×Int))(H1:Hp)(i:Nat)(i':St)(H':Hp):Prop:=∃(md:Vy)(es:List Vy)(ts:List Th)(c1 c2 c3 c4 c5:Option V),i'=[A? (.ref a),A? (.ref kr),A? (.int top),A? (.int most),A? (.ref lv),A? (.ref md),c1,c2,c3,c4,c5]/\j! H1 H'/\H1 md=AQ/\H' md=A? (.lst (es.map k!))/\EsAt ext H' ts es/\(∀t∈ts,GT ks top most t)/\1<=ts.length/\ts.length<=i+1
theorem jd{kr lv md:Vy}{top most:Int}{ks:List (V5×Int)}{es:List Vy}{ts:List Th}{e:Vy}{t:Th}{c1 c2 c3 c4 c5:Option V}(s:j! H1 H7)(Fc:H1 md=AQ)(em:H7 md=A? (.lst (es.map k!)))(hE:EsAt ext H7 ts es)(he:EAt ext H7 t e)(hG:∀t∈ts,GT ks top most t)(hg:GT ks top most t)(hle:ts.length<=i+1) :
 wj a kr lv top most ks H1 (i+1) [A? (.ref a),A? (.ref kr),A? (.int top),A? (.int most),A? (.ref lv),A? (.ref md),c1,c2,c3,c4,c5] (upd H7 md (.lst (es.map k!++[.ref e]))):=by
 refine⟨md,es++[e],ts++[t],c1,c2,c3,c4,c5,D?,aK s Fc,Fc,?_,?_,λu hu=>?_,?_,?_⟩
 .rw[ac,V3];rfl
 .exact v! (EsAt.mono (cH em) hE) (.cons (EAt.mono (cH em) he) .nil)
 .rcases VP.mp hu with h|h
  .exact hG u h
  .rw[VH]at h;subst h;exact hg
 .rw[VJ];exact Nat.le_add_left 1 _
 .rw[VJ];show ts.length+1<=i+1+1;lia
theorem eR:bj P w K mg base CX0 2 T.g_36.f T.g_36.d ["script","kinds","top","most"] (gW K):=by
 refine T.g_36.F.okA bI λzb A outer s H vs Q E hr h=>?_;obtain⟨a,ns,kr,z9,ks,top,most,rfl,hS,AE,hK,zO,g,J6,DL,N4,k⟩:=h
 refine⟨_,(aj (dC (i:=4) (N:=["pair"]) (js:=[AQ]) (g:=(av 0)) (tt:=(lV (tOp (rEq) (tOp (eg K) (bB 0) (tC (.int 1))) (tC (.int 0))))) (te:=(tOp (eg K) (bB 0) (tC (.int 0)))) bI.nd rfl (Z9 rfl) rfl (bK rfl (by decide +kernel) (by decide +kernel) rfl rfl rfl) (b9 (pv 1)) (λ_ _ _ _ _ _=>(pgN 0 sV)) (aE rfl) (λ_ _ _ _ _ _=>iI (aC cL (ax az (pv 0) ad (λ_ _=>rfl)) ad (aJ _))) (λ_ _ _ _ _ _=>(ax az (pv 0) ad (λ_ _=>rfl))))
  (aj (am 5 bI.nd (bU (aa (pcF T.g_34 (iH T) hr (aa (ax aS (pv 4) ad (λ_ _=>rfl)) ae)) ae)))
  (aj (bG Wq rfl (bW rfl T.n_7 (aa (aB aA rfl T.n_3 Wi (aa (pv 0) ae)) ae)) (pgN 6 bI.nd) (aj (am 7 bI.nd (aq aX (ax aS (pv 0) (pv 6) (λ_ _=>rfl)) (aq pK ad ad)))
  (aj (am 8 bI.nd (ax az (pv 1) (aq aX (aq bC (pv 7) (pv 6)) (aB aA rfl T.n_3 Wi (aa (pv 1) ae))) (λ_ _=>rfl)))
  (aj (am 9 bI.nd (bU ae))
  (aj (bE (tm fc vX ad (ax az (pv 8) ad (λ_ _=>rfl)) (aB aA rfl T.n_3 Wi (aa (pv 5) ae))) (ak (am 9 bI.nd (aZ j6 (pv 5) (br (aq gg (aB aA rfl T.n_3 Wi (aa (pv 5) ae)) (ax az (pv 8) ad (λ_ _=>rfl)))) bJ))) aT)
  (ak (bE (N! (dP (aC qt (aB aA rfl T.n_3 Wi (aa (pv 9) ae)) ad (aJ _)) (dP (aC fc (aB (lX rfl) rfl T.n_5 PyProof.Rows.boot_max (aa (bd (N:=["part"]) (js:=[AQ]) (g:=(av 0)) (tt:=aR) (te:=(tOp (eg K) (bB 0) (tC (.int 1)))) rfl (bK rfl (by decide +kernel) (by decide +kernel) rfl rfl rfl) (bX (pv 9)) (λ_ _ _ _ _ _=>(pgN 0 ml)) (aE rfl) (λ_ _ _ _ _ _=>aU) (λ_ _ _ _ _ _=>(ax az (pv 0) ad (λ_ _=>rfl)))) ae)) (pv 2) (aJ _)) (da (aC fc (aB (gC rfl) rfl T.n_9 YK (aa (bd (N:=["part"]) (js:=[AQ]) (g:=(av 0)) (tt:=aR) (te:=(tOp (eg K) (bB 0) (tC (.int 2)))) rfl (bK rfl (by decide +kernel) (by decide +kernel) rfl rfl rfl) (bX (pv 9)) (λ_ _ _ _ _ _=>(pgN 0 ml)) (aE rfl) (λ_ _ _ _ _ _=>aU) (λ_ _ _ _ _ _=>(ax az (pv 0) ad (λ_ _=>rfl)))) ae)) (pv 3) (aJ _)))))) (aj (bG Wq rfl (bX (pv 9)) (pgN 10 bI.nd) (ak (aY (lg V7 YJ YI ko (pv 5)))))
  (ak (aY (cB V7 Wo Wn bq (pv 5) (aa (pcF T.g_35 (nE T) hr (aa (ax az (pv 8) ad (λ_ _=>rfl)) (aa (pv 9) ae))) ae))))) (ak (bE (N! (dP (aC cL (aq aX (aq bF (pv 7) ad) ad) ad (aJ _)) (da (aC fc (aq fN ad (aB (gC rfl) rfl T.n_9 YK (aa (bd (N:=["part"]) (js:=[AQ]) (g:=(av 0)) (tt:=aR) (te:=(tOp (eg K) (bB 0) (tC (.int 2)))) rfl (bK rfl (by decide +kernel) (by decide +kernel) rfl rfl rfl) (bX (pv 5)) (λ_ _ _ _ _ _=>(pgN 0 ml)) (aE rfl) (λ_ _ _ _ _ _=>aU) (λ_ _ _ _ _ _=>(ax az (pv 0) ad (λ_ _=>rfl)))) ae))) (pv 3) (aJ _))))) (ak (aY (cB V7 Wo Wn bq (pv 5) (aa (ax aS (pv 5) (aq gg (aB aA rfl T.n_3 Wi (aa (pv 5) ae)) ad) (λ_ _=>rfl)) ae)))) (ak (aY (cB V7 Wo Wn bq (pv 5) (aa (pcF T.g_34 (iH T) hr (aa (ax aS (pv 4) (aq aX (aq bF (pv 7) ad) (aB aA rfl T.n_3 Wi (aa (pv 4) ae))) (λ_ _=>rfl)) ae)) ae)))))))))))))
  (ak (aF (pv 5)))))),?_⟩
 try dsimp only[zy,yY]
 have zU:ks.length=z9.length:=VZ zO;have Bs:=g.ne;have NR:=g.le;refine aN (λi' H'=>Ex1 λlv=>An3 (i'=[A? (.ref a),A? (.ref kr),A? (.int top),A? (.int most),A? (.ref lv),AQ,AQ,AQ,AQ,AQ,AQ]) (j! H H') (H' lv=A? (.lst ((cK ks).map λk=>D! k.1)))) (λkk hk=>?_) ?_
 .refine⟨_,D?,kr,D?,⟨_,hK⟩,?_⟩;refine ej ks (λk=>decide (o! k.2=o! 0)) (λk=>.str k.1) hK (by rw[Vu];exact zU) (by rw[Vu];lia) (λi x z H2 R hx hz sm r=>?_) (λi x z H2 R hx hz _ sm r=>?_) (λD hD=>?_)
  .obtain⟨ka,e1,e2⟩:=u! zO hz;rw[VA,e1]at hx;cases hx;exact⟨_,D?,ka,_,1,_,D?,D?,i! (sm _ _ e2),at1,D?,_,D?,r⟩
  .obtain⟨ka,e1,e2⟩:=u! zO hz;rw[VA,e1]at hx;cases hx;exact⟨_,D?,ka,_,0,_,D?,D?,i! (sm _ _ e2),at0,r⟩
  .exact hk _ _ ⟨D,rfl,ao hD _,ac⟩
 rintro σ H1 ⟨lv,rfl,s1,Qk⟩;have P5:=sG g;refine aN (wj a kr lv top most ks H1 0) (λkk hk=>?_) ?_
 .refine hid λZZ kZ=>?_;obtain⟨k0,BY,zP,N5,HG⟩:=rn g (i:=0) (by decide) (by lia);refine kZ ?_;refine⟨_,D?,lv,_,0,_,D?,D?,l! Qk,zP,k0.1,D?,N5,λe H2 s2 hE=>⟨lnE rfl,λmd N6=>?_⟩⟩;refine hk _ _ ⟨md,[e],[.knot k0.1 []],AQ,AQ,AQ,AQ,AQ,rfl,s2.trans (ao N6 _),s2.free N6,ac,.cons (hE.mono (iq N6)) .nil,λt ht=>?_,VG _,VG _⟩;rw[VH]at ht;subst ht;exact qC J6 DL BY
 rintro σ H2 hI;have Ul:=hI;refine hid λZZ kZ=>?_;obtain⟨Vo,Vp,Vq,d1,d2,d3,d4,d5,rfl,s2,_⟩:=hI;refine kZ ?_;have CO:((ns.map o!).length:Int)<=63:=by rw[Vu];lia
 refine⟨_,D?,a,_,D?,.inl ((s1.trans s2).seq hS),_,D?,by lia,by lia,?_⟩;refine cw (wj a kr lv top most ks H1) Ul ?_ ?_
 .rintro i σ H3 hi ⟨md,es,ts,c1,c2,c3,c4,c5,rfl,s3,Fc,Gs,hE,hG,zZ,hle⟩;have By:i<ns.length:=by simpa using hi
  have CF:ts.length=es.length:=VZ hE;have FC:=(s1.trans s3).seq hS;have Ql:=(s1.trans s3).seqT hK;have JB:0<=ns.getD (0+(i:Int)).toNat 0%10 ^ Int.toNat 60:=Wl _ (by decide);dsimp only[av];refine aN (λi' H'=>Ex1 λ(cell:Int)=>An3 (0<=cell) (H3=H') (i'=[A? (.ref a),A? (.ref kr),A? (.int top),A? (.int most),A? (.ref lv),A? (.ref md),A? (.int (0+(i:Int))),A? (.int cell),c3,c4,c5])) (λkk hk=>?_) ?_
  .exact⟨_,D?,_,D?,a,_,_,_,D?,D?,FC,int_at (by lia) (by lia),_,_,D?,D?,⟨by decide,by decide,by decide⟩,_,_,D?,D?,(by show(0:Int)<10 ^ 60;decide),hk _ _ ⟨_,JB,D?,D?⟩⟩
  rintro σ Vr ⟨cell,Um,rfl,rfl⟩;have hm:0<((z9.map k!).length:Int):=by rw[Vu];lia
  have MZ:=Wl (cell+(0+(i:Int))) (Int.ne_of_gt hm);have Vs:=Wg (cell+(0+(i:Int))) hm
  have Qc:((cell+(0+(i:Int)))%((z9.map k!).length:Int)).toNat<ks.length:=by
   have Ae:(z9.map k!).length=ks.length:=by rw[Vu];exact zU.symm
   lia
  refine hid λZZ kZ=>?_;obtain⟨kd,z8⟩:∃kd,ks[((cell+(0+(i:Int)))%((z9.map k!).length:Int)).toNat]?=A? kd:=⟨_,Vw Qc⟩;obtain⟨pa,BS,Ac⟩:=u! zO z8;refine kZ ?_;have AH:kd∈ks:=Vx z8;have KU:=g.num kd AH;have J7:=g.low kd AH;have Gu:H3 pa=A? (.tup [.str kd.1,.int kd.2]):=s3 _ _ (s1 _ _ Ac);refine⟨_,D?,_,D?,_,D?,_,_,D?,D?,_,D?,kr,_,D?,.inr Ql,_,_,D?,D?,hm,kr,_,_,.ref pa,D?,D?,Ql,at_nonneg MZ (gmE BS),?_⟩;refine⟨lnE rfl,λpt FL=>?_⟩;have s4:j! H3 (upd H3 pt (.lst [])):=ao FL _;dsimp only[av];refine aN (λi' H'=>Ex2 λ(pl:Vy)(n:Nat)=>An6 (i'=[A? (.ref a),A? (.ref kr),A? (.int top),A? (.int most),A? (.ref lv),A? (.ref md),A? (.int (0+(i:Int))),A? (.int cell),A? (.ref pa),A? (.ref pl),c5]) (j! H3 H') (H3 pl=AQ) (n<=es.length) (H' pl=A? (.lst ((es.drop n).map k!))) ((n<es.length->kd.2=((es.drop n).length:Nat)))) (λkk hk=>?_) ?_
  .refine cn (λb H'=>An2 (H'=upd H3 pt (.lst [])) ((b=B?->0<kd.2/\kd.2<=(es.length:Int)))) (λk2 zm=>?_) (λH' hb=>?_) (λH' hb=>?_)
   .refine⟨_,D?,pa,_,1,_,D?,D?,i! (s4 _ _ Gu),at1,_,_,D?,D?,_,D?,?_⟩;refine eS (λc=>?_) (λc=>?_)
    .refine⟨_,D?,md,_,D?,.inl (l! (s4 _ _ Gs)),_,_,D?,D?,_,D?,?_⟩;refine zm _ _ ⟨rfl,λz=>⟨e! c,?_⟩⟩;have:=e! z;rw[Vu]at this;exact this
    .exact⟨_,D?,zm _ _ ⟨D?,λz=>by cases z⟩⟩
   .obtain⟨rfl,hb⟩:=hb;obtain⟨b1,b2⟩:=hb rfl;refine⟨_,D?,_,D?,md,_,D?,.inl (l! (s4 _ _ Gs)),_,D?,pa,_,1,_,D?,D?,i! (s4 _ _ Gu),at1,_,_,D?,D?,_,D?,md,_,D?,l! (s4 _ _ Gs),λp hp=>?_⟩
    have N7:dw (es.map k!) (A? (((es.map k!).length:Int) - kd.2)) AQ=(es.drop (es.length - kd.2.toNat)).map k!:=by
     have e:((es.map k!).length:Int) - kd.2=((es.length - kd.2.toNat:Nat):Int):=by rw[Vu];lia
     rw[e,ss (by rw[Vu];lia),List.map_drop]
    rw[N7];refine hk _ _ ⟨p,es.length - kd.2.toNat,rfl,s4.trans (ao hp _),s4.free hp,by lia,ac,λ_=>?_⟩;rw[WO];lia
   .obtain⟨rfl,_⟩:=hb;refine hk _ _ ⟨pt,es.length,rfl,s4,FL,VG _,?_,λz=>g! z (W0 _)⟩;rw[ac,List.drop_length];rfl
  clear s4;rintro σ H4 ⟨pl,n,rfl,s4,Uo,hn,Fd,N8⟩;have CS:=s4 _ _ Gs;have Gr:EsAt ext H4 ts es:=hE.mono (n! s4);have Fe:pl≠md:=(aw Gs Uo).symm;have N9:EsAt ext H4 (ts.drop n) (es.drop n):=P2.drop n Gr;have Up:EsAt ext H4 (ts.take n) (es.take n):=P2.take n Gr;have B8:((es.drop n).map k!).length=es.length - n:=by rw[Vu,WO]
  have ES:(ts.drop n).length=((es.drop n).map k!).length:=by rw[B8,WO];lia
  refine cn (λb H'=>An2 (j! H4 H') ((b=B?->n<es.length/\(bw (ts.drop n):Int)<top/\(au (ts.drop n):Int)<most))) (λk2 zm=>?_) (λH5 hb=>?_) (λH5 hb=>?_)
  .refine⟨_,D?,pl,_,D?,.inl (l! Fd),_,_,D?,D?,_,D?,?_⟩;refine eS (λc=>?_) (λc=>zm _ _ ⟨.refl _,λz=>by cases z⟩)
   have EE:n<es.length:=by
    have:=e! c;rw[B8]at this;lia
   refine⟨_,D?,pl,D?,⟨_,l! Fd⟩,?_⟩;refine cF (ts.drop n) (λ_=>B?) (λt=>.int ((t.tall:Nat):Int)) (l! Fd) ES (by lia) (λi x z H5 R _ _ _ r=>r) (λi x z H5 R hx hz _ sm r=>?_) (λD hD=>?_)
   .refine hid λZZ kZ=>?_;obtain⟨e,b,rfl,_,he,_⟩:=N9.at hx hz;refine kZ ?_;exact⟨_,D?,e,_,1,_,D?,D?,i! (sm _ _ he),at1,r⟩
   rw[filter_tt];refine⟨D,(ts.drop n).map (λt=>((t.tall:Nat):Int)),D?,l! (by rw[<-ints_map];exact ac),?_,λM m1 m2=>⟨_,D?,_,_,D?,D?,_,D?,?_⟩⟩
   .intro z;have:=h! Xd z;rw[Vu,WO]at this;have this:ts.length - n=0:=this;lia
   rw[l7 m1 m2];refine eS (λc2=>?_) (λc2=>zm _ _ ⟨ao hD _,λz=>by cases z⟩);refine gU hD λH5 s5 _=>?_;refine⟨_,D?,pl,D?,⟨_,l! (s5 _ _ Fd)⟩,?_⟩;refine cF (ts.drop n) (λ_=>B?) (λt=>.int ((t.size:Nat):Int)) (l! (s5 _ _ Fd)) ES (by lia) (λi x z H6 R _ _ _ r=>r) (λi x z H6 R hx hz _ sm r=>?_) (λD2 FY=>?_)
   .refine hid λZZ kZ=>?_;obtain⟨e,b,rfl,_,he,_⟩:=N9.at hx hz;refine kZ ?_;exact⟨_,D?,e,_,2,_,D?,D?,i! (sm _ _ (s5 _ _ he)),at2,r⟩
   rw[filter_tt];refine⟨D2,(ts.drop n).map (λt=>((t.size:Nat):Int)),D?,l! (by rw[<-ints_map];exact ac),_,D?,_,_,D?,D?,_,D?,zm _ _ ⟨s5.trans (ao FY _),λz=>⟨EE,e! c2,?_⟩⟩⟩;have:=e! z;rw[jk]at this;exact this
  .refine hid λZZ kZ=>?_;obtain⟨s5,hb⟩:=hb;obtain⟨EE,Ai,Ga⟩:=hb rfl;refine kZ ?_;refine⟨_,D?,pl,D?,⟨_,l! (s5 _ _ Fd)⟩,?_⟩;refine fj (K:=K) (a:=pl) (xs:=(es.drop n).map k!) (λj σ H'=>Ex1 λc=>An3 (σ=[A? (.ref a),A? (.ref kr),A? (.int top),A? (.int most),A? (.ref lv),A? (.ref md),A? (.int (0+(i:Int))),A? (.int cell),A? (.ref pa),A? (.ref pl),c]) ((∀b o,H5 b=A? o->b≠md->H' b=A? o)) (H' md=A? (.lst ((es.take (es.length - j)).map k!)))) ⟨c5,rfl,λ_ _ h _=>h,?_⟩ (λi σ H' _⟨_,_,kp,_⟩=>l! (kp _ _ (s5 _ _ Fd) Fe)) ?_ ?_
   .rw[Nat.sub_zero,XJ];exact s5 _ _ CS
   .rintro j x σ H6 hx ⟨c,rfl,kp,em⟩
    have hj:j<es.length - n:=by
     have:=(glE hx);rw[B8]at this;exact this
    have e1:es.length - j=(es.length - (j+1))+1:=by lia
    have yZ:es.length - (j+1)<es.length:=by lia
    have e3:(es.take (es.length - j)).map k!=(es.take (es.length - (j+1))).map k!++[k! es[es.length - (j+1)]]:=by
     rw[e1,take_snoc (Vw yZ),V3];rfl
    rw[e3]at em;refine⟨_,D?,.inl ⟨D?,_,l! em⟩,md,_,k! es[es.length - (j+1)],D?,D?,em,by simp,?_⟩;refine⟨A? x,D?,λb o e hb=>by rw[af hb];exact kp b o e hb,?_⟩;rw[ac,List.dropLast_concat]
   .rintro σ H6 ⟨c,rfl,kp,em⟩;rw[B8,show es.length - (es.length - n)=n by lia]at em;have Qm:KT H5 H6:=λb xs e=>kp b _ e (aH e (s5 _ _ CS) (by intro z;cases z));have J8:KT H4 H6:=(n! s5).trans Qm;have Uq:j! H1 H6:=λb o e=>kp b o (s5 _ _ (s4 _ _ (s3 _ _ e))) (aw e Fc);have Oa:H6 pa=A? (.tup [.str kd.1,.int kd.2]):=Qm _ _ (s5 _ _ (s4 _ _ Gu));have Ur:∀t∈ts.drop n,GT ks top most t:=λt ht=>hG t (List.mem_of_mem_drop ht)
    have zk:ts.drop n≠[]:=by
     intro z;have:=h! Xd z;rw[WO]at this;have this:ts.length - n=0:=this;lia
    have hF:Fits ks (ts.drop n):=Fits.of λt ht=>(Ur t ht).fit;refine⟨_,D?,.inl ⟨D?,_,l! em⟩,_,D?,pa,_,0,_,D?,D?,i! Oa,at0,_,D?,kd.1,pl,es.drop n,ts.drop n,D?,oM J7.1,J7.2,l! (kp _ _ (s5 _ _ Fd) Fe),N9.mono J8,zk,Fits.nms g hF,by lia,λe H7 s7 Ob=>?_⟩;refine⟨md,_,_,D?,D?,s7 _ _ em,bp (by rw[Vu,WA];lia),?_⟩;refine jd (Uq.trans s7) Fc (s7 _ _ em) (Up.mono (J8.trans (n! s7))) Ob (λt ht=>hG t (List.mem_of_mem_take ht)) ⟨?_,?_,?_⟩ (by rw[WA];lia)
    .rw[A!];refine⟨?_,hF⟩
     have e2:(((ts.drop n).length:Nat):Int)=kd.2:=by
      have:=N8 EE;rw[WO]at this |-;lia
     rw[e2];exact AH
    .rw[w!];lia
    .rw[L!];lia
  .obtain⟨s5,_⟩:=hb;refine cn (λb H'=>j! H5 H') (λk2 zm=>?_) (λH6 s6=>?_) (λH6 s6=>?_)
   .refine⟨_,D?,_,_,D?,D?,⟨by decide,by decide⟩,_,_,D?,D?,(by show(0:Int)<5;decide),D?,_,D?,?_⟩;refine eS (λc=>?_) (λc=>zm _ _ (.refl _));refine⟨_,D?,md,D?,⟨_,l! (s5 _ _ CS)⟩,?_⟩;refine cF ts (λ_=>B?) (λt=>.int ((t.size:Nat):Int)) (l! (s5 _ _ CS)) (by rw[Vu];exact CF) (by rw[Vu];lia) (λi x z H6 R _ _ _ r=>r) (λi x z H6 R hx hz _ sm r=>?_) (λD2 FY=>?_)
    .refine hid λZZ kZ=>?_;obtain⟨e,b,rfl,_,he,_⟩:=Gr.at hx hz;refine kZ ?_;exact⟨_,D?,e,_,2,_,D?,D?,i! (sm _ _ (s5 _ _ he)),at2,r⟩
    rw[filter_tt];exact⟨D2,ts.map (λt=>((t.size:Nat):Int)),D?,l! (by rw[<-ints_map];exact ac),_,_,D?,D?,.inl ⟨by decide,by decide⟩,_,D?,_,_,D?,D?,_,D?,zm _ _ (ao FY _)⟩
   .have AJ:j! H4 H6:=s5.trans s6;have ED:=AJ _ _ CS;have EX:es.length - 1<es.length:=by lia
    refine hid λZZ kZ=>?_;obtain⟨tl,zh⟩:∃tl,ts[es.length - 1]?=A? tl:=⟨_,Vw (by lia)⟩;obtain⟨e,he,Ut⟩:=u! (Gr.mono (n! AJ)) zh;refine kZ ?_;refine⟨_,D?,.inl ⟨D?,_,l! ED⟩,_,D?,_,D?,md,_,D?,.inl (l! ED),_,_,D?,D?,md,_,_,.ref e,D?,D?,l! ED,at_nonneg (by rw[Vu];lia) ?_,md,_,_,D?,D?,ED,lbE (by lia),?_⟩
    .have e3:((((es.map k!).length:Nat):Int) - 1).toNat=es.length - 1:=by rw[Vu];lia
     rw[e3,VA,he];rfl
    .exact jd (s3.trans (s4.trans AJ)) Fc ED (Gr.mono (n! AJ)) Ut hG (hG tl (Vx zh)) hle
   .have AJ:j! H4 H6:=s5.trans s6;have ED:=AJ _ _ CS;have J9:=AJ _ _ (s4 _ _ (s3 _ _ Qk));have JK:0<(((cK ks).map λk=>D! k.1).length:Int):=by rw[Vu];lia
    have Uu:=Wl (cell / 35) (Int.ne_of_gt JK);have Qn:=Wg (cell / 35) JK;refine hid λZZ kZ=>?_;obtain⟨k0,BY,zP,N5,HG⟩:=rn g Uu (by rw[Vu]at Qn |-;exact Qn);refine kZ ?_;refine⟨_,D?,.inl ⟨D?,_,l! ED⟩,_,D?,_,D?,_,_,D?,D?,⟨by decide,by decide⟩,_,D?,lv,_,D?,.inl (l! J9),_,_,D?,D?,JK,lv,_,_,_,D?,D?,l! J9,zP,k0.1,D?,N5,λe H7 s7 Ob=>?_⟩;refine⟨md,_,_,D?,D?,s7 _ _ ED,lbE (by lia),?_⟩;exact jd (s3.trans (s4.trans (AJ.trans s7))) Fc (s7 _ _ ED) (Gr.mono (n! (AJ.trans s7))) Ob hG (qC J6 DL BY) hle
 .rintro σ H3 ⟨md,es,ts,c1,c2,c3,c4,c5,rfl,s3,Fc,Gs,hE,hG,zZ,hle⟩;refine⟨_,D?,k md es ts H3 (s1.trans s3) Gs hE hG zZ ?_⟩;have e:(((ns.map o!).length:Nat):Int).toNat=ns.length:=by rw[Vu];lia
  rw[e]at hle;lia
def arO(outs:List (V5×Int))(n:V5):Nat:=(List.getD (Zh (λk:V5×Int=>k.2) outs) (List.idxOf n (Zh (λk:V5×Int=>k.1) outs)) 0).toNat
theorem wM(g:GoodN outs){n:V5}{c:Nat}(h:(n,((c:Nat):Int))∈outs):arO outs n=c:=by
 obtain⟨j,hj⟩:=VL.mp h;unfold arO;rw[jn g hj,V0,VA,hj];exact VQ c
theorem ki{ks:List (V5×Int)}{S C:Int}:∀{ts:List Th},FitSs ks S C ts->∀t∈ts,t.FitS ks S C
 | [],_,t,h=>by cases h
 | u::ts,hf,t,h=>by
   rw[FitSs]at hf;rcases VS.mp h with rfl|h
   .exact hf.1
   .exact ki hf.2 t h
theorem oO{S C:Int}(g:GoodN outs):∀(n:Nat)(t:Th),t.size<=n->t.FitS outs S C->Ars (arO outs) t/\∀s k:Int,q! s k∈t.walk->0<=s/\s<S/\0<=k/\k<C:=by
 intro n;induction n with
 |zero=>intro t h;have:=J! t;lia
 | succ n ih =>
   intro t hz hf;cases t with
   | call s0 k0 =>
     rw[I!]at hf;refine⟨tS,λs k h=>?_⟩;rw[G!,VH]at h;injection h with h1 h2;rw[h1,h2];exact hf
   | knot nm ks =>
     rw[I!]at hf;have hz:au ks+1<=n+1:=hz;have hk:∀u∈ks,Ars (arO outs) u/\∀s k:Int,q! s k∈u.walk->0<=s/\s<S/\0<=k/\k<C:=λu hu=>ih u (by have:=dJ hu;lia) (ki hf.2 u hu);refine⟨tG (wM g hf.1).symm λu hu=>(hk u hu).1,λs k h=>?_⟩;rw[G!]at h;rcases VS.mp h with h|h
     .cases h
     .have:∀ts:List Th,(∀u∈ts,u∈ks)->q! s k∈walks ts->0<=s/\s<S/\0<=k/\k<C:=λts=>by
       induction ts with
       |nil=>intro _ h;rw[walks]at h;cases h
       | cons t ts IC =>
         intro ht h;rw[walks]at h;rcases VP.mp h with h|h
         .exact(hk t (ht t (VO ..))).2 s k h
         .exact IC (λu hu=>ht u (VR _ hu)) h
      exact this ks (λu hu=>hu) h
theorem iT{S C:Int}{t:Th}(g:GoodN outs)(h:t.FitS outs S C):Ars (arO outs) t:=(oO g t.size t (VG _) h).1
theorem fh{S C:Int}{t:Th}(g:GoodN outs)(h:t.FitS outs S C):∀s k:Int,q! s k∈t.walk->0<=s/\s<S/\0<=k/\k<C:=(oO g t.size t (VG _) h).2
theorem li:∀(n:Nat)(t:Th),t.size<=n->t.Fit outs->t.FitS outs 0 0:=by
 intro n;induction n with
 |zero=>intro t h;have:=J! t;lia
 | succ n ih =>
   intro t hz hf;cases t with
   |call s0 k0=>rw[A!]at hf;exact hf.elim
   | knot nm ks =>
     rw[A!]at hf;rw[I!];have hz:au ks+1<=n+1:=hz;refine⟨hf.1,?_⟩
     have:∀ts:List Th,(∀u∈ts,u∈ks)->FitSs outs 0 0 ts:=λts=>by
      induction ts with
      |nil=>intro _;rw[FitSs];trivial
      | cons t ts IC =>
        intro ht;have EG:=ht t (VO ..);rw[FitSs];exact⟨ih t (by have:=dJ EG;lia) (dU hf.2 t EG),IC λu hu=>ht u (VR _ hu)⟩
     exact this ks λu hu=>hu
theorem Bk48.at'(h:Bk48 ins outs head rows)(hr:row∈rows){a:Nat}{c:Int}(hi:ins[a]?=A? (nm,c)):(row.getD a bg).FitS outs (rows.length:Nat) c/\(row.getD a bg).tall<=3:=by
 obtain⟨h1,h2⟩:=h.row row hr;have hl:=(glE hi)
 have hg:row[a]?=A? (row.getD a bg):=by
  rw[V0,Vw (by lia)];rfl
 exact h2 a _ _ hg hi
theorem wW{S C:Int}{t:Th}(g:GoodN outs)(h:t.FitS outs S C)(ht:t.tall<=3):t.size<=13:=by
 have h1:=(jm g t h).1;have h2:3 ^ t.tall<=3 ^ 3:=XB (by decide) ht;lia
theorem Bk48.bkc(h:Bk48 ins outs head rows):BkC ins rows:=by
 refine⟨h.gi.1,by have:=h.few;lia,λrow hr=>(h.row row hr).1,λrow hr p hp=>?_,λa nm c hi row hr s k hm=>?_⟩
 .obtain⟨a,ha⟩:=VL.mp hp;have hl:=(glE ha);rw[(h.row row hr).1]at hl;obtain⟨h1,h2⟩:=(h.row row hr).2 a p _ ha (Vw hl);have:=wW h.go.1 h1 h2;exact⟨h2,by lia⟩
 .refine hid λZZ kZ=>?_;obtain⟨h1,h2,h3,h4⟩:=fh h.go.1 (h.at' hr hi).1 s k hm;refine kZ ?_;exact⟨⟨k.toNat,by lia,by lia⟩,s.toNat,by lia,by lia⟩
theorem Bk48.made(h:Bk48 ins outs head rows):∀(n:Nat)(t:Th),t.size<=n->t.Fit ins->∀u∈aP ins rows t,u.FitS outs 0 0:=by
 intro n;induction n with
 |zero=>intro t h;have:=J! t;lia
 | succ n ih =>
   intro t hz hf u hu;cases t with
   |call s0 k0=>rw[A!]at hf;exact hf.elim
   | knot nm ks =>
     rw[A!]at hf;obtain⟨hm,hk⟩:=hf;have hz:au ks+1<=n+1:=hz;obtain⟨a,ha⟩:=VL.mp hm;rw[ce]at hu;obtain⟨row,hr,rfl⟩:=VX.mp hu;rw[jn h.gi.1 ha];refine kU _ (λs c s0 s1 c0 c1=>?_) _ (h.at' hr ha).1;obtain⟨c',rfl⟩:=Yv c0;obtain⟨s',rfl⟩:=Yv s0;have zj:c'<ks.length:=by lia
     have AH:=WQ zj;have Qo:=dU hk _ AH;have Fx:s'<(aP ins rows ks[c']).length:=by rw[dR Qo];lia
     have e:cC ins rows ks (s':Int) (c':Int)=(aP ins rows ks[c'])[s']:=by
      unfold cC;rw[VQ,VQ,V0 (l:=ks.map _),VA,Vw zj];show((aP ins rows ks[c']).getD s' bg)=_;rw[V0,Vw Fx];rfl
     rw[e];exact ih _ (by have:=dJ AH;lia) Qo _ (WQ Fx)
theorem Bk48.hdc(h:Bk48 ins outs head rows):∀s k:Int,q! s k∈head.walk->k=0/\∃s':Nat,s=(s':Int)/\s'<rows.length:=λs k hm=>by
 refine hid λZZ kZ=>?_;obtain⟨h1,h2,h3,h4⟩:=fh h.go.1 h.hd.1 s k hm;refine kZ ?_;exact⟨by lia,s.toNat,by lia,by lia⟩
theorem Bk48.hdz(h:Bk48 ins outs head rows):head.size<=100:=by
 have:=wW h.go.1 h.hd.1 h.hd.2;lia
theorem Bk48.out(h:Bk48 ins outs head rows){t:Th}(hf:t.Fit ins):(dZ ins rows head t).FitS outs 0 0:=by
 unfold dZ;refine kU _ (λs c s0 s1 c0 c1=>?_) _ h.hd.1;obtain⟨s',rfl⟩:=Yv s0;have hc:c=0:=by lia
 subst hc;have Fx:s'<(aP ins rows t).length:=by rw[dR hf];lia
 have e:cC ins rows [t] (s':Int) 0=(aP ins rows t)[s']:=by
  unfold cC;rw[VQ];show((aP ins rows t).getD s' bg)=_;rw[V0,Vw Fx];rfl
 rw[e];exact h.made t.size t (VG _) hf _ (WQ Fx)
theorem Bk48.wcd(h:Bk48 ins outs head rows){w:Th}(hw:w.FitS outs 0 0)(hz:w.size<=60):WCd ins rows w (arO outs):=by
 refine⟨h.gi.1,λk hk=>oM (h.gi.1.low k hk).1,by have:=h.few;lia,λrow hr=>(h.row row hr).1,λa nm c hi p hp=>?_,iT h.go.1 hw,λp hp=>?_,by lia,?_⟩
 .obtain⟨row,hr,rfl⟩:=VX.mp hp;obtain⟨h1,h2⟩:=h.at' hr hi;have hz:=wW h.go.1 h1 h2;refine⟨iT h.go.1 h1,by lia,λs k hm=>?_⟩;refine hid λZZ kZ=>?_;obtain⟨h3,h4,h5,h6⟩:=fh h.go.1 h1 s k hm;refine kZ ?_;exact⟨⟨k.toNat,by lia,by lia⟩,s.toNat,by lia,by lia⟩
 .cases p with
  |knot n ks=>rfl
  |call s k=>have:=fh h.go.1 hw s k hp;lia
 .have:=Nat.mul_le_mul h.few hz;lia
theorem Bk48.hdok(h:Bk48 ins outs head rows):wE rows (arO outs) head:=⟨iT h.go.1 h.hd.1,by have:=h.hdz;lia,h.hdc⟩
theorem Bk48.wbk{ba:Vy}(h:Bk H ins outs head rows ba):WBk H ins head rows ba:=by
 obtain⟨ia,oa,ha,ra,zi,zD,zx,b⟩:=h;exact⟨ia,ha,ra,.ref oa,zi,zx,b.bk,b.inE,b.inK,b.rl,b.rw,b.hd⟩
theorem nb{t:Th}(h:At H t a):∃vs ds,H a=A? (.tup vs)/\DAts H ds vs/\t.dv=.tup ds/\cb ds<=t.tall:=by
 have h1:=h.dv;have h2:=t.dv_deep;cases t with
 | call s k =>
   rw[P!]at h1 h2;rw[DAt]at h1;refine hid λZZ kZ=>?_;obtain⟨b,vs,e1,e2,e3⟩:=h1;refine kZ ?_;cases e1;rw[Q!]at h2;exact⟨vs,_,e2,e3,by rw[P!],by lia⟩
 | knot n ks =>
   rw[P!]at h1 h2;rw[DAt]at h1;refine hid λZZ kZ=>?_;obtain⟨b,vs,e1,e2,e3⟩:=h1;refine kZ ?_;cases e1;rw[Q!]at h2;exact⟨vs,_,e2,e3,by rw[P!],by lia⟩
inductive iW(K:VD)(vs:List V)(H:Hp)(Q:VK)(_E:XK):Prop
 |mk (a ba:Vy) (ns:List Int) (ins outs:List (V5×Int)) (head:Th) (rows:List (List Th)):vs=[.ref a,.ref ba]->SqL K H a (ns.map o!)->ns.length<=63->Bk H ins outs head rows ba->Bk48 ins outs head rows->(∀(w:Th)(wa:Vy)(H':Hp),j! H H'->At H' w wa->w.FitS outs 0 0->w.size<=60->Q (.ref wa) H')->iW K vs H Q _E
theorem qQ{ts:List Th}{c:Int}(h:1<=ts.length)(el:H l=A? (.lst (as.map k!)))(hp:Wc (At H) ts as):∃(t:Th)(a:Vy),t∈ts/\At H t a/\atI (as.map k!) (c%(((as.map k!).length:Nat):Int))=A? (.ref a)/\(0:Int)<(((as.map k!).length:Nat):Int):=by
 have hl:ts.length=as.length:=VZ hp;have Ae:(as.map k!).length=ts.length:=by rw[Vu,hl]
 rw[Ae];have h0:=Wl c (show((ts.length:Nat):Int)≠0 by lia);have h1:=Wg c (show(0:Int)<((ts.length:Nat):Int)by lia);have yZ:(c%((ts.length:Nat):Int)).toNat<ts.length:=by lia
 have e:=Vw yZ;obtain⟨a,ha,hA⟩:=u! hp e;exact⟨_,a,WQ yZ,hA,at_nonneg h0 (gmE ha),by lia⟩
theorem nj:bj P w K mg base CX0 50 T.g_40.f T.g_40.d ["script","book"] (iW K):=by
 refine T.g_40.F.okA bO λzb A outer s H vs Q E hr h=>?_;obtain⟨a,ba,ns,ins,outs,head,rows,rfl,hS,AE,hB,hK,q⟩:=h
 refine⟨_,(aj (am 2 bO.nd (ax az (pv 1) ad (λ_ _=>rfl)))
  (aj (dC (i:=3) (N:=["entry"]) (js:=[AQ]) (g:=(av 0)) (tt:=aR) (te:=(tOp (eg K) (bB 0) (tC (.int 0)))) bO.nd rfl (Z9 rfl) rfl (bK rfl (by decide +kernel) (by decide +kernel) rfl rfl rfl) (bX (pcF T.g_36 (eR T) hr (aa (pv 0) (aa (pv 2) (aa ad (aa ad ae)))))) (λ_ _ _ _ _ _=>(pgN 0 v7)) (aE rfl) (λ_ _ _ _ _ _=>aU) (λ_ _ _ _ _ _=>(ax az (pv 0) ad (λ_ _=>rfl))))
  (aj (am 4 bO.nd (ax aS (pv 3) (aq aX (pcF T.g_27 (aW T) hr (aa (pv 0) (aa ad ae))) (aB aA rfl T.n_3 Wi (aa (pv 3) ae))) (λ_ _=>rfl)))
  (aj (dC (i:=5) (N:=["entry"]) (js:=[AQ]) (g:=(av 0)) (tt:=aR) (te:=(tOp (eg K) (bB 0) (tC (.int 0)))) bO.nd rfl (Z9 rfl) rfl (bK rfl (by decide +kernel) (by decide +kernel) rfl rfl rfl) (bX (pcF T.g_36 (eR T) hr (aa (aZ j6 (pv 0) (br ad) bJ) (aa (ax az (pv 1) ad (λ_ _=>rfl)) (aa ad (aa ad ae)))))) (λ_ _ _ _ _ _=>(pgN 0 v7)) (aE rfl) (λ_ _ _ _ _ _=>aU) (λ_ _ _ _ _ _=>(ax az (pv 0) ad (λ_ _=>rfl))))
  (aj (am 6 bO.nd (ax aS (pv 5) (aq aX (pcF T.g_27 (aW T) hr (aa (pv 0) (aa ad ae))) (aB aA rfl T.n_3 Wi (aa (pv 5) ae))) (λ_ _=>rfl)))
  (aj (am 7 bO.nd ad)
  (aj (bE (aC mC ad (bd (N:=["pair"]) (js:=[AQ]) (g:=(av 0)) (tt:=aR) (te:=(tOp (eg K) (bB 0) (tC (.int 1)))) rfl (bK rfl (by decide +kernel) (by decide +kernel) rfl rfl rfl) (b9 (ax az (pv 1) ad (λ_ _=>rfl))) (λ_ _ _ _ _ _=>(pgN 0 sV)) (aE rfl) (λ_ _ _ _ _ _=>aU) (λ_ _ _ _ _ _=>(ax az (pv 0) ad (λ_ _=>rfl)))) (by with_unfolding_all rfl)) (ak (am 7 bO.nd ad)) aT)
  (aj (bE (N! (dP (aC qt (aq aX (pcF T.g_27 (aW T) hr (aa (pv 0) (aa ad ae))) ad) ad (aJ _)) (da (aC vX (pcF T.g_41 (iV T) hr (aa (pv 1) (aa (pv 6) ae))) (pv 7) (aJ _))))) (ak (am 4 bO.nd (pcF T.g_39 (dk T) hr (aa (pv 1) (aa (pv 6) ae))))) aT)
  (ak (aF (pv 4))))))))))),?_⟩
 try dsimp only[zy,yY]
 have hW:=Bk48.wbk hB;refine hid λZZ kZ=>?_;obtain⟨ia,oa,ha,ra,zi,zD,zx,b⟩:=hB;refine kZ ?_;refine⟨_,D?,ba,_,1,.ref oa,D?,D?,i! b.bk,at1,?_⟩;dsimp only[av]
 refine⟨_,D?,_,D?,a,ns,oa,zD,outs,8,14,D?,hS,AE,i! b.outE,b.outK,hK.go.g,by decide,by decide,by decide,λr es ts H1 s1 er hE hG h1 Uv=>?_⟩;have CF:ts.length=es.length:=VZ hE;refine⟨r,D?,⟨_,l! er⟩,gD (F:=λH t p=>At H t p) (xs:=es.map k!) ts (λHa Hb z p kt h=>h.mono kt) (by rw[Vu];exact CF) (by rw[Vu];lia) (λi Hx sx hi=>⟨_,_,l! (sx _ _ er),Vw hi⟩) (λHx sx=>⟨_,l! (sx _ _ er),VG _⟩) (λi Hx y Hy sx hi hy=>⟨hy.1,hy.2 _ (l! (sx _ _ er))⟩) (λi y z Hx R W' hy hz sx hR=>?_) (λl H2 as hl s2 el BS=>?_)⟩
 .obtain⟨e,rfl,he⟩:=cD hy;obtain⟨x,ex,hx⟩:=ij hE hz he;exact⟨_,D?,e,_,0,.ref x,D?,D?,i! (sx _ _ ex),at0,hR Hx x (λ_ _ e=>e) (hx.mono (n! sx))⟩
 dsimp only[av];have Ad:=s1.trans s2;refine hid λZZ kZ=>?_;obtain⟨w0,wa,G3,AI,zP,zZ⟩:=qQ (c:=cellAt ns 3) h1 el BS;refine kZ ?_;have DR:=Ad.seq hS;refine⟨_,D?,_,D?,a,ns,3,D?,DR,by decide,_,D?,l,_,D?,.inl (l! el),_,_,D?,D?,zZ,l,_,_,.ref wa,D?,D?,l! el,zP,?_⟩;dsimp only[av];have gw:=hG w0 G3;have J':w0.FitS outs 0 0:=li w0.size w0 (VG _) gw.fit;have Oc:w0.size<=60:=by have:=gw.size;lia
 refine⟨_,D?,1,D?,a,_,D?,DR,λp hp=>?_⟩;refine gr hp λH3 s3 e3=>?_;have Br:=Ad.trans s3
 obtain⟨ms,Ka⟩:∃ms:List Int,dw (ns.map o!) (A? 1) AQ=ms.map o!:=by
  unfold dw;rw[<-List.map_drop,<-List.map_take];exact⟨_,D?⟩
 have Lg:ms.length<=63:=by
  have:=eL (ns.map o!) (A? 1) AQ;rw[Ka,Vu,Vu]at this;lia
 rw[Ka]at e3;refine⟨_,D?,ba,_,0,.ref ia,D?,D?,i! (Br _ _ b.bk),at0,p,ms,ia,zi,ins,4,7,D?,l! e3,Lg,i! (Br _ _ b.inE),b.inK.mono (n! Br),hK.gi.g,by decide,by decide,by decide,λr2 Qp Qq H4 s4 G1 J5 Uw OW Ux=>?_⟩;have Od:Qq.length=Qp.length:=VZ J5;refine⟨r2,D?,⟨_,l! G1⟩,gD (F:=λH t p=>At H t p) (xs:=Qp.map k!) Qq (λHa Hb z p kt h=>h.mono kt) (by rw[Vu];exact Od) (by rw[Vu];lia) (λi Hx sx hi=>⟨_,_,l! (sx _ _ G1),Vw hi⟩) (λHx sx=>⟨_,l! (sx _ _ G1),VG _⟩) (λi Hx y Hy sx hi hy=>⟨hy.1,hy.2 _ (l! (sx _ _ G1))⟩) (λi y z Hx R W' hy hz sx hR=>?_) (λl2 H5 Vt Ae s5 Gj Oe=>?_)⟩
 .obtain⟨e,rfl,he⟩:=cD hy;obtain⟨x,ex,hx⟩:=ij J5 hz he;exact⟨_,D?,e,_,0,.ref x,D?,D?,i! (sx _ _ ex),at0,hR Hx x (λ_ _ e=>e) (hx.mono (n! sx))⟩
 dsimp only[av];have Hf:=Br.trans (s4.trans s5);have Uy:=s3.trans (s4.trans s5);have Uz:=Hf.seq hS;refine hid λZZ kZ=>?_;obtain⟨t0,ta,EZ,BV,Of,Kb⟩:=qQ (c:=cellAt ns 4) OW Gj Oe;refine kZ ?_;refine⟨_,D?,_,D?,a,ns,4,D?,Uz,by decide,_,D?,l2,_,D?,.inl (l! Gj),_,_,D?,D?,Kb,l2,_,_,.ref ta,D?,D?,l! Gj,Of,?_⟩;dsimp only[av];have gt:=Uw t0 EZ;have CC:t0.tall<=40:=by have:=gt.tall;lia
 have Ab:ins.length=zi.length:=VZ b.inK;have T5:=hK.gi.2
 refine aN (λi' H'=>i'=[A? (.ref a),A? (.ref ba),A? (.ref oa),A? (.ref l),A? (.ref wa),A? (.ref l2),A? (.ref ta),A? (.int 60)]/\H5=H') (λkk hk=>hk _ _ ⟨rfl,rfl⟩) ?_;rintro i' H' ⟨rfl,rfl⟩;refine aN (λi' H6=>Ex1 λ(most:Int)=>An3 (i'=[A? (.ref a),A? (.ref ba),A? (.ref oa),A? (.ref l),A? (.ref wa),A? (.ref l2),A? (.ref ta),A? (.int most)]) (j! H5 H6) (most<=60)) (λkk hk=>?_) ?_
 .refine⟨_,D?,ba,_,0,.ref ia,D?,D?,i! (Hf _ _ b.bk),at0,ia,D?,⟨_,i! (Hf _ _ b.inE)⟩,bY (zs:=ins) (f:=λk=>o! k.2) (i! (Hf _ _ b.inE)) (by rw[Vu];exact Ab) (by rw[Vu];lia) (λi x z Hx R W' hx hz sx hR=>?_) (λl3 Hx D3 sx UA=>?_)⟩
  .obtain⟨ka,Ac,zJ⟩:=u! b.inK hz;rw[VA,Ac]at hx;cases hx;exact⟨_,D?,ka,_,1,_,D?,D?,i! (sx _ _ (Hf _ _ zJ)),at1,hR Hx (λ_ _ e=>e)⟩
  refine⟨l3,_,D?,.inl (l! UA),D?,?_,_,D?,?_⟩
  .rw[List.all_map,X2];intro x _;rfl
  dsimp only;refine eS (λ_=>?_) (λ_=>?_)
  .exact hk _ _ ⟨15,rfl,sx,by decide⟩
  .exact hk _ _ ⟨60,rfl,sx,by decide⟩
 rintro i' H6 ⟨most,rfl,s6,DL⟩;have Lm:=Hf.trans s6;have Nk:=Uy.trans s6;have UB:=Lm.seq hS;refine aN (λi' H7=>Ex2 λ(w1:Th)(wb:Vy)=>An5 (i'=[A? (.ref a),A? (.ref ba),A? (.ref oa),A? (.ref l),A? (.ref wb),A? (.ref l2),A? (.ref ta),A? (.int most)]) (j! H6 H7) (At H7 w1 wb) (w1.FitS outs 0 0) (w1.size<=60)) (λkk hk=>?_) ?_
 .have old:∀{H7:Hp},j! H6 H7->kk [A? (.ref a),A? (.ref ba),A? (.ref oa),A? (.ref l),A? (.ref wa),A? (.ref l2),A? (.ref ta),A? (.int most)] H7:=λs7=>hk _ _ ⟨w0,wa,rfl,s7,AI.mono (n! (Nk.trans s7)),J',Oc⟩;refine⟨_,D?,a,ns,5,D?,UB,by decide,_,_,D?,D?,(by decide:(0:Int)<4),_,_,D?,D?,_,D?,?_⟩;refine eS (λ_=>?_) (λ_=>cz (old (λ_ _ e=>e)));have Kc:=BV.mono (n! s6);refine⟨_,D?,_,D?,ba,ta,ins,head,rows,t0,D?,hW.mono (n! Lm),Kc,hK.bkc,gt.fit,CC,hK.hd.2,hK.hdz,hK.hdc,λH7 s7=>?_⟩;refine⟨_,D?,_,_,D?,D?,_,D?,?_⟩;refine eS (λhle=>?_) (λ_=>old s7);have hle:=e! hle;exact⟨_,D?,_,D?,ba,ta,ins,head,rows,t0,D?,hW.mono (n! (Lm.trans s7)),Kc.mono (n! s7),hK.bkc,gt.fit,CC,hK.hd.2,hK.hdz,hK.hdc,λr3 H8 s8 h8=>hk _ _ ⟨_,r3,D?,s7.trans s8,h8,hK.out gt.fit,by lia⟩⟩
 rintro i' H7 ⟨w1,wb,rfl,s7,UC,Og,Oh⟩;exact⟨_,D?,q w1 wb H7 (Lm.trans s7) UC Og Oh⟩
inductive iw(tp:Vy)(vs:List V)(H:Hp)(Q:VK)(_E:XK):Prop
 |mk (ba wa:Vy) (ins:List (V5×Int)) (head:Th) (rows:List (List Th)) (t:Th) (ar:V5->Nat):vs=[.ref ba,.ref wa]->WBk H ins head rows ba->At H t wa->WCd ins rows t ar->wE rows ar head->TabSt H tp (cg aM) eY->(∀(r:Vy)(v:V)(H':Hp),SameT tp H H'->TabSt H' tp (cg aM) eY->H' r=A? (.tup [v,.bl B?])->Q (.ref r) H')->(∀(r:Vy)(H':Hp),SameT tp H H'->TabSt H' tp (cg aM) eY->H' r=A? (.tup [.non,.bl C?])->(∀u:Th,u.Fit ins->dZ ins rows head u≠t)->Q (.ref r) H')->(∀(r ua:Vy)(u:Th)(H':Hp),SameT tp H H'->TabSt H' tp (cg aM) eY->H' r=A? (.tup [.ref ua,.bl C?])->At H' u ua->u.Fit ins->u.tall<=31->dZ ins rows head u=t->(∀v:Th,v.Fit ins->dZ ins rows head v=t->u.size<=v.size)->Q (.ref r) H')->iw tp vs H Q _E
theorem nA(L:Lam mg base T.g_23.tc T.g_23.tp):bj P w K mg base CX0 12 T.g_46.f T.g_46.d ["book","wish"] (iw T.g_23.tp):=by
 refine T.g_46.F.okA cT λzb A outer s H vs Q E hr h=>?_;obtain⟨ba,wa,ins,head,rows,t,ar,rfl,hB,hA,hc,hh,AO,q1,q2,q3⟩:=h
 refine⟨_,(aj (am 2 cT.nd fG)
  (aj (am 3 cT.nd jQ)
  (aj (vh (Ch:=T.e_Many) (tb:=λR=>(qc (ut (jv T.e_Table T.e_Ways T.e_Many T.g_23.tp) [] R (cO (bB 0) (cO (bB 1) jx))) (av 2))) (ts:=(qc (tC (.bl B?)) (av 3))) (λY R=>(ak (am 2 cT.nd (sM (qi T L) (hr.mono (by first|decide|lia)) rfl T.g_26.m T.g_26.F.kp T.g_26.b .nil (aa (pv 0) (aa (pv 1) ae)))))) (λea oe=>(ak (am 3 cT.nd jQ))) rfl rfl rfl T.x_Many)
  (ak (aF (bc (aa (pv 2) (aa (pv 3) ae)))))))),?_⟩
 try dsimp only[zy,yY]
 dsimp only[qc,tC,av,w6];refine pf (λzA c H2=>An4 (zA=[A? (.ref ba),A? (.ref wa),A? .non,A? (.bl C?)]) (c=.ref T.e_Many) (SameT T.g_23.tp H H2) (TabSt H2 T.g_23.tp (cg aM) eY)) (λR' hR=>?_) ?_
 .refine⟨_,D?,_,D?,ba,wa,ins,head,rows,t,ar,D?,hB,hA,hc,hh,AO,λH2 s2 t2 _=>hR _ _ _ ⟨D?,D?,s2,t2⟩,λH2 s2 t2 _ zp=>?_,λua u H2 s2 t2 _ hu hf zh ho hle=>?_⟩
  .refine⟨_,D?,_,D?,lnE rfl,λr Bp=>?_⟩;exact gr Bp λH3 s3 e3=>q2 r H3 (s2.trans (s3.t _)) (t2.mono s3) e3 zp
  .refine⟨_,D?,_,D?,lnE rfl,λr Bp=>?_⟩;exact gr Bp λH3 s3 e3=>q3 r ua u H3 (s2.trans (s3.t _)) (t2.mono s3) e3 (hu.mono (n! s3)) hf zh ho hle
 .rintro zA c H2 ⟨rfl,rfl,s2,t2⟩;refine⟨_,D?,⟨T.X_Many,T.hit_Many_Many⟩,?_⟩;refine⟨_,D?,_,D?,lnE rfl,λr Bp=>?_⟩;exact gr Bp λH3 s3 e3=>q1 r .non H3 (s2.trans (s3.t _)) (t2.mono s3) e3
inductive dj(n:Nat)(vs:List V)(H:Hp)(Q:VK)(_E:XK):Prop
 |mk (ta ia:Vy) (t:Th) (zi:List Vy) (ins:List (V5×Int)):vs=[.ref ta,.ref ia]->At H t ta->H ia=A? (.tup (zi.map k!))->KsAt H ins zi->GoodN ins->t.Fit ins->t.tall<=n->(∀H',j! H H'->Q (.bl B?) H')->dj n vs H Q _E
inductive fb(n:Nat)(vs:List V)(H:Hp)(Q:VK)(_E:XK):Prop
 |mk (ta:Vy) (t:Th):vs=[.ref ta]->At H t ta->(∀m ks,r! m ks∈t.walk->ks.length<=1000)->(∀p∈t.walk,p.isCall=C?)->t.tall<=n->(∀H',j! H H'->Q (.int ((t.size:Nat):Int)) H')->fb n vs H Q _E
theorem fT:∀n:Nat,bj P w K mg base CX0 (n+1) T.g_44.f T.g_44.d ["tree","kinds"] (dj n)
 |0=>⟨λ_ _ _ _ h=>by obtain⟨_,_,t,_,_,_,_,_,_,_,_,h1,_⟩:=h;have:=t.tall_eq;lia,λ_ _ _ _ _ _ _ _ _ _ _ _ _ h=>by obtain⟨_,_,t,_,_,_,_,_,_,_,_,h1,_⟩:=h;have:=t.tall_eq;lia⟩
 | n+1=>by
   have ih:=fT n;refine T.g_44.F.okA jV λzb A outer s H vs Q E hr h=>?_;obtain⟨ta,ia,t,zi,ins,rfl,hA,ei,Ci,g,hF,zh,q⟩:=h
   refine⟨_,(aj (bE (N! (mm (qh (b7 (aB (rW (T:="tuple")) rfl T.n_2 PyProof.Rows.boot_isinstance (aa (pv 0) (aa (vy (v:=.ty "tuple") rfl T.n_10 WN rfl) ae))) (λ_=>rfl))) (mm (aC fc (aB aA rfl T.n_3 Wi (aa (pv 0) ae)) ad (aJ _)) (kA (aC (sw (B:=50) (vj hr)) (bc (aa (ax az (pv 0) ad (λ_ _=>rfl)) (aa (aq gg (aB aA rfl T.n_3 Wi (aa (pv 0) ae)) ad) ae))) (pv 1) (by with_unfolding_all rfl)))))) (ak (aF jQ)) aT)
    (ak (aF (aB (oH rfl) rfl T.n_0 PyProof.Rows.boot_all (aa (bd (N:=["kid","kinds"]) (js:=[AQ,A? 1]) (g:=(av 0)) (tt:=aR) (te:=(gN (dj _) [] E0 (cO (bB 0) (cO (bB 1) jx)))) rfl (bK rfl (by decide +kernel) (by decide +kernel) rfl rfl rfl) (b9 (aZ cR (pv 0) (br ad) bJ)) (λ_ _ _ _ _ _=>(pgN 0 yq)) (aE rfl) (λ_ _ _ _ _ _=>aU) (λ_ _ _ _ _ _=>(de (ih) (hr.mono (VG _)) rfl T.g_44.m T.g_44.F.kp T.g_44.b .nil cV (aa (pv 0) (aa (pv 1) ae))))) ae))))),?_⟩
   try dsimp only[zy,yY]
   cases t with
   |call s0 k0=>rw[A!]at hF;exact hF.elim
   | knot m ks =>
     rw[w!]at zh;rw[A!]at hF;refine hid λZZ kZ=>?_;obtain⟨hm,hK⟩:=hF;rw[At]at hA;obtain⟨Fb,z9,ea,Ac⟩:=hA;refine kZ ?_;have zU:z9.length=ks.length:=Ac.length;have zT:=(g.num _ hm).2;dsimp only at zT;have B8:((.str m::z9.map k!:List V).length:Int)=((ks.length:Nat):Int)+1:=by rw[VU,Vu];lia
     refine cn (λb H'=>An2 (b=C?) (j! H H')) (λk2 zm=>?_) (λH' hb=>(by cases hb.1)) (λH' hb=>?_)
     .refine⟨_,D?,_,_,_,D?,.tup ea,wU,_,D?,cz ?_⟩;refine⟨_,D?,ta,_,D?,.inr (i! ea),_,_,D?,D?,_,D?,?_⟩;rw[B8,c! (show¬((ks.length:Nat):Int)+1<1 by lia)];refine cz ⟨_,rfl,ta,_,0,.str m,rfl,rfl,i! ea,at0,_,rfl,ta,_,rfl,.inr (i! ea),_,_,rfl,rfl,lnE rfl,λp hp=>?_⟩;rw[B8,show((ks.length:Nat):Int)+1 - 1=((ks.length:Nat):Int)by lia];refine gr hp λH1 s1 e1=>?_;have z8:=ou ins;refine⟨_,D?,ia,_,kDv (m,(ks.length:Int)),ins.map kDv,D?,i! (s1 _ _ ei),?_,vH (Ci.mono (n! s1)),by lia,λr Bp=>⟨_,D?,?_⟩⟩
      .rw[kDv,DAt];exact⟨_,_,D?,e1,.cons (by rw[DAt]) (.cons (by rw[DAt]) .nil)⟩
      have UD:r=false:=by
       cases r with
       |false=>rfl
       |true=>exact g! (List.mem_map_of_mem hm) (Bp.mp rfl)
      subst UD;exact zm _ _ ⟨rfl,s1⟩
     obtain⟨_,s1⟩:=hb;refine⟨_,D?,1,D?,ta,_,D?,i! (s1 _ _ ea),?_,λp2 zC=>?_⟩
     .rintro⟨z,_⟩;rw[VU,show(1:Int)=((1:Nat):Int)by rfl,x!]at z;lia
     dsimp only;rw[cr];refine gr zC λH2 s2 e2=>?_;have Ad:=s1.trans s2;refine⟨p2,D?,⟨_,i! e2⟩,bY (zs:=ks) (f:=λ_=>V.bl B?) (i! e2) (by rw[Vu];lia) (by rw[Vu];lia) (λi x z Hx R W' hx Aj sx hR=>?_) (λD H3 hD s3 eD=>?_)⟩
     .obtain⟨ua,rfl,DI⟩:=cD hx;obtain⟨u,hu,DJ⟩:=Ac.get DI;have Bj:=Vx hu;have Ap:=Ad.trans sx;have J2:=dh Bj;exact⟨_,D?,_,D?,ua,ia,u,zi,ins,D?,DJ.mono (n! Ap),Ap _ _ ei,Ci.mono (n! Ap),g,dU hK u Bj,by lia,λH4 s4=>hR H4 s4⟩
     have J4:H3 D=A? (.lst ((ks.map λ_=>B?).map V.bl)):=by
      rw[Wk];exact eD
     refine⟨D,_,D?,l! J4,?_⟩
     have e:(ks.map λ_=>B?).all id=true:=by
      rw[List.all_map,X2];intro x _;rfl
     rw[e];exact q H3 (Ad.trans s3)
theorem eT:∀n:Nat,bj P w K mg base CX0 (n+1) T.g_45.f T.g_45.d ["tree"] (fb n)
 |0=>⟨λ_ _ _ _ h=>by obtain⟨_,t,_,_,_,_,h1,_⟩:=h;have:=t.tall_eq;lia,λ_ _ _ _ _ _ _ _ _ _ _ _ _ h=>by obtain⟨_,t,_,_,_,_,h1,_⟩:=h;have:=t.tall_eq;lia⟩
 | n+1=>by
   have ih:=eT n;refine T.g_45.F.okA lL λzb A outer s H vs Q E hr h=>?_;obtain⟨ta,t,rfl,hA,hk,zp,zh,q⟩:=h;refine⟨_,(ak (aF (aq bC ad (aB (gC rfl) rfl T.n_9 YK (aa (bd (N:=["kid"]) (js:=[AQ]) (g:=(av 0)) (tt:=aR) (te:=(gN (fb _) [] E0 (cO (bB 0) jx))) rfl (bK rfl (by decide +kernel) (by decide +kernel) rfl rfl rfl) (b9 (aZ cR (pv 0) (br ad) bJ)) (λ_ _ _ _ _ _=>(pgN 0 wC)) (aE rfl) (λ_ _ _ _ _ _=>aU) (λ_ _ _ _ _ _=>(de (ih) (hr.mono (VG _)) rfl T.g_45.m T.g_45.F.kp T.g_45.b .nil cV (aa (pv 0) ae)))) ae))))),?_⟩
   try dsimp only[zy,yY]
   cases t with
   |call s0 k0=>have:=zp _ (by rw[G!];exact VO ..);cases this
   | knot m ts =>
     rw[w!]at zh;rw[At]at hA;refine hid λZZ kZ=>?_;obtain⟨Fb,EU,ea,BV⟩:=hA;refine kZ ?_;have En:EU.length=ts.length:=BV.length;have hl:=hk m ts (by rw[G!];exact VO ..);refine⟨_,D?,1,D?,ta,_,D?,i! ea,?_,λp2 zC=>?_⟩
     .rintro⟨z,_⟩;rw[VU,show(1:Int)=((1:Nat):Int)by rfl,x!]at z;lia
     dsimp only;rw[cr];refine gr zC λH2 s2 e2=>?_;refine⟨p2,D?,⟨_,i! e2⟩,bY (zs:=ts) (f:=λt=>o! ((t.size:Nat):Int)) (i! e2) (by rw[Vu];lia) (by rw[Vu];lia) (λi x z Hx R W' hx Aj sx hR=>?_) (λD H3 hD s3 eD=>?_)⟩
     .obtain⟨ua,rfl,DI⟩:=cD hx;obtain⟨u,hu,DJ⟩:=BV.get DI;rw[hu]at Aj;have Aj:u=z:=VN Aj;subst Aj;have Bj:=Vx hu;have Ap:=s2.trans sx;have J2:=dh Bj;have Qr:∀x∈u.walk,x∈(r! m ts).walk:=gv Bj;exact⟨_,D?,ua,u,D?,DJ.mono (n! Ap),λm' za h'=>hk m' za (Qr _ h'),λp hp=>zp p (Qr p hp),by lia,λH4 s4=>hR H4 s4⟩
     have J4:H3 D=A? (.lst ((ts.map λt=>((t.size:Nat):Int)).map o!)):=by
      rw[Wk];exact eD
     refine⟨D,_,D?,l! J4,_,_,D?,D?,?_⟩;have:=q H3 (s2.trans s3)
     have e:((r! m ts).size:Int)=1+(ts.map λt=>((t.size:Nat):Int)).sum:=by
      rw[i9];show((au _+1:Nat):Int)=_;lia
     rw[e]at this;exact this
theorem rR(e:SameO H H')(h:SqL K H a xs):SqL K H' a xs:=by
 rcases h with(h|⟨o,h⟩)|h
 .exact .inl (.inl (e _ _ h (λ_ z=>nomatch z)))
 .exact .inl (.inr ⟨o,e _ _ h (λ_ z=>nomatch z)⟩)
 .exact .inr h
def FoundI(ins:List (V5×Int))(rows:List (List Th))(head w:Th)(H:Hp)(v:V):Prop:=(v=.non/\∀u:Th,u.Fit ins->dZ ins rows head u≠w)\/∃(ua:Vy)(u:Th),v=.ref ua/\At H u ua/\u.Fit ins/\u.tall<=31/\dZ ins rows head u=w/\∀x:Th,x.Fit ins->dZ ins rows head x=w->u.size<=x.size
theorem FoundI.same{w:Th}(h:FoundI ins rows head w H v)(s:j! H H'):FoundI ins rows head w H' v:=by
 rcases h with h|⟨ua,u,h1,h2,h3⟩
 .exact .inl h
 .exact .inr ⟨ua,u,h1,h2.mono (n! s),h3⟩
theorem mR{t:Th}(g:GoodN outs)(h:t.FitS outs 0 0):∀m ks,r! m ks∈t.walk->ks.length<=1000:=λm ks hm=>by
 have h1:=iT g h m ks hm
 have h2:arO outs m<=3\/arO outs m=0:=by
  unfold arO;by_cases z:(List.idxOf m (Zh (λk:V5×Int=>k.1) outs))<outs.length
  .refine .inl ?_;rw[V0,VA,Vw z];have h9:=(g.num _ (WQ z)).2;show Int.toNat (Prod.snd (outs[List.idxOf m (Zh (λk:V5×Int=>k.1) outs)]'z))<=3;lia
  .refine .inr ?_;rw[V0,VA,WR (by lia)];rfl
 lia
theorem jL{t:Th}(g:GoodN outs)(h:t.FitS outs 0 0):∀p∈t.walk,p.isCall=false:=λp hp=>by
 cases p with
 |knot n ks=>rfl
 |call s k=>have:=fh g h s k hp;lia
inductive pN(K:VD)(tp:Vy)(vs:List V)(H:Hp)(Q:VK)(_E:XK):Prop
 |mk (a:Vy) (ns:List Int):vs=[.ref a]->SqL K H a (ns.map o!)->ns.length<=63->H tp=A? (.tbl #[])->(∀H',Q (.bl B?) H')->pN K tp vs H Q _E
theorem wu(L:Lam mg base T.g_23.tc T.g_23.tp):bj P w K mg base CX0 90 T.g_47.f T.g_47.d ["script"] (pN K T.g_23.tp):=by
 refine T.g_47.F.okA jw λzb A outer s H vs Q E hr h=>?_;obtain⟨a,ns,rfl,hS,AE,AO,q⟩:=h
 refine⟨_,(aj (am 1 jw.nd (pcF T.g_33 (mT T) hr (aa (pv 0) (aa ad (aa ad ae)))))
  (aj (am 2 jw.nd (pcF T.g_40 (nj T) hr (aa (pv 0) (aa (pv 1) ae))))
  (aj (am 3 jw.nd (pcF T.g_46 (nA T L) hr (aa (pv 1) (aa (pv 2) ae))))
  (aj (bE (b7 (ax az (pv 3) ad (λ_ _=>rfl)) (λ_=>rfl)) (ak (aF jQ)) aT)
  (aj (am 4 jw.nd (ax az (pv 3) ad (λ_ _=>rfl)))
  (aj (bE (N! (dP (aC j5 (pv 4) fG (aJ _)) (da (qh (b7 (pcF T.g_44 (fT T 40) hr (aa (pv 4) (aa (ax az (pv 1) ad (λ_ _=>rfl)) ae))) (λ_=>rfl)))))) (ak (aF jQ)) aT)
  (aj (bE (N! (dP (aC j5 (pv 4) fG (aJ _)) (da (aC (wS (B:=150) (kT hr)) (pcF T.g_39 (dk T) hr (aa (pv 1) (aa (pv 4) ae))) (pv 2) (aJ _))))) (ak (aF jQ)) aT)
  (aj (bG Wq rfl (bX (pcF T.g_36 (eR T) hr (aa (aZ j6 (pv 0) (br ad) bJ) (aa (ax az (pv 1) ad (λ_ _=>rfl)) (aa ad (aa ad ae)))))) (pgN 5 jw.nd) (ak (bE (N! (dP (aC cL (pcF T.g_41 (iV T) hr (aa (pv 1) (aa (ax az (pv 5) ad (λ_ _=>rfl)) ae))) (pcF T.g_45 (eT T 70) hr (aa (pv 2) ae)) (aJ _)) (da (aC (wz (B:=150) (kT hr)) (pcF T.g_39 (dk T) hr (aa (pv 1) (aa (ax az (pv 5) ad (λ_ _=>rfl)) ae))) (pv 2) (aJ _))))) (ak (bE (N! (mm (aC wQ (pv 4) fG (aJ _)) (kA (aC qt (pcF T.g_45 (eT T 70) hr (aa (pv 4) ae)) (ax az (pv 5) ad (λ_ _=>rfl)) (aJ _))))) (ak (aF jQ)) aT)) aT)))
  (ak (aF jQ)))))))))),?_⟩
 try dsimp only[zy,yY]
 refine⟨_,D?,a,ns,D?,hS,AE,λba ins outs head rows H1 s1 hB hK=>?_⟩;dsimp only[av];refine⟨_,D?,_,D?,a,ba,ns,ins,outs,head,rows,D?,s1.seq hS,AE,hB,hK,λw wa H2 s2 hw J' Oc=>?_⟩;dsimp only[av];have Ad:=s1.trans s2;have Qs:=hB.mono (n! s2);have DR:=Ad.seq hS;have zQ:TabSt H2 T.g_23.tp (cg aM) eY:=.inl (Ad _ _ AO);refine aN (λi' H3=>Ex3 λ(tr:Vy)(v:V)(b:Bool)=>An4 (i'=[A? (.ref a),A? (.ref ba),A? (.ref wa),A? (.ref tr),AQ,AQ]) (SameO H2 H3) (H3 tr=A? (.tup [v,.bl b])) ((b=B?\/FoundI ins rows head w H3 v))) (λkk hk=>?_) ?_
 .refine⟨_,D?,_,D?,ba,wa,ins,head,rows,w,arO outs,D?,Bk48.wbk Qs,hw,hK.wcd J' Oc,hK.hdok,zQ,λr v H3 s3 t3 er=>?_,λr H3 s3 t3 er zp=>?_,λr ua u H3 s3 t3 er hu hf zh ho hle=>?_⟩
  .exact hk _ _ ⟨r,v,B?,rfl,zQ.sameO s3,er,.inl rfl⟩
  .exact hk _ _ ⟨r,.non,C?,rfl,zQ.sameO s3,er,.inr (.inl ⟨rfl,zp⟩)⟩
  .exact hk _ _ ⟨r,.ref ua,C?,rfl,zQ.sameO s3,er,.inr (.inr ⟨ua,u,rfl,hu,hf,zh,ho,hle⟩)⟩
 rintro i' H3 ⟨tr,v,b,rfl,JN,Qt,Ld⟩;have Qu:=Qs.mono JN.kt;have Bg:=hw.mono JN.kt;have FC:=rR JN DR;refine⟨_,D?,tr,_,1,.bl b,D?,D?,i! Qt,at1,b,D?,?_⟩;cases b with
 |true=>exact dm (q H3)
 | false =>
   have hF:FoundI ins rows head w H3 v:=Ld.resolve_left (λz=>nomatch z);refine cz ⟨_,rfl,tr,_,0,v,rfl,rfl,i! Qt,at0,?_⟩;dsimp only[av];clear Ld;refine hid λZZ kZ=>?_;obtain⟨ia,oa,ha,ra,zi,zD,zx,bk⟩:=id Qu;refine kZ ?_;have UE:=Bk48.wbk Qu
   have Qv:∀{H':Hp},At H' w wa->∃vs ds,H' wa=A? (.tup vs)/\DAts H' ds vs/\w.dv=.tup ds/\cb ds<=150:=λh=>by
    obtain⟨vs,ds,h1,h2,h3,h4⟩:=nb h;have:=fC w;exact⟨vs,ds,h1,h2,h3,by lia⟩
   refine aN (λi' H4=>i'=[A? (.ref a),A? (.ref ba),A? (.ref wa),A? (.ref tr),A? v,AQ]/\j! H3 H4) (λkk hk=>?_) ?_
   .rcases hF with⟨rfl,zp⟩|⟨ua,u,rfl,hu,Hh,zh,ho,hle⟩
    .refine⟨_,D?,D?,_,D?,?_⟩;rw[d! (show V.non=V.non from rfl)];exact cz (cz (hk _ _ ⟨rfl,λ_ _ e=>e⟩))
    .refine⟨_,D?,D?,_,D?,?_⟩;rw[c! (show¬k! ua=V.non fromλz=>nomatch z)];exact dm ⟨_,rfl,_,rfl,ba,_,0,.ref ia,rfl,rfl,i! bk.bk,at0,ua,ia,u,zi,ins,rfl,hu,bk.inE,bk.inK,hK.gi.1,Hh,by lia,λH4 s4=>⟨B?,rfl,cz (hk _ _ ⟨rfl,s4⟩)⟩⟩
   rintro i' H4 ⟨rfl,s4⟩;have Qw:=hF.same s4;have BX:=Bg.mono (n! s4);have Qx:=UE.mono (n! s4)
   refine aN (λi' H5=>i'=[A? (.ref a),A? (.ref ba),A? (.ref wa),A? (.ref tr),A? v,AQ]/\j! H4 H5) (λkk hk=>?_) ?_
   .rcases Qw with⟨rfl,zp⟩|⟨ua,u,rfl,hu,Hh,zh,ho,hle⟩
    .refine⟨_,D?,D?,_,D?,?_⟩;rw[d! (show V.non=V.non from rfl)];exact cz (cz (hk _ _ ⟨rfl,λ_ _ e=>e⟩))
    .refine⟨_,D?,D?,_,D?,?_⟩;rw[c! (show¬k! ua=V.non fromλz=>nomatch z)];refine dm ⟨_,rfl,_,rfl,ba,ua,ins,head,rows,u,rfl,Qx,hu,hK.bkc,Hh,by lia,hK.hd.2,hK.hdz,hK.hdc,λr H5 s5 h5=>?_⟩;rw[ho]at h5;refine hid λZZ kZ=>?_;obtain⟨Oi,Oj,e1,d1,x1,l1⟩:=nb h5;obtain⟨Ol,DX,e2,d2,x2,l2⟩:=Qv (BX.mono (n! s5));refine kZ ?_;have AM:=fC w;refine⟨_,D?,r,wa,Oi,Ol,Oj,DX,D?,D?,i! e1,i! e2,d1,d2,by lia,λb hb=>⟨_,D?,?_⟩⟩
     have KG:b=false:=by
      cases b with
      |false=>rfl
      | true =>
        refine g! ?_ (hb.mp rfl);rw[x1]at x2;injection x2
     subst KG;exact cz (hk _ _ ⟨rfl,s5⟩)
   rintro i' H5 ⟨rfl,s5⟩;have Qz:=s4.trans s5;have UG:=Qw.same s5;have Bh:=BX.mono (n! s5);have Lc:=Qx.mono (n! s5)
   refine⟨_,D?,1,D?,a,_,D?,Qz.seq FC,λp hp=>?_⟩;refine gr hp λH6 s6 e6=>?_;have G5:=Qz.trans s6
   obtain⟨ms,Ka⟩:∃ms:List Int,dw (ns.map o!) (A? 1) AQ=ms.map o!:=by
    unfold dw;rw[<-List.map_drop,<-List.map_take];exact⟨_,D?⟩
   have Lg:ms.length<=63:=by
    have:=eL (ns.map o!) (A? 1) AQ;rw[Ka,Vu,Vu]at this;lia
   rw[Ka]at e6;refine⟨_,D?,ba,_,0,.ref ia,D?,D?,i! (G5 _ _ bk.bk),at0,p,ms,ia,zi,ins,4,7,D?,l! e6,Lg,i! (G5 _ _ bk.inE),bk.inK.mono (n! G5),hK.gi.g,by decide,by decide,by decide,λr es ts H7 s7 er hE hG h1 Uv=>?_⟩;have Cz:=s6.trans s7;refine⟨r,D?,⟨_,l! er⟩,?_⟩;have CF:ts.length=es.length:=VZ hE;refine fj (K:=K) (a:=r) (xs:=es.map k!) (λi σ H8=>Ex1 λ(c5:Option V)=>An2 (σ=[A? (.ref a),A? (.ref ba),A? (.ref wa),A? (.ref tr),A? v,c5]) (j! H7 H8)) ⟨AQ,rfl,λ_ _ e=>e⟩ (λi σ H8 _⟨_,_,s8⟩=>l! (s8 _ _ er)) ?_ ?_
   .rintro i x σ H8 hx ⟨c5,rfl,s8⟩;refine hid λZZ kZ=>?_;obtain⟨e,rfl,he⟩:=cD hx;obtain⟨t,ht,b0,ex,zP⟩:=H! hE he;refine kZ ?_;have gt:=hG t (Vx ht);have CC:t.tall<=40:=by have:=gt.tall;lia
    have JE:=Cz.trans s8;dsimp only[av];have Om:=s8 _ _ ex;refine⟨_,D?,_,D?,e,_,0,.ref b0,D?,D?,i! Om,at0,ba,b0,ins,head,rows,t,D?,Lc.mono (n! JE),zP.mono (n! s8),hK.bkc,gt.fit,CC,hK.hd.2,hK.hdz,hK.hdc,λH9 s9=>?_⟩;refine⟨_,D?,wa,w,D?,Bh.mono (n! (JE.trans s9)),mR hK.go.1 J',jL hK.go.1 J',by have:=fC w;lia,λHa sa=>?_⟩;refine⟨D?,_,D?,?_⟩;by_cases z:(dZ ins rows head t).size=w.size
    .rw[d! (show o! (((dZ ins rows head t).size:Nat):Int)=o! ((w.size:Nat):Int)by rw[z])];have Ln:=s9.trans sa;have QA:=JE.trans Ln;refine dm ⟨_,rfl,_,rfl,e,_,0,.ref b0,rfl,rfl,i! (Ln _ _ Om),at0,ba,b0,ins,head,rows,t,rfl,Lc.mono (n! QA),zP.mono (n! (s8.trans Ln)),hK.bkc,gt.fit,CC,hK.hd.2,hK.hdz,hK.hdc,λrr Hb sb Lb=>?_⟩;have Oo:=Ln.trans sb;have QB:=QA.trans sb;refine hid λZZ kZ=>?_;obtain⟨Oi,Oj,e1,d1,x1,l1⟩:=nb Lb;obtain⟨Ol,DX,e2,d2,x2,l2⟩:=Qv (Bh.mono (n! QB));refine kZ ?_;have AM:=fC (dZ ins rows head t);refine⟨_,D?,rr,wa,Oi,Ol,Oj,DX,D?,D?,i! e1,i! e2,d1,d2,by lia,λb hb=>⟨_,D?,?_⟩⟩;cases b with
     |false=>exact cz ⟨_,rfl,s8.trans Oo⟩
     | true =>
       have UH:=hb.mp rfl;have how:dZ ins rows head t=w:=Th.dv_inj (by rw[x1,x2,UH]);refine dm ?_;rcases UG with⟨rfl,zp⟩|⟨ua,u,rfl,hu,Hh,zh,ho,hle⟩
       .exact g! how (zp t gt.fit)
       .refine⟨_,D?,D?,_,D?,?_⟩;rw[c! (show¬k! ua=V.non fromλz=>nomatch z)];refine cz ⟨_,rfl,ua,u,rfl,hu.mono (n! QB),?_,?_,by lia,λHc sc=>?_⟩
        .exact mR hK.gi.1 (li u.size u (VG _) Hh)
        .exact jL hK.gi.1 (li u.size u (VG _) Hh)
        refine⟨_,D?,e,_,2,.int (t.size:Nat),D?,D?,i! (sc _ _ (Oo _ _ Om)),at2,_,_,D?,D?,_,D?,?_⟩;have:=hle t gt.fit how;rw[c! (show¬((t.size:Nat):Int)<((u.size:Nat):Int)by lia)];exact cz ⟨_,rfl,s8.trans (Oo.trans sc)⟩
    .rw[c! (show¬o! (((dZ ins rows head t).size:Nat):Int)=o! ((w.size:Nat):Int)fromλy=>z (by injection y with y;lia))];exact cz (cz ⟨_,rfl,s8.trans (s9.trans sa)⟩)
   .rintro σ H8 ⟨c5,rfl,s8⟩;exact q H8
end
theorem walk{l:PySem.W.OpenLaw}{q:V8}{d:DefRec}{K:Params->VD}(hn:l.most=A? 63)(Ec:d.params.defaults=[])(hd:d.name="law")(hY:∀(w:Wm)(h:WS),YP w h->(K w.params).In h){ts:List Vy}(hT:∀(w:Wm)(h:WS),YP w h->∀P∈ts,h.get? P=A? (ZQ #[]))(he:∀P:Params,ts=HD.kQ (K P))
 (F:∀(w:Wm)(mg:V5->Option Vz)(h:WS),(K w.params).In h->h.Ns Xg mg->TX (K w.params) mg):PySem.W.WalkO q loose XP YP l.row.toRowW d [] (λf vs=>PySem.call f vs) :=
 L2.t6 (n:=63) (k:=90) (x:="script") (CX:=λ_=>CX0) (sp:=λw T=>pN (K w.params) T) hn (by decide) Ec ⟨rfl,by decide,by decide⟩ hY hT he (λw mg fa h KX G hm=>by
  have T:=F w mg h KX G;obtain⟨_,_,_,_,_,_,_,_,_,e,_⟩:=T.g_47.F.ex;rw[hd]at hm;have e2:T.g_47.f=fa:=(Value.ref.inj (VN (hm.symm.trans T.g_47.m))).symm;subst e2;exact⟨_,_,_,λs v=>by rw[e];exact .of_eq rfl,T.g_23.t,T.g_23.u,λbase _ _ L=>wu T L⟩) (λ_ _ _ a ns hl hS hT=>⟨a,ns,rfl,hS,hl,hT,λ_=>rfl⟩) λ_ _ _ _ _ z=>z
end LAW
open PySem PySem.W PyProof.Rows
set_option maxRecDepth 100000 in
theorem PySem.Challenge.cw_boughbook_k48_whence_it_comes_holds : PySem.Challenge.rw_boughbook_k48_whence_it_comes.Holds := by
 w_on;(refine holds_law LAW.ws λUI=>?_);(refine holds_open (q:=LAW.vw) (N:=90000) (loose:=[]) (XP:=XL LAW.vw []) (Yf:=Hook.obs (kmHook LAW.d0.heap_1 LAW.ks LAW.ke LAW.ts)) (Ya:=Hook.val (kmHook LAW.d0.heap_1 LAW.ks LAW.ke LAW.ts)) (YP:=Hook.says (kmHook LAW.d0.heap_1 LAW.ks LAW.ke LAW.ts)) (Xt:=LAW.xt) (HD.sj (by kernel_rfl) (by kernel_rfl) (λ_=>by kernel_rfl) LAW.lk0 LAW.lk1 LAW.lk2 LAW.lk3 LAW.lk4 LAW.lk5 (HD.Pc.km LAW.kp LAW.kt)) (Hook.of (kmHook LAW.d0.heap_1 LAW.ks LAW.ke LAW.ts)) (Hook.keeps (kmHook LAW.d0.heap_1 LAW.ks LAW.ke LAW.ts)) (λs e=>xl_of s (Bool.and_eq_true_iff.mp e).1) XL.keeps (by rfl) (by rfl) (by rfl) (λs e=>recFacts_of (Bool.and_eq_true_iff.mp e).2) (by rfl) (by assumption) (by decide +kernel) ⟨rfl,rfl,rfl,rfl,rfl,by decide +kernel⟩ ?_ ?_);w_witness2
 k_fill
 exact LAW.walk (l:=PySem.Challenge.rw_boughbook_k48_whence_it_comes) rfl rfl rfl (λw h Y=>PySem.W.km_in_of Y) (λw h Y=>PySem.W.km_tabs_of Y) LAW.te λw mg h x g=>by constructor <;> first|exact LAW.fx x g|exact LAW.bn x g|exact LAW.fm|exact LAW.na|exact by k_is|exact LAW.gn x g|exact⟨by k_is,by k_is,by k_is,by k_is⟩|exact⟨by k_is,by k_is⟩|exact LAW.cs x g|exact LAW.ci x g|k_exc|kts_exm|exact LAW.fmt
