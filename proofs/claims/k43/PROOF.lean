import PyProof.Rows.All
import Wide.All
import OpenK.AllK
import Wide.FinOn
import Lean
import PyProof.EqAt
import PyProof.EqKinds
import PyProof.TupleCall
import KE.KRevIter
import PyProof.ListNew
import PyProof.Draws
import PyProof.EnumMake
import PyProof.Rows.EnumRows
import PyProof.ZipIter
import PyProof.ConsumeWalk
import KE.LcSums
import PyProof.AttrMissHeap
import KE.KDictOf
import PyProof.DictWalks
import PyProof.ListMulRoad
import PyProof.FactsAll.tuple
import PyProof.NeKinds
import KE.RegKTryMore
import KE.RegKIsAll
import PyProof.StrWalks
import PyProof.Rows.SetFrom
import PyProof.FString5
import Wide.Txt
import PyProof.Rows.SeqMore
import PyProof.StrOps2
import KE.KEqDict
import PyProof.CollectIter
import PyProof.JoinWalk
import PyProof.CallStr
import PyProof.DictRoadsH
import PyProof.MeetsDictList
import PyProof.DictTruth
import PyProof.StrLawsChain
import PyProof.StrCalls6
import PyProof.ToksMono
import PyProof.StrCalls2
import KE.KWords
import PyProof.MeetsStr2
import KE.KLam
import KE.KDictLaws
import PySem.Challenge.RW_boughbook_k43_joining_refused
set_option maxHeartbeats 0
set_option Elab.async false
set_option linter.all false
set_option maxRecDepth 100000
set_option genInjectivity false
set_option genSizeOf false
open PySem renaming wpAny_bind->Lr,Addr->Ls,Value->Lu,Shared->Lw,wpAny_pure->Lz,Program->LF,wpAny->LG,sizeLine->LK,Str->LL,model->LN,World->LQ,Around->LU,starEach->L7,Paired->Mg,Heap->Ml,wpAny_newObj_type->Mm,mem_of_lookup->Mn,wpAny_mono->Mq,Expr->Mv,mainGlobals->My,wpAny_callSpecial?_slot->MO,Scope->MS,wpAny_Call_Name_kw->MT,sysModules->MU,wpAny_field->MV,wpAny_call_entry->MW,Obj->M4,wpAny_holding->M5,FuncData->M7,eval->Nd,NameKind->Nh,cLine->Nl,wpAny_specialOf->Nt,boot_len->Nv,Builtin->Ny,rawInt->Nz,codeAny->NC,backTo->NG,wpAny_typeNameOfWhole_keyiter->NK,wpAny_typeOf->NN,Stmt->NP,wpAny_passesOwn->NR,builtinLookup_eq_fast->NX,wpAny_setField->N6,sizeLine_eq->N7,binaryOp->N8,tupleKeyHash->Oc,compareOp->Od,codeAny_mono->Oe,atKey->Og,Pos->Oi,wpAny_typeNameOf_keyiter->Oj,wpAny_dictEntries->OB,pyNext->OC,isSubtype_type->OD,getItem->OE,Env->OJ,wpAny_isInstance->OK,wpAny_of_eq->OM,sliceBounds->ON,wpAny_updateSeq->OR,wpAny_execs_nil->OS,typeLookup_type->OT,letOwnedTupleGo->OU,codeAny_builtin->OV,bootBuiltins->O1,OsState->O3,tupleKind->O8,Arguments->O9,wpAny_rule->Pa,tupleKind_room_in1->Pb,bindArgs->Pd,foldedSetIterable->Pr,atKey_none_of_get->Pt,wpAny_comprehension_free->PB,wpAny_attempt->PC,plainId_quiet->PD,attributeBase->PF,Result->PH,wpAny_forIn_list->PR,noteFrame->PU,cellsFrom->PV,call_meets->P4,assignEach->P5,IsPart->P8,importedModules->Qa,wpAny_notOrdered_dict->Qc,wpAny_seqItems->Qg,unbindBehindTheSuite->Qh,slicePicked->Qi,newFunctionEnv->Qj,firstArgMember->Qk
open List renaming length_map->Lx,getElem?_eq_getElem->LA,size_toArray->LD,mem_singleton->LM,length_cons->LP,length_append->LR,mem_cons_of_mem->LS,mem_append_right->LV,mem_cons->LW,getElem?_map->LZ,mem_cons_self->L5,map_append->L6,mem_of_getElem?->L9,map_cons->Mf,reverse_cons->Mi,length_take->Mj,length_reverse->Mp,mem_append->Mw,mem_append_left->MC,append_nil->ME,take_of_length_le->MI,lookup_cons->MK,range->ML,mem_map->MZ,getElem?_append_left->M6,filterMap_cons->Nb,drop_zero->Ni,find?_cons->Nk,take_add_one->Nn,reverse_reverse->Np,lookup->Nq,reverse_append->Nu,all_eq_true->Nx,mem_iff_getElem?->NI,getElem?_eq_none->NJ,length_range->NM,mem_range->NT,length->NU,getElem?_set_ne->NV,getElem?_append_right->NW,map_nil->N1,length_drop->N2,getElem?_eq_some_iff->N5,mem_filterMap->Of,take_zero->Oo,replicate->Oq,getElem?_set_self->Ot,getElem?_reverse->Ov,filterMap_append->Ow,cons_append->Oy,nodup_cons->OG,dropLast_concat_getLast->OH,getElem?_zip_eq_some->OW,drop_eq_getElem_cons->OX,append_assoc->OZ,length_filterMap_le->O5,take_length->Ph,prefix_refl->Pj,length_eq_zero_iff->Pk,getElem_mem->Pl,getD->Pm,of_mem_zip->Pw,nil_append->Px,map_map->Qq
open PySem.W renaming Frag->Ly,findIn->Mo,kitOne->MF,emptyDict->MX,instObj->Nj,boot_heap->Nm,keepIn->Nw,fnOf->NZ,hideAll->Ou,tabIn->Oz,mroIn->OA,envX->OL,callWith_K->OO,plainGet->Pe,lookIn->PY,fnMade->PZ,plainGet_of->P7,methodObj->Ql,hasDictIn->Qm
open PySem.Heap renaming get?_push_of_some->LB,get?_push_size->LH,lt_size->LJ,get?_update_other->MD,get?_update_self->MG,SameBut->MQ,size_push->N9
open Nat renaming le_refl->LC,lt_of_lt_of_le->LX,ne_of_lt->Mc,lt_irrefl->Me,le_trans->Mr,zero_le->MB,le_of_lt->N0,lt_succ_of_lt->OY,lt_succ_self->Pg,ne_of_gt->Pq,add_assoc->Qb,sub_zero->Qo,lt_trans->Qp
open PySem.Str renaming ofString->LI
open Bool renaming false_ne_true->LO,false_eq_true->MN,and_eq_true->N4,eq_false_iff->O0,not_true->O7,eq_iff_iff->Pz,and_eq_true_iff->P1
open PySem.F renaming plainAttrs_list->LY,type_list_append->Mt,slot_list_append->Mu,slot_dict_keyiterator_next->Ng,plain_extend_loop->Oh,args_tuple_add_2->O2,entry_tuple_add->Pf,slot_tuple_add->Pp,slot_tuple_hash->Py,type_list_pop->PJ,slot_list_pop->PK,slot_dict_get->PL,slot_list_getattribute->PN
open PySem.Paired renaming length->L3
open Array renaming length_toList->L4,getElem?_eq_some_iff->M1,append_assoc->OP,getElem?_toList->PQ,forIn_toList->Qe
open PyProof.Rows renaming slot_tuple_getitem->L8,boot_tuple->Mh,boot_isinstance->Na,envOfC->NB,callWith_type1->NL,IsTup->Qd,AllBare->Qf
open Option.some renaming inj->Ma
open PySem.Value renaming ref->Mb,none->MH,bool->NO,builtin->Ol,int->PX,type->P6
open Int renaming emod_lt_of_pos->Md,emod_nonneg->Mx,toNat_natCast->M0,natCast_emod->Pn
open PySem.NameKind renaming free->Mz,cell->Om
open False renaming elim->MA
open PySem.Builtin.Slice renaming slicePlaces->MJ,sliceAdjust->Nr,sliceApplied->Ob
open PySem.Builtin.Tuple renaming tupleExact->MM,tupleHashOf->M8,tupleItemsOf->Oa
open PySem.PassesOwn renaming never->MP
open Sum renaming inl->MR,inr->NY
open Ne renaming symm->MY
open ForInStep renaming yield->M3
open PySem.Obj renaming data_mapFields->M9,mapSeq->Nf,isFreed_of_fields->OI,mapFields->PM
open Option renaming map_eq_some_iff->Nc,isSome_iff_exists->O4,map_some->Pu
open PySem.Builtin.List renaming listTooLong->NA
open PySem.Heap.SameBut renaming update->NF
open List.cons renaming inj->NH
open PySem.Calls renaming spliced_cons->NQ,spliced_nil->OF,Name_function_global->Po,callWith_builtin->P9,evalArgs_plain->Qr
open Sum.inl renaming inj->NS
open True renaming intro->Ox
open PySem.Around renaming under_plainId->OQ
open PySem.Builtin.Str renaming strSliceIndices->O6
open Prod.mk renaming inj->P0
open Prod renaming fst->Qn
open Option renaming some->A?,none->Ak
open Bool renaming true->AG,false->AH
theorem B?.{u}{α:Sort u}{a:α}:a=a:=rfl
variable{w:LQ}{m:List Int}{h base h1 h':Ml}{α β:Type}{a f b l it C sl d ea:Ls}{loose N ps:List LL}{K:Ly}{e tg iter elt:Mv}{x qual name n0 n1 n2 p1:LL}{us its:List Lu}{u cd oc vl vu acc:Lu}{F:α->β->Prop}{P prog:LF}{t' j n two:Nat}{ch fp:List Ls}{uM pins:List (Ls×M4)}{M:Model}{A:LU}{E Q:Lu->Lw->Prop}{s' s s1:Lw}{pos:Oi}{st:NP}{c k' S S1 c' way many:Int}{es ifs:List Mv}{body:List NP}{R:PH->Lw->Prop}{lo hi:Option Int}{tk:Tok}{op:CmpOp}{kw:List (LL×Lu)}{env:OJ}{mg:LL->Option Lu}{outer:List OJ}{fd:M7}{kindOf:LL->Option Nh}{sc scope:MS}{params:O9}{od:Option Ls}{items:Array Lu}{XP:(LL->Option Lu)->Ml->Prop}{YP:LQ->Ml->Prop}{B:Prop}{js:List (Option Nat)}{cl:List (LL×Ls)}{oe:M4}{ins outs:List (LL×Int)}
def Ra:=@if_neg
def Sa:=@if_pos
def Ta:=@decide_eq_false
def Ua:=@decide_eq_true
def Va:=@of_decide_eq_true
def Wa:=@absurd
def Xa:=@congrArg
namespace HD
open PySem PySem.W PySem.Calls PyProof.Rows
def gw(tb:String->Option Ny)(p:LF)(w:LQ)(m:Nat)(ann:Option Lu):Nat->SharedT->Thread->Option SharedT
 |0,_,_=>Ak
 | n+1,s,t=>match through t with
   |true=>A? s
   | false=>match stepOk m ann t with
     |false=>Ak
     | true=>match stepT (denote tb) p w s t with
       |some (s',t')=>gw tb p w m ann n s' t'
       |none=>Ak
theorem gS{tb:String->Option Ny}{p:LF}{m:Nat}{ann:Option Lu}:∀{n:Nat}{s s':SharedT}{t:Thread},gw tb p w m ann n s t=A? s'->topRun tb p w m ann n s.abs t=A? s'.abs
 |0,_,_,_,h=>by cases h
 | n+1,s,s',t,h=>by
   unfold gw at h;unfold topRun;cases he:through t with
   |true=>rw[he]at h;cases h;rfl
   | false =>
     rw[he]at h;cases hk:stepOk m ann t with
     |false=>rw[hk]at h;cases h
     | true =>
       rw[hk]at h;cases hs:stepT (denote tb) p w s t with
       |none=>rw[hs]at h;cases h
       | some r =>
         obtain⟨s2,t2⟩:=r;rw[hs]at h;rw[stepT_spec hs];exact gS h
def nH:List M4->Nat->BT->BT
 | [],_,t=>t
 |o::l,n,t=>nH l (n+1) (t.ins n o)
def pW:List M4->Nat->BT->Bool
 | [],_,_=>AG
 |o::l,n,t=>((t.ins n o).get n).isSome && pW l (n+1) (t.ins n o)
theorem iR:∀(l:List M4)(n:Nat)(t:BT),pW l n t=AG->(nH l n t).list (n+l.length)=t.list n++l
 | [],n,t,_=>by rw[ME];rfl
 | o::l,n,t,h=>by
   obtain⟨h1,h2⟩:=P1.mp h;have e:=absHeap_ins (life:=default) h1
   have e2:(t.ins n o).list (n+1)=t.list n++[o]:=by
    have:=Xa (λx:Ml=>x.objs.toList) e;simpa[absHeap,Heap.push]using this
   have ih:=iR l (n+1) (t.ins n o) h2;rw[e2,OZ]at ih;rw[LP,show n+(l.length+1)=n+1+l.length by lia];exact ih
theorem rP(ok:pW h.objs.toList 0 .nil=AG):absHeap (nH h.objs.toList 0 .nil) h.objs.size h.life=h:=by
 have e:=iR _ _ _ ok;rw[Nat.zero_add]at e;unfold absHeap;rw[<-L4,e];rfl
noncomputable abbrev ja(p:LF)(N:Nat)(w:LQ)(os:O3):Option SharedT :=
 gw treeTable p w 11 (A? (.ref 6)) N ⟨nH (Nm w.params).objs.toList 0 .nil,11,(Nm w.params).life,Array.mk [],boot_drawn,boot_toks,os⟩ (topStub p)
theorem pB(P:Params):(pW (Nm P).objs.toList 0 .nil,(Nm P).isNs My,(Nm P).objs.size,(Nm P).nsMap My "__annotations__")=(AG,AG,11,A? (.ref 6)):=by kernel_rfl
theorem map_some{o:Option α}{a:α}{f:α->β}{b:β}(h:o=A? a)(e:o.map f=A? b):f a=b:=by rw[h]at e;exact Ma e
abbrev Tr0(p q:LF)(loose:List LL)(Xt:Lw->Bool)(N:Nat)(g0:Bool):Prop:=∀(w:LQ)(os:O3),((ja p N w os).map λs=>(staticsOk (Qa p.main.body) (Nm w.params) s.abs.heap && namesBound p s.abs.heap && gensDone s.abs && laidKept (Nm w.params) s.abs.heap,s.abs.heap.bltView,pinSeenD q (drecsOf q) s.abs,plainSeenD q loose s.abs,clsSeenW q loose s.abs,(s.abs.heap.accountedOkI (Qa p.main.body),s.abs.heap.isNs My,s.abs.heap.isNs builtinsNs,tablesOk q s.abs.heap,Xt s.abs,(if g0 then s.abs.gens.size == 0 else !leftWithCleanup s.abs.gens))))=A? (AG,bltViewBooted,pinGoodD (drecsOf q),plainGoodD q loose,clsGoodW q loose,(AG,AG,AG,AG,AG,AG))
abbrev Tr1(p q:LF)(N:Nat):Prop:=∀(w:LQ)(os:O3),((ja p N w os).map λs=>seen ((recsOf q).map (·.name)) (ownsOf q) [] {s.abs with gens:=#[]})=A? (expectedOf q)
abbrev Tr2(p q:LF)(loose:List LL)(N:Nat):Prop:=∀(w:LQ)(os:O3),((ja p N w os).map λs=>s.abs.heap.keysOk (looseW q loose) ((recsOf q).map (·.name)) ((litsOf q).map (·.1)) ((clssOf q (looseW q loose)).map (·.name)))=A? AG
abbrev Tr3(p q:LF)(N:Nat):Prop:=∀(w:LQ)(os:O3),((ja p N w os).map λs=>tabsOk q s.abs)=A? AG
abbrev Tr4(p q:LF)(loose:List LL)(N:Nat):Prop:=∀(w:LQ)(os:O3),((ja p N w os).map λs=>plainSeenE q (looseW q loose) s.abs)=A? (plainGoodE q (looseW q loose))
abbrev Tr5(p q:LF)(N:Nat):Prop:=∀(w:LQ)(os:O3),((ja p N w os).map λs=>wideSeen q s.abs)=A? (wideGood q)
theorem nj{p q:LF}{Xt:Lw->Bool}{Yf:Lw->α}{Ya:LQ->α}{N:Nat}{g0:Bool}
 (e:opening p=plainProg p.main.scope.names) (hN:Nat.ble 600 N=AG) (f:∀s,fenceModules? p s=A? s)
 (r0:Tr0 p q loose Xt N g0)
 (r1:Tr1 p q N)
 (r2:Tr2 p q loose N)
 (r3:Tr3 p q N)
 (r4:Tr4 p q loose N)
 (r5:Tr5 p q N)
 (rY:∀(w:LQ)(os:O3),((ja p N w os).map λs=>Yf s.abs)=A? (Ya w)) :
 LeftO p q loose Xt Yf Ya N g0:=λw=>by
 obtain⟨⟨h,gs,d,k,os⟩,e1,e'⟩:=Nc.mp (boot_open e hN f w);obtain⟨rfl,rfl,rfl,rfl⟩:h=Nm w.params/\gs=Array.mk []/\d=boot_drawn/\k=boot_toks:=by simpa using e'
 have Cj:=pB w.params;have z0:=Xa Qn Cj;have z1:=Xa (λx=>x.2.1) Cj;have z2:=Xa (λx=>x.2.2.1) Cj;have z3:=Xa (λx=>x.2.2.2) Cj;dsimp only at z0 z1 z2 z3;obtain⟨s1,zi,hY⟩:=Nc.mp (rY w os);have q0:=map_some zi (r0 w os);have q1:=map_some zi (r1 w os);have q2:=map_some zi (r2 w os);have q3:=map_some zi (r3 w os);have q4:=map_some zi (r4 w os);have q5:=map_some zi (r5 w os);have rr:=gS zi
 have Dc:SharedT.abs ⟨nH (Nm w.params).objs.toList 0 .nil,11,(Nm w.params).life,Array.mk [],boot_drawn,boot_toks,os⟩=⟨Nm w.params,Array.mk [],boot_drawn,boot_toks,os⟩:=by
  unfold SharedT.abs;dsimp only;rw[<-z2,rP z0]
 rw[Dc]at rr;have a0:=Xa Qn q0;have a1:=Xa (λx=>x.2.1) q0;have a2:=Xa (λx=>x.2.2.1) q0;have a3:=Xa (λx=>x.2.2.2.1) q0;have a4:=Xa (λx=>x.2.2.2.2.1) q0;have b0:=Xa (λx=>x.2.2.2.2.2.1) q0;have b1:=Xa (λx=>x.2.2.2.2.2.2.1) q0;have b2:=Xa (λx=>x.2.2.2.2.2.2.2.1) q0;have b3:=Xa (λx=>x.2.2.2.2.2.2.2.2.1) q0;have b4:=Xa (λx=>x.2.2.2.2.2.2.2.2.2.1) q0;have b5:=Xa (λx=>x.2.2.2.2.2.2.2.2.2.2) q0;dsimp only at a0 a1 a2 a3 a4 b0 b1 b2 b3 b4 b5
 have l2:openSeen q loose (Qa p.main.body) Xt g0 s1.abs=openGood q loose:=by
  unfold openSeen openGood;rw[q1,a1,q2,b0,b1,b2,b3,b4,b5,q3,a2,q4,a3,q5,a4];rfl
 have t:topFrom treeTable p w N ⟨Nm w.params,Array.mk [],boot_drawn,boot_toks,os⟩=A? s1.abs:=by
  unfold topFrom;dsimp only;rw[z1,z2,z3,rr];show(match staticsOk (Qa p.main.body) (Nm w.params) s1.abs.heap && namesBound p s1.abs.heap && gensDone s1.abs && laidKept (Nm w.params) s1.abs.heap with|true=>_|false=>_)=_;rw[a0]
 unfold openEnds;rw[e1];show(topFrom treeTable p w N _).map _=_;rw[t];exact Xa A? (Prod.ext l2 hY)
def p0:Params:={strHash:=λ_=>0,shareClass:=λ_=>0,mergeTok:=λt=>t,idOf:=λ_=>0,idOfShared:=λ_ _=>0,followText:=λ_=>AH,idOfImm:=λ_=>0}
structure Pc(p:LF)(N:Nat)(as:List Ls)(vs:LQ->List (Option M4)):Prop where
 out:∀(w:LQ)(os:O3),((ja p N w os).map λs=>as.map s.abs.heap.get?)=A? (vs w)
theorem Pc.k{p:LF}{N:Nat}{as:List Ls}{K:Params->Frag}{e:∀P,as=(K P).map (·.1)}(h:Pc p N as λw=>(K w.params).map λp=>A? p.2):∀(w:LQ)(os:O3),((ja p N w os).map λs=>(kHook K as e).obs s.abs)=A? ((kHook K as e).val w):=h.out
end HD
section
open PySem PySem.W PyProof.Rows
def LAW.vw:LF:=PySem.W.view PySem.Challenge.pw_boughbook_k43_joining_refused [1,2,3,4,5,7,8,9,10,12,13,14,15,16,17,19,20,21,22,23,24,25,26,27,28,29,31,32,34,35,37,38,39,41,42,43,44,45,46,47,48,49,50,51,52,53,54,55]
def LAW.xt(s:Lw):Bool:=xlAt LAW.vw [] s && recOk (RowW.records (OpenRow.toRowW (OpenLaw.row PySem.Challenge.rw_boughbook_k43_joining_refused))) s
theorem LAW.ws:OpenLaw.wellSaid PySem.Challenge.rw_boughbook_k43_joining_refused=true:=by kernel_rfl
theorem LAW.lk0:HD.Tr0 PySem.Challenge.pw_boughbook_k43_joining_refused LAW.vw [] LAW.xt 90000 true:=λ_ _=>by kernel_rfl
theorem LAW.lk1:HD.Tr1 PySem.Challenge.pw_boughbook_k43_joining_refused LAW.vw 90000:=λ_ _=>by kernel_rfl
theorem LAW.lk2:HD.Tr2 PySem.Challenge.pw_boughbook_k43_joining_refused LAW.vw [] 90000:=λ_ _=>by kernel_rfl
theorem LAW.lk3:HD.Tr3 PySem.Challenge.pw_boughbook_k43_joining_refused LAW.vw 90000:=λ_ _=>by kernel_rfl
theorem LAW.lk4:HD.Tr4 PySem.Challenge.pw_boughbook_k43_joining_refused LAW.vw [] 90000:=λ_ _=>by kernel_rfl
theorem LAW.lk5:HD.Tr5 PySem.Challenge.pw_boughbook_k43_joining_refused LAW.vw 90000:=λ_ _=>by kernel_rfl
section
local macro_rules | `(tactic| o_head $_H) => `(tactic| assumption)
theorem LAW.d0(h:OpenRow.Holds (OpenLaw.row PySem.Challenge.rw_boughbook_k43_joining_refused)):OpenRow.Holds (OpenLaw.row PySem.Challenge.rw_boughbook_k43_joining_refused):=by
 k_head
end
noncomputable def LAW.ks:List Ls:=(LAW.d0.heap_1 HD.p0).map (·.1)
theorem LAW.ke:∀P,LAW.ks=(LAW.d0.heap_1 P).map (·.1):=λ_=>by kernel_rfl
theorem LAW.kp:HD.Pc PySem.Challenge.pw_boughbook_k43_joining_refused 90000 LAW.ks λw=>(LAW.d0.heap_1 w.params).map λp=>A? p.2:=⟨λ_ _=>by kernel_rfl⟩
end
namespace L2
open PySem PySem.Spec PyProof.Rows
theorem gmE{f:α->β}{l:List α}{i:Nat}{x:α}(h:l[i]?=A? x):(l.map f)[i]?=A? (f x):=by rw[LZ,h];rfl
theorem glE{l:List α}{i:Nat}{x:α}(h:l[i]?=A? x):i<l.length:=(N5.mp h).1
abbrev Key:=Sum Int LL
def d9:Key->Lu->Bool
 |.inl k,v=>Value.isInt k v
 |.inr x,v=>Value.isStrOf x v
def tV(w:LQ):Key->Int
 |.inl k=>hashInt k
 |.inr x=>hashStr w x
theorem aL:∀{k:Key}{v:Lu},d9 k v=AG->(∃i t,k=MR i/\v=PX i t)\/(∃x t,k=NY x/\v=Value.str x t)
 | .inl i,v,h=>by
   obtain⟨t,e⟩:=Value.isInt_shape (k:=i) (v:=v) h;exact .inl ⟨i,t,rfl,e⟩
 | .inr x,v,h=>by
   obtain⟨t,e⟩:=Value.isStrOf_shape (x:=x) (v:=v) h;exact .inr ⟨x,t,rfl,e⟩
theorem nn(i:Int)(t:Tok):d9 (.inl i) (.int i t)=true:=by simp[d9,Value.isInt]
theorem nv(x:LL)(t:Tok):d9 (.inr x) (.str x t)=true:=by simp[d9,Value.isStrOf]
theorem rD(a b:Int):decide ((MR a:Key)=MR b)=(a == b):=by
 by_cases e:a=b
 .subst e;simp
 .have h:¬(MR a:Key)=MR b:=λq=>e (NS q);rw[Ta h];exact(beq_eq_false_iff_ne.mpr e).symm
theorem rB(a b:LL):decide ((NY a:Key)=NY b)=decide (a=b):=by
 by_cases e:a=b
 .subst e;simp
 .have h:¬(NY a:Key)=NY b:=λq=>e (Sum.inr.inj q);rw[Ta h,Ta e]
theorem rR(a:Int)(b:LL):decide ((MR a:Key)=NY b)=false:=Ta (λq=>nomatch q)
theorem rC(a:LL)(b:Int):decide ((NY a:Key)=MR b)=false:=Ta (λq=>nomatch q)
def au(prog:LF)(w:LQ):PySem.KeyKind prog w Key where
 is:=d9
 hash:=tV w
 inj:=λv a b ha hb=>by
  rcases aL ha with⟨i,t,rfl,rfl⟩|⟨x,t,rfl,rfl⟩
  .rcases aL hb with⟨j,u,rfl,e⟩|⟨y,u,rfl,e⟩
   .injection e with e1 _;rw[e1]
   .exact nomatch e
  .rcases aL hb with⟨j,u,rfl,e⟩|⟨y,u,rfl,e⟩
   .exact nomatch e
   .injection e with e1 _;rw[e1]
 byValue:=λk v h=>by
  rcases aL h with⟨i,t,rfl,rfl⟩|⟨x,t,rfl,rfl⟩ <;> rfl
 pyHash:=λhv h=>by
  rcases aL hv with⟨i,t,rfl,rfl⟩|⟨x,t,rfl,rfl⟩
  .exact wpAny_pyHash_int h
  .exact wpAny_pyHash_str h
 eqBool:=λhu hv h=>by
  rcases aL hu with⟨i,t,rfl,rfl⟩|⟨x,t,rfl,rfl⟩
  .rcases aL hv with⟨j,u,rfl,rfl⟩|⟨y,u,rfl,rfl⟩
   .rw[rD]at h;exact wpAny_eqBool_int h
   .rw[rR]at h;exact SeqAt.EqAt.int_str i t y u _ _ _ _ h
  .rcases aL hv with⟨j,u,rfl,rfl⟩|⟨y,u,rfl,rfl⟩
   .rw[rC]at h;exact SeqAt.EqAt.str_int x t j u _ _ _ _ h
   .rw[rB]at h;exact wpAny_eqBool_str h
 «strs»:=λk x t v h=>by
  rcases aL h with⟨i,u,rfl,e⟩|⟨y,u,rfl,e⟩
  .exact nomatch e
  .injection e with e1 _;subst e1;cases v <;> rfl
theorem jA(prog:LF)(w:LQ)(i:Int)(t:Tok):(au prog w).is (.inl i) (.int i t)=true:=nn i t
theorem jD(prog:LF)(w:LQ)(x:LL)(t:Tok):(au prog w).is (.inr x) (.str x t)=true:=nv x t
set_option genInjectivity true in
inductive V where
 |non|bl (b:Bool)|int (i:Int)|str (x:LL)|byt (b:Array UInt8)|flt (b:UInt64)|ref (a:Ls)|ty (n:String)
 deriving DecidableEq
def RelV:V->Lu->Prop
 |.non,u=>u=MH
 |.bl b,u=>u=NO b
 |.int i,u=>∃t,u=PX i t
 |.str x,u=>∃t,u=Value.str x t
 |.byt b,u=>∃t,u=Value.bytes b t
 |.flt b,u=>∃t,u=Value.float b t
 |.ref a,u=>u=Mb a
 |.ty n,u=>u=P6 n
abbrev Vals:List V->List Lu->Prop:=Mg RelV
theorem Vals.length{xs:List V}(r:Vals xs us):xs.length=us.length:=L3 r
theorem Vals.get:∀{xs:List V}{us:List Lu}{i:Nat}{x:V},Vals xs us->xs[i]?=A? x->∃u,us[i]?=A? u/\RelV x u
 |_,_,_,_,.nil,e=>by simp at e
 |_,_,0,_,.cons r _,e=>by simp at e;subst e;exact⟨_,B?,r⟩
 | _,_,i+1,x,.cons _ t,e=>by
   obtain⟨u,h1,h2⟩:=Vals.get (i:=i) (x:=x) t (by simpa using e);exact⟨u,by simpa using h1,h2⟩
theorem Vals.set{x:V}(r:RelV x u):∀{xs:List V}{us:List Lu}(i:Nat),Vals xs us->Vals (xs.set i x) (us.set i u)
 |_,_,_,.nil=>.nil
 |_,_,0,.cons _ t=>.cons r t
 |_,_,i+1,.cons q t=>.cons q (Vals.set r i t)
theorem Vals.append:∀{xs ys:List V}{us ws:List Lu},Vals xs us->Vals ys ws->Vals (xs++ys) (us++ws)
 |_,_,_,_,.nil,s=>s
 |_,_,_,_,.cons r t,s=>.cons r (Vals.append t s)
theorem Vals.take:∀{xs:List V}{us:List Lu}(n:Nat),Vals xs us->Vals (xs.take n) (us.take n)
 |_,_,0,_=>.nil
 |_,_,_+1,.nil=>.nil
 |_,_,n+1,.cons r t=>.cons r (Vals.take n t)
theorem Vals.drop:∀{xs:List V}{us:List Lu}(n:Nat),Vals xs us->Vals (xs.drop n) (us.drop n)
 |_,_,0,r=>r
 |_,_,_+1,.nil=>.nil
 |_,_,n+1,.cons _ t=>Vals.drop n t
def RelO:Option V->Option Lu->Prop
 |some v,A? u=>RelV v u
 |none,Ak=>True
 |_,_=>False
def KV{κ:Type}:List (κ×V)->List (κ×Lu)->Prop:=Mg λ(p:κ×V)(q:κ×Lu)=>p.1=q.1/\RelV p.2 q.2
def kV:Key->V
 |.inl i=>.int i
 |.inr x=>.str x
inductive HO where
 |lst (xs:List V)
 |tup (xs:List V)
 |dK (uC:List (Key×V))|dT (uC:List (List Key×V))
 |set (S:Int->Bool) (n:Nat)
 |ins (C dx:Ls) (fs:List (LL×V))
 |own (x:Ls)
 |xd (fs:List (LL×V))
 |met (f x:Ls)
 |rng (lo hi:Int)
 |frz (o:M4) (u:HO)
 |tbl (ps:Array Lu)
 |ext (φ:Ml->Prop)
abbrev Hp:=Ls->Option HO
def upd(H:Hp)(a:Ls)(o:HO):Hp:=λb=>if b=a then A? o else H b
theorem af{H:Hp}{o:HO}:upd H a o a=A? o:=by unfold upd;rw[Sa rfl]
theorem ai{H:Hp}{o:HO}(h:b≠a):upd H a o b=H b:=by unfold upd;rw[Ra h]
theorem l6{H:Hp}{o u:HO}:upd (upd H a o) a u=upd H a u:=by
 funext b;unfold upd;split <;> rfl
theorem dG{H:Hp}{o u:HO}(h:H a=A? o)(h':H b=A? u)(d:o≠u):a≠b:=by
 intro e;subst e;rw[h]at h';exact d (Ma h')
theorem am{H:Hp}{o:HO}(h:H a=A? o)(h':H b=Ak):a≠b:=by
 intro e;subst e;rw[h]at h';cases h'
section
variable(P:LF)(w:LQ)
def ObjOk(H:Hp)(h:Ml)(a:Ls):HO->Prop
 |.lst xs=>xs.length<=LK/\∃(its:List Lu)(n:Nat),Vals xs its/\h.get? a=A? {cls:=.type "list",data:=.seq its.toArray n}
 |.tup xs=>xs.length<=LK/\∃(its:List Lu)(n:Nat),Vals xs its/\h.get? a=A? {cls:=.type "tuple",data:=.seq its.toArray n}
 |.dK uC=>uC.length<=LK/\(a == MU)=AH/\∃vs,KV uC vs/\h.DictOf (au P w) a vs
 |.dT uC=>uC.length<=LK/\(a == MU)=AH/\∃xs:List (List Key×Ls×Lu),
  Mg (λ(p:List Key×V)(q:List Key×Ls×Lu)=>p.1=q.1/\H q.2.1=A? (.tup (p.1.map kV))/\RelV p.2 q.2.2) uC xs /\
  ∃o es ep,h.get? a=A? o/\o.ExactDict/\o.data=.dict es ep/\es.toList=xs.map (entryOfKey (O8 (au P w)))/\(xs.map (·.1)).Nodup
 |.set S n=>h.SetOf (intKind P w) a S n
 |.ins C dx fs=>H dx=A? (.own a)/\fs.length<=1000/\dx≠a/\h.get? a=A? (Nj C dx) /\
  ∃mA,h.Ns1 dx mA/\(∀f,RelO (fs.lookup f) (mA f))/\PySem.Within mA (fs.map (·.1))
 |.own _=>∃o,h.get? a=A? o
 |.xd fs=>∃mA,h.Ns1 a mA/\∀f,RelO (fs.lookup f) (mA f)
 |.rng lo hi=>∃t u v,h.get? a=A? {cls:=.type "range",data:=.fields #[.int lo t,.int hi u,.int 1 v]}
 |.frz o u=>h.get? a=A? o/\ObjOk H h a u
 |.tbl ps=>h.get? a=A? {cls:=.none,data:=.fields ps}
 |.met f x=>h.get? a=A? (Ql (.ref f) (.ref x))
 |.ext φ=>φ h/\(∃o,h.get? a=A? o)/\∀h1 h2:Ml,φ h1->(∀o,h1.get? a=A? o->h2.get? a=A? o)->φ h2
def HOk(H:Hp)(h:Ml):Prop:=∀a o,H a=A? o->ObjOk P w H h a o
end
section
variable{H H':Hp}{o:HO}
theorem ObjOk.lt(x:ObjOk P w H h a o):a<h.objs.size:=by
 cases o with
 |lst xs=>obtain⟨_,_,_,_,e⟩:=x;exact LJ e
 |tup xs=>obtain⟨_,_,_,_,e⟩:=x;exact LJ e
 |dK uC=>obtain⟨_,_,_,_,o,_,_,e,_⟩:=x;exact LJ e
 |dT uC=>obtain⟨_,_,_,_,o,_,_,e,_⟩:=x;exact LJ e
 |set S n=>obtain⟨o,_,_,_,e,_⟩:=x;exact LJ e
 |ins C dx fs=>obtain⟨_,_,_,e,_⟩:=x;exact LJ e
 |own y=>obtain⟨_,e⟩:=x;exact LJ e
 |xd fs=>obtain⟨_,⟨_,_,_,e,_⟩,_⟩:=x;exact LJ e
 |rng lo hi=>obtain⟨_,_,_,e⟩:=x;exact LJ e
 |frz ob u=>obtain⟨e,_⟩:=x;exact LJ e
 |tbl ps=>exact LJ (show h.get? a=A? _ from x)
 |met f y=>exact LJ (show h.get? a=A? _ from x)
 |ext φ=>obtain⟨_,⟨_,e⟩,_⟩:=x;exact LJ e
theorem Mg.mapP{G:α->β->Prop}:∀{AI:List α}{AJ:List β},Mg F AI AJ->(∀a b,F a b->G a b)->Mg G AI AJ
 |_,_,.nil,_=>.nil
 |_,_,.cons r t,f=>.cons (f _ _ r) (Mg.mapP t f)
theorem ObjOk.stay(x:ObjOk P w H h a o)(k:∀b u,(b=a\/H b=A? (.own a))->h.get? b=A? u->h'.get? b=A? u)
 (ho:∀b,H b=A? (.own a)->H' b=A? (.own a)) (ht:∀b xs,H b=A? (.tup xs)->H' b=A? (.tup xs)):ObjOk P w H' h' a o:=by
 induction o with
 |lst xs=>obtain⟨z,its,n,r,e⟩:=x;exact⟨z,its,n,r,k _ _ (.inl rfl) e⟩
 |tup xs=>obtain⟨z,its,n,r,e⟩:=x;exact⟨z,its,n,r,k _ _ (.inl rfl) e⟩
 |dK uC=>obtain⟨z,y,vs,r,ob,es,ep,e,c⟩:=x;exact⟨z,y,vs,r,ob,es,ep,k _ _ (.inl rfl) e,c⟩
 | dT uC =>
   obtain⟨z,y,xs,r,ob,es,ep,e,c⟩:=x;exact⟨z,y,xs,Mg.mapP r λp q z=>⟨z.1,ht _ _ z.2.1,z.2.2⟩,ob,es,ep,k _ _ (.inl rfl) e,c⟩
 |set S n=>obtain⟨ob,es,ep,t,e,c⟩:=x;exact⟨ob,es,ep,t,k _ _ (.inl rfl) e,c⟩
 | ins C dx fs =>
   obtain⟨d,z,ne,e,mA,⟨od,es,ep,e2,c⟩,r⟩:=x;exact⟨ho _ d,z,ne,k _ _ (.inl rfl) e,mA,⟨od,es,ep,k _ _ (.inr d) e2,c⟩,r⟩
 |own y=>obtain⟨ob,e⟩:=x;exact⟨ob,k _ _ (.inl rfl) e⟩
 |xd fs=>obtain⟨mA,⟨od,es,ep,e,c⟩,r⟩:=x;exact⟨mA,⟨od,es,ep,k _ _ (.inl rfl) e,c⟩,r⟩
 |rng lo hi=>obtain⟨t,u,v,e⟩:=x;exact⟨t,u,v,k _ _ (.inl rfl) e⟩
 |frz ob u ih=>obtain⟨e,q⟩:=x;exact⟨k _ _ (.inl rfl) e,ih q⟩
 | tbl ps =>
   have e:h.get? a=A? {cls:=.none,data:=.fields ps}:=x;show h'.get? a=A? {cls:=.none,data:=.fields ps};exact k a _ (.inl rfl) e
 | met f y =>
   have e:h.get? a=A? (Ql (.ref f) (.ref y)):=x;show h'.get? a=A? (Ql (.ref f) (.ref y));exact k a _ (.inl rfl) e
 |ext φ=>obtain⟨p,⟨o,e⟩,st⟩:=x;exact⟨st _ _ p λo q=>k _ _ (.inl rfl) q,⟨o,k _ _ (.inl rfl) e⟩,st⟩
theorem HOk.lt(x:HOk P w H h)(e:H a=A? o):a<h.objs.size:=(x a o e).lt
theorem HOk.fresh(x:HOk P w H h)(e:h.objs.size<=a):H a=none:=by
 cases q:H a with
 |none=>rfl
 |some u=>exact Wa (LX (x.lt q) e) (Me _)
theorem HOk.kept(x:HOk P w H h)(k:∀b u,h.get? b=A? u->h'.get? b=A? u):HOk P w H h':=λa o e =>
 (x a o e).stay (λb u _ q=>k b u q) (λ_ q=>q) λ_ _ q=>q
theorem HOk.laid(x:HOk P w H h)(k:∀b u,h.get? b=A? u->h'.get? b=A? u)(hp:h.objs.size<=a)(new:ObjOk P w (upd H a o) h' a o):HOk P w (upd H a o) h':=λb u e=>by
 have hn:=x.fresh hp;by_cases hb:b=a
 .subst hb;rw[af]at e;cases e;exact new
 .rw[ai hb]at e;exact(x b u e).stay (λc v _ q=>k c v q) (λc q=>by rw[ai (am q hn)];exact q) λc xs q=>by rw[ai (am q hn)];exact q
end
def Rd(H:Hp)(a:Ls)(u:HO):Prop:=H a=A? u\/∃o,H a=A? (.frz o u)
theorem Rd.ok{H:Hp}{u:HO}(r:Rd H a u)(x:HOk P w H h):ObjOk P w H h a u:=by
 rcases r with r|⟨o,r⟩
 .exact x a u r
 .obtain⟨_,q⟩:=x a _ r;exact q
def Mut:Option HO->Prop
 |some (.lst _)=>True
 |some (.dK _)=>True
 |some (.dT _)=>True
 |some (.set _ _)=>True
 |some (.ins _ _ _)=>True
 |some (.ext _)=>True
 |_=>False
section
variable{H:Hp}{x e:Ls}{o':HO}
theorem HOk.write(ok:HOk P w H h)(mu:Mut (H x))(he:e=x\/H e=A? (.own x))(k:∀b u,b≠e->h.get? b=A? u->h'.get? b=A? u)(Ah:∃u,h'.get? e=A? u)
 (new:ObjOk P w (upd H x o') h' x o'):HOk P w (upd H x o') h':=λb u q=>by
 have AK:∀c y,H c=A? (.own y)->c≠x:=λc y r z=>by subst z;rw[r]at mu;exact mu
 have Dd:∀c xs,H c=A? (.tup xs)->c≠x:=λc xs r z=>by subst z;rw[r]at mu;exact mu
 by_cases hb:b=x
 .subst hb;rw[af]at q;cases q;exact new
 .rw[ai hb]at q;by_cases zj:b=e
  .have q':H b=A? (.own x):=by
    rcases he with z|z
    .exact Wa (zj.trans z) hb
    .rw[zj];exact z
   rw[q]at q';cases q';obtain⟨v,hv⟩:=Ah;exact⟨v,by rw[zj];exact hv⟩
  .refine(ok b u q).stay (λc v hc r=>k c v ?_ r) (λc r=>by rw[ai (AK c b r)];exact r) λc xs r=>by rw[ai (Dd c xs r)];exact r
   rcases hc with rfl|hc
   .exact zj
   .rintro rfl;rcases he with z|z
    .exact AK c b hc z
    .rw[hc]at z;cases z;exact hb rfl
end
structure Un(fs ex:List Ls)(H H':Hp)(h h':Ml):Prop where
 keep:∀b o,h.get? b=A? o->H b=Ak->b∉fs->b∉ex->h'.get? b=A? o
 slot:∀b o,h.get? b=A? o->H b=Ak->b∈fs->b∉ex->∃sl,h'.get? b=A? {o with slots:=sl}
 free:∀b o,h.get? b=A? o->H b=Ak->b∉ex->H' b=Ak
 there:∀b o,h.get? b=A? o->b∉ex->∃o',h'.get? b=A? o'
 tups:∀b xs,H b=A? (.tup xs)->H' b=A? (.tup xs)
 frzs:∀b o u,H b=A? (.frz o u)->H' b=A? (.frz o u)
 tbls:∀b ps,H b=A? (.tbl ps)->∃more,H' b=A? (.tbl (ps++more))
section
variable{fs Ai ex Ck:List Ls}{H H1 H2:Hp}{h2:Ml}{x e:Ls}{o:HO}
theorem Un.any(u:Un fs ex H H1 h h1){ob:M4}(q:h.get? b=A? ob)(n:H b=Ak)(hx:b∉ex):∃sl,h1.get? b=A? {ob with slots:=sl}:=by
 by_cases hb:b∈fs
 .exact u.slot b ob q n hb hx
 .exact⟨ob.slots,u.keep b ob q n hb hx⟩
theorem Un.kept(k:∀b u,h.get? b=A? u->h'.get? b=A? u):Un fs ex H H h h' :=
 ⟨λb ob q _ _ _=>k b ob q,λb ob q _ _ _=>⟨ob.slots,k b ob q⟩,λ_ _ _ n _=>n,λb ob q _=>⟨ob,k b ob q⟩,λ_ _ q=>q,λ_ _ _ q=>q,λ_ ps q=>⟨#[],by rw[q];simp⟩⟩
theorem Un.refl:Un fs ex H H h h:=Un.kept λ_ _ q=>q
theorem Un.laid(k:∀b u,h.get? b=A? u->h'.get? b=A? u)(hp:h.objs.size<=a)(hn:H a=Ak):Un fs ex H (upd H a o) h h' where
 keep:=λb u q _ _ _=>k b u q
 slot:=λb u q _ _ _=>⟨u.slots,k b u q⟩
 free:=λb u q n _=>by rw[ai (Mc (LX (LJ q) hp))];exact n
 there:=λb u q _=>⟨u,k b u q⟩
 tups:=λb xs q=>by rw[ai (am q hn)];exact q
 frzs:=λb u xs q=>by rw[ai (am q hn)];exact q
 tbls:=λb ps q=>⟨#[],by rw[ai (am q hn),q];simp⟩
theorem Un.write(mu:Mut (H x))(he:e=x\/H e=A? (.own x))(k:∀b u,b≠e->h.get? b=A? u->h'.get? b=A? u)(Ah:∃u,h'.get? e=A? u):Un fs ex H (upd H x o) h h':=by
 have hx:∀b,H b=Ak->b≠x:=λb n z=>by subst z;rw[n]at mu;exact mu
 have hb:∀b,H b=Ak->b≠e:=λb n z=>by
  subst z;rcases he with r|r
  .exact hx b n r
  .rw[n]at r;cases r
 have hm:∀b u,H b=A? u->¬Mut (A? u)->b≠x:=λb u q nm z=>by subst z;rw[q]at mu;exact nm mu
 refine⟨λb u q n _ _=>k b u (hb b n) q,λb u q n _ _=>⟨u.slots,k b u (hb b n) q⟩,λb u q n _=>by rw[ai (hx b n)];exact n,λb u q _=>?_,
  λb xs q=>by rw[ai (hm b _ q λz=>z)];exact q,λb u xs q=>by rw[ai (hm b _ q λz=>z)];exact q,λb ps q=>⟨#[],by rw[ai (hm b _ q λz=>z),q];simp⟩⟩
 by_cases zj:b=e
 .subst zj;exact Ah
 .exact⟨u,k b u zj q⟩
end
def trk(h:Ml)(H:Hp):List Ls:=(ML h.objs.size).filter λa=>(H a).isSome
def io(h:Ml)(H:Hp):Ml:=PySem.W.hideAll h (trk h H)
theorem mR(h:Ml)(H:Hp):(io h H).objs.size=h.objs.size:=PySem.W.hideAll_size _ _
theorem n9{H:Hp}{o:M4}(e:h.get? b=A? o)(n:H b=Ak):(io h H).get? b=A? o :=
 PySem.W.hideAll_get _ e λhm=>by
  have q:(H b).isSome=true:=(List.mem_filter.mp hm).2;rw[n]at q;simp at q
theorem qv{H:Hp}{o:M4}(e:(io h H).get? b=A? o):h.get? b=A? o/\H b=none:=by
 have e':h.get? b=A? o:=PySem.W.of_hideAll (trk h H) e;refine⟨e',?_⟩;cases q:H b with
 |none=>rfl
 | some x =>
   have hm:b∈trk h H:=List.mem_filter.mpr ⟨NT.mpr (LJ e'),by simp[q]⟩;have z:(io h H).get? b=none:=PySem.W.hideAll_none (trk h H) hm;rw[z]at e;cases e
end L2
open L2.V renaming ref->Rb,int->Vb
variable{o:L2.HO}{xs vs:List L2.V}{H H' H1 H2 H3:L2.Hp}{v y:L2.V}{uC:List (List L2.Key×L2.V)}{fin:Ls->L2.Hp->Prop}
namespace L2
open PySem PySem.Spec PyProof.Rows
structure Mod(K:Ly)(mg:LL->Option Lu)(base:Ml):Prop where
 kin:K.In base
 glob:base.Ns My mg
 blt:∃mb,base.Ns builtinsNs mb/\∀x:LL,x≠"__name__"->mb x=O1 x
 nolimit:base.NoLimit
set_option genInjectivity true in
structure Cx where
 prog:LF
 w:LQ
 K:Ly
 mg:LL->Option Lu
 base:Ml
 A:LU
 N:List LL
 s₀:Lw
 H₀:Hp
 env:OJ
 outer:List OJ
 stack:List OJ
 ex:List Ls
 fn:LL->Bool
 calm:Bool
 pn:List (Ls×M4)
 xe:Lu->Lw->Prop
def frs(l:List OJ):List Ls:=l.filterMap (·.frame)
abbrev Cx.fs(X:Cx):List Ls:=frs X.outer
def Vis(sc:MS)(x:LL):Prop:=sc.names.lookup x=A? .local\/sc.names.lookup x=A? .cell\/sc.names.lookup x=A? .free
def Loc(sc:MS)(x:LL):Prop:=sc.names.lookup x=A? .local\/sc.names.lookup x=A? .cell
def Look(env:OJ)(h:Ml)(m:LL->Option Lu)(x:LL)(u:Lu):Prop :=
 (env.kindOf x=A? .local/\m x=A? u)\/((env.kindOf x=A? .cell\/env.kindOf x=A? .free)/\∃c,env.cells.lookup x=A? c/\h.IsCell c (A? u))
structure Cx.Ok(X:Cx):Prop where
 mod:Mod X.K X.mg X.base
 kind:X.env.scope.kind=.function
 glob:X.env.globals=My
 blt:X.env.builtins=builtinsNs
 above:X.s₀.heap.1.size<=X.env.locals
 inj:∀x y c,X.env.cells.lookup x=A? c->X.env.cells.lookup y=A? c->x=y
 has:∀x,(X.env.kindOf x=A? .cell\/X.env.kindOf x=A? .free)->∃c,X.env.cells.lookup x=A? c
 cab:∀x c,X.fn x=AG->X.env.cells.lookup x=A? c->X.s₀.heap.1.size<=c
 hd:X.calm=AG->X.A.handled=Ak
 frames:X.A.frames=A? X.stack
 stk:X.stack=X.outer\/(X.stack=X.env::X.outer/\X.env.frame=A? X.env.locals)
 exf:∀b∈X.ex,b≠X.env.locals/\∀x c,X.env.cells.lookup x=A? c->c≠b
 bs:∀b o,X.base.get? b=A? o->X.s₀.heap.get? b=A? o/\X.H₀ b=Ak
 bsz:X.base.objs.size<=X.s₀.heap.1.size
 noex:∀b o,X.base.get? b=A? o->b∉X.ex
 exfs:∀b∈X.ex,b∉X.fs
 funs:X.s₀.heap.FunFrames X.base X.outer
 frf:∀b∈X.fs,X.H₀ b=Ak
structure Inv(X:Cx)(Z:List (Ls×M4))(Y:List (Option V))(H:Hp)(s:Lw):Prop where
 ok:X.Ok
 os:s.os=X.s₀.os
 bare:Qf s.gens
 base:Un X.fs X.ex X.H₀ H X.s₀.heap s.1
 loc:∃m,s.1.Ns X.env.locals m/\∀(i:Nat)(x:LL)(v:V),X.N[i]?=A? x->Y[i]?=A? (A? v)->Vis X.env.scope x->∃u,RelV v u/\Look X.env s.1 m x u
 cell:∀x c,X.env.cells.lookup x=A? c->∃v,s.1.IsCell c v
 free:H X.env.locals=Ak
 freeC:∀x c,X.env.cells.lookup x=A? c->H c=Ak
 pin:∀p∈X.pn++Z,s.1.get? p.1=A? p.2/\H p.1=Ak/\p.1≠X.env.locals/\p.1∉X.fs/\∀v,p.2.data≠.cell v
 hok:HOk X.prog X.w H s.1
 len:Y.length=X.N.length
section
variable{X:Cx}{Y:List (Option V)}
theorem Cx.Ok.nofr(ok:X.Ok){o:M4}(e:X.base.get? b=A? o):b∉X.fs:=λhb=>by
 have:=(ok.funs.mem hb).1;rw[e]at this;cases this
theorem Inv.bs(I:Inv X Z Y H s):∀b o,X.base.get? b=A? o->s.1.get? b=A? o/\H b=none:=λb o e =>
 ⟨I.base.keep b o (I.ok.bs b o e).1 (I.ok.bs b o e).2 (I.ok.nofr e) (I.ok.noex b o e),I.base.free b o (I.ok.bs b o e).1 (I.ok.bs b o e).2 (I.ok.noex b o e)⟩
theorem Inv.bk(I:Inv X Z Y H s):∀b o,X.base.get? b=A? o->s.1.get? b=A? o:=λb o e=>(I.bs b o e).1
theorem Inv.mod(I:Inv X Z Y H s):Mod X.K X.mg X.base:=I.ok.mod
theorem Inv.kIn(I:Inv X Z Y H s):X.K.In s.1:=I.ok.mod.kin.keeps I.bk
theorem Inv.lt(I:Inv X Z Y H s):X.env.locals<s.1.1.size:=let⟨_,hn,_⟩:=I.loc;hn.lt
theorem Inv.sz(I:Inv X Z Y H s):X.s₀.heap.1.size<=s.1.1.size:=Mr I.ok.above (N0 I.lt)
theorem Inv.nofs(I:Inv X Z Y H s)(h:s.1.1.size<=a):a∉X.fs:=λhb=>by
 obtain⟨_,o,ho,_⟩:=I.ok.funs.mem hb;exact Wa (LX (LJ ho) (Mr I.sz h)) (Me _)
theorem Inv.cne(I:Inv X Z Y H s):∀x c,X.env.cells.lookup x=A? c->c≠X.env.locals:=λx c e z=>by
 obtain⟨v,o,ho,hd⟩:=I.cell x c e;obtain⟨m,⟨o',es,ep,vp,we,_⟩,_⟩:=I.loc;rw[z,vp]at ho;cases ho;rw[we]at hd;cases hd
theorem Inv.funs(I:Inv X Z Y H s):s.1.FunFrames X.base X.outer:=by
 have all:∀(l:List OJ),(∀b∈frs l,b∈X.fs)->X.s₀.heap.FunFrames X.base l->s.1.FunFrames X.base l:=by
  intro l;induction l with
  |nil=>intro _ _;trivial
  | cons env r ih =>
    intro hs hl;obtain⟨hk,⟨L,o,hf,hn,ho,hd⟩,hr⟩:=hl;have hL:L∈X.fs:=hs L (by unfold frs;rw[Nb,hf];exact L5);obtain⟨sl,e⟩:=I.base.slot L o ho (I.ok.frf L hL) hL λz=>I.ok.exfs L z hL;exact⟨hk,⟨L,_,hf,hn,e,hd⟩,ih (λb hb=>hs b (by unfold frs;rw[Nb,hf];exact LS _ hb)) hr⟩
 exact all X.outer (λ_ hb=>hb) I.ok.funs
theorem Inv.stack(I:Inv X Z Y H s):s.1.FunFrames X.base X.stack:=by
 rcases I.ok.stk with e|⟨e,hf⟩
 .rw[e];exact I.funs
 .rw[e];obtain⟨m,hn,_⟩:=I.loc;refine .cons (by rw[I.ok.kind];decide) hf hn ?_ I.funs;exact Heap.get?_none_of_le (Mr I.ok.bsz I.ok.above)
theorem Inv.stkSub(I:Inv X Z Y H s):∀b∈frs X.stack,b∈X.env.locals::X.fs:=λb hb=>by
 rcases I.ok.stk with e|⟨e,hf⟩
 .rw[e]at hb;exact LS _ hb
 .rw[e]at hb;unfold frs at hb;rw[Nb,hf]at hb;exact hb
theorem Inv.stkFree(I:Inv X Z Y H s):∀b∈frs X.stack,H b=none:=λb hb=>by
 rcases LW.mp (I.stkSub b hb)with e|hb
 .rw[e];exact I.free
 .obtain⟨_,o,ho,_⟩:=I.ok.funs.mem hb;exact I.base.free b o ho (I.ok.frf b hb) λz=>I.ok.exfs b z hb
theorem Inv.step{g':Array GenState}{d':Drawn}(I:Inv X Z Y H s)
 (yk:∀b∈ch,(b∈X.ex\/X.s₀.heap.1.size<=b)/\b≠X.env.locals/\(∀x c,X.env.cells.lookup x=A? c->c≠b)/\∀p∈X.pn++Z,p.1≠b)
 (keep:∀b o,b≠X.env.locals->b∉X.fs->b∉ch->s.1.get? b=A? o->H b=Ak->h'.get? b=A? o)
 (slot:∀b o,b≠X.env.locals->b∈X.fs->b∉ch->s.1.get? b=A? o->H b=Ak->∃sl,h'.get? b=A? {o with slots:=sl}) (free:∀b o,b∉ch->s.1.get? b=A? o->H b=Ak->H' b=Ak)
 (there:∀b o,b∉ch->s.1.get? b=A? o->∃o',h'.get? b=A? o')
 (tups:∀b xs,H b=A? (.tup xs)->H' b=A? (.tup xs)) (frzs:∀b o u,H b=A? (.frz o u)->H' b=A? (.frz o u)) (tbls:∀b ps,H b=A? (.tbl ps)->∃more,H' b=A? (.tbl (ps++more)))
 (ns:∀m,s.1.Ns X.env.locals m->h'.Ns X.env.locals m) (hok:HOk X.prog X.w H' h') (hg:Qf g') :
 Inv X Z Y H' {s with heap:=h',gens:=g',drawn:=d',toks:=t'}:=by
 have Aj:∀b o,X.s₀.heap.get? b=A? o->b≠X.env.locals:=λb o e=>Mc (LX (LJ e) I.ok.above)
 have zk:∀b o,X.s₀.heap.get? b=A? o->b∉X.ex->b∉ch:=λb o e hx hb=>by
  rcases(yk b hb).1 with z|z
  .exact hx z
  .exact Wa (LX (LJ e) z) (Me _)
 have cellK:∀x c,X.env.cells.lookup x=A? c->∀v,s.1.IsCell c v->h'.IsCell c v:=λx c e v⟨o,ho,hd⟩=>by
  have AL:c∉ch:=λz=>(yk c z).2.2.1 x c e rfl;by_cases hc:c∈X.fs
  .obtain⟨sl,q⟩:=slot c o (I.cne x c e) hc AL ho (I.freeC x c e);exact⟨_,q,hd⟩
  .exact⟨o,keep c o (I.cne x c e) hc AL ho (I.freeC x c e),hd⟩
 refine⟨I.ok,I.os,hg,⟨λb o e n hb hx=>?_,λb o e n hb hx=>?_,λb o e n hx=>?_,λb o e hx=>?_,λb xs e=>tups b xs (I.base.tups b xs e),λb o xs e=>frzs b o xs (I.base.frzs b o xs e),λb ps e=>?_⟩,?_,λx c e=>?_,?_,λx c e=>?_,λp hp=>?_,hok,I.len⟩
 .exact keep b o (Aj b o e) hb (zk b o e hx) (I.base.keep b o e n hb hx) (I.base.free b o e n hx)
 .obtain⟨sl,e1⟩:=I.base.slot b o e n hb hx;obtain⟨De,e2⟩:=slot b _ (Aj b o e) hb (zk b o e hx) e1 (I.base.free b o e n hx);exact⟨De,e2⟩
 .obtain⟨o',e1⟩:=I.base.there b o e hx;exact free b o' (zk b o e hx) e1 (I.base.free b o e n hx)
 .obtain⟨o',e1⟩:=I.base.there b o e hx;exact there b o' (zk b o e hx) e1
 .obtain⟨m1,e1⟩:=I.base.tbls b ps e;obtain⟨m2,e2⟩:=tbls b _ e1;exact⟨m1++m2,by rw[e2,OP]⟩
 .obtain⟨m,hn,hl⟩:=I.loc;refine⟨m,ns m hn,λi x v e1 e2 e3=>?_⟩;obtain⟨u,r,l⟩:=hl i x v e1 e2 e3;refine⟨u,r,?_⟩;rcases l with l|⟨k,c,e,z⟩
  .exact .inl l
  .exact .inr ⟨k,c,e,cellK x c e _ z⟩
 .obtain⟨v,z⟩:=I.cell x c e;exact⟨v,cellK x c e v z⟩
 .obtain⟨m,⟨o,_,_,ho,_⟩,_⟩:=I.loc;exact free _ o (λz=>(yk _ z).2.1 rfl) ho I.free
 .obtain⟨v,o,ho,hd⟩:=I.cell x c e;exact free c o (λz=>(yk c z).2.2.1 x c e rfl) ho (I.freeC x c e)
 .obtain⟨e,n,ne,nf,d⟩:=I.pin p hp;have AL:p.1∉ch:=λz=>(yk p.1 z).2.2.2 p hp rfl;exact⟨keep p.1 p.2 ne nf AL e n,free p.1 p.2 AL e n,ne,nf,d⟩
theorem Inv.un(I:Inv X Z Y H s)(u:Un X.fs [] H H' s.1 h')(hok:HOk X.prog X.w H' h'):Inv X Z Y H' {s with heap:=h',toks:=t'}:=by
 obtain⟨m,⟨o,es,ep,ho,r⟩,_⟩:=id I.loc;obtain⟨sl,hL⟩:=u.any ho I.free (by simp)
 exact I.step (g':=s.gens) (d':=s.drawn) (ch:=[]) (λ_ z=>nomatch z) (λb o _ hb _ e n=>u.keep b o e n hb (by simp)) (λb o _ hb _ e n=>u.slot b o e n hb (by simp)) (λb o _ e n=>u.free b o e n (by simp)) (λb o _ e=>u.there b o e (by simp)) u.tups u.frzs u.tbls (λm' hm=>by
  obtain⟨o',Df,Dg,vp,r'⟩:=hm;rw[ho]at vp;cases vp;exact⟨_,Df,Dg,hL,r'⟩) hok I.bare
theorem Inv.call{g':Array GenState}{d':Drawn}(I:Inv X Z Y H s)(u:Un (frs X.stack) ch H H' s.1 h')(hok:HOk X.prog X.w H' h')(hg:Qf g')
 (yk:∀b∈ch,(b∈X.ex\/X.s₀.heap.1.size<=b)/\b≠X.env.locals/\(∀x c,X.env.cells.lookup x=A? c->c≠b)/\∀p∈X.pn++Z,p.1≠b) :
 Inv X Z Y H' {s with heap:=h',gens:=g',drawn:=d',toks:=t'}:=by
 obtain⟨m,⟨o,es,ep,ho,r⟩,_⟩:=id I.loc;obtain⟨sl,hL⟩:=u.any ho I.free λz=>(yk _ z).2.1 rfl
 exact I.step (ch:=ch) yk (λb o hL hb hc e n=>u.keep b o e n (λz=>(LW.mp (I.stkSub b z)).elim hL hb) hc) (λb o _ _ hc e n=>u.any e n hc) (λb o hc e n=>u.free b o e n hc) (λb o hc e=>u.there b o e hc) u.tups u.frzs u.tbls (λm' hm=>by
  obtain⟨o',Df,Dg,vp,r'⟩:=hm;rw[ho]at vp;cases vp;exact⟨_,Df,Dg,hL,r'⟩) hok hg
theorem Inv.turned(I:Inv X Z Y H s)(k:∀b o,b≠it->s.1.get? b=A? o->h'.get? b=A? o)(hn:H it=Ak)(hL:it≠X.env.locals)
 (h1:it∈X.ex\/X.s₀.heap.1.size<=it) (h2:∀x c,X.env.cells.lookup x=A? c->c≠it) (h3:∀p∈X.pn++Z,p.1≠it):Inv X Z Y H {s with heap:=h',toks:=t'}:=by
 have F5:∀b u,H b=A? u->b≠it:=λb u e z=>by rw[z,hn]at e;cases e
 refine I.step (g':=s.gens) (d':=s.drawn) (ch:=[it]) (λb hb=>?_) (λb o _ _ hc e _=>k b o (λz=>hc (by simp[z])) e) (λb o _ _ hc e _=>⟨o.slots,k b o (λz=>hc (by simp[z])) e⟩) (λ_ _ _ _ n=>n)
  (λb o hc e=>⟨o,k b o (λz=>hc (by simp[z])) e⟩) (λ_ _ e=>e) (λ_ _ _ e=>e) (λb ps e=>⟨#[],by rw[e];simp⟩) (λm hm=>?_) (λb u e=>?_) I.bare
 .have e:b=it:=by simpa using hb
  subst e;exact⟨h1,hL,h2,h3⟩
 .obtain⟨o,es,ep,ho,r⟩:=hm;exact⟨o,es,ep,k _ o (MY hL) ho,r⟩
 .refine(I.hok b u e).stay (λc v hc q=>k c v ?_ q) (λ_ q=>q) λ_ _ q=>q;rcases hc with z|z
  .rw[z];exact F5 b u e
  .exact F5 c _ z
theorem Inv.tok(I:Inv X Z Y H s)(t:Nat):Inv X Z Y H {s with toks:=t}:=I.un (h':=s.1) (t':=t) Un.refl I.hok
theorem Inv.kept(I:Inv X Z Y H s)(k:∀b u,s.1.get? b=A? u->h'.get? b=A? u):Inv X Z Y H {s with heap:=h',toks:=t'}:=I.un (Un.kept k) (I.hok.kept k)
theorem Inv.laid(I:Inv X Z Y H s)(k:∀b u,s.1.get? b=A? u->h'.get? b=A? u)(hp:s.1.1.size<=a)(new:ObjOk X.prog X.w (upd H a o) h' a o) :
 Inv X Z Y (upd H a o) {s with heap:=h',toks:=t'}:=I.un (Un.laid k hp (I.hok.fresh hp)) (I.hok.laid k hp new)
theorem Inv.write{x e:Ls}(I:Inv X Z Y H s)(mu:Mut (H x))(he:e=x\/H e=A? (.own x))(k:∀b u,b≠e->s.1.get? b=A? u->h'.get? b=A? u)(Ah:∃u,h'.get? e=A? u)
 (new:ObjOk X.prog X.w (upd H x o) h' x o):Inv X Z Y (upd H x o) {s with heap:=h',toks:=t'}:=I.un (Un.write mu he k Ah) (I.hok.write mu he k Ah new)
theorem Inv.weak{uE:List (Option V)}(I:Inv X Z Y H s)(hl:uE.length=Y.length)(w:∀(i:Nat)v,uE[i]?=A? (A? v)->Y[i]?=A? (A? v)):Inv X Z uE H s :=
 ⟨I.ok,I.os,I.bare,I.base,let⟨m,hn,yy⟩:=I.loc;⟨m,hn,λi x v e1 e2 e3=>yy i x v e1 (w i v e2) e3⟩,I.cell,I.free,I.freeC,I.pin,I.hok,hl.trans I.len⟩
theorem Inv.pins_of(I:Inv X Z Y H s)(h:∀p∈uM,s.1.get? p.1=A? p.2/\H p.1=Ak/\p.1≠X.env.locals/\p.1∉X.fs/\∀v,p.2.data≠.cell v):Inv X uM Y H s :=
 ⟨I.ok,I.os,I.bare,I.base,I.loc,I.cell,I.free,I.freeC,λp hp=>(Mw.mp hp).elim (λz=>I.pin p (MC _ z)) (h p),I.hok,I.len⟩
theorem gM(hN:N.Nodup){i:Nat}(a:N[i]?=A? x)(b:N[j]?=A? x):i=j:=by
 obtain⟨h1,e1⟩:=N5.mp a;obtain⟨h2,e2⟩:=N5.mp b;exact(List.getElem_inj hN).mp (e1.trans e2.symm)
theorem iy{i:Nat}{Q:Unit->Lw->Prop}(I:Inv X Z Y H s)(hN:X.N.Nodup)(hi:X.N[i]?=A? x)(hx:Loc X.env.scope x)(r:RelV v u)
 (h:∀s',Inv X Z (Y.set i (A? v)) H s'->(∃a,MQ a s.1 s'.1/\(a=X.env.locals\/X.env.cells.lookup x=A? a))->Q () s') (hf:X.fn x=AG\/X.env.scope.names.lookup x=A? .local:=by first|exact .inl rfl|exact .inr rfl|assumption):LG M A (storeName X.env x u) Q E s:=by
 obtain⟨m,hn,hl⟩:=id I.loc;have wa:(X.env.scope.kind == .class ||(X.env.scope.kind == .module && X.env.locals != X.env.globals))=false:=by rw[I.ok.kind];rfl
 have xH:i<Y.length:=by rw[I.len];exact(glE hi)
 have cne:=I.cne
 have tracked:∀{a:Ls}{h':Ml},(∃o,s.1.get? a=A? o/\H a=Ak)->MQ a s.1 h'->HOk X.prog X.w H h':=λ{a h'}ha hs b ob e=>by
  obtain⟨_,_,wj⟩:=ha;refine(I.hok b ob e).stay (λc w' hc q=>(hs.2 c ?_).trans q) (λ_ q=>q) λ_ _ q=>q;rintro rfl;rcases hc with rfl|hc
  .rw[wj]at e;cases e
  .rw[wj]at hc;cases hc
 rcases hx with hk|hk
 .refine wpAny_storeName_local hk hn (λh' zm hs=>?_) wa;obtain⟨oL,_,_,F6,_⟩:=id hn;refine h _ ⟨I.ok,I.os,I.bare,⟨λb o e n hb hx=>?_,λb o e n hb hx=>?_,I.base.free,λb o e hx=>?_,I.base.tups,I.base.frzs,I.base.tbls⟩,⟨_,zm,λj y v' e1 e2 e3=>?_⟩,λy c e=>?_,I.free,I.freeC,λp hp=>?_,tracked ⟨oL,F6,I.free⟩ hs,by simpa using I.len⟩ ⟨_,hs,.inl rfl⟩
  .exact(hs.2 b (Mc (LX (LJ e) I.ok.above))).trans (I.base.keep b o e n hb hx)
  .obtain⟨sl,e1⟩:=I.base.slot b o e n hb hx;exact⟨sl,(hs.2 b (Mc (LX (LJ e) I.ok.above))).trans e1⟩
  .obtain⟨o',e1⟩:=I.base.there b o e hx;exact⟨o',(hs.2 b (Mc (LX (LJ e) I.ok.above))).trans e1⟩
  .by_cases hj:j=i
   .subst hj;rw[hi]at e1;cases e1;rw[Ot xH]at e2;cases e2;exact⟨u,r,.inl ⟨hk,by simp⟩⟩
   .rw[NV (MY hj)]at e2;obtain⟨u',r',q⟩:=hl j y v' e1 e2 e3;refine⟨u',r',?_⟩;rcases q with⟨k,e⟩|⟨k,c,e,z⟩
    .refine .inl ⟨k,?_⟩;have:y≠x:=λe=>hj (gM hN e1 (e ▸ hi));simp[this,e]
    .exact .inr ⟨k,c,e,z.sameBut hs (cne y c e)⟩
  .obtain⟨w',z⟩:=I.cell y c e;exact⟨w',z.sameBut hs (cne y c e)⟩
  .obtain⟨e,n,ne,nf,d⟩:=I.pin p hp;exact⟨(hs.2 p.1 ne).trans e,n,ne,nf,d⟩
 .have Dh:X.fn x=true:=by
   rcases hf with z|z
   .exact z
   .rw[z]at hk;cases hk
  obtain⟨c,hc⟩:=I.ok.has x (.inl hk);obtain⟨w',z⟩:=I.cell x c hc;refine wpAny_storeName_cell I.ok.kind hk hc z (λh' vQ hs=>?_);obtain⟨oc,yl,Di⟩:=id z;refine h {s with heap:=h'} ⟨I.ok,I.os,I.bare,⟨λb o e n hb hx=>?_,λb o e n hb hx=>?_,I.base.free,λb o e hx=>?_,I.base.tups,I.base.frzs,I.base.tbls⟩,⟨m,hn.sameBut hs (MY (cne x c hc)),λj y v' e1 e2 e3=>?_⟩,λy c' e=>?_,I.free,I.freeC,λp hp=>?_,tracked ⟨oc,yl,I.freeC x c hc⟩ hs,by simpa using I.len⟩ ⟨c,hs,.inr hc⟩
  .exact(hs.2 b (Mc (LX (LJ e) (I.ok.cab x c Dh hc)))).trans (I.base.keep b o e n hb hx)
  .obtain⟨sl,e1⟩:=I.base.slot b o e n hb hx;exact⟨sl,(hs.2 b (Mc (LX (LJ e) (I.ok.cab x c Dh hc)))).trans e1⟩
  .obtain⟨o',e1⟩:=I.base.there b o e hx;exact⟨o',(hs.2 b (Mc (LX (LJ e) (I.ok.cab x c Dh hc)))).trans e1⟩
  .by_cases hj:j=i
   .subst hj;rw[hi]at e1;cases e1;rw[Ot xH]at e2;cases e2;exact⟨u,r,.inr ⟨.inl hk,c,hc,vQ⟩⟩
   .rw[NV (MY hj)]at e2;obtain⟨u',r',q⟩:=hl j y v' e1 e2 e3;refine⟨u',r',?_⟩;rcases q with q|⟨k,c',e,z'⟩
    .exact .inl q
    .refine .inr ⟨k,c',e,z'.sameBut hs ?_⟩;rintro rfl;exact hj (gM hN e1 (I.ok.inj _ _ _ e hc ▸ hi))
  .by_cases ym:c'=c
   .subst ym;exact⟨_,vQ⟩
   .obtain⟨w2,z2⟩:=I.cell y c' e;exact⟨w2,z2.sameBut hs ym⟩
  .obtain⟨e,n,ne,nf,d⟩:=I.pin p hp;refine⟨(hs.2 p.1 ?_).trans e,n,ne,nf,d⟩;intro q;rw[q,yl]at e;have q':oc=p.2:=Ma e;exact d w' (by rw[<-q'];exact Di)
theorem cP{i:Nat}{Q:Unit->Lw->Prop}(I:Inv X Z Y H s)(hN:X.N.Nodup)(hi:X.N[i]?=A? x)(hx:Loc X.env.scope x)(r:RelV v u)
 (h:∀s',Inv X Z (Y.set i (A? v)) H s'->Q () s') (hf:X.fn x=AG\/X.env.scope.names.lookup x=A? .local:=by first|exact .inl rfl|exact .inr rfl|assumption):LG M A (storeName X.env x u) Q E s :=
 iy I hN hi hx r (λs' I' _=>h s' I') hf
theorem Inv.call'(I:Inv X Z Y H s)(ho:s'.os=s.os)(u:Un (frs X.stack) ch H H' s.1 s'.1)(hok:HOk X.prog X.w H' s'.1)(hg:Qf s'.gens)
 (yk:∀b∈ch,(b∈X.ex\/X.s₀.heap.1.size<=b)/\b≠X.env.locals/\(∀x c,X.env.cells.lookup x=A? c->c≠b)/\∀p∈X.pn++Z,p.1≠b):Inv X Z Y H' s':=by
 obtain⟨h',g',d',t',o'⟩:=s';have e:o'=s.os:=ho;subst e;exact I.call (g':=g') (t':=t') (d':=d') u hok hg yk
end
abbrev XK:=Lu->Option Ls->Hp->Prop
abbrev St:=List (Option V)
abbrev VK:=V->Hp->Prop
abbrev TE:=St->Hp->VK->Prop
abbrev TT:=St->Hp->(Bool->Hp->Prop)->Prop
abbrev TA:=St->Hp->(List V->Hp->Prop)->Prop
structure Ends where
 nx:St->Hp->Prop
 rt:VK
 bk:St->Hp->Prop:=λ_ _=>False
 ct:St->Hp->Prop:=λ_ _=>False
abbrev TS:=Ends->St->Hp->Prop
def EP(X:Cx)(Z:List (Ls×M4))(Y:St)(Q:VK)(u:Lu)(s':Lw):Prop:=∃v H',Inv X Z Y H' s'/\RelV v u/\Q v H'
def TP(X:Cx)(Z:List (Ls×M4))(Y:St)(Q:Bool->Hp->Prop)(b:Bool)(s':Lw):Prop:=∃H',Inv X Z Y H' s'/\Q b H'
def AP(X:Cx)(Z:List (Ls×M4))(Y:St)(Q:List V->Hp->Prop)(us:List Lu)(s':Lw):Prop:=∃vs H',Inv X Z Y H' s'/\Vals vs us/\Q vs H'
def SP(X:Cx)(Z:List (Ls×M4))(D:Ends)(f:Flow)(s':Lw):Prop :=
 match f with
 |.next=>∃uE H',Inv X Z uE H' s'/\D.nx uE H'
 |.brk=>∃uE H',Inv X Z uE H' s'/\D.bk uE H'
 |.cont=>∃uE H',Inv X Z uE H' s'/\D.ct uE H'
 |.ret u=>∃v uE H',Inv X Z uE H' s'/\RelV v u/\D.rt v H'
def PE(X:Cx)(e:Mv)(t:TE):Prop :=
 ∀(Z:List (Ls×M4))(s:Lw)(Y:St)(H:Hp)(Q:VK),Inv X Z Y H s->t Y H Q->LG (LN X.prog X.w) X.A (Nd e X.env) (EP X Z Y Q) X.xe s
def PT(X:Cx)(e:Mv)(t:TT):Prop :=
 ∀(Z:List (Ls×M4))(s:Lw)(Y:St)(H:Hp)(Q:Bool->Hp->Prop),Inv X Z Y H s->t Y H Q->LG (LN X.prog X.w) X.A (isTrue e X.env (Nd e X.env)) (TP X Z Y Q) X.xe s
def PW(X:Cx)(e:Mv)(t:TT):Prop :=
 ∀(whole:Sem Lu)(Z:List (Ls×M4))(s:Lw)(Y:St)(H:Hp)(Q:Bool->Hp->Prop),Inv X Z Y H s->t Y H Q->LG (LN X.prog X.w) X.A (isTrue e X.env whole) (TP X Z Y Q) X.xe s
theorem PW.pt{X:Cx}{t:TT}(h:PW X e t):PT X e t:=h _
def PA(X:Cx)(es:List Mv)(t:TA):Prop :=
 ∀(pos:Oi)(Z:List (Ls×M4))(s:Lw)(Y:St)(H:Hp)(Q:List V->Hp->Prop),Inv X Z Y H s->t Y H Q->LG (LN X.prog X.w) X.A (spliced (NG pos (L7 es X.env))) (AP X Z Y Q) X.xe s
def PS(X:Cx)(st:NP)(t:TS):Prop :=
 ∀(Z:List (Ls×M4))(s:Lw)(Y:St)(H:Hp)(D:Ends),Inv X Z Y H s->t D Y H->LG (LN X.prog X.w) X.A (exec st X.env) (SP X Z D) X.xe s
def PSs(X:Cx)(st:List NP)(t:TS):Prop :=
 ∀(Z:List (Ls×M4))(s:Lw)(Y:St)(H:Hp)(D:Ends),Inv X Z Y H s->t D Y H->LG (LN X.prog X.w) X.A (execs st X.env) (SP X Z D) X.xe s
theorem thn{t:Sem α}{Q Q':α->Lw->Prop}(h:LG M A t Q E s)(hQ:∀a s,Q a s->Q' a s):LG M A t Q' E s:=Mq h hQ λ_ _ x=>x
end L2
variable{tb:L2.TS}{Y:L2.St}{D:L2.Ends}{te tl:L2.TE}{tt:L2.TT}
namespace L2
open PySem PySem.Spec PyProof.Rows
section
variable{X:Cx}
inductive qM(i:Nat)(Y:St)(H:Hp)(Q:VK):Prop
 |mk (v:_) (vX:Y[i]?=A? (A? v)) (vY:Q v H):qM i Y H Q
def bo(i:Nat):TE:=qM i
def tC(v:V):TE:=λ_ H Q=>Q v H
theorem oW{i:Nat}(hN:X.N[i]?=A? x)(hv:Vis X.env.scope x)(hd:(x == ("__debug__":LL))=false:=by decide)(vA:(x == ("__classdict__":LL))=false:=by decide):PE X (.Name x pos) (bo i):=by
 intro Z s Y H Q I h;obtain⟨v,e,h⟩:=h;obtain⟨m,hn,hl⟩:=I.loc;obtain⟨u,r,l⟩:=hl i x v hN e hv;have fin:EP X Z Y Q u s:=⟨v,H,I,r,h⟩;rcases l with⟨hk,hm⟩|⟨hk,c,hc,vZ⟩
 .exact wpAny_Name (wpAny_loadName_local I.ok.kind hk hn hm fin) hd
 .rcases hk with hk|hk
  .exact wpAny_Name (wpAny_loadName_cell I.ok.kind hk hc vZ fin) hd
  .exact wpAny_Name (wpAny_loadName_free I.ok.kind hk hc vZ fin vA) hd
theorem ad{i j pos}:PE X (.Constant (.int i) j pos) (tC (.int i)):=λ_ _ _ H _ I h=>wpAny_Constant_int ⟨.int i,H,I.tok _,⟨_,rfl⟩,h⟩
theorem l5{b j pos}:PE X (.Constant (.bool b) j pos) (tC (.bl b)):=λ_ _ _ H _ I h=>Constant_bool ⟨.bl b,H,I,rfl,h⟩
theorem gZ{j pos}:PE X (.Constant .none j pos) (tC .non):=λ_ _ _ H _ I h=>Constant_none ⟨.non,H,I,rfl,h⟩
theorem bG{x j pos}:PE X (.Constant (.str x) j pos) (tC (.str x)):=λ_ _ _ H _ I h=>Calls.Constant_str ⟨.str x,H,I.tok _,⟨_,rfl⟩,h⟩
def Gl(X:Cx)(x:LL):Prop:=X.env.kindOf x=A? .globalImplicit
theorem dU(I:Inv X Z Y H s)(hg:Gl X x)(hm:X.mg x=A? u)(h:Q u s)
 (hd:(x == ("__debug__":LL))=false:=by decide):LG (LN X.prog X.w) X.A (Nd (.Name x pos) X.env) Q E s :=
 Po I.ok.kind hg (Calls.loadGlobal_global (by rw[I.ok.glob];exact I.mod.glob.keeps I.bk) hm h) hd
theorem fK(I:Inv X Z Y H s)(hg:Gl X x)(hm:X.mg x=Ak)(hv:O1 x=A? u)(h:Q u s)
 (hn:x≠"__name__":=by decide) (hd:(x == ("__debug__":LL))=false:=by decide):LG (LN X.prog X.w) X.A (Nd (.Name x pos) X.env) Q E s:=by
 obtain⟨mb,h1,h2⟩:=I.mod.blt;exact Po I.ok.kind hg (Calls.loadGlobal_builtin (by rw[I.ok.glob];exact I.mod.glob.keeps I.bk) hm (by rw[I.ok.blt];exact h1.keeps I.bk) ((h2 x hn).trans hv) h) hd
theorem bz(hg:Gl X x)(hm:X.mg x=A? u)(r:RelV v u)(hd:(x == ("__debug__":LL))=false:=by decide):PE X (.Name x pos) (tC v) :=
 λ_ _ _ H _ I h=>dU I hg hm ⟨v,H,I,r,h⟩ hd
theorem ql(hg:Gl X x)(hm:X.mg x=Ak)(hv:O1 x=A? u)(r:RelV v u)(hn:x≠"__name__":=by decide)(hd:(x == ("__debug__":LL))=false:=by decide):PE X (.Name x pos) (tC v) :=
 λ_ _ _ H _ I h=>fK I hg hm hv ⟨v,H,I,r,h⟩ hn hd
variable{a b:Mv}{ta tb:TE}
variable{tA Cm:TT}{rest:List Mv}
def ux(t u:TT):TT:=λY H Q=>t Y H λc H1=>if c=AG then u Y H1 Q else Q AH H1
def tOr(t u:TT):TT:=λY H Q=>t Y H λc H1=>if c=AG then Q AG H1 else u Y H1 Q
def ue(t:TT):TT:=λY H Q=>t Y H λc H1=>Q (!c) H1
theorem p5(ha:PT X a tA):PW X (.BoolOp .And [a] pos) tA:=by
 intro wh Z s Y H Q I h;refine isTrue_and (thn (ha Z s Y H Q I h) λc s1 e=>?_);cases c with
 |true=>exact isTrue_and_nil e
 |false=>exact e
theorem rJ(ha:PT X a tA):PW X (.BoolOp .Or [a] pos) tA:=by
 intro wh Z s Y H Q I h;refine isTrue_or (thn (ha Z s Y H Q I h) λc s1 e=>?_);cases c with
 |false=>exact isTrue_or_nil e
 |true=>exact e
theorem rT(ha:PT X a tA)(hb:PW X (.BoolOp .And (b::rest) pos) Cm):PW X (.BoolOp .And (a::b::rest) pos) (ux tA Cm):=by
 intro wh Z s Y H Q I h;refine isTrue_and (thn (ha Z s Y H _ I h) λc s1⟨H1,I1,q1⟩=>?_);cases c with
 |true=>exact hb wh Z s1 Y H1 Q I1 q1
 |false=>exact⟨H1,I1,q1⟩
theorem qO(ha:PT X a tA)(hb:PW X (.BoolOp .Or (b::rest) pos) Cm):PW X (.BoolOp .Or (a::b::rest) pos) (tOr tA Cm):=by
 intro wh Z s Y H Q I h;refine isTrue_or (thn (ha Z s Y H _ I h) λc s1⟨H1,I1,q1⟩=>?_);cases c with
 |true=>exact⟨H1,I1,q1⟩
 |false=>exact hb wh Z s1 Y H1 Q I1 q1
theorem oi(ha:PT X a tA):PT X (.UnaryOp .Not a pos) (ue tA):=by
 intro Z s Y H Q I h;exact isTrue_not (ha Z s Y H (λc H1=>Q (!c) H1) I h)
def sS(ta tb:TE):TE:=λY H Q=>ta Y H λx H1=>∃c,x=.bl c/\if c=AG then tb Y H1 Q else Q (.bl AH) H1
theorem nF{op}{t:TE}(h:PE X a t):PE X (.BoolOp op [a] pos) t:=λZ s Y H Q I hw=>BoolOp_one (h Z s Y H Q I hw)
theorem lw(ha:PE X a ta)(hb:PE X (.BoolOp .And (b::rest) pos) tb):PE X (.BoolOp .And (a::b::rest) pos) (sS ta tb):=by
 intro Z s Y H Q I h;refine BoolOp_and (thn (ha Z s Y H _ I h) λv s1⟨x,H1,I1,r1,q1⟩=>?_);obtain⟨c,rfl,q1⟩:=q1;cases r1;refine wpAny_truthy_bool ?_;cases c with
 |true=>exact hb Z s1 Y H1 Q I1 q1
 |false=>exact⟨.bl AH,H1,I1,B?,q1⟩
end
def SqL(K:Ly)(H:Hp)(a:Ls)(xs:List V):Prop :=
 Rd H a (.lst xs) \/
  ∃(o:M4)(its:Array Lu)(n:Nat),K.lookup a=A? o/\o.cls=.type "list"/\o.dict=Ak/\o.data=.seq its n/\its.size<=LK/\Vals xs its.toList
def SqT(K:Ly)(H:Hp)(a:Ls)(xs:List V):Prop :=
 Rd H a (.tup xs) \/
  ∃(o:M4)(its:Array Lu)(n:Nat),K.lookup a=A? o/\o.cls=.type "tuple"/\o.data=.seq its n/\its.size<=LK/\Vals xs its.toList
def uv:Lu->Option V
 |.none=>A? .non
 |.bool b=>A? (.bl b)
 |.int i _=>A? (.int i)
 |.str x _=>A? (.str x)
 |.bytes b _=>A? (.byt b)
 |.float b _=>A? (.flt b)
 |.ref a=>A? (.ref a)
 |.type n=>A? (.ty n)
 |_=>Ak
theorem RelV.abs{x:V}(r:RelV x u):uv u=A? x:=by
 cases x with
 |non=>cases r;rfl
 |bl _=>cases r;rfl
 |int _=>obtain⟨t,rfl⟩:=r;rfl
 |str _=>obtain⟨t,rfl⟩:=r;rfl
 |byt _=>obtain⟨t,rfl⟩:=r;rfl
 |flt _=>obtain⟨t,rfl⟩:=r;rfl
 |ref _=>cases r;rfl
 |ty _=>cases r;rfl
theorem RelV.inj{x:V}(r:RelV x u)(q:RelV y u):x=y:=Ma (r.abs.symm.trans q.abs)
theorem Vals.inj:∀{xs ys:List V}{us:List Lu},Vals xs us->Vals ys us->xs=ys
 |_,_,_,.nil,.nil=>rfl
 |_,_,_,.cons r t,.cons r' t'=>by rw[r.inj r',Vals.inj t t']
section
variable{X:Cx}{ys:List V}
theorem SqL.of(h:H a=A? (.lst xs)):SqL K H a xs:=.inl (.inl h)
theorem SqT.of(h:H a=A? (.tup xs)):SqT K H a xs:=.inl (.inl h)
theorem Inv.list(I:Inv X Z Y H s)(h:SqL X.K H a xs):∃its:List Lu,Vals xs its/\PlainL s.1 a its.toArray/\xs.length<=LK:=by
 rcases h with h|⟨o,its,n,hk,hc,hd,hs,hz,r⟩
 .obtain⟨z,its,n,r,e⟩:=h.ok I.hok;exact⟨its,r,⟨_,n,e,B?,B?,B?⟩,z⟩
 .refine⟨its.toList,r,⟨o,n,I.kIn a o hk,hc,hd,by simpa using hs⟩,?_⟩;have e:=r.length;simp only[L4]at e;lia
theorem Inv.tuple(I:Inv X Z Y H s)(h:SqT X.K H a xs):∃its:List Lu,Vals xs its/\IsTup s.1 a its.toArray/\xs.length<=LK:=by
 rcases h with h|⟨o,its,n,hk,hc,hs,hz,r⟩
 .obtain⟨z,its,n,r,p⟩:=h.ok I.hok;exact⟨its,r,⟨_,p,B?,n,B?⟩,z⟩
 .refine⟨its.toList,r,⟨o,I.kIn a o hk,hc,n,by simpa using hs⟩,?_⟩;have e:=r.length;simp only[L4]at e;lia
theorem Inv.list_inj(I:Inv X Z Y H s)(h:SqL X.K H a xs)(h':SqL X.K H a ys):xs=ys:=by
 obtain⟨its,r,⟨o,n,e,_,_,d⟩,_⟩:=I.list h;obtain⟨its',r',⟨o',n',e',_,_,d'⟩,_⟩:=I.list h';rw[e]at e';cases e';rw[d]at d';injection d' with d1 _;have:its=its':=by simpa using Xa Array.toList d1
 subst this;exact r.inj r'
theorem Inv.tuple_inj(I:Inv X Z Y H s)(h:SqT X.K H a xs)(h':SqT X.K H a ys):xs=ys:=by
 obtain⟨its,r,⟨o,e,_,n,d⟩,_⟩:=I.tuple h;obtain⟨its',r',⟨o',e',_,n',d'⟩,_⟩:=I.tuple h';rw[e]at e';cases e';rw[d]at d';injection d' with d1 _;have:its=its':=by simpa using Xa Array.toList d1
 subst this;exact r.inj r'
end
abbrev Cx.wish(X:Cx)(E:Lu->Lw->Prop):Cx:={X with xe:=E}
abbrev Cx.nox(X:Cx):Cx:=X.wish λ_ _=>False
theorem Cx.Ok.wish{X:Cx}(ok:X.Ok)(E:Lu->Lw->Prop):(X.wish E).Ok :=
 ⟨ok.mod,ok.kind,ok.glob,ok.blt,ok.above,ok.inj,ok.has,ok.cab,ok.hd,ok.frames,ok.stk,ok.exf,ok.bs,ok.bsz,ok.noex,ok.exfs,ok.funs,ok.frf⟩
theorem Cx.Ok.unwish{X:Cx}(ok:(X.wish E).Ok):X.Ok :=
 ⟨ok.mod,ok.kind,ok.glob,ok.blt,ok.above,ok.inj,ok.has,ok.cab,ok.hd,ok.frames,ok.stk,ok.exf,ok.bs,ok.bsz,ok.noex,ok.exfs,ok.funs,ok.frf⟩
section
variable{X:Cx}
theorem Inv.wish(I:Inv X Z Y H s)(E:Lu->Lw->Prop):Inv (X.wish E) Z Y H s:=⟨I.ok.wish E,I.os,I.bare,I.base,I.loc,I.cell,I.free,I.freeC,I.pin,I.hok,I.len⟩
theorem Inv.unwish(I:Inv (X.wish E) Z Y H s):Inv X Z Y H s:=⟨I.ok.unwish,I.os,I.bare,I.base,I.loc,I.cell,I.free,I.freeC,I.pin,I.hok,I.len⟩
theorem SP.unwish{f:Flow}(h:SP (X.wish E) Z D f s'):SP X Z D f s':=by
 cases f with
 |next=>obtain⟨uE,H',I,q⟩:=h;exact⟨uE,H',I.unwish,q⟩
 |brk=>obtain⟨uE,H',I,q⟩:=h;exact⟨uE,H',I.unwish,q⟩
 |cont=>obtain⟨uE,H',I,q⟩:=h;exact⟨uE,H',I.unwish,q⟩
 |ret u=>obtain⟨v,uE,H',I,r,q⟩:=h;exact⟨v,uE,H',I.unwish,r,q⟩
theorem PSs.nox{st:List NP}{t:TS}(h:PSs X.nox st t):PSs X st t:=λZ s Y H D I hw =>
 Mq (h Z s Y H D (I.wish _) hw) (λ_ _ q=>q.unwish) λ_ _ z=>MA z
end
section
variable{X:Cx}{rest:List NP}{t u:TS}
def lU:TS:=λD Y H=>D.nx Y H
def lK(t u:TS):TS:=λD Y H=>t {D with nx:=u D} Y H
theorem aQ:PSs X [] lU:=λ_ _ Y H _ I h=>OS ⟨Y,H,I,h⟩
theorem ae(h1:PS X st t)(h2:PSs X rest u):PSs X (st::rest) (lK t u):=by
 intro Z s Y H D I h;refine wpAny_execs_cons (thn (h1 Z s Y H {D with nx:=u D} I h) λf s1 q=>?_);cases f with
 | next =>
   obtain⟨uE,H',I',q⟩:=q;exact h2 Z s1 uE H' D I' q
 |ret v=>exact q
 |brk=>exact q
 |cont=>exact q
theorem ag(h1:PS X st t):PSs X [st] t:=by
 intro Z s Y H D I h;refine wpAny_execs_cons (thn (h1 Z s Y H D I h) λf s1 q=>?_);cases f with
 |next=>exact OS q
 |ret v=>exact q
 |brk=>exact q
 |cont=>exact q
theorem Inv.quiet(I:Inv X Z Y H s):interactive X.env=false:=by simp[interactive,I.ok.kind]
def nQ(te:TE):TS:=λD Y H=>te Y H λ_ H1=>D.nx Y H1
theorem bq(he:PE X e te)(hs:swapsWith e Ak pos.line X.env=pure false:=by rfl):PS X (.Expr e pos) (nQ te):=by
 intro Z s Y H D I h;exact wpAny_Expr_any (thn (he Z s Y H _ I h) λv s1⟨x,H1,I1,r1,q1⟩=>⟨Y,H1,I1,q1⟩) I.quiet hs
def uu(te:TE):TS:=λD Y H=>te Y H D.rt
theorem aq(he:PE X e te):PS X (.Return (A? e) pos) (uu te):=by
 intro Z s Y H D I h;exact wpAny_Return_some (thn (he Z s Y H _ I h) λv s1⟨x,H1,I1,r1,q1⟩=>⟨x,Y,H1,I1,r1,q1⟩)
def tM(c:TT)(t u:TS):TS:=λD Y H=>c Y H λb H1=>if b=AG then t D Y H1 else u D Y H1
theorem bj{c:Mv}{a b:List NP}{tc:TT}(hc:PT X c tc)(ha:PSs X a t)(hb:PSs X b u):PS X (.If c a b pos) (tM tc t u):=by
 intro Z s Y H D I h;refine wpAny_If (thn (hc Z s Y H _ I h) λd s1⟨H1,I1,q1⟩=>?_);cases d with
 |true=>exact ha Z s1 Y H1 D I1 q1
 |false=>exact hb Z s1 Y H1 D I1 q1
end
abbrev TG:=V->St->Hp->(St->Hp->Prop)->Prop
abbrev TGs:=List V->St->Hp->(St->Hp->Prop)->Prop
def PG(X:Cx)(target:Mv)(t:TG):Prop :=
 ∀(Z:List (Ls×M4))(s:Lw)(Y:St)(H:Hp)(v:V)(u:Lu)(Q:St->Hp->Prop),Inv X Z Y H s->RelV v u->t v Y H Q ->
   LG (LN X.prog X.w) X.A (assign target X.env u) (λ_ s'=>∃uE H',Inv X Z uE H' s'/\Q uE H') X.xe s
def PGs(X:Cx)(ts:List Mv)(t:TGs):Prop :=
 ∀(Z:List (Ls×M4))(s:Lw)(Y:St)(H:Hp)(vs:List V)(us:List Lu)(Q:St->Hp->Prop),Inv X Z Y H s->Vals vs us->t vs Y H Q ->
   LG (LN X.prog X.w) X.A (assignInOrder ((P5 ts X.env).map (·.2)) us) (λ_ s'=>∃uE H',Inv X Z uE H' s'/\Q uE H') X.xe s
abbrev rq:=V->V->V->Hp->(Hp->Prop)->Prop
def tN(X:Cx)(t:rq):Prop :=
 ∀(Z:List (Ls×M4))(s:Lw)(Y:St)(H:Hp)(o i v:V)(ov iv u:Lu)(Q:Hp->Prop),Inv X Z Y H s->RelV o ov->RelV i iv->RelV v u->t o i v H Q ->
   LG (LN X.prog X.w) X.A (setItem ov iv u) (λ_ s'=>∃H',Inv X Z Y H' s'/\Q H') X.xe s
section
variable{X:Cx}
def ax(i:Nat):TG:=λv Y H Q=>Q (Y.set i (A? v)) H
theorem qy{i:Nat}(hN:X.N.Nodup)(hi:X.N[i]?=A? x)(hx:Loc X.env.scope x)(hf:X.fn x=AG\/X.env.scope.names.lookup x=A? .local:=by first|exact .inl rfl|exact .inr rfl|assumption):PG X (.Name x pos) (ax i):=by
 intro Z s Y H v u Q I r h;exact wpAny_assign_Name (cP I hN hi hx r (λs' I'=>⟨_,H,I',h⟩) hf)
def ub:TGs:=λvs Y H Q=>vs=[]/\Q Y H
def sf(t:TG)(u:TGs):TGs:=λvs Y H Q=>∃v r,vs=v::r/\t v Y H λuE H'=>u r uE H' Q
theorem bW:PGs X [] ub:=by
 intro Z s Y H vs us Q I r h;obtain⟨e,h⟩:=h;subst e;cases r;exact assignInOrder_nil ⟨Y,H,I,h⟩
theorem aB{t:TG}{u:TGs}(h1:PG X e t)(h2:PGs X es u)
 (hs:(P5 (e::es) X.env).map (·.2)=assign e X.env::(P5 es X.env).map (·.2):=by rfl):PGs X (e::es) (sf t u):=by
 intro Z s Y H vs us Q I r h;obtain⟨v,vr,e1,h⟩:=h;subst e1;cases r with
 | cons r rr =>
   rw[hs];refine assignInOrder_cons (thn (h1 Z s Y H _ _ _ I r h) λ_ s1⟨uS,H1,I1,q1⟩=>?_);exact h2 Z s1 uS H1 _ _ Q I1 rr q1
def ug(K:Ly)(n:Nat)(t:TGs):TG:=λv Y H Q=>∃a xs,v=.ref a/\SqT K H a xs/\xs.length=n/\t xs Y H Q
theorem cK{k:Nat}{t:TGs}(hc:X.calm=AG)(h:PGs X es t)
 (hn:(P5 es X.env).length=n:=by rfl) (uY:(P5 es X.env).findIdx? (·.1)=none:=by rfl):PG X (.Tuple es k pos) (ug X.K n t):=by
 intro Z s Y H v u Q I r hw;obtain⟨a,xs,e1,hq,hl,hw⟩:=hw;subst e1;cases r;obtain⟨its,rv,ht,hz⟩:=I.tuple hq;refine assign_Tuple_tuple (I.ok.hd hc) ht (by simp[hn,<-hl,rv.length]) uY λh' hx=>?_;have I1:Inv X Z Y H {s with heap:=h'}:=I.kept (t':=s.toks) λb o e=>hx b o (Mc (LJ e)) e;exact h Z _ Y H xs _ Q I1 (by simpa using rv) hw
def tR(to ti:TE)(t:rq):TG:=λv Y H Q=>to Y H λo H1=>ti Y H1 λi H2=>t o i v H2 λH3=>Q Y H3
theorem lJ{o i:Mv}{to ti:TE}{t:rq}(ho:PE X o to)(hi:PE X i ti)(hs:tN X t)
 (ha:∀v,assign (.Subscript o i pos) X.env v=(do
  let ov <-holding [v] (Nd o X.env)
  let iv <-holding [v,ov] (Nd i X.env)
  standAt pos
  holding [v,ov,iv] (setItem ov iv v)
  release [v,ov,iv] []):=by intro _;rfl):PG X (.Subscript o i pos) (tR to ti t):=by
 intro Z s Y H v u Q I r h;rw[ha];refine Lr (M5 (thn (ho Z s Y H _ I h) λov s1⟨x,H1,I1,r1,q1⟩=>?_));refine Lr (M5 (thn (hi Z s1 Y H1 _ I1 q1) λiv s2⟨y,H2,I2,r2,q2⟩=>?_));refine Lr (wpAny_standAt (Lr (M5 (thn (hs Z s2 Y H2 x y v ov iv u _ I2 r1 r2 r q2) λ_ s3⟨H3,I3,q3⟩=>?_))));exact wpAny_release ⟨Y,H3,I3,q3⟩
def mM(te:TE)(g:TG):TS:=λD Y H=>te Y H λx H1=>g x Y H1 D.nx
theorem cJ{g:TG}(he:PE X e te)(hg:PG X tg g)(hs:swapsWithSole [tg] e pos.line X.env=pure false:=by rfl)(hw:swappedStores [tg] e X.env=pure none:=by rfl)
 (h1:(P5 [tg] X.env).map (·.2)=[assign tg X.env]:=by rfl):PS X (.Assign [tg] e pos) (mM te g):=by
 intro Z s Y H D I h;refine wpAny_Assign_stores (thn (he Z s Y H _ I h) λv s1⟨x,H1,I1,r1,q1⟩=>?_) hs hw;rw[h1];exact thn (hg Z s1 Y H1 x v _ I1 r1 q1) λ_ s2 q=>q
theorem rA{i:Nat}{pos':Oi}(hN:X.N.Nodup)(hi:X.N[i]?=A? x)(hx:Loc X.env.scope x)(he:PE X e te)(hs:swapsWith e (A? (.Name x pos')) pos.line X.env=pure false:=by rfl)(hf:X.fn x=AG\/X.env.scope.names.lookup x=A? .local:=by first|exact .inl rfl|exact .inr rfl|assumption) :
 PS X (.Assign [.Name x pos'] e pos) (mM te (ax i)):=by
 intro Z s Y H D I h;refine wpAny_Assign_Name (thn (he Z s Y H _ I h) λv s1⟨y,H1,I1,r1,q1⟩=>?_) hs;exact cP I1 hN hi hx r1 (λs2 I2=>⟨_,H1,I2,q1⟩) hf
end
section
variable{X:Cx}
def qY(c:TT)(tb:TS):TS:=λD Y H=>∃W:Nat->St->Hp->Prop,(∃m,W m Y H)/\∀m Y H,W m Y H ->
 c Y H λb H1=>if b=AG then∃N:St->Hp->Prop,(∀uE H',N uE H'->∃m',m'<m/\W m' uE H')/\tb {D with nx:=N,ct:=N,bk:=D.nx} Y H1 else D.nx Y H1
theorem dH{c:Mv}{tc:TT}(hp:PassesOwn (LN X.prog X.w) X.A X.env X.xe)(hc:PT X c tc)(hb:PSs X body tb):PS X (.While c body [] pos) (qY tc tb):=by
 intro Z s Y H D I h;obtain⟨W,⟨m0,w0⟩,turn⟩:=h;refine wpAny_While (codeAny_whileLoop (λn s'=>∃uE H',Inv X Z uE H' s'/\W n uE H') ?_ m0 ⟨Y,H,I,w0⟩);rintro n s1 ⟨uS,H1,I1,w1⟩;refine NR hp (thn (hc Z s1 uS H1 _ I1 (turn n uS H1 w1)) λb s2⟨H2,I2,q2⟩=>?_);cases b with
 | true =>
   obtain⟨N,hN,q2⟩:=q2;rw[Sa rfl];refine NR hp (thn (hb Z s2 uS H2 _ I2 q2) λf s3 q3=>?_);cases f with
   | next =>
     obtain⟨xI,H3,I3,n3⟩:=q3;obtain⟨m',hm,w3⟩:=hN xI H3 n3;exact⟨m',hm,xI,H3,I3,w3⟩
   | cont =>
     obtain⟨xI,H3,I3,n3⟩:=q3;obtain⟨m',hm,w3⟩:=hN xI H3 n3;exact⟨m',hm,xI,H3,I3,w3⟩
   |brk=>exact q3
   |ret v=>exact q3
 | false =>
   rw[Ra LO];exact OS ⟨uS,H2,I2,q2⟩
end
structure It where
 go:Nat->Hp->Prop
 yld:Nat->Hp->V->Hp->Prop
 stop:Nat->Hp->Prop
def dB(X:Cx)(Z:List (Ls×M4))(H:Hp)(b:Ls):Prop :=
 H b=Ak/\b≠X.env.locals/\b∉X.fs/\(b∈X.ex\/X.s₀.heap.1.size<=b)/\(∀x c,X.env.cells.lookup x=A? c->c≠b)/\∀p∈X.pn++Z,p.1≠b
theorem Inv.fpOk{X:Cx}(I:Inv X Z Y H s)(hb:s.1.1.size<=b)(hn:H' b=Ak):dB X Z H' b:=by
 refine⟨hn,Pq (LX I.lt hb),I.nofs hb,.inr (Mr I.sz hb),λx c e z=>?_,λp hp z=>?_⟩
 .obtain⟨v,q⟩:=I.cell x c e;exact Wa (LX q.lt (by rw[z];exact hb)) (Me _)
 .exact Wa (LX (LJ (I.pin p hp).1) (by rw[z];exact hb)) (Me _)
structure Turn(P:LF)(w:LQ)(K:Ly)(tg:Mv)(J:It)(fp:List Ls)(it:Ls)(tn:Nat->Ml->Prop):Prop where
 mem:it∈fp
 obj:∀i h,tn i h->∀b∈fp,∃o,h.get? b=A? o/\∀v,o.data≠.cell v
 keep:∀i h h',tn i h->(∀b∈fp,∀o,h.get? b=A? o->h'.get? b=A? o)->tn i h'
 item:∀(X:Cx),X.prog=P->X.w=w->X.K=K->X.calm=AG->∀(i:Nat)(Z:List (Ls×M4))(s:Lw)(Y:St)(H:Hp)(E:Lu->Lw->Prop),Inv X Z Y H s->(∀b∈fp,dB X Z H b)->tn i s.1->J.go i H ->
  LG (LN P w) X.A (OC (.ref it)) (λr s1=>∃u,r=A? u /\
   LG (LN P w) X.A (OU tg (.ref it) u) (λ_ s2=>∃x H',Inv X Z Y H' s2/\RelV x u/\J.yld i H x H'/\tn (i+1) s2.1/\∀b∈fp,H' b=Ak) E s1) E s
 done:∀(X:Cx),X.prog=P->X.w=w->X.K=K->X.calm=AG->∀(i:Nat)(Z:List (Ls×M4))(s:Lw)(Y:St)(H:Hp)(E:Lu->Lw->Prop),Inv X Z Y H s->(∀b∈fp,dB X Z H b)->tn i s.1->J.stop i H ->
  LG (LN P w) X.A (OC (.ref it)) (λr s1=>r=Ak/\Inv X Z Y H s1) E s
 self:∀(A:LU)(i:Nat)(s:Lw)(Q:Lu->Lw->Prop)(E:Lu->Lw->Prop),tn i s.1->Q (.ref it) s->LG (LN P w) A (pyIter (.ref it)) Q E s
abbrev TI:=St->Hp->(It->Hp->Prop)->Prop
def PIE(X:Cx)(Z:List (Ls×M4))(Y:St)(tg:Mv)(R:It->Hp->Prop)(AM:Lu)(s2:Lw):Prop :=
 ∃(it:Ls)(fp:List Ls)(tn:Nat->Ml->Prop)(J:It)(H':Hp),AM=.ref it/\Inv X Z Y H' s2/\Turn X.prog X.w X.K tg J fp it tn/\tn 0 s2.1/\(∀b∈fp,dB X Z H' b)/\R J H'
def PI(X:Cx)(tg iter:Mv)(wi:TI):Prop :=
 ∀(Z:List (Ls×M4))(s:Lw)(Y:St)(H:Hp)(R:It->Hp->Prop),Inv X Z Y H s->wi Y H R ->
   LG (LN X.prog X.w) X.A (Nd iter X.env) (λv s1=>LG (LN X.prog X.w) X.A (pyIter v) (PIE X Z Y tg R) X.xe s1) X.xe s
theorem j1{o:M4}{n:String}{vs:Array Lu}{Q:Unit->Lw->Prop}(ho:s.1.get? it=A? o)(hc:o.cls=.type n)(hd:o.data=.fields vs)
 (hn:["enumerate","zip","dict_itemiterator","dict_reverseitemiterator","odict_iterator","itertools.zip_longest","itertools.pairwise"].contains n=AH) (hQ:Q () s):LG M A (OU tg (.ref it) u) Q E s:=by
 unfold OU
 cases tg <;> first
  |exact Lz hQ
  |(cases u <;> first
   |exact Lz hQ
   | (refine Lr (wpAny_load ho ?_)
      rw[hc,hd];show LG M A (if(["enumerate","zip","dict_itemiterator","dict_reverseitemiterator","odict_iterator","itertools.zip_longest","itertools.pairwise"].contains n && vs[0]? == A? (Nz _))=AG then _ else _) Q E s;rw[Ra (by intro h;rw[hn,Bool.false_and]at h;cases h)];exact Lz hQ))
def Itl(K:Ly)(a:Ls):It :=
 ⟨λi H=>∃xs x,SqL K H a xs/\xs[i]?=A? x,λi H x H'=>H'=H/\∀xs,SqL K H a xs->xs[i]?=A? x,λi H=>∃xs,SqL K H a xs/\xs.length<=i⟩
def Itt(K:Ly)(a:Ls):It :=
 ⟨λi H=>∃xs x,SqT K H a xs/\xs[i]?=A? x,λi H x H'=>H'=H/\∀xs,SqT K H a xs->xs[i]?=A? x,λi H=>∃xs,SqT K H a xs/\xs.length<=i⟩
def Itr(lo:Int)(n:Nat):It:=⟨λi _=>i<n,λi H x H'=>H'=H/\x=.int (lo+i),λi _=>n<=i⟩
theorem iY(a it:Ls):Turn P w K tg (Itl K a) [it] it (λi h=>h.IsListIter it a i) where
 mem:=by simp
 obj:=λi h st b hb=>by
  have e:b=it:=by simpa using hb
  subst e;obtain⟨o,e,c,d⟩:=st;exact⟨o,e,λv z=>by rw[d]at z;cases z⟩
 keep:=λi h h' st k=>st.at λo e=>k it (by simp) o e
 item:=by
  intro X hP hw hK hc i Z s Y H E I hf st hg;subst hP hw hK;obtain⟨xs,x,hq,hx⟩:=hg;obtain⟨its,rv,p,hz⟩:=I.list hq;obtain⟨u,hu,ru⟩:=rv.get hx;obtain⟨f0,f1,f2,f3,f4,f5⟩:=hf it (by simp);refine wpAny_pyNext_list_item st p.isList (x:=u) (by simpa using hu) λh' wC sb=>?_;have I1:Inv X Z Y H {s with heap:=h'}:=I.turned (t':=s.toks) (λb o hb e=>(sb.2 b hb).trans e) f0 f1 f3 f4 f5;obtain⟨o,e,c,d⟩:=id wC;exact⟨u,B?,j1 (s:={s with heap:=h'}) e c d (by decide) ⟨x,H,I1,ru,⟨B?,λys hy=>by rw[I.list_inj hy hq];exact hx⟩,wC,λb hb=>(hf b hb).1⟩⟩
 done:=by
  intro X hP hw hK hc i Z s Y H E I hf st hg;subst hP hw hK;obtain⟨xs,hq,hx⟩:=hg;obtain⟨its,rv,p,hz⟩:=I.list hq;obtain⟨f0,f1,f2,f3,f4,f5⟩:=hf it (by simp);have hl:=rv.length;exact wpAny_pyNext_list_end (I.ok.hd hc) st p.isList (by simp;lia) λh' eb=>⟨rfl,I.turned (t':=s.toks) (λb o hb e=>eb b o hb e) f0 f1 f3 f4 f5⟩
 self:=λ_ _ _ _ _ st h=>wpAny_pyIter_listiter st h
theorem ig(a it:Ls):Turn P w K tg (Itt K a) [it] it (λi h=>h.IsTupleIter it a i) where
 mem:=by simp
 obj:=λi h st b hb=>by
  have e:b=it:=by simpa using hb
  subst e;obtain⟨o,e,c,d⟩:=st;exact⟨o,e,λv z=>by rw[d]at z;cases z⟩
 keep:=λi h h' st k=>st.at λo e=>k it (by simp) o e
 item:=by
  intro X hP hw hK hc i Z s Y H E I hf st hg;subst hP hw hK;obtain⟨xs,x,hq,hx⟩:=hg;obtain⟨its,rv,p,hz⟩:=I.tuple hq;obtain⟨u,hu,ru⟩:=rv.get hx;obtain⟨f0,f1,f2,f3,f4,f5⟩:=hf it (by simp);refine wpAny_pyNext_tuple_item st (show s.1.IsTuple a its.toArray from p) (x:=u) (by simpa using hu) λh' wC sb=>?_;have I1:Inv X Z Y H {s with heap:=h'}:=I.turned (t':=s.toks) (λb o hb e=>(sb.2 b hb).trans e) f0 f1 f3 f4 f5;obtain⟨o,e,c,d⟩:=id wC;exact⟨u,B?,j1 (s:={s with heap:=h'}) e c d (by decide) ⟨x,H,I1,ru,⟨B?,λys hy=>by rw[I.tuple_inj hy hq];exact hx⟩,wC,λb hb=>(hf b hb).1⟩⟩
 done:=by
  intro X hP hw hK hc i Z s Y H E I hf st hg;subst hP hw hK;obtain⟨xs,hq,hx⟩:=hg;obtain⟨its,rv,p,hz⟩:=I.tuple hq;obtain⟨f0,f1,f2,f3,f4,f5⟩:=hf it (by simp);have hl:=rv.length;exact wpAny_pyNext_tuple_end (I.ok.hd hc) st (show s.1.IsTuple a its.toArray from p) (by simp;lia) λh' eb=>⟨rfl,I.turned (t':=s.toks) (λb o hb e=>eb b o hb e) f0 f1 f3 f4 f5⟩
 self:=λ_ _ _ _ _ st h=>wpAny_pyIter_tupleiter st h
theorem lf(it:Ls)(lo:Int)(n:Nat):Turn P w K tg (Itr lo n) [it] it (λi h=>IsRangeIter h it (lo+(i:Nat) * 1) ((n:Int) - (i:Nat)) 1) where
 mem:=by simp
 obj:=λi h st b hb=>by
  have e:b=it:=by simpa using hb
  subst e
  exact⟨_,st,λv z=>by
   have z':Data.fields _=Data.cell v:=z;cases z'⟩
 keep:=λi h h' st k=>k it (by simp) _ st
 item:=by
  intro X hP hw hK hc i Z s Y H E I hf st hg;subst hP hw hK;obtain⟨f0,f1,f2,f3,f4,f5⟩:=hf it (by simp);have W:=Walks.range (prog:=X.prog) (w:=X.w) (I.ok.hd hc) it lo 1 n;refine W.item i s _ _ hg st λv h' tk hv wC kk=>?_;obtain⟨t,rfl⟩:=hv;have I1:Inv X Z Y H {s with heap:=h',toks:=tk}:=I.turned (λb o hb e=>kk b o (by simpa using hb) e) f0 f1 f3 f4 f5;refine⟨_,B?,j1 (s:={s with heap:=h',toks:=tk}) (n:="range_iterator") wC rfl rfl (by decide) ⟨.int (lo+i),H,I1,⟨t,?_⟩,⟨B?,B?⟩,wC,λb hb=>(hf b hb).1⟩⟩;rw[Int.mul_one]
 done:=by
  intro X hP hw hK hc i Z s Y H E I hf st hg;subst hP hw hK;obtain⟨f0,f1,f2,f3,f4,f5⟩:=hf it (by simp);exact wpAny_pyNext_range_end (I.ok.hd hc) st (by have:n<=i:=hg;lia) λh' eb=>⟨rfl,I.turned (t':=s.toks) (λb o hb e=>eb b o hb e) f0 f1 f3 f4 f5⟩
 self:=λ_ _ _ _ _ st h=>wpAny_pyIter_rangeiter st h
end L2
open L2.SqL renaming of->Tb
open L2.SqT renaming of->Ub
variable{wi:L2.TI}{J:L2.It}
namespace L2
open PySem PySem.Spec PyProof.Rows
section
variable{X:Cx}
def sY(K:Ly)(tl:TE):TI:=λY H R=>tl Y H λx H1=>∃a,x=.ref a/\(∃xs,SqL K H1 a xs)/\R (Itl K a) H1
def ud(K:Ly)(tl:TE):TI:=λY H R=>tl Y H λx H1=>∃a,x=.ref a/\(∃xs,SqT K H1 a xs)/\R (Itt K a) H1
theorem cz{l:Mv}(hl:PE X l tl):PI X tg l (sY X.K tl):=by
 intro Z s Y H R I h;refine thn (hl Z s Y H _ I h) λv s1⟨x,H1,I1,r1,q1⟩=>?_;obtain⟨a,e,⟨xs,hq⟩,q⟩:=q1;subst e;cases r1;obtain⟨its,rv,p,hz⟩:=I1.list hq;refine wpAny_pyIter_list p.isList ?_;refine⟨s1.1.1.size,[s1.1.1.size],_,_,H1,B?,I1.kept (t':=s1.toks) λb o e=>LB _ e,iY a _,⟨_,LH _ rfl,B?,B?⟩,λb hb=>?_,q⟩;have e:b=s1.1.1.size:=by simpa using hb
 subst e;exact I1.fpOk (LC _) (I1.hok.fresh (LC _))
theorem ie{l:Mv}(hl:PE X l tl):PI X tg l (ud X.K tl):=by
 intro Z s Y H R I h;refine thn (hl Z s Y H _ I h) λv s1⟨x,H1,I1,r1,q1⟩=>?_;obtain⟨a,e,⟨xs,hq⟩,q⟩:=q1;subst e;cases r1;obtain⟨its,rv,p,hz⟩:=I1.tuple hq;refine wpAny_pyIter_tuple (show s1.1.IsTuple a its.toArray from p) ?_;refine⟨s1.1.1.size,[s1.1.1.size],_,_,H1,B?,I1.kept (t':=s1.toks) λb o e=>LB _ e,ig a _,⟨_,LH _ rfl,B?,B?⟩,λb hb=>?_,q⟩;have e:b=s1.1.1.size:=by simpa using hb
 subst e;exact I1.fpOk (LC _) (I1.hok.fresh (LC _))
theorem nz{R:It->Hp->Prop}{lo hi:Int}{t u v:Tok}{tk:Nat}(I:Inv X Z Y H s)(h1:-(2 ^ 62)<=lo)(h2:lo<2 ^ 62)(h3:-(2 ^ 62)<=hi)(h4:hi<2 ^ 62)
 (q:R (Itr lo (hi - lo).toNat) H):LG (LN X.prog X.w) X.A (pyIter (.ref s.1.1.size)) (PIE X Z Y tg R) E {s with heap:=s.1.push {cls:=.type "range",data:=.fields #[.int lo t,.int hi u,.int 1 v]},toks:=tk}:=by
 refine wpAny_pyIter_range (IsRange.new ..) (small_one h1 h2 h3 h4) ?_;have I1:Inv X Z Y H {s with heap:=s.1.push {cls:=.type "range",data:=.fields #[.int lo t,.int hi u,.int 1 v]},toks:=tk}:=I.kept λb o e=>LB _ e
 refine⟨(s.1.push {cls:=.type "range",data:=.fields #[.int lo t,.int hi u,.int 1 v]}).objs.size,[(s.1.push {cls:=.type "range",data:=.fields #[.int lo t,.int hi u,.int 1 v]}).objs.size],_,_,H,B?,
  I1.kept (t':=tk) λb o e=>LB _ e,lf _ lo (hi - lo).toNat,?_,λb hb=>?_,q⟩
 .have e1:lo+((0:Nat):Int) * 1=lo:=by simp
  have e2:(((hi - lo).toNat:Nat):Int) - ((0:Nat):Int)=Builtin.Range.rangeSize lo hi 1:=by rw[rangeSize_one];split <;> lia
  show IsRangeIter _ _ (lo+((0:Nat):Int) * 1) ((((hi - lo).toNat:Nat):Int) - ((0:Nat):Int)) 1;rw[e1,e2];exact LH _ rfl
 .have e:b=(s.1.push {cls:=.type "range",data:=.fields #[.int lo t,.int hi u,.int 1 v]}).objs.size:=by simpa using hb
  subst e;exact I1.fpOk (LC _) (I1.hok.fresh (LC _))
def tu(ta:TA):TI:=λY H R=>ta Y H λvs H1=>∃j:Int,vs=[.int j]/\-(2 ^ 62)<=j/\j<2 ^ 62/\R (Itr 0 j.toNat) H1
theorem bS{a:Mv}{ta:TA}{p:Oi}(hg:Gl X "range")(hm:X.mg "range"=Ak)(ha:PA X [a] ta)(hs:L7 [a] X.env=[(AH,Nd a X.env)]:=by rfl):PI X tg (.Call (.Name "range" p) [a] [] pos) (tu ta):=by
 intro Z s Y H R I h;refine Call_ (fK I hg hm boot_range (NL (thn (ha pos Z s Y H _ I h) λus s1⟨vs,H1,I1,r1,q1⟩=>?_) hs rfl));obtain⟨j,e,q1,q2,q⟩:=q1;subst e;cases r1 with
 | cons r rr =>
   cases rr;obtain⟨t,rfl⟩:=r;exact call_range_1 (nz I1 (by lia) (by lia) q1 q2 (by simpa using q))
def tP(wi:TI)(g:TG)(tb:TS):TS:=λD Y H=>wi Y H λJ H1=>∃W:Nat->Nat->St->Hp->Prop,(∃m,W 0 m Y H1)/\∀i m Y H,W i m Y H ->
 (J.stop i H/\D.nx Y H)\/(J.go i H/\∃N:St->Hp->Prop,(∀uE H',N uE H'->∃m',m'<m/\W (i+1) m' uE H')/\∀x H',J.yld i H x H'->g x Y H' λuV H2=>tb {D with nx:=N,ct:=N,bk:=D.nx} uV H2)
def fO(fp:List Ls)(h:Ml):List (Ls×M4):=fp.filterMap λb=>(h.get? b).map λo=>(b,o)
theorem bP{o:M4}(hb:b∈fp)(e:h.get? b=A? o):(b,o)∈fO fp h:=Of.mpr ⟨b,hb,by rw[e];rfl⟩
theorem mK{p:Ls×M4}(hp:p∈fO fp h):p.1∈fp/\h.get? p.1=A? p.2:=by
 obtain⟨b,hb,e⟩:=Of.mp hp;cases q:h.get? b with
 |none=>rw[q]at e;cases e
 | some o =>
   rw[q]at e;have e':(b,o)=p:=Ma e;subst e';exact⟨hb,q⟩
theorem Inv.pinned(I:Inv X Z Y H s)(hf:∀b∈fp,dB X Z H b)(ho:∀b∈fp,∃o,s.1.get? b=A? o/\∀v,o.data≠.cell v):Inv X (Z++fO fp s.1) Y H s :=
 I.pins_of λp hp=>(Mw.mp hp).elim (λz=>I.pin p (LV _ z)) λz=>by
  obtain⟨hb,e⟩:=mK z;obtain⟨f0,f1,f2,_⟩:=hf p.1 hb;obtain⟨o,e',d⟩:=ho p.1 hb;rw[e]at e';cases e';exact⟨e,f0,f1,f2,d⟩
theorem Inv.unpinned{pl:List (Ls×M4)}(I:Inv X (Z++pl) Y H s):Inv X Z Y H s:=I.pins_of λp hp=>I.pin p (LV _ (MC _ hp))
theorem cO{g:TG}(hp:PassesOwn (LN X.prog X.w) X.A X.env X.xe)(hc:X.calm=AG)(hi:PI X tg iter wi)(hg:PG X tg g)(hb:PSs X body tb)
 (hs:∀x,Pr iter X.env x=pure x:=by intro _;rfl):PS X (.For tg iter body [] pos) (tP wi g tb):=by
 intro Z s Y H D I h;refine wpAny_For (thn (hi Z s Y H _ I h) λv s1 h1=>thn h1 λAM s2 h2=>?_) hs;obtain⟨it,fp,tn,J,H2,e,I2,T,zp,f2,W,⟨m0,w0⟩,turn⟩:=h2;subst e
 have vC:∀{H':Hp},(∀b∈fp,H' b=Ak)->∀b∈fp,dB X Z H' b:=λhn b hb=>⟨hn b hb,(f2 b hb).2⟩;refine codeAny_forLoop_any (λn s'=>∃i uE H',Inv X Z uE H' s'/\tn i s'.1/\(∀b∈fp,H' b=Ak)/\W i n uE H') ?_ m0 ⟨0,Y,H2,I2,zp,λb hb=>(f2 b hb).1,w0⟩;rintro n s3 ⟨i,xI,H3,I3,F7,F8,w3⟩;rcases turn i n xI H3 w3 with⟨stop,qn⟩|⟨go,N,hN,step⟩
 .refine NR hp (thn (T.done X rfl rfl rfl hc i Z s3 xI H3 X.xe I3 (vC F8) F7 stop) λr s4⟨hr,I4⟩=>?_);subst hr;exact OS ⟨xI,H3,I4,qn⟩
 .refine NR hp (thn (T.item X rfl rfl rfl hc i Z s3 xI H3 X.xe I3 (vC F8) F7 go) λr s4⟨u,hr,h4⟩=>?_);subst hr;refine NR hp (thn h4 λ_ s5⟨x,H5,I5,r5,y5,xJ,zr⟩=>?_);have HN:=I5.pinned (vC zr) (T.obj _ _ xJ);refine NR hp (thn (hg _ s5 xI H5 x u _ HN r5 (step x H5 y5)) λ_ s6⟨HP,H6,I6,q6⟩=>?_);refine NR hp (thn (hb _ s6 HP H6 _ I6 q6) λf s7 q7=>?_)
  have again:∀{xK:St}{H7:Hp},Inv X (Z++fO fp s5.1) xK H7 s7->N xK H7->∃m,m<n/\∃i uE H',Inv X Z uE H' s7/\tn i s7.1/\(∀b∈fp,H' b=Ak)/\W i m uE H':=λ{xK H7}I7 n7=>by
   obtain⟨m',hm,w7⟩:=hN xK H7 n7;refine⟨m',hm,i+1,xK,H7,I7.unpinned,T.keep _ _ _ xJ λb hb o e=>(I7.pin (b,o) (LV _ (LV _ (bP hb e)))).1,λb hb=>?_,w7⟩;obtain⟨o,e,d⟩:=T.obj _ _ xJ b hb;exact(I7.pin (b,o) (LV _ (LV _ (bP hb e)))).2.1
  cases f with
  |next=>obtain⟨xK,H7,I7,n7⟩:=q7;exact again I7 n7
  |cont=>obtain⟨xK,H7,I7,n7⟩:=q7;exact again I7 n7
  |brk=>obtain⟨xK,H7,I7,q7⟩:=q7;exact⟨xK,H7,I7.unpinned,q7⟩
  |ret v=>obtain⟨x7,xK,H7,I7,r7,q7⟩:=q7;exact⟨x7,xK,H7,I7.unpinned,r7,q7⟩
end
theorem eQ{g:TG}(Pv:Nat->St->Hp->Prop)(h0:Pv 0 Y H)(hl:∀i Y H,i<=xs.length->Pv i Y H->SqL K H a xs)
 (hs:∀i x Y H,xs[i]?=A? x->Pv i Y H->g x Y H λuV H2=>tb {D with nx:=Pv (i+1),ct:=Pv (i+1),bk:=D.nx} uV H2) (hd:∀Y H,Pv xs.length Y H->D.nx Y H) :
 ∃W:Nat->Nat->St->Hp->Prop,(∃m,W 0 m Y H)/\∀i m Y H,W i m Y H ->
   ((Itl K a).stop i H/\D.nx Y H)\/((Itl K a).go i H/\∃N:St->Hp->Prop,(∀uE H',N uE H'->∃m',m'<m/\W (i+1) m' uE H')/\∀x H',(Itl K a).yld i H x H'->g x Y H' λuV H2=>tb {D with nx:=N,ct:=N,bk:=D.nx} uV H2):=by
 refine⟨λi m Y H=>m=xs.length - i/\i<=xs.length/\Pv i Y H,⟨xs.length,by simp,MB _,h0⟩,?_⟩;rintro i m Y H ⟨rfl,hi,p⟩;have q:=hl i Y H hi p;by_cases uN:i<xs.length
 .refine .inr ⟨⟨xs,xs[i],q,by simp[uN]⟩,Pv (i+1),λuE H' p'=>⟨xs.length - (i+1),by lia,rfl,uN,p'⟩,λx H' y=>?_⟩;obtain⟨e,y⟩:=y;subst e;exact hs i x Y _ (y xs q) p
 .have e:i=xs.length:=by lia
  subst e;exact .inl ⟨⟨xs,q,LC _⟩,hd Y H p⟩
theorem pS{g:TG}(Pv:Nat->St->Hp->Prop)(h0:Pv 0 Y H)(hl:∀i Y H,i<=xs.length->Pv i Y H->SqT K H a xs)
 (hs:∀i x Y H,xs[i]?=A? x->Pv i Y H->g x Y H λuV H2=>tb {D with nx:=Pv (i+1),ct:=Pv (i+1),bk:=D.nx} uV H2) (hd:∀Y H,Pv xs.length Y H->D.nx Y H) :
 ∃W:Nat->Nat->St->Hp->Prop,(∃m,W 0 m Y H)/\∀i m Y H,W i m Y H ->
   ((Itt K a).stop i H/\D.nx Y H)\/((Itt K a).go i H/\∃N:St->Hp->Prop,(∀uE H',N uE H'->∃m',m'<m/\W (i+1) m' uE H')/\∀x H',(Itt K a).yld i H x H'->g x Y H' λuV H2=>tb {D with nx:=N,ct:=N,bk:=D.nx} uV H2):=by
 refine⟨λi m Y H=>m=xs.length - i/\i<=xs.length/\Pv i Y H,⟨xs.length,by simp,MB _,h0⟩,?_⟩;rintro i m Y H ⟨rfl,hi,p⟩;have q:=hl i Y H hi p;by_cases uN:i<xs.length
 .refine .inr ⟨⟨xs,xs[i],q,by simp[uN]⟩,Pv (i+1),λuE H' p'=>⟨xs.length - (i+1),by lia,rfl,uN,p'⟩,λx H' y=>?_⟩;obtain⟨e,y⟩:=y;subst e;exact hs i x Y _ (y xs q) p
 .have e:i=xs.length:=by lia
  subst e;exact .inl ⟨⟨xs,q,LC _⟩,hd Y H p⟩
theorem dO{lo:Int}{g:TG}(Pv:Nat->St->Hp->Prop)(h0:Pv 0 Y H)
 (hs:∀i Y H,i<n->Pv i Y H->g (.int (lo+i)) Y H λuV H2=>tb {D with nx:=Pv (i+1),ct:=Pv (i+1),bk:=D.nx} uV H2) (hd:∀Y H,Pv n Y H->D.nx Y H) :
 ∃W:Nat->Nat->St->Hp->Prop,(∃m,W 0 m Y H)/\∀i m Y H,W i m Y H ->
   ((Itr lo n).stop i H/\D.nx Y H)\/((Itr lo n).go i H/\∃N:St->Hp->Prop,(∀uE H',N uE H'->∃m',m'<m/\W (i+1) m' uE H')/\∀x H',(Itr lo n).yld i H x H'->g x Y H' λuV H2=>tb {D with nx:=N,ct:=N,bk:=D.nx} uV H2):=by
 refine⟨λi m Y H=>m=n - i/\i<=n/\Pv i Y H,⟨n,by simp,MB _,h0⟩,?_⟩;rintro i m Y H ⟨rfl,hi,p⟩;by_cases uN:i<n
 .refine .inr ⟨uN,Pv (i+1),λuE H' p'=>⟨n - (i+1),by lia,rfl,uN,p'⟩,λx H' y=>?_⟩;obtain⟨e,y⟩:=y;subst e y;exact hs i Y _ uN p
 .have e:i=n:=by lia
  subst e;exact .inl ⟨LC _,hd Y H p⟩
abbrev R2:=V->V->Hp->VK->Prop
def OpR(X:Cx)(f:Lu->Lu->Sem Lu)(r:R2):Prop :=
 ∀(Z:List (Ls×M4))(s:Lw)(Y:St)(H:Hp)(x y:V)(v u:Lu)(Q:VK),Inv X Z Y H s->RelV x v->RelV y u->r x y H Q ->
   LG (LN X.prog X.w) X.A (f v u) (EP X Z Y Q) X.xe s
def UnR(X:Cx)(f:Lu->Sem Lu)(r:V->Hp->VK->Prop):Prop :=
 ∀(Z:List (Ls×M4))(s:Lw)(Y:St)(H:Hp)(x:V)(v:Lu)(Q:VK),Inv X Z Y H s->RelV x v->r x H Q ->
   LG (LN X.prog X.w) X.A (f v) (EP X Z Y Q) X.xe s
def dC(X:Cx)(f:Lu)(r:List V->Hp->VK->Prop):Prop :=
 ∀(Z:List (Ls×M4))(s:Lw)(Y:St)(H:Hp)(xs:List V)(us:List Lu)(Q:VK),Inv X Z Y H s->Vals xs us->r xs H Q ->
   LG (LN X.prog X.w) X.A (call f us) (EP X Z Y Q) X.xe s
def uc(X:Cx)(r:V->Hp->(Bool->Hp->Prop)->Prop):Prop :=
 ∀(Z:List (Ls×M4))(s:Lw)(Y:St)(H:Hp)(x:V)(v:Lu)(Q:Bool->Hp->Prop),Inv X Z Y H s->RelV x v->r x H Q ->
   LG (LN X.prog X.w) X.A (truthy v) (TP X Z Y Q) X.xe s
def tOp(r:R2)(ta tb:TE):TE:=λY H Q=>ta Y H λx H1=>tb Y H1 λy H2=>r x y H2 Q
def tUn(r:V->Hp->VK->Prop)(ta:TE):TE:=λY H Q=>ta Y H λx H1=>r x H1 Q
inductive IrI(C:Int->Int->Prop)(g:Int->Int->V)(x:V)(y:V)(H:Hp)(Q:VK):Prop
 |mk (i:_) (j:_) (vX:x=.int i) (vY:y=.int j) (w6:C i j) (yz:Q (g i j) H):IrI C g x y H Q
def rI(C:Int->Int->Prop)(g:Int->Int->V):R2:=IrI C g
inductive tL(g:Int->Int->V)(x:V)(y:V)(H:Hp)(Q:VK):Prop
 |mk (i:_) (j:_) (vX:x=.int i) (vY:y=.int j) (w6:Q (g i j) H):tL g x y H Q
def rI0(g:Int->Int->V):R2:=tL g
inductive IrU(g:Int->V)(x:V)(H:Hp)(Q:VK):Prop
 |mk (i:_) (vX:x=.int i) (vY:Q (g i) H):IrU g x H Q
def rU(g:Int->V):V->Hp->VK->Prop:=IrU g
section
variable{X:Cx}{a b c:Mv}{ta tb tc:TE}
theorem rX(ha:PE X a ta)(hb:PE X b tb){R:V->V->Hp->Prop}(I:Inv X Z Y H s)
 (h:ta Y H λx H1=>tb Y H1 λy H2=>R x y H2) {f:Lu->Lu->Sem Lu}
 (hf:∀v u s2 x y H2,Inv X Z Y H2 s2->RelV x v->RelV y u->R x y H2->LG (LN X.prog X.w) X.A (f v u) Q X.xe s2) :
 LG (LN X.prog X.w) X.A (Nd a X.env) (λv uD=>LG (LN X.prog X.w) X.A (Nd b X.env) (λu vd=>LG (LN X.prog X.w) X.A (f v u) Q X.xe vd) X.xe uD) X.xe s:=by
 refine thn (ha Z s Y H _ I h) λv s1⟨x,H1,I1,r1,q1⟩=>?_;refine thn (hb Z s1 Y H1 _ I1 q1) λu s2⟨y,H2,I2,r2,q2⟩=>?_;exact hf v u s2 x y H2 I2 r1 r2 q2
theorem aw{op:Operator}{r:R2}(ho:OpR X (N8 op) r)(ha:PE X a ta)(hb:PE X b tb):PE X (.BinOp a op b pos) (tOp r ta tb):=by
 intro Z s Y H Q I h;exact wpAny_BinOp (rX ha hb I h λv u s2 x y H2 I2 rx ry q=>ho Z s2 Y H2 x y v u Q I2 rx ry q)
theorem tJ{op:UnaryOp}{r:V->Hp->VK->Prop}(ho:UnR X (unaryOp op) r)(ha:PE X a ta):PE X (.UnaryOp op a pos) (tUn r ta):=by
 intro Z s Y H Q I h;exact UnaryOp_ (thn (ha Z s Y H _ I h) λv s1⟨x,H1,I1,r1,q1⟩=>ho Z s1 Y H1 x v Q I1 r1 q1)
theorem opI{f:Lu->Lu->Sem Lu}{C:Int->Int->Prop}{g:Int->Int->Int}
 (rule:∀(i j:Int)(t u:Tok)(s:Lw)(Q:Lu->Lw->Prop)(E:Lu->Lw->Prop),C i j->Q (.int (g i j) s.toks) {s with toks:=s.toks+1}->LG (LN X.prog X.w) X.A (f (.int i t) (.int j u)) Q E s) :
 OpR X f (rI C λi j=>.int (g i j)):=by
 intro Z s Y H x y v u Q I rx ry h;obtain⟨i,j,rfl,rfl,hc,q⟩:=h;obtain⟨t,rfl⟩:=rx;obtain⟨t',rfl⟩:=ry;exact rule i j t t' s _ _ hc ⟨.int (g i j),H,I.tok _,⟨_,rfl⟩,q⟩
theorem sV{f:Lu->Lu->Sem Lu}{g:Int->Int->Int}
 (rule:∀(i j:Int)(t u:Tok)(s:Lw)(Q:Lu->Lw->Prop)(E:Lu->Lw->Prop),Q (.int (g i j) s.toks) {s with toks:=s.toks+1}->LG (LN X.prog X.w) X.A (f (.int i t) (.int j u)) Q E s) :
 OpR X f (rI0 λi j=>.int (g i j)):=by
 intro Z s Y H x y v u Q I rx ry h;obtain⟨i,j,rfl,rfl,q⟩:=h;obtain⟨t,rfl⟩:=rx;obtain⟨t',rfl⟩:=ry;exact rule i j t t' s _ _ ⟨.int (g i j),H,I.tok _,⟨_,rfl⟩,q⟩
theorem rS{f:Lu->Lu->Sem Lu}{g:Int->Int->Bool}
 (rule:∀(i j:Int)(t u:Tok)(s:Lw)(Q:Lu->Lw->Prop)(E:Lu->Lw->Prop),Q (.bool (g i j)) s->LG (LN X.prog X.w) X.A (f (.int i t) (.int j u)) Q E s) :
 OpR X f (rI0 λi j=>.bl (g i j)):=by
 intro Z s Y H x y v u Q I rx ry h;obtain⟨i,j,rfl,rfl,q⟩:=h;obtain⟨t,rfl⟩:=rx;obtain⟨t',rfl⟩:=ry;exact rule i j t t' s _ _ ⟨.bl (g i j),H,I,rfl,q⟩
def uz(i j:Int):Prop:=0<j/\j<1073741824
def CMul(i j:Int):Prop:=(-(2 ^ 64)<i/\i<2 ^ 64)\/(-(2 ^ 64)<j/\j<2 ^ 64)
theorem CMul.ok{i j:Int}(h:CMul i j):IntMulOk i j:=by
 rcases h with⟨h1,h2⟩|⟨h1,h2⟩
 .exact .of_left (intBits_le_64 h1 h2)
 .exact .of_right (intBits_le_64 h1 h2)
theorem bA:OpR X (N8 .Add) (rI0 λi j=>.int (i+j)):=sV λ_ _ _ _ _ _ _ q=>add_int q
theorem jc:OpR X (N8 .Sub) (rI0 λi j=>.int (i - j)):=sV λ_ _ _ _ _ _ _ q=>sub_int q
theorem fJ:OpR X (N8 .Mult) (rI CMul λi j=>.int (i * j)):=opI λ_ _ _ _ _ _ _ hc q=>mul_int q hc.ok
theorem bC:OpR X (N8 .FloorDiv) (rI uz λi j=>.int (i / j)):=opI λi j _ _ _ _ _ hc q=>by
 have h1:(0:Int)<j:=hc.1;have h2:j<1073741824:=hc.2;exact floordiv_int (by lia) (by rw[Int.fdiv_eq_ediv_of_nonneg i (by lia)];exact q) (.inl (PyProof.noPylong_small (by lia)))
theorem bi:OpR X (N8 .Mod) (rI (λ_ j=>0<j) λi j=>.int (i%j)):=opI λi j _ _ _ _ _ hc q=>by
 have h1:(0:Int)<j:=hc;exact mod_int' (by lia) (by rw[Int.fmod_eq_emod_of_nonneg i (by lia)];exact q)
theorem unI{f:Lu->Sem Lu}{g:Int->Int}
 (rule:∀(i:Int)(t:Tok)(s:Lw)(Q:Lu->Lw->Prop)(E:Lu->Lw->Prop),Q (.int (g i) s.toks) {s with toks:=s.toks+1}->LG (LN X.prog X.w) X.A (f (.int i t)) Q E s) :
 UnR X f (rU λi=>.int (g i)):=by
 intro Z s Y H x v Q I rx h;obtain⟨i,rfl,q⟩:=h;obtain⟨t,rfl⟩:=rx;exact rule i t s _ _ ⟨.int (g i),H,I.tok _,⟨_,rfl⟩,q⟩
theorem rc:UnR X (unaryOp .USub) (rU λi=>.int (-i)):=unI λ_ _ _ _ _ q=>neg_int q
end
def tB:V->V->Bool
 |.non,.non=>AG|.non,.int _=>AG|.int _,.non=>AG|.non,.bl _=>AG|.bl _,.non=>AG|.non,.str _=>AG|.str _,.non=>AG
 |.int _,.int _=>AG|.bl _,.bl _=>AG|.str _,.str _=>AG|.byt _,.byt _=>AG
 |.int _,.str _=>AG|.str _,.int _=>AG|.bl _,.str _=>AG|.str _,.bl _=>AG
 |_,_=>AH
inductive sg(x:V)(y:V)(H:Hp)(Q:VK):Prop
 |mk  (vX:tB x y=AG) (vY:Q (.bl (decide (x=y))) H):sg  x y H Q
def rEq:R2:=sg
inductive sO(x:V)(y:V)(H:Hp)(Q:VK):Prop
 |mk  (vX:tB x y=AG) (vY:Q (.bl (!decide (x=y))) H):sO  x y H Q
def rNe:R2:=sO
theorem l8{i j:Int}:decide (Vb i=Vb j)=(i == j):=by
 rw[Pz];simp
theorem oI{i j:Bool}:decide (V.bl i=V.bl j)=(i == j):=by
 rw[Pz];simp
theorem lY{i j:LL}:decide (V.str i=V.str j)=(i == j):=by
 rw[Pz];simp
theorem mv{i j:Array UInt8}:decide (V.byt i=V.byt j)=(i.toList == j.toList):=by
 rw[Pz];cases i;cases j;simp
section
variable{X:Cx}{a b c:Mv}{ta tb tc:TE}
theorem aG{Q:VK}{k k':Bool}(I:Inv X Z Y H s)(q:Q (.bl k) H)(e:k=k'):EP X Z Y Q (.bool k') s:=by
 subst e;exact⟨.bl k,H,I,B?,q⟩
theorem bM:OpR X (Od .Eq) rEq:=by
 intro Z s Y H x y v u Q I rx ry h;obtain⟨hs,q⟩:=h;cases x with
 | non =>
   cases rx;cases y with
   |non=>cases ry;exact PySem.EqNone.eq_none_none (aG I q (by simp))
   |bl j=>cases ry;exact PySem.EqNone.eq_none_bool (aG I q (by simp))
   |int j=>obtain⟨t',rfl⟩:=ry;exact PySem.EqNone.eq_none_int (aG I q (by simp))
   |str j=>obtain⟨t',rfl⟩:=ry;exact PySem.EqNone.eq_none_str (aG I q (by simp))
   |_=>exact Wa (show AH=AG from hs) LO
 | bl i =>
   cases rx;cases y with
   |non=>cases ry;exact PySem.EqNone.eq_bool_none (aG I q (by simp))
   |bl j=>cases ry;exact eq_bool (aG I q oI)
   |str j=>obtain⟨t',rfl⟩:=ry;exact PySem.EqMixed.eq_bool_str (aG I q (by simp))
   |_=>exact Wa (show AH=AG from hs) LO
 | int i =>
   obtain⟨t,rfl⟩:=rx;cases y with
   |non=>cases ry;exact PySem.EqNone.eq_int_none (aG I q (by simp))
   |int j=>obtain⟨t',rfl⟩:=ry;exact eq_int (aG I q l8)
   |str j=>obtain⟨t',rfl⟩:=ry;exact PySem.EqMixed.eq_int_str (aG I q (by simp))
   |_=>exact Wa (show AH=AG from hs) LO
 | str i =>
   obtain⟨t,rfl⟩:=rx;cases y with
   |non=>cases ry;exact PySem.EqNone.eq_str_none (aG I q (by simp))
   |bl j=>cases ry;exact PySem.EqMixed.eq_str_bool (aG I q (by simp))
   |int j=>obtain⟨t',rfl⟩:=ry;exact PySem.EqMixed.eq_str_int (aG I q (by simp))
   |str j=>obtain⟨t',rfl⟩:=ry;exact eq_str (aG I q lY)
   |_=>exact Wa (show AH=AG from hs) LO
 | byt i =>
   obtain⟨t,rfl⟩:=rx;cases y with
   |byt j=>obtain⟨t',rfl⟩:=ry;exact PySem.W.eq_bytes (aG I q mv)
   |_=>exact Wa (show AH=AG from hs) LO
 |_=>cases y <;> exact Wa (show AH=AG from hs) LO
theorem tE:OpR X (Od .NotEq) rNe:=by
 intro Z s Y H x y v u Q I rx ry h;obtain⟨hs,q⟩:=h;cases x with
 | non =>
   cases rx;cases y with
   |non=>cases ry;exact PySem.EqNone.ne_none_none (aG I q (by simp))
   |bl j=>cases ry;exact PySem.EqNone.ne_none_bool (aG I q (by simp))
   |int j=>obtain⟨t',rfl⟩:=ry;exact PySem.EqNone.ne_none_int (aG I q (by simp))
   |str j=>obtain⟨t',rfl⟩:=ry;exact PySem.EqNone.ne_none_str (aG I q (by simp))
   |_=>exact Wa (show AH=AG from hs) LO
 | bl i =>
   cases rx;cases y with
   |non=>cases ry;exact PySem.EqNone.ne_bool_none (aG I q (by simp))
   |bl j=>cases ry;exact ne_bool (aG I q (Xa not oI))
   |str j=>obtain⟨t',rfl⟩:=ry;exact PySem.EqMixed.ne_bool_str (aG I q (by simp))
   |_=>exact Wa (show AH=AG from hs) LO
 | int i =>
   obtain⟨t,rfl⟩:=rx;cases y with
   |non=>cases ry;exact PySem.EqNone.ne_int_none (aG I q (by simp))
   |int j=>obtain⟨t',rfl⟩:=ry;exact ne_int (aG I q (Xa not l8))
   |str j=>obtain⟨t',rfl⟩:=ry;exact PySem.EqMixed.ne_int_str (aG I q (by simp))
   |_=>exact Wa (show AH=AG from hs) LO
 | str i =>
   obtain⟨t,rfl⟩:=rx;cases y with
   |non=>cases ry;exact PySem.EqNone.ne_str_none (aG I q (by simp))
   |bl j=>cases ry;exact PySem.EqMixed.ne_str_bool (aG I q (by simp))
   |int j=>obtain⟨t',rfl⟩:=ry;exact PySem.EqMixed.ne_str_int (aG I q (by simp))
   |str j=>obtain⟨t',rfl⟩:=ry;exact ne_str (aG I q (Xa not lY))
   |_=>exact Wa (show AH=AG from hs) LO
 | byt i =>
   obtain⟨t,rfl⟩:=rx;cases y with
   |byt j=>obtain⟨t',rfl⟩:=ry;exact PySem.W.ne_bytes (aG I q (Xa not mv))
   |_=>exact Wa (show AH=AG from hs) LO
 |_=>cases y <;> exact Wa (show AH=AG from hs) LO
theorem sh:OpR X (Od .Lt) (rI0 λi j=>.bl (decide (i<j))):=rS λ_ _ _ _ _ _ _ q=>lt_int q
theorem oS:OpR X (Od .LtE) (rI0 λi j=>.bl (decide (i<=j))):=rS λ_ _ _ _ _ _ _ q=>le_int q
theorem fY:OpR X (Od .Gt) (rI0 λi j=>.bl (decide (j<i))):=rS λ_ _ _ _ _ _ _ q=>gt_int q
theorem rW:OpR X (Od .Is) (λx y H Q=>y=.non/\Q (.bl (decide (x=.non))) H):=by
 intro Z s Y H x y v u Q I rx ry h;obtain⟨rfl,q⟩:=h;cases ry;refine is_none_gen (aG I q ?_)
 cases x <;> first
  |(cases rx;rfl)
  |(obtain⟨t,rfl⟩:=rx;rfl)
theorem pq:OpR X (Od .IsNot) (λx y H Q=>y=.non/\Q (.bl (!decide (x=.non))) H):=by
 intro Z s Y H x y v u Q I rx ry h;obtain⟨rfl,q⟩:=h;cases ry;refine isnot_none_gen (aG I q ?_)
 cases x <;> first
  |(cases rx;rfl)
  |(obtain⟨t,rfl⟩:=rx;rfl)
theorem aD(b:Mv)(h:op≠.In:=by decide)(h2:op≠.NotIn:=by decide):behindInMarks op b=false:=by
 have e1:(op == CmpOp.In)=false:=by cases op <;> first|rfl|exact Wa rfl h
 have e2:(op == CmpOp.NotIn)=false:=by cases op <;> first|rfl|exact Wa rfl h2
 cases b <;> simp[behindInMarks,e1,e2]
theorem bU{r:R2}(ho:OpR X (Od op) r)(ha:PE X a ta)(hb:PE X b tb)(hm:behindInMarks op b=AH):PE X (.Compare a [op] [b] pos) (tOp r ta tb):=by
 intro Z s Y H Q I h;exact wpAny_Compare1 (rX ha hb I h λv u s2 x y H2 I2 rx ry q=>ho Z s2 Y H2 x y v u Q I2 rx ry q) hm
inductive qL(x:V)(Q:Bool->Hp->Prop)(H':Hp):Prop
 |mk (k:Bool) (vX:x=.bl k) (vY:Q k H'):qL x Q H'
def ss(t:TE):TT:=λY H Q=>t Y H λx H'=>qL x Q H'
theorem aI{r:R2}(ho:OpR X (Od op) r)(ha:PE X a ta)(hb:PE X b tb)(hm:behindInMarks op b=AH):PT X (.Compare a [op] [b] pos) (ss (tOp r ta tb)):=by
 intro Z s Y H Q I h
 refine wpAny_isTrue_Compare1 (thn (ha Z s Y H _ I h) λv s1⟨x,H1,I1,r1,q1⟩=>thn (hb Z s1 Y H1 _ I1 q1) λu s2⟨y,H2,I2,r2,q2⟩ =>
  thn (ho Z s2 Y H2 x y v u _ I2 r1 r2 q2) λc s3⟨z,H3,I3,r3,k,e,q3⟩=>?_) hm
 subst e;cases r3;exact wpAny_truthy_bool ⟨H3,I3,q3⟩
def qZ(K:Ly)(x:V)(H:Hp)(k:Bool):Prop :=
 match x with
 |.non=>k=AH
 |.bl b=>k=b
 |.int i=>k=(i != 0)
 |.str y=>y.length<=LK/\k=((y.length:Int) != 0)
 |.byt y=>y.size<=LK/\k=((y.size:Int) != 0)
 |.ref p=>(∃xs,SqL K H p xs/\k=!xs.isEmpty)\/(∃xs,SqT K H p xs/\k=!xs.isEmpty)\/∃uC,H p=A? (.dK uC)/\k=!uC.isEmpty
 |_=>False
theorem kW{κ:Type}{uC:List (κ×V)}{vs:List (κ×Lu)}(r:KV uC vs):(!vs.isEmpty)=!uC.isEmpty:=by
 cases r <;> rfl
theorem gQ(r:Vals xs its):(!its.toArray.isEmpty)=!xs.isEmpty:=by
 cases r <;> simp
theorem de:(LK:Nat)<2 ^ 63:=by rw[N7];decide
theorem r9:uc X (λx H Q=>∃k,qZ X.K x H k/\Q k H):=by
 intro Z s Y H x v Q I rx h;obtain⟨k,e,q⟩:=h;have hl:=de;have hs:LK=16777216:=N7;cases x with
 | non =>
   cases rx;have e':k=false:=e;subst e';exact truthy_none ⟨H,I,q⟩
 | bl b =>
   cases rx;have e':k=b:=e;subst e';exact wpAny_truthy_bool ⟨H,I,q⟩
 | int i =>
   obtain⟨t,rfl⟩:=rx;have e':k=(i != 0):=e;subst e';exact PySem.P.truthy_int ⟨H,I,q⟩
 | str y =>
   obtain⟨t,rfl⟩:=rx;obtain⟨hy,e'⟩:y.length<=LK/\k=((y.length:Int) != 0):=e;subst e';exact PySem.P.truthy_str (by lia) ⟨H,I.tok _,q⟩
 | byt y =>
   obtain⟨t,rfl⟩:=rx;obtain⟨hy,e'⟩:y.size<=LK/\k=((y.size:Int) != 0):=e;subst e';exact PySem.W.truthy_bytes (by lia) ⟨H,I.tok _,q⟩
 | ref p =>
   cases rx;have e':(∃xs,SqL X.K H p xs/\k=!xs.isEmpty)\/(∃xs,SqT X.K H p xs/\k=!xs.isEmpty)\/∃uC,H p=A? (.dK uC)/\k=!uC.isEmpty:=e;rcases e' with⟨xs,hx,e'⟩|⟨xs,hx,e'⟩|⟨uC,hx,e'⟩
   .subst e';obtain⟨its,r,pl,hz⟩:=I.list hx;have hlen:=r.length;exact wpAny_truthy_list pl.isList (by simp only[LD];lia) ⟨H,I.tok _,by rw[gQ r];exact q⟩
   .subst e';obtain⟨its,r,pl,hz⟩:=I.tuple hx;have hlen:=r.length;exact truthy_tuple pl (by simp only[LD];lia) ⟨H,I.tok _,by rw[gQ r];exact q⟩
   .subst e';obtain⟨hz,hS,vs,r,m⟩:uC.length<=LK/\(p == MU)=AH/\∃vs,KV uC vs/\s.1.DictOf (au X.prog X.w) p vs:=I.hok p _ hx;have hlen:uC.length=vs.length:=L3 r;exact wpAny_truthy_dict hS m (by lia) ⟨H,I.tok _,by rw[kW r];exact q⟩
 |_=>exact(show False from e).elim
theorem bF(ha:PE X a ta)(he:∀whole,isTrue a X.env whole=(do let v <-whole;standAt a.pos;holding [v] (truthy v))) :
 PT X a (λY H Q=>ta Y H λx H'=>∃k,qZ X.K x H' k/\Q k H'):=by
 intro Z s Y H Q I h;exact isTrue_plain (thn (ha Z s Y H _ I h) λv s1⟨x,H1,I1,r1,q1⟩=>r9 Z s1 Y H1 x v Q I1 r1 q1) (he _)
theorem dh:OpR X (N8 .Add) (λx y H Q=>∃i j,x=.str i/\y=.str j/\i.length+j.length<=LK/\Q (.str (i++j)) H):=by
 intro Z s Y H x y v u Q I rx ry h;obtain⟨i,j,rfl,rfl,hz,q⟩:=h;obtain⟨t,rfl⟩:=rx;obtain⟨t',rfl⟩:=ry;exact add_str (λt' tk=>⟨.str (i++j),H,I.tok _,⟨_,rfl⟩,q⟩) hz
theorem vals1{x:V}(r:Vals [x] us):∃u,us=[u]/\RelV x u:=by
 cases r with
 |cons r1 r2=>cases r2;exact⟨_,B?,r1⟩
theorem vals2{x:V}(r:Vals [x,y] us):∃u w',us=[u,w']/\RelV x u/\RelV y w':=by
 cases r with
 | cons r1 r2 =>
   cases r2 with
   |cons r3 r4=>cases r4;exact⟨_,_,B?,r1,r3⟩
theorem iD(hc:X.calm=AG):dC X (.builtin "min") (λxs H Q=>∃i j,xs=[.int i,.int j]/\Q (.int (if j<i then j else i)) H):=by
 intro Z s Y H xs us Q I r h;obtain⟨i,j,rfl,q⟩:=h;obtain⟨u,w',rfl,⟨t,rfl⟩,⟨t',rfl⟩⟩:=vals2 r;refine min_two_ints (I.ok.hd hc) λh' tk k=>⟨_,H,I.kept k,?_,q⟩;by_cases hj:j<i
 .rw[Sa hj,Sa hj];exact⟨_,B?⟩
 .rw[Ra hj,Ra hj];exact⟨_,B?⟩
end
structure ObjM(h:Ml)(x dx C:Ls)(mA:LL->Option Lu):Prop where
 obj:h.get? x=A? (Nj C dx)
 ns:h.Ns1 dx mA
 ne:dx≠x
theorem mX{dx:Ls}{mA:LL->Option Lu}(n:h.Ns1 dx mA):∃od,h.get? dx=A? od/\∀name,PY name od=A? (mA name):=by
 obtain⟨o,es,ep,ho,hd,hk,_,hm⟩:=n;refine⟨o,ho,λname=>?_⟩;have e:=hm name;unfold nsFind findBy at e;rw[<-Array.find?_toList]at e;unfold PY;rw[hd];dsimp only;split
 .rename_i y q
  rw[q]at e;exact Xa A? e
 .rename_i q
  rw[q]at e
  have a:es.toList.any (·.refKey)=false:=by
   rw[List.any_eq_false];intro y hy;obtain⟨z,t,wL⟩:=hk y (Array.mem_toList_iff.mp hy);simp[DictEntry.refKey,wL]
  have a':¬es.toList.any (·.refKey)=true:=by rw[a];exact LO
  rw[Ra a'];exact Xa A? e
theorem ObjM.look{x dx:Ls}{mA:LL->Option Lu}(I:ObjM h x dx C mA):∃od,PySem.W.InstAt h x (Nj C dx) C (A? od)/\∀name,PY name od=A? (mA name) :=
 let⟨od,ho,hl⟩:=mX I.ns
 ⟨od,⟨I.obj,rfl,rfl,ho⟩,hl⟩
section
variable{x dx:Ls}{mA:LL->Option Lu}{v:Lu}
theorem get_map{expr:Bool}(X:K.In s.1)(I:ObjM s.1 x dx C mA)(hg:Pe K C name=AG)(hh:Qm K C=AG)
 (ha:Mo K (.ref C) name=A? Ak) (hv:mA name=A? v) (yn:PySem.W.handedIn v=AG) (h:Q v {s with toks:=s.toks+1}) :
 LG (LN prog w) A (getAttr (.ref x) name expr) Q E s:=by
 obtain⟨od,J,hl⟩:=I.look;exact PySem.W.get_value X J (P7 hg).1 (PySem.W.findObj_own hh ha rfl (by rw[hl,hv])) yn h
theorem oy{pl:PySem.Sem Bool}{Q:Lu×List Lu->Lw->Prop}(X:K.In s.1)(I:ObjM s.1 x dx C mA)(hg:Pe K C name=AG)
 (hf:Mo K (.ref C) name=A? (A? (.ref f))) (ht:PySem.W.isFn K (.ref f)=AG) (hv:mA name=Ak) (h:Q (.ref f,[.ref x]) s) :
 LG (LN prog w) A (getMethod (.ref x) name pl) Q E s:=by
 obtain⟨od,J,hl⟩:=I.look;exact PySem.W.method_fn X J (P7 hg).1 (P7 hg).2 hf (beq_iff_eq.mp ht) (by show(PY name od).map (·.isSome)=A? AH;rw[hl,hv];rfl) h
theorem qc{ns:List LL}{Q:Unit->Lw->Prop}(X:K.In s.1)(I:ObjM s.1 x dx C mA)
 (hs:Mo K (.ref C) "__setattr__"=A? (A? (.builtin "object.__setattr__"))) (hp:PySem.W.plainOver K C=AG) (ht:PySem.W.takerIn K C name=A? Ak) (hh:Qm K C=AG)
 (hw:PySem.Within mA ns) (hsz:ns.length<=LK)
 (h:∀h',ObjM h' x dx C (λy=>if y=name then A? v else mA y)->MQ dx s.1 h'->Q () {s with heap:=h',toks:=s.toks+2}) :
 LG (LN prog w) A (setAttr (.ref x) name v) Q E s:=by
 obtain⟨od,J,hl⟩:=I.look;refine PySem.W.set_plain X J hs (PySem.W.osa_open (s:={s with toks:=s.toks+1}) (r:=Ak) X J hp ht λb=>?_);obtain⟨cd,hc,we⟩:=PySem.W.any_some hh;have hx:s.1.get? x=A? ⟨.ref C,A? dx,.plain,#[]⟩:=I.obj;refine Lr (Lz (Lr (Lr (wpAny_loadPart hx (Lr (PySem.W.Looks.here (s:={s with toks:=s.toks+1}) (PySem.W.looks_clsIn X hc) ?_))))));rw[we];refine Lz (a:=A? dx) (Lr (Lz (Lr ?_)));refine wpAny_nsSet1 (s:={s with toks:=s.toks+1}) I.ns λh' AN F9=>?_;obtain⟨oD,KD,KG,HQ,HR,Dj⟩:=AN.count (PySem.Within.cons name v hw);refine Lr (wpAny_lookBehind HQ (by rw[HR];exact pastItsLine_dict (Mr Dj (by rw[LP];lia))) ?_);exact Lz (h _ ⟨(F9.2 _ (MY I.ne)).trans I.obj,AN,I.ne⟩ F9)
theorem oG{vs:List Lu}(X:K.In s.1)(hm:PySem.W.makesIn K C=AG)
 (hi:Mo K (.ref C) "__init__"=A? (A? (.ref f))) (hf:PySem.W.typeIn K (.ref f)=A? (.type "function"))
 (h:NC (LN prog w) (A.under (.builtin "type.__call__" ⟨.ref C::vs,kw⟩)) (.call (.ref f) ⟨.ref (s.1.1.size+1)::vs,kw⟩) (PySem.W.InitBack (s.1.1.size+1) R)
  {s with heap:=(s.1.push MX).push (Nj C s.1.1.size)}) :
 NC (LN prog w) A (.call (.ref C) ⟨vs,kw⟩) R s:=by
 obtain⟨hh,g,d,t,os⟩:=s;exact PySem.W.make_core (PySem.W.makes_of X hm) (PySem.W.looks_findIn X hi) (λself=>PySem.W.bind_fn X self hf) (.inl rfl) h
end
def cg(f:LL)(v:V):List (LL×V)->List (LL×V)
 | []=>[(f,v)]
 |(g,x)::r=>if g=f then(g,v)::r else(g,x)::cg f v r
theorem f9(f g:LL)(v:V):∀fs:List (LL×V),(cg f v fs).lookup g=if g=f then A? v else fs.lookup g
 | []=>by
   show Nq g [(f,v)]=_;by_cases h:g=f
   .have hb:(g == f)=true:=beq_iff_eq.mpr h;simp only[Nq,hb,Sa h]
   .have hb:(g == f)=false:=beq_eq_false_iff_ne.mpr h;simp only[Nq,hb,Ra h]
 | (k,x)::r=>by
   have ih:=f9 f g v r;rw[show cg f v ((k,x)::r)=(if k=f then(k,v)::r else(k,x)::cg f v r)from rfl];by_cases hk:k=f
   .rw[Sa hk];by_cases h:g=k
    .have hb:(g == k)=true:=beq_iff_eq.mpr h;simp only[Nq,hb,Sa (h.trans hk)]
    .have hb:(g == k)=false:=beq_eq_false_iff_ne.mpr h;simp only[Nq,hb,Ra (λe:g=f=>h (e.trans hk.symm))]
   .rw[Ra hk];by_cases h:g=k
    .have hb:(g == k)=true:=beq_iff_eq.mpr h;simp only[Nq,hb,Ra (λe:g=f=>hk (h.symm.trans e))]
    .have hb:(g == k)=false:=beq_eq_false_iff_ne.mpr h;simp only[Nq,hb];exact ih
theorem fE(f:LL)(v:V):∀fs:List (LL×V),f∈(cg f v fs).map (·.1)/\∀g,g∈fs.map (·.1)->g∈(cg f v fs).map (·.1)
 | []=>⟨by simp[cg],λg h=>by simp at h⟩
 | (k,x)::r=>by
   obtain⟨i1,i2⟩:=fE f v r;rw[show cg f v ((k,x)::r)=(if k=f then(k,v)::r else(k,x)::cg f v r)from rfl];by_cases hk:k=f
   .rw[Sa hk];subst hk;exact⟨by simp,λg h=>by simpa using h⟩
   .rw[Ra hk];refine⟨?_,λg h=>?_⟩
    .rw[Mf];exact LS _ i1
    .rw[Mf]at h |-;rcases LW.mp h with e|e
     .exact LW.mpr (.inl e)
     .exact LS _ (i2 g e)
theorem gh(f:LL)(v:V):∀fs:List (LL×V),(cg f v fs).length<=fs.length+1
 | []=>by simp[cg]
 | (k,x)::r=>by
   have ih:=gh f v r;rw[show cg f v ((k,x)::r)=(if k=f then(k,v)::r else(k,x)::cg f v r)from rfl];by_cases hk:k=f
   .rw[Sa hk,LP,LP];lia
   .rw[Ra hk,LP,LP];lia
theorem RelO.some_of{o:Option Lu}(r:RelO (A? v) o):∃u,o=A? u/\RelV v u:=by
 cases o with
 |none=>exact(show False from r).elim
 |some u=>exact⟨u,B?,r⟩
theorem RelO.none_of{o:Option Lu}(r:RelO Ak o):o=none:=by
 cases o with
 |none=>rfl
 |some u=>exact(show False from r).elim
theorem mT(r:RelV v u):PySem.W.handedIn u=true:=by
 cases v with
 |non=>cases(show u=MH from r);rfl
 |bl b=>cases(show u=NO b from r);rfl
 |int i=>obtain⟨t,e⟩:=(show∃t,u=PX i t from r);cases e;rfl
 |str x=>obtain⟨t,e⟩:=(show∃t,u=Value.str x t from r);cases e;rfl
 |byt b=>obtain⟨t,e⟩:=(show∃t,u=Value.bytes b t from r);cases e;rfl
 |flt b=>obtain⟨t,e⟩:=(show∃t,u=Value.float b t from r);cases e;rfl
 |ref a=>cases(show u=Mb a from r);rfl
 |ty n=>cases(show u=P6 n from r);rfl
section
variable{dx:Ls}{fs Ai:List (LL×V)}
theorem jh(hok:HOk P w H h)(e:H a=A? (.ins C dx fs)):∃mA,ObjM h a dx C mA/\(∀f,RelO (fs.lookup f) (mA f))/\PySem.Within mA (fs.map (·.1))/\fs.length<=1000/\H dx=A? (.own a):=by
 obtain⟨d,z,ne,ob,mA,n,r,q⟩:=(show ObjOk P w H h a (.ins C dx fs)from hok a _ e);exact⟨mA,⟨ob,n,ne⟩,r,q,z,d⟩
end
structure Cls(K:Ly)(C:Ls):Prop where
 pg:Pe K C Str.empty=AG
 hd:Qm K C=AG
 po:PySem.W.plainOver K C=AG
 sa:Mo K (.ref C) "__setattr__"=A? (A? (.builtin "object.__setattr__"))
theorem Cls.get(c:Cls K C)(f:LL):Pe K C f=true:=c.pg
def NoAttr(K:Ly)(C:Ls)(f:LL):Prop:=Mo K (.ref C) f=A? Ak
theorem NoAttr.taker{f:LL}(n:NoAttr K C f):PySem.W.takerIn K C f=A? none:=by
 unfold PySem.W.takerIn;rw[show Mo K (.ref C) f=A? Ak from n];rfl
structure Meth(K:Ly)(C:Ls)(m:LL)(f:Ls):Prop where
 at_:Mo K (.ref C) m=A? (A? (.ref f))
 fn:PySem.W.isFn K (.ref f)=AG
 kp:Nw K (.ref f)=AG
section
variable{X:Cx}{dx:Ls}{fs:List (LL×V)}{f:LL}
theorem gP{b:Bool}(I:Inv X Z Y H s)(e:H a=A? (.ins C dx fs))(c:Cls X.K C)(n:NoAttr X.K C f)(l:fs.lookup f=A? v)
 (h:∀u s',Inv X Z Y H s'->RelV v u->Q u s'):LG (LN X.prog X.w) A (getAttr (.ref a) f b) Q E s:=by
 obtain⟨mA,O,r,_,_,_⟩:=jh I.hok e;obtain⟨u,hu,ru⟩:=RelO.some_of (v:=v) (o:=mA f) (by rw[<-l];exact r f);exact get_map I.kIn O (c.get f) c.hd n hu (mT ru) (h u _ (I.tok _) ru)
theorem kH{m:LL}{g:Ls}{pl:PySem.Sem Bool}{Q:Lu×List Lu->Lw->Prop}(I:Inv X Z Y H s)(e:H a=A? (.ins C dx fs))(c:Cls X.K C)(k:Meth X.K C m g)(l:fs.lookup m=Ak)
 (h:Q (.ref g,[.ref a]) s):LG (LN X.prog X.w) A (getMethod (.ref a) m pl) Q E s:=by
 obtain⟨mA,O,r,_,_,_⟩:=jh I.hok e;have hn:mA m=none:=RelO.none_of (by rw[<-l];exact r m);exact oy I.kIn O (c.get m) k.at_ k.fn hn h
theorem gB{Q:Unit->Lw->Prop}(I:Inv X Z Y H s)(e:H a=A? (.ins C dx fs))(c:Cls X.K C)(n:NoAttr X.K C f)(hl:fs.length<1000)(ry:RelV y u)
 (h:∀s',Inv X Z Y (upd H a (.ins C dx (cg f y fs))) s'->Q () s'):LG (LN X.prog X.w) A (setAttr (.ref a) f u) Q E s:=by
 obtain⟨mA,O,r,wi,_,ho⟩:=jh I.hok e;have hz:(fs.map (·.1)).length<=LK:=by rw[Lx,N7];lia
 refine qc I.kIn O c.sa c.po n.taker c.hd wi hz λh' O' sb=>h _ ?_;have hd:∃o,h'.get? dx=A? o:=let⟨o,_,_,e',_⟩:=O'.ns;⟨o,e'⟩
 refine I.write (x:=a) (e:=dx) (by rw[e];exact Ox) (.inr ho) (λb q hb z=>(sb.2 b hb).trans z) hd ?_;refine⟨by rw[ai O.ne];exact ho,?_,O.ne,O'.obj,_,O'.ns,λg=>?_,λg hg=>?_⟩
 .have:=gh f y fs;lia
 .show RelO ((cg f y fs).lookup g) (if g=f then A? u else mA g);rw[f9];by_cases q:g=f
  .rw[Sa q,Sa q];exact ry
  .rw[Ra q,Ra q];exact r g
 .by_cases q:g=f
  .rw[q];exact(fE f y fs).1
  .refine(fE f y fs).2 g (wi g λz=>hg ?_);show(if g=f then A? u else mA g)=Ak;rw[Ra q];exact z
theorem Inv.made(I:Inv X Z Y H s):Inv X Z Y (upd (upd H s.1.1.size (.own (s.1.1.size+1))) (s.1.1.size+1) (.ins C s.1.1.size []))
 {s with heap:=(s.1.push MX).push (Nj C s.1.1.size)}:=by
 have e1:(s.1.push MX).get? s.1.1.size=A? MX:=LH s.1 rfl
 have e2:((s.1.push MX).push (Nj C s.1.1.size)).get? (s.1.1.size+1)=A? (Nj C s.1.1.size):=by
  have:=LH (s.1.push MX) (o:=Nj C s.1.1.size) rfl
  rwa [N9]at this
 have e3:(s.1.push MX).Ns s.1.1.size (λ_=>Ak):=⟨MX,#[],_,e1,rfl,(λe he=>Wa he (by simp)),λ_=>rfl⟩;have I1:=I.laid (a:=s.1.1.size) (o:=.own (s.1.1.size+1)) (h':=s.1.push MX) (t':=s.toks) (λb u q=>LB _ q) (LC _) ⟨_,e1⟩;refine I1.laid (a:=s.1.1.size+1) (o:=.ins C s.1.1.size []) (t':=s.toks) (λb u q=>LB _ q) (Nat.le_of_eq (N9 _ _)) ?_;have ne:s.1.1.size≠s.1.1.size+1:=Mc (Pg _);refine⟨by rw[ai ne,af],MB _,ne,e2,λ_=>Ak,(Heap.Ns1.of_empty e3).at λo q=>LB _ q,λ_=>Ox,λy hy=>Wa rfl hy⟩
theorem pJ{f:LL}(hb:PF e f env (Nd e env)=Nd e env)
 (h:LG (LN prog w) A (Nd e env) (λo uD=>LG (LN prog w) A (getAttr o f AG) Q E uD) E s):LG (LN prog w) A (Nd (.Attribute e f pos) env) Q E s :=
 Attribute_any_ h (by rw[arm_eval_Attribute,hb])
end
def uf(K:Ly)(ta:TE)(f:LL):TE:=λY H Q=>ta Y H λx H1=>∃a C dx fs v,x=.ref a/\H1 a=A? (.ins C dx fs)/\Cls K C/\NoAttr K C f/\fs.lookup f=A? v/\Q v H1
def tY(K:Ly)(ta tv:TE)(f:LL):TS:=λD Y H=>tv Y H λy H1=>ta Y H1 λx H2=>∃a C dx fs,x=.ref a/\H2 a=A? (.ins C dx fs)/\Cls K C/\NoAttr K C f/\fs.length<1000 /\
 D.nx Y (upd H2 a (.ins C dx (cg f y fs)))
def sK(X:Cx)(op:Operator)(rd:V->V->Hp->VK->Prop):Prop :=
 ∀(Z:List (Ls×M4))(s:Lw)(Y:St)(H:Hp)(x y:V)(u v:Lu)(Q:VK),Inv X Z Y H s->RelV x u->RelV y v->rd x y H Q->LG (LN X.prog X.w) X.A (inplaceOp op u v) (EP X Z Y Q) X.xe s
def pG(K:Ly)(ta tv:TE)(rd:V->V->Hp->VK->Prop)(f:LL):TS:=λD Y H=>ta Y H λx H1=>∃a C dx fs v,x=.ref a/\H1 a=A? (.ins C dx fs)/\Cls K C/\NoAttr K C f/\fs.lookup f=A? v /\
 tv Y H1 λy H2=>rd v y H2 λz H3=>∃Dk Ai,H3 a=A? (.ins C Dk Ai)/\Ai.length<1000/\D.nx Y (upd H3 a (.ins C Dk (cg f z Ai)))
section
variable{X:Cx}{o value:Mv}{f:LL}{pos' AO:Oi}{ta tv:TE}
theorem oA(he:PE X e ta)(hb:PF e f X.env (Nd e X.env)=Nd e X.env):PE X (.Attribute e f pos) (uf X.K ta f):=by
 intro Z s Y H Q I h;refine pJ hb (thn (he Z s Y H _ I h) λu s1⟨x,H1,I1,rx,a,C,dx,fs,v,ex,ea,c,n,l,q⟩=>?_);subst ex;obtain rfl:u=Mb a:=rx;exact gP I1 ea c n l λu' s2 I2 ru=>⟨v,H1,I2,ru,q⟩
theorem nV(ha:PE X o ta)(hv:PE X value tv)(hs:swapsWith value (A? (.Attribute o f pos')) pos.line X.env=pure AH):PS X (.Assign [.Attribute o f pos'] value pos) (tY X.K ta tv f):=by
 intro Z s Y H D I h;refine plainObj_wpAny_Assign_Attribute (thn (hv Z s Y H _ I h) λu s1⟨y,H1,I1,ry,q⟩=>thn (ha Z s1 Y H1 _ I1 q) λov s2⟨x,H2,I2,rx,a,C,dx,fs,ex,ea,c,n,l,q2⟩=>?_) hs;subst ex;obtain rfl:ov=Mb a:=rx;exact gB I2 ea c n l ry λs3 I3=>⟨Y,_,I3,q2⟩
theorem iQ{op:Operator}{rd:V->V->Hp->VK->Prop}(ha:PE X o ta)(hv:PE X value tv)(HS:sK X op rd):PS X (.AugAssign (.Attribute o f AO) op value pos) (pG X.K ta tv rd f):=by
 intro Z s Y H D I h;refine wpAny_AugAssign_AttributeAny (thn (ha Z s Y H _ I h) λov s1⟨x,H1,I1,rx,a,C,dx,fs,v,ex,ea,c,n,l,q⟩=>?_);subst ex;obtain rfl:ov=Mb a:=rx;refine gP I1 ea c n l λu s2 I2 ru=>thn (hv Z s2 Y H1 _ I2 q) λw3 s3⟨y,H2,I3,ry,q3⟩=>thn (HS Z s3 Y H2 v y u w3 _ I3 ru ry q3) λw4 s4⟨z,H3,I4,rz,Dk,Ai,zt,l',q4⟩=>?_;exact gB I4 zt c n l' rz λs5 I5=>⟨Y,_,I5,q4⟩
def ut:V->V->Hp->VK->Prop:=λx y H Q=>∃i j,x=.int i/\y=.int j/\Q (.int (i+j)) H
theorem nZ:sK X .Add ut:=by
 rintro Z s Y H x y u v Q I rx ry ⟨i,j,rfl,rfl,q⟩;obtain⟨t,rfl⟩:=(show∃t,u=PX i t from rx);obtain⟨t',rfl⟩:=(show∃t',v=PX j t' from ry);exact PyProof.Rows.iadd_int ⟨.int (i+j),H,I.tok _,⟨_,rfl⟩,q⟩
end
section
variable{X:Cx}{c:Lu}{b:Bool}
end
structure Room(k:Nat)(A:LU):Prop where
 hd:A.handled=Ak
 dp:A.depth+3 * k+5<recursionLimit
 un:A.units+16 * k+200<Nl
theorem Room.mono{k:Nat}(r:Room k A)(h:j<=k):Room j A:=⟨r.hd,by have:=r.dp;lia,by have:=r.un;lia⟩
theorem Room.deeper{k:Nat}(r:Room (k+1) A)(env:OJ):Room k (A.deeper env) :=
 ⟨r.hd,by have:=r.dp;show A.depth+1+3 * k+5<_;lia,by have:=r.un;show A.units+3+16 * k+200<_;lia⟩
theorem kK:(A.under (.builtin "type.__call__" ⟨.ref C::us,kw⟩)).depth=A.depth+1:=by
 first|rfl|simp[Around.under,Code.weight,Code.isCreation,Code.isGuard,Code.isCaller,Code.frames,Code.isFrame,guardIds]
theorem kY:(A.under (.builtin "type.__call__" ⟨.ref C::us,kw⟩)).units=A.units+1:=by
 first|rfl|simp[Around.under,Code.cUnits,Code.frames,Code.isFrame]
theorem Room.make{k:Nat}(r:Room (k+1) A)(C:Ls)(us:List Lu)(kw:List (LL×Lu)):Room k (A.under (.builtin "type.__call__" ⟨.ref C::us,kw⟩)) :=
 ⟨r.hd,by have:=r.dp;rw[kK];lia,by have:=r.un;rw[kY];lia⟩
theorem Room.depth{k:Nat}(r:Room k A):A.depth<recursionLimit:=by have:=r.dp;lia
theorem Room.units{k:Nat}(r:Room k A):A.units+64<Nl:=by have:=r.un;lia
def cM:TA:=λ_ H Q=>Q [] H
def aO(ta:TE)(tr:TA):TA:=λY H Q=>ta Y H λx H1=>tr Y H1 λxs H2=>Q (x::xs) H2
section
variable{X:Cx}{t:TA}
theorem ac:PA X [] cM:=λ_ _ _ _ H Q I h=>OF ⟨[],H,I,.nil,h⟩
theorem aa(ha:PE X e te)(hr:PA X es t)(hs:L7 (e::es) X.env=(AH,Nd e X.env)::L7 es X.env:=by rfl):PA X (e::es) (aO te t):=by
 intro pos Z s Y H Q I h;rw[hs];show LG _ _ (spliced ((AH,Nd e X.env)::NG pos (L7 es X.env))) _ _ s;refine NQ (thn (ha Z s Y H _ I h) λu s1⟨x,H1,I1,r1,q1⟩=>?_);exact thn (hr pos Z s1 Y H1 _ I1 q1) λus s2⟨xs,H2,I2,r2,q2⟩=>⟨x::xs,H2,I2,.cons r1 r2,q2⟩
def nA(t:TA):TE:=λY H Q=>t Y H λxs H1=>xs.length<=LK/\∀p,H1 p=Ak->Q (.ref p) (upd H1 p (.tup xs))
def sj(t:TA):TE:=λY H Q=>t Y H λxs H1=>xs.length<=LK/\∀p,H1 p=Ak->Q (.ref p) (upd H1 p (.lst xs))
theorem av{x1}(h:PA X es t):PE X (.Tuple es x1 pos) (nA t):=by
 intro Z s Y H Q I hq;refine wpAny_Tuple_spliced (thn (h pos Z s Y H _ I hq) λus s1⟨xs,H1,I1,r,z,q⟩=>⟨by rw[<-r.length];exact z,?_⟩);have hf:H1 s1.1.1.size=none:=I1.hok.fresh (LC _);refine⟨.ref s1.1.1.size,upd H1 s1.1.1.size (.tup xs),I1.laid (t':=s1.toks) (λb u e=>LB _ e) (LC _) ?_,B?,q _ hf⟩;exact⟨z,us,0,r,LH _ rfl⟩
theorem bf(h:PA X es t):PE X (.List es pos) (sj t):=by
 intro Z s Y H Q I hq;refine wpAny_List_spliced (thn (h pos Z s Y H _ I hq) λus s1⟨xs,H1,I1,r,z,q⟩=>⟨by rw[<-r.length];exact z,?_⟩);have hf:H1 s1.1.1.size=none:=I1.hok.fresh (LC _);refine⟨.ref s1.1.1.size,upd H1 s1.1.1.size (.lst xs),I1.laid (t':=s1.toks) (λb u e=>LB _ e) (LC _) ?_,B?,q _ hf⟩;exact⟨z,us,0,r,LH _ rfl⟩
end
abbrev Sp:=List V->Hp->VK->XK->Prop
abbrev CXT:=List OJ->Hp->Lw->XK->Lu->Lw->Prop
structure Env0(P:LF)(w:LQ)(K:Ly)(mg:LL->Option Lu)(base:Ml)(A:LU)(outer:List OJ)(s:Lw)(H:Hp):Prop where
 frames:A.frames=A? outer
 mod:Mod K mg base
 bs:∀b o,base.get? b=A? o->s.1.get? b=A? o/\H b=Ak
 bsz:base.objs.size<=s.1.1.size
 funs:s.1.FunFrames base outer
 frf:∀b∈frs outer,H b=Ak
 hok:HOk P w H s.1
 bare:Qf s.gens
def CE(outer:List OJ)(P:LF)(w:LQ)(H:Hp)(s:Lw)(Q:VK)(u:Lu)(s':Lw):Prop :=
 ∃v H',s'.os=s.os/\Qf s'.gens/\Un (frs outer) [] H H' s.1 s'.1/\HOk P w H' s'.1/\RelV v u/\Q v H'
def CR(CX:CXT)(outer:List OJ)(P:LF)(w:LQ)(H:Hp)(s:Lw)(Q:VK)(E:XK)(r:PH)(s':Lw):Prop :=
 match r with
 |.ok (.ret u)=>CE outer P w H s Q u s'
 |.ok _=>False
 |.error e=>CX outer H s E e s'
structure FnOk(P:LF)(w:LQ)(K:Ly)(mg:LL->Option Lu)(base:Ml)(CX:CXT)(k:Nat)(f:Ls)(fd:M7)(ps:List LL)(sp:Sp):Prop where
 len:∀vs H Q E,sp vs H Q E->vs.length=ps.length
 run:∀(A:LU)(outer:List OJ)(s:Lw)(H:Hp)(args:Args)(us:List Lu)(vs:List V)(Q:VK)(E:XK),Room k A->Env0 P w K mg base A outer s H->BindsTo s fd args (ps.zip us)->Vals vs us->sp vs H Q E ->
  NC (LN P w) A (.call (.ref f) args) (CR CX outer P w H s Q E) s
theorem Env0.make(e:Env0 P w K mg base A outer s H)(C:Ls)(us:List Lu)(kw:List (LL×Lu)) :
 Env0 P w K mg base (A.under (.builtin "type.__call__" ⟨.ref C::us,kw⟩)) outer s H:=⟨by first|exact e.frames|(simpa[Around.under,Code.envs,Code.isFrame,pushEnvs]using e.frames),e.mod,e.bs,e.bsz,e.funs,e.frf,e.hok,e.bare⟩
section
variable{X:Cx}
theorem Inv.env0(I:Inv X Z Y H s):Env0 X.prog X.w X.K X.mg X.base X.A X.stack s H :=
 ⟨I.ok.frames,I.ok.mod,I.bs,Mr I.ok.bsz I.sz,I.stack,I.stkFree,I.hok,I.bare⟩
theorem Inv.after{Q:VK}(I:Inv X Z Y H s)(h:CE X.stack X.prog X.w H s Q u s'):EP X Z Y Q u s':=by
 obtain⟨v,H',os,bare,un,hok,r,q⟩:=h;obtain⟨hh,g,d,t,HU⟩:=s';obtain rfl:HU=s.os:=os;exact⟨v,H',I.call (h':=hh) (g':=g) (d':=d) (t':=t) (ch:=[]) un hok bare (λb z=>Wa z (by simp)),r,q⟩
end
def fW(sp:Sp)(vn:List V)(E:XK)(t:TA):TE:=λY H Q=>t Y H λvs H1=>sp (vs++vn) H1 Q E
def sZ(C:Ls)(m:LL)(sp:Sp)(vn:List V)(E:XK)(ta:TE)(t:TA):TE:=λY H Q=>ta Y H λx H1=>∃a dx fs,x=.ref a/\H1 a=A? (.ins C dx fs)/\fs.lookup m=Ak /\
 t Y H1 λvs H2=>sp (x::(vs++vn)) H2 Q E
def tF(C:Ls)(sp:Sp)(vn:List V)(E:XK)(t:TA):TE:=λY H Q=>t Y H λvs H1=>∀x dx,H1 x=Ak->H1 dx=Ak->dx≠x ->
 sp (.ref x::(vs++vn)) (upd (upd H1 dx (.own x)) x (.ins C dx [])) (λv H2=>v=.non/\Q (.ref x) H2) E
def Binds(K:Ly)(fd:M7)(ps:List LL)(ds:List Lu):Prop :=
 ∀(s:Lw)(us:List Lu),K.In s.1->(us++ds).length=ps.length->BindsTo s fd ⟨us,[]⟩ (ps.zip (us++ds))
theorem Binds.all(h:∀us:List Lu,us.length=ps.length->Pd fd ⟨us,[]⟩=pure (ps.zip us)):Binds K fd ps []:=λs us _ hl=>by
 rw[ME]at hl |-;exact .of_eq (h us hl)
def Passes(CX:CXT)(X:Cx)(E:XK):Prop:=∀(Z:List (Ls×M4))(Y:St)(H:Hp)(s:Lw)(e:Lu)(s':Lw),Inv X Z Y H s->CX X.stack H s E e s'->X.xe e s'
section
variable{X:Cx}{CX:CXT}{k:Nat}{sp:Sp}{vn:List V}{ds:List Lu}{E:XK}{m:LL}{p apos:Oi}{o:Mv}{ta:TE}{t:TA}
theorem n8{Q:VK}(F:FnOk X.prog X.w X.K X.mg X.base CX k f fd ps sp)(hr:Room k X.A)(hb:Binds X.K fd ps ds)(hd:Vals vn ds)(hx:Passes CX X E)
 (I:Inv X Z Y H s) (r:Vals vs us) (h:sp (vs++vn) H Q E):LG (LN X.prog X.w) X.A (call (.ref f) us) (EP X Z Y Q) X.xe s:=by
 have r2:Vals (vs++vn) (us++ds):=r.append hd;have hl:(us++ds).length=ps.length:=by rw[<-r2.length];exact F.len _ _ _ _ h
 refine wpAny_call (Oe (F.run X.A X.stack s H ⟨us,[]⟩ (us++ds) (vs++vn) Q E hr I.env0 (hb s us I.kIn hl) r2 h) λr s' hq=>?_);cases r with
 |error e=>exact hx Z Y H s e s' I hq
 | ok fl =>
   cases fl with
   |ret u=>exact I.after hq
   |next=>exact MA hq
   |brk=>exact MA hq
   |cont=>exact MA hq
theorem b7(F:FnOk X.prog X.w X.K X.mg X.base CX k f fd ps sp)(hr:Room k X.A)(hg:Gl X x)(hm:X.mg x=A? (.ref f))(hk:Nw X.K (.ref f)=AG)(hb:Binds X.K fd ps ds)(hd:Vals vn ds)(hx:Passes CX X E)
 (ha:PA X (e::es) t) (wM:(x == ("__debug__":LL))=false:=by decide) (he:L7 (e::es) X.env=(AH,Nd e X.env)::L7 es X.env:=by rfl) (vL:(NG pos (L7 es X.env)).any (·.1)=false:=by rfl) :
 PE X (.Call (.Name x p) (e::es) [] pos) (fW sp vn E t):=by
 intro Z s Y H Q I h;refine MT (dU I hg hm ?_ wM);refine OO (h₀:=X.base) I.ok.mod.kin hk (thn (ha pos Z s Y H _ I h) λus s1⟨vs,H1,I1,r,q⟩=>⟨I1.kIn,?_⟩) he vL;exact n8 F hr hb hd hx I1 r q
theorem pL{pl:PySem.Sem Bool}(he:PE X o ta)(c:Cls X.K C)(hm:Meth X.K C m f)(F:FnOk X.prog X.w X.K X.mg X.base CX k f fd ps sp)(hr:Room k X.A)(hb:Binds X.K fd ps ds)(hd:Vals vn ds)(hx:Passes CX X E)(ha:PA X (e::es) t)
 (uY:L7 (e::es) X.env=(AH,Nd e X.env)::L7 es X.env:=by rfl) (vL:(NG pos (L7 es X.env)).any (·.1)=false:=by rfl)
 (ht:Nd (.Call (.Attribute o m apos) (e::es) [] pos) X.env=(do
  let ov <-Nd o X.env
  standAt apos.atName
  let(f,first) <-holding [ov] (getMethod ov m pl)
  callWith pos f first (NG pos (L7 (e::es) X.env)) (backToKw pos (keywordEach [] X.env))):=by rfl) :
 PE X (.Call (.Attribute o m apos) (e::es) [] pos) (sZ C m sp vn E ta t):=by
 intro Z s Y H Q I h;refine PySem.W.methodCall_KW (pl:=pl) (thn (he Z s Y H _ I h) λu s1⟨x,H1,I1,rx,a,dx,fs,ex,ea,l,q⟩=>?_) ht;subst ex;obtain rfl:u=Mb a:=rx;refine kH I1 ea c hm l ?_;refine OO (first:=[.ref a]) (h₀:=X.base) I.ok.mod.kin hm.kp (thn (ha pos Z s1 Y H1 _ I1 q) λus s2⟨vs,H2,I2,r,q2⟩=>⟨I2.kIn,?_⟩) uY vL;exact n8 (us:=.ref a::us) (vs:=.ref a::vs) F hr hb hd hx I2 (.cons rfl r) q2
structure Mk(K:Ly)(C f:Ls):Prop where
 makes:PySem.W.makesIn K C=AG
 init:Mo K (.ref C) "__init__"=A? (A? (.ref f))
 fn:PySem.W.isFn K (.ref f)=AG
 kp:Nw K (.ref C)=AG
theorem pc{Q:VK}(M:Mk X.K C f)(F:FnOk X.prog X.w X.K X.mg X.base CX k f fd ps sp)(hr:Room (k+1) X.A)(hb:Binds X.K fd ps ds)(hd:Vals vn ds)
 (hx:Passes CX X E) (I:Inv X Z Y H s) (r:Vals vs us)
 (h:∀x dx,H x=Ak->H dx=Ak->dx≠x->sp (.ref x::(vs++vn)) (upd (upd H dx (.own x)) x (.ins C dx [])) (λv H2=>v=.non/\Q (.ref x) H2) E) :
 LG (LN X.prog X.w) X.A (call (.ref C) us) (EP X Z Y Q) X.xe s:=by
 have hq:=h (s.1.1.size+1) s.1.1.size (I.hok.fresh (Nat.le_succ _)) (I.hok.fresh (LC _)) (Mc (Pg _));have I2:=Inv.made (C:=C) I;have r2:Vals (Rb (s.1.1.size+1)::(vs++vn)) (Mb (s.1.1.size+1)::(us++ds)):=.cons rfl (r.append hd)
 have hl:(Mb (s.1.1.size+1)::us++ds).length=ps.length:=by
  have e:=r2.length;rw[F.len _ _ _ _ hq]at e;exact e.symm
 refine wpAny_call (oG (f:=f) I.kIn M.makes M.init (beq_iff_eq.mp M.fn) (Oe (F.run _ X.stack _ _ ⟨Mb (s.1.1.size+1)::us,[]⟩ (Mb (s.1.1.size+1)::(us++ds)) _ _ E (hr.make C us [])
  (I2.env0.make C us []) (hb _ (Mb (s.1.1.size+1)::us) I2.kIn hl) r2 hq) λr s' AQ=>?_))
 cases r with
 |error e=>exact hx Z Y _ _ e s' I2 AQ
 | ok fl =>
   cases fl with
   | ret u =>
     obtain⟨v,H',I3,rv,ev,q3⟩:=I2.after AQ;subst ev;exact⟨rv,⟨Rb (s.1.1.size+1),H',I3,B?,q3⟩⟩
   |next=>exact MA AQ
   |brk=>exact MA AQ
   |cont=>exact MA AQ
theorem nw(M:Mk X.K C f)(F:FnOk X.prog X.w X.K X.mg X.base CX k f fd ps sp)(hr:Room (k+1) X.A)(hg:Gl X x)(hm:X.mg x=A? (.ref C))(hb:Binds X.K fd ps ds)(hd:Vals vn ds)(hx:Passes CX X E)
 (wM:(x == ("__debug__":LL))=false:=by decide):PE X (.Call (.Name x p) [] [] pos) (tF C sp vn E cM):=by
 intro Z s Y H Q I h;refine MT (dU I hg hm ?_ wM);exact PySem.W.callWith_K0 I.kIn M.kp (pc (us:=[]) M F hr hb hd hx I .nil h)
end
section
variable{X:Cx}{CX:CXT}{k:Nat}{ks:List LL}{sp:Sp}{E:XK}{m:LL}{p apos HV:Oi}{o:Mv}{KH:List Keyword}{ta:TE}{t tk:TA}{nm:Option LL}
variable{g:List Lu->List Lu->List Lu}{gV:List V->List V->List V}
end
structure bX(N P:List LL)(sc:MS):Prop where
 kind:sc.kind=.function
 co:sc.isCoroutine=AH
 gen:sc.isGenerator=AH
 nd:N.Nodup
 pre:N.take P.length=P
 par:∀x∈P,sc.names.lookup x=A? .local\/sc.names.lookup x=A? .cell
 nofree:∀y∈sc.names,y.2≠.free
theorem iA:∀{binds:List (LL×Lu)}{m:LL->Option Lu},(∀v,(x,v)∉binds)->bindL kindOf binds m x=m x
 | [],_,_=>rfl
 | (n,v)::r,m,h=>by
   unfold bindL;rw[iA λw hw=>h w (LS _ hw)];split
   .have:x≠n:=by rintro rfl;exact h v L5
    simp[this]
   .rfl
theorem iJ:∀{binds:List (LL×Lu)}{m:LL->Option Lu},(∀v,(x,v)∉binds)->bindC kindOf binds m x=m x
 | [],_,_=>rfl
 | (n,v)::r,m,h=>by
   unfold bindC;rw[iJ λw hw=>h w (LS _ hw)];split
   .rfl
   .have:x≠n:=by rintro rfl;exact h v L5
    simp[this]
theorem iS{v:Lu}:∀{P:List LL}{vs:List Lu}{i:Nat}{m:LL->Option Lu},P.Nodup->P[i]?=A? x->vs[i]?=A? v->kindOf x=A? .local ->
 bindL kindOf (P.zip vs) m x=A? v
 | [],_,_,_,_,h,_,_=>by simp at h
 |_::_,[],_,_,_,_,h,_=>by simp at h
 | p::P,w::vs,0,m,nd,h1,h2,hk=>by
   simp at h1 h2;subst h1;subst h2;show bindL kindOf ((p,w)::P.zip vs) m p=_;unfold bindL;rw[iA λv hv=>(OG.mp nd).1 (Pw hv).1,Sa hk];simp
 | p::P,w::vs,i+1,m,nd,h1,h2,hk=>by
   show bindL kindOf ((p,w)::P.zip vs) m x=_;unfold bindL;exact iS (i:=i) (OG.mp nd).2 (by simpa using h1) (by simpa using h2) hk
theorem iP{v:Lu}:∀{P:List LL}{vs:List Lu}{i:Nat}{m:LL->Option Lu},P.Nodup->P[i]?=A? x->vs[i]?=A? v->kindOf x≠A? .local ->
 bindC kindOf (P.zip vs) m x=A? v
 | [],_,_,_,_,h,_,_=>by simp at h
 |_::_,[],_,_,_,_,h,_=>by simp at h
 | p::P,w::vs,0,m,nd,h1,h2,hk=>by
   simp at h1 h2;subst h1;subst h2;show bindC kindOf ((p,w)::P.zip vs) m p=_;unfold bindC;rw[iJ λv hv=>(OG.mp nd).1 (Pw hv).1,Ra hk];simp
 | p::P,w::vs,i+1,m,nd,h1,h2,hk=>by
   show bindC kindOf ((p,w)::P.zip vs) m x=_;unfold bindC;exact iP (i:=i) (OG.mp nd).2 (by simpa using h1) (by simpa using h2) hk
def start(N:List LL)(vs:List V):St:=vs.map A?++Oq (N.length - vs.length) Ak
def gv(CX:CXT)(P:LF)(w:LQ)(K:Ly)(mg:LL->Option Lu)(base:Ml)(N:List LL)(qual:LL)(scope:MS)(f:Ls)(cd:Lu)(A:LU)(outer:List OJ)(s:Lw)(H:Hp)(E:XK):Cx where
 prog:=P
 w:=w
 K:=K
 mg:=mg
 base:=base
 A:=A.deeper (NB qual scope s.1.1.size f cd)
 N:=N
 s₀:=s
 H₀:=H
 env:=NB qual scope s.1.1.size f cd
 outer:=outer
 stack:=NB qual scope s.1.1.size f cd::outer
 ex:=[]
 calm:=AG
 fn:=λ_=>AG
 pn:=[]
 xe:=λe s'=>LG (LN P w) (A.deeper (NB qual scope s.1.1.size f cd)) (leaving (NB qual scope s.1.1.size f cd) e) (λ_ xi=>CX outer H s E e xi) (λe' xi=>CX outer H s E e' xi) s'
theorem jP(h:sc.names.lookup x=A? .cell):∃c,(PV n sc.names []).lookup x=A? c:=by
 have q:=PySem.W.cellsFrom_some sc.names n [] (.inl h);exact O4.mp q
theorem mC{CX:CXT}{E:XK}
 (S:bX N ps scope) (hd:A.handled=Ak) (e0:Env0 P w K mg base A outer s H) (hl:vs.length=ps.length) (r:Vals vs us)
 (x:InCallC s s.1.1.size (bindL (NB qual scope s.1.1.size f cd).kindOf (ps.zip us) λ_=>Ak) (PV (s.1.1.size+1) scope.names []) (bindC (NB qual scope s.1.1.size f cd).kindOf (ps.zip us) λ_=>Ak) s1) :
 Inv (gv CX P w K mg base N qual scope f cd A outer s H E) [] (start N vs) H s1:=by
 have vL:ps.length<=N.length:=by have:=Xa NU S.pre;rw[Mj]at this;lia
 obtain⟨h1,tk,rfl,hk⟩:=x.done;have Dl:∀b:Ls,b∉(gv CX P w K mg base N qual scope f cd A outer s H E).ex:=λb z=>Wa (show b∈([]:List Ls)from z) (by simp)
 refine⟨⟨e0.mod,S.kind,B?,B?,LC _,λy z c h1 h2=>?_,λy hy=>?_,λy c _ h=>?_,λ_=>hd,Around.frames_deeper e0.frames,.inr ⟨B?,B?⟩,λb z=>Wa z (Dl b),e0.bs,e0.bsz,λb _ _=>Dl b,λb z=>Wa z (Dl b),e0.funs,e0.frf⟩,
  rfl,e0.bare,Un.kept hk,⟨_,x.toInCall.ns,λi y v h1 h2 h3=>?_⟩,λy c h=>⟨_,x.cell y c h⟩,e0.hok.fresh (LC _),λy c h=>?_,λp hp=>Wa (show p∈([]:List (Ls×M4))from hp) (by simp),e0.hok.kept hk,?_⟩
 .exact name_of_addr x.apart (Mn h1) (Mn h2)
 .have hy:scope.names.lookup y=A? .cell\/scope.names.lookup y=A? .free:=hy;rcases hy with hy|hy
  .exact jP hy
  .exact Wa rfl (S.nofree _ (Mn hy))
 .exact N0 (x.above y c (Mn h))
 .have hi:i<vs.length:=by
   unfold start at h2;by_cases hi:i<vs.length
   .exact hi
   .rw[NW (by simpa using hi)]at h2;rw[List.getElem?_replicate]at h2;split at h2 <;> cases h2
  have ha:vs[i]?=A? v:=by
   unfold start at h2;rw[M6 (by simpa using hi),LZ]at h2;cases e:vs[i]? with
   |none=>rw[e]at h2;cases h2
   |some a=>rw[e]at h2;cases h2;rfl
  obtain⟨u,hu,rv⟩:=r.get ha
  have hp:ps[i]?=A? y:=by
   rw[<-S.pre,List.getElem?_take_of_lt (by lia)];exact h1
  have ndP:ps.Nodup:=by rw[<-S.pre];exact S.nd.sublist (List.take_sublist _ _)
  refine⟨u,rv,?_⟩;rcases S.par y (L9 hp)with k|k
  .exact .inl ⟨k,iS ndP hp hu k⟩
  .obtain⟨c,e⟩:=jP (n:=s.1.1.size+1) k;refine .inr ⟨.inl k,c,e,?_⟩;have q:=x.cell y c e;rw[iP ndP hp hu (by show scope.names.lookup y≠_;rw[k];decide)]at q;exact q
 .exact e0.hok.fresh (N0 (x.above y c (Mn h)))
 .unfold start;show _=N.length;rw[LR,Lx,List.length_replicate];lia
theorem ny{CX:CXT}{k:Nat}{dV kV doc pm uI ct:Lu}{an:Option Ls}
 {xM:Array (Option Lu)} {sp:Sp} (lk:K.lookup f=A? ⟨oc,od,.func (NZ name qual params body scope dV kV doc pm an uI ct),xM⟩) (vA:PySem.W.codeIn K uI qual=AG) (S:bX N ps scope)
 (len:∀vs H Q E,sp vs H Q E->vs.length=ps.length)
 (uR:∀(A:LU)(outer:List OJ)(s:Lw)(H:Hp)(vs:List V)(Q:VK)(E:XK),Room k (A.deeper (NB qual scope s.1.1.size f uI))->sp vs H Q E ->
  ∃t,PSs (gv CX P w K mg base N qual scope f uI A outer s H E) body t/\t {nx:=λ_ H'=>Q .non H',rt:=Q} (start N vs) H) :
 FnOk P w K mg base CX (k+1) f (NZ name qual params body scope dV kV doc pm an uI ct) ps sp:=by
 refine⟨len,λA outer s H args us vs Q E hr e0 hb r vM=>?_⟩;have hl:=len _ _ _ _ vM;have KX:K.In s.1:=e0.mod.kin.keeps λb o e=>(e0.bs b o e).1;have lim:s.1.NoLimit:=e0.mod.nolimit.keeps λb o e=>(e0.bs b o e).1
 have AR:∀y∈ps.zip us,scope.names.lookup y.1=A? .local\/(scope.names.lookup y.1=A? .cell/\((PV (s.1.1.size+1) scope.names []).lookup y.1).isSome=AG):=λ⟨n,v⟩hy=>by
  rcases S.par n (Pw hy).1 with q|q
  .exact .inl q
  .exact .inr ⟨q,PySem.W.cellsFrom_some _ _ _ (.inl q)⟩
 refine codeAny_call_function hr.depth (KX _ _ lk) rfl S.co S.gen rfl (PySem.W.codeRec_of KX vA) (hb _ _ _ _ ?_);refine wpAny_newFunctionEnv_cells S.kind AR λenv he s1 x=>?_;subst he;refine⟨lim.keeps x.toInCall.keep,codeAny_func ?_⟩;obtain⟨t,ht,hq⟩:=uR A outer s H vs Q E (hr.deeper _) vM;have I:Inv (gv CX P w K mg base N qual scope f uI A outer s H E) [] (start N vs) H s1:=mC S hr.hd e0 hl r x;refine Mq (ht [] s1 (start N vs) H _ I hq) (λfl s' hs=>?_) λe s' hs=>hs
 have fin:∀{uE:St}{H':Hp}{v:V}{u:Lu},Inv (gv CX P w K mg base N qual scope f uI A outer s H E) [] uE H' s'->RelV v u->Q v H'->CE outer P w H s Q u s' :=
  λ{uE H' v u}J rv q=>⟨v,H',J.os,J.bare,J.base,J.hok,rv,q⟩
 cases fl with
 | ret u =>
   obtain⟨v,uE,H',J,rv,q⟩:=hs;exact fin J rv q
 | next =>
   obtain⟨uE,H',J,q⟩:=hs;exact fin (v:=V.non) (u:=MH) J rfl q
 | brk =>
   obtain⟨_,_,_,q⟩:=hs;exact MA q
 | cont =>
   obtain⟨_,_,_,q⟩:=hs;exact MA q
end L2
variable{CX:L2.CXT}{sp:L2.Sp}
namespace L2
open PySem PySem.Spec PyProof.Rows
section
variable{X:Cx}{p:Oi}{t:TA}{id T:String}{r:List V->Hp->VK->Prop}
def tCB(r:List V->Hp->VK->Prop)(t:TA):TE:=λY H Q=>t Y H λvs H1=>r vs H1 Q
theorem aN(hc:dC X (.builtin id) r)(hg:Gl X x)(hm:X.mg x=Ak)(hv:O1 x=A? (.builtin id))(ha:PA X (e::es) t)(hn:x≠"__name__":=by decide)(wM:(x == ("__debug__":LL))=false:=by decide)
 (he:L7 (e::es) X.env=(AH,Nd e X.env)::L7 es X.env:=by rfl) (vL:(NG pos (L7 es X.env)).any (·.1)=false:=by rfl):PE X (.Call (.Name x p) (e::es) [] pos) (tCB r t):=by
 intro Z s Y H Q I h;refine MT (fK I hg hm hv ?_ hn wM);exact PyProof.Rows.callWith_builtin1 (thn (ha pos Z s Y H _ I h) λus s1⟨vs,H1,I1,r1,q1⟩=>hc Z s1 Y H1 vs us Q I1 r1 q1) he vL
theorem aT(hc:dC X (.type T) r)(hg:Gl X x)(hm:X.mg x=Ak)(hv:O1 x=A? (.type T))(ha:PA X (e::es) t)(hn:x≠"__name__":=by decide)(wM:(x == ("__debug__":LL))=false:=by decide)
 (he:L7 (e::es) X.env=(AH,Nd e X.env)::L7 es X.env:=by rfl) (vL:(NG pos (L7 es X.env)).any (·.1)=false:=by rfl):PE X (.Call (.Name x p) (e::es) [] pos) (tCB r t):=by
 intro Z s Y H Q I h;refine MT (fK I hg hm hv ?_ hn wM);exact NL (thn (ha pos Z s Y H _ I h) λus s1⟨vs,H1,I1,r1,q1⟩=>hc Z s1 Y H1 vs us Q I1 r1 q1) he vL
end
end L2
namespace HT
open PySem PyProof.Rows
section
open PySem.SeqAt
open PySem.AutoSeq1 (wpAny_loadPart')
open PySem.MeetsSeq PySem.MeetsSeq2 PySem.MeetsSeq3
end
theorem cat_tup{t:Ls}{vs ws:List Lu}(ht:IsTup s.1 t vs.toArray)(hb:IsTup s.1 b ws.toArray)(hv:vs≠[])
 (h1:ws=[]->Q (.ref t) s) (h2:ws≠[]->Q (.ref s.1.1.size) {s with heap:=s.1.push {cls:=.type "tuple",data:=.seq (vs++ws).toArray}})
 (hsz:vs.length+ws.length<=LK):LG (LN prog w) A (N8 .Add (.ref t) (.ref b)) Q E s:=by
 obtain⟨⟨cls,dd,data,sl⟩,ho,hc,n,hd⟩:=id ht;obtain⟨⟨zu,yU,data2,yV⟩,xw,vN,n2,hd2⟩:=id hb;simp only at hc hd vN hd2;subst hc hd vN hd2;have e:vs.toArray++ws.toArray=(vs++ws).toArray:=by simp
 by_cases hw:ws=[]
 .exact concat_meets ⟨_,ho,rfl⟩ ⟨_,xw,rfl⟩ noFill_tuple_add seq_tuple_add Pp Pf (O2 _ _)
   (tuple_addW1 t b vs.toArray ws.toArray n n2 dd yU sl yV (by simpa using hv) (by simp[hw])) ⟨ho,xw,h1 hw⟩
 .refine concat_meets ⟨_,ho,rfl⟩ ⟨_,xw,rfl⟩ noFill_tuple_add seq_tuple_add Pp Pf (O2 _ _)
   (tuple_addW2 t b vs.toArray ws.toArray n n2 dd yU sl yV (by simpa using hv) (by simpa using hw) (by rw[LD,LD];exact hsz)) ⟨ho,xw,?_⟩
  rw[e];exact h2 hw
def sIx(n d:Nat):Option Int->Nat
 |none=>d
 |some v=>if v<0 then(v+(n:Int)).toNat else min v.toNat n
theorem sIx_none(n d:Nat):sIx n d Ak=d:=rfl
theorem sIx_nat(n d k:Nat):sIx n d (A? (k:Int))=min k n:=by
 show(if(k:Int)<0 then((k:Int)+(n:Int)).toNat else min (k:Int).toNat n)=min k n;rw[Ra (by lia),M0]
theorem sIx_le(n d:Nat)(hd:d<=n)(o:Option Int):sIx n d o<=n:=by
 cases o with
 |none=>exact hd
 | some v =>
   show(if v<0 then(v+(n:Int)).toNat else min v.toNat n)<=n;by_cases hv:v<0
   .rw[Sa hv];lia
   .rw[Ra hv];exact Nat.min_le_right _ _
theorem clip_eq(v:Int)(n d:Nat):(if v<0 then max (v+(n:Int)) 0 else min v (n:Int))=((sIx n d (A? v):Nat):Int):=by
 show(if v<0 then max (v+(n:Int)) 0 else min v (n:Int))=(((if v<0 then(v+(n:Int)).toNat else min v.toNat n):Nat):Int);by_cases hv:v<0
 .simp only[Sa hv];lia
 .simp only[Ra hv];lia
theorem adjust_gen(lo hi:Option Int)(n:Nat):Nr lo hi 1 (n:Int)=(((sIx n 0 lo:Nat):Int),((sIx n n hi:Nat):Int)):=by
 have h1:¬((1:Int)<0):=by lia
 unfold Nr;simp only[h1,if_false];refine Prod.ext ?_ ?_
 .cases lo with
  |none=>rfl
  |some v=>exact clip_eq v n 0
 .cases hi with
  |none=>rfl
  |some v=>exact clip_eq v n n
theorem places_gen(i j:Nat):MJ (i:Int) (j:Int) 1=j - i:=by
 unfold MJ;have h1:(1:Int) > 0:=by lia
 simp only[h1,if_true,Int.ediv_one];split <;> lia
theorem slicePart_{v:Lu}{o:Option Int}{Q:Option Int->Lw->Prop}(p:P8 v o)(h:Q o s):LG (LN prog w) A (Builtin.Slice.slicePartIndex v) Q E s:=by
 cases p with
 |none=>exact slicePart_none h
 |int i t=>exact slicePart_int h
theorem sliceApplied_gen{Q:Int×Int×Nat->Lw->Prop}(hs:s.1.IsSliceOf sl vl vu .none)(pl:P8 vl lo)(pu:P8 vu hi)
 (h:Q (((sIx n 0 lo:Nat):Int),1,sIx n n hi - sIx n 0 lo) s):LG (LN prog w) A (Ob (.ref sl) (pure (n:Int))) Q E s:=by
 obtain⟨os,vD,w8,vE⟩:=id hs;unfold Ob Builtin.Slice.sliceFields;refine Lr (Lr (MV vD vE (x:=vl) rfl (Lr (MV vD vE (x:=vu) rfl (Lr (MV vD vE (x:=.none) rfl (Lz ?_)))))));refine Lr (slicePart_none ?_);show LG _ _ (if((1:Int) == 0)=AG then _ else _) _ _ s;rw[Ra (by decide)];refine Lr (slicePart_ pl (Lr (slicePart_ pu (Lr (Lz ?_)))));show LG _ _ (match Nr lo hi 1 (n:Int)with|(lo,hi)=>pure (lo,(1:Int),MJ lo hi 1)) _ _ s;rw[adjust_gen lo hi n];show LG _ _ (pure (((sIx n 0 lo:Nat):Int),(1:Int),MJ ((sIx n 0 lo:Nat):Int) ((sIx n n hi:Nat):Int) 1)) _ _ s;rw[places_gen];exact Lz h
theorem pick_gen(xs:Array Lu)(i k:Nat):((ML k).filterMap λ(m:Nat)=>xs[((i:Int)+(m:Int) * 1).toNat]?).toArray=((xs.toList.drop i).take k).toArray:=by
 have e:(λ(m:Nat)=>xs[((i:Int)+(m:Int) * 1).toNat]?)=λm=>xs[i+m]?:=by
  funext m;have:((i:Int)+(m:Int) * 1).toNat=i+m:=by lia
  rw[this]
 rw[e];have:=pick_run xs i k;rw[List.filterMap_map]at this;have e2:((λx=>xs[x]?) ∘ λx=>i+x)=λm=>xs[i+m]?:=rfl;rw[e2]at this;rw[this]
theorem getItem_tuple_cut{t:Ls}(ht:IsTup s.1 t items)(hs:s.1.IsSliceOf sl vl vu .none)(pl:P8 vl lo)(pu:P8 vu hi)
 (hw:¬(sIx items.size 0 lo=0/\sIx items.size items.size hi=items.size))
 (h:Q (.ref s.1.1.size) {s with heap:=s.1.push {cls:=.type "tuple",data:=.seq ((items.toList.drop (sIx items.size 0 lo)).take (sIx items.size items.size hi - sIx items.size 0 lo)).toArray}})
 (hsz:items.size<=LK):LG (LN prog w) A (OE (.ref t) (.ref sl)) Q E s:=by
 have ve:sizeOk (.seq ((items.toList.drop (sIx items.size 0 lo)).take (sIx items.size items.size hi - sIx items.size 0 lo)).toArray):=by
  show((items.toList.drop (sIx items.size 0 lo)).take (sIx items.size items.size hi - sIx items.size 0 lo)).toArray.size<=LK;rw[LD,Mj,N2,L4];lia
 have hj:sIx items.size items.size hi<=items.size:=sIx_le _ _ (LC _) hi;obtain⟨os,vD,w8,vE⟩:=id hs;have AS:s.TypeIs (.ref sl) "slice":=⟨os,vD,w8⟩;unfold OE
 try with_reducible refine M5 ?_
 first|refine Lr (Lz ?_)|skip
 refine Lr (wpAny_sequenceKey ht.typeIs (by decide) ?_)
 refine Lr (MO (name:=LI "__getitem__") ht.typeIs L8
  (MW L8 ht.typeIs entry_tuple_getitem ?_ (args_tuple_getitem _ _)))
 show LG _ _ (Oa (.ref t) >>= _) _ _ s;refine Lr (tupleItemsOf_ ht ?_);refine Lr (NN AS ?_);rw[Sa (by decide)];refine Lr (sliceApplied_gen hs pl pu ?_)
 have xj:¬((((sIx items.size 0 lo:Nat):Int) == 0 && (1:Int) == 1 && (sIx items.size items.size hi - sIx items.size 0 lo) == items.size)=AG):=by
  intro q;rw[N4,N4]at q;have q1:((sIx items.size 0 lo:Nat):Int)=0:=eq_of_beq q.1.1;have q2:sIx items.size items.size hi - sIx items.size 0 lo=items.size:=eq_of_beq q.2;exact hw ⟨by lia,by lia⟩
 show LG _ _ (if(((sIx items.size 0 lo:Nat):Int) == 0 && (1:Int) == 1 && (sIx items.size items.size hi - sIx items.size 0 lo) == items.size)=AG then _ else _) _ _ s;rw[Ra xj,pick_gen]
 first
  |exact Lr (m:=MM _) (Mm (Lz ⟨_,rfl,Lz h⟩) ve)
  |exact Lr (m:=MM _) (Mm (Lr (Lz (Lz ⟨_,rfl,Lz h⟩))) ve)
  |exact Lr (Lr (m:=MM _) (Mm (Lz (Lz ⟨_,rfl,Lz h⟩)) ve))
  |exact Lr (Lr (m:=MM _) (Mm (Lz ⟨_,rfl,Lz h⟩) ve))
end HT
open HT renaming sIx->Wb
namespace L2
open PySem PySem.Spec PyProof.Rows
abbrev TO:=St->Hp->(Option Int->Hp->Prop)->Prop
def PO(X:Cx)(e:Option Mv)(t:TO):Prop :=
 ∀(Z:List (Ls×M4))(s:Lw)(Y:St)(H:Hp)(Q:Option Int->Hp->Prop),Inv X Z Y H s->t Y H Q ->
   LG (LN X.prog X.w) X.A (evalPart e X.env) (λu s'=>∃o H',Inv X Z Y H' s'/\P8 u o/\Q o H') X.xe s
def pZ:TO:=λ_ H Q=>Q Ak H
inductive qD(x:V)(Q:Option Int->Hp->Prop)(H1:Hp):Prop
 |mk (i:Int) (vX:x=.int i) (vY:Q (A? i) H1):qD x Q H1
def qG(t:TE):TO:=λY H Q=>t Y H λx H1=>qD x Q H1
theorem intsAre_of{ns:List Int}:∀{us:List Lu},Vals (ns.map Vb) us->IntsAre us ns:=by
 induction ns with
 |nil=>intro us r;rw[N1]at r;cases r;exact .nil
 | cons n ns ih =>
   intro us r;rw[Mf]at r;cases r with
   | cons r1 r2 =>
     obtain⟨t,e⟩:=r1;subst e;exact .cons n t (ih r2)
section
variable{X:Cx}{lo hi:Option Mv}{tl th:TO}{p2:Oi}
theorem eY:PO X Ak pZ:=by
 intro Z s Y H Q I h;rw[evalPart_none];exact Lz ⟨Ak,H,I,.none,h⟩
theorem dP(h:PE X e te):PO X (A? e) (qG te):=by
 intro Z s Y H Q I hw;rw[evalPart_some];refine thn (h Z s Y H _ I hw) λu s1⟨x,H1,I1,r1,q1⟩=>?_;obtain⟨i,rfl,q⟩:=q1;obtain⟨t,rfl⟩:=r1;exact⟨A? i,H1,I1,.int i t,q⟩
def SlR(X:Cx)(r:V->Option Int->Option Int->Hp->VK->Prop):Prop :=
 ∀(Z:List (Ls×M4))(s:Lw)(Y:St)(H:Hp)(x:V)(v vl vu:Lu)(lo hi:Option Int)(sl:Ls)(Q:VK),Inv X Z Y H s->RelV x v->s.1.IsSliceOf sl vl vu .none->P8 vl lo->P8 vu hi->r x lo hi H Q ->
   ∃T id,typeLookup (.type T) "__getitem__"=pure (A? (.builtin id))/\s.TypeIs v T/\LG (LN X.prog X.w) X.A (OE v (.ref sl)) (EP X Z Y Q) X.xe s
def tSl(r:V->Option Int->Option Int->Hp->VK->Prop)(te:TE)(tl th:TO):TE:=λY H Q=>te Y H λx H1=>tl Y H1 λl H2=>th Y H2 λu H3=>r x l u H3 Q
theorem dq{r:V->Option Int->Option Int->Hp->VK->Prop}(hr:SlR X r)(he:PE X e te)(hl:PO X lo tl)(hu:PO X hi th):PE X (.Subscript e (.Slice lo hi Ak p2) pos) (tSl r te tl th):=by
 intro Z s Y H Q I h;refine Subscript_ (thn (he Z s Y H _ I h) λv s1⟨x,H1,I1,r1,q1⟩=>?_);refine wpAny_Slice (thn (hl Z s1 Y H1 _ I1 q1) λvl s2⟨l,H2,I2,pl,q2⟩=>thn (hu Z s2 Y H2 _ I2 q2) λvu s3⟨u,H3,I3,pu,q3⟩=>?_);rw[evalPart_none];refine Lz ?_;have I4:Inv X Z Y H3 {s3 with heap:=s3.1.push {cls:=.type "slice",data:=.fields #[vl,vu,.none]}}:=I3.kept (t':=s3.toks) λb ob q=>LB _ q;obtain⟨T,id,hT,ht,hg⟩:=hr Z {s3 with heap:=s3.1.push {cls:=.type "slice",data:=.fields #[vl,vu,.none]}} Y H3 x v vl vu l u s3.1.1.size Q I4 r1 (Heap.IsSliceOf.new ..) pl pu q3;show LG (LN X.prog X.w) X.A (subscriptTail e (.Slice lo hi Ak p2) v (.ref s3.1.1.size)) (EP X Z Y Q) X.xe {s3 with heap:=s3.1.push {cls:=.type "slice",data:=.fields #[vl,vu,.none]}};exact tail_any (ops:=[.ref s3.1.1.size,v]) ht hT hg (by with_unfolding_all rfl)
def dg(xs:List V)(lo hi:Option Int):List V:=(xs.drop (Wb xs.length 0 lo)).take (Wb xs.length xs.length hi - Wb xs.length 0 lo)
theorem fX(xs:List V)(lo hi:Option Int):(dg xs lo hi).length<=xs.length:=by
 unfold dg;rw[Mj,N2];lia
inductive qN(K:Ly)(x:V)(lo:Option Int)(hi:Option Int)(H:Hp)(Q:VK):Prop
 |mk (a:_) (xs:_) (vX:x=.ref a) (vY:SqT K H a xs) (w6:¬(Wb xs.length 0 lo=0/\Wb xs.length xs.length hi=xs.length)) (yz:∀p,H p=Ak->Q (.ref p) (upd H p (.tup (dg xs lo hi)))):qN K x lo hi H Q
def ul(K:Ly):V->Option Int->Option Int->Hp->VK->Prop:=qN K
theorem kN:SlR X (ul X.K):=by
 intro Z s Y H x v vl vu lo hi sl Q I rx hs pl pu h;obtain⟨a,xs,rfl,hx,hw,q⟩:=h;cases rx;obtain⟨its,r,ht,hz⟩:=I.tuple hx;have hlen:its.toArray.size=xs.length:=by rw[LD];exact r.length.symm
 refine⟨"tuple",_,L8.lookup,ht.typeIs,?_⟩;refine HT.getItem_tuple_cut ht hs pl pu (by rw[hlen];exact hw) ?_ (by rw[hlen];exact hz);rw[hlen];refine⟨.ref s.1.1.size,_,I.laid (t':=s.toks) (o:=.tup (dg xs lo hi)) (λb ob q=>LB _ q) (LC _) ?_,B?,q _ (I.hok.fresh (LC _))⟩;exact⟨Mr (fX xs lo hi) hz,_,0,(r.drop (Wb xs.length 0 lo)).take (Wb xs.length xs.length hi - Wb xs.length 0 lo),LH _ rfl⟩
def si(K:Ly):R2:=λx y H Q=>∃a b xs ys,x=.ref a/\y=.ref b/\SqT K H a xs/\SqT K H b ys/\xs≠[]/\xs.length+ys.length<=LK /\
 (ys=[]->Q (.ref a) H)/\(ys≠[]->∀p,H p=Ak->Q (.ref p) (upd H p (.tup (xs++ys))))
theorem Vals.nil_iff(r:Vals xs us):us=[]↔xs=[]:=by
 cases r with
 |nil=>simp
 |cons _ _=>simp
theorem lV:OpR X (N8 .Add) (si X.K):=by
 intro Z s Y H x y v u Q I rx ry h;obtain⟨a,b,xs,ys,rfl,rfl,ha,hb,hx,hz,q1,q2⟩:=h;cases rx;cases ry;obtain⟨its,r1,p1,_⟩:=I.tuple ha;obtain⟨uF,r2,p2,_⟩:=I.tuple hb;refine HT.cat_tup p1 p2 (λz=>hx (r1.nil_iff.mp z)) (λz=>⟨.ref a,H,I,rfl,q1 (r2.nil_iff.mp z)⟩) (λz=>?_) (by rw[<-r1.length,<-r2.length];exact hz);refine⟨.ref s.1.1.size,_,I.laid (t':=s.toks) (o:=.tup (xs++ys)) (λb ob q=>LB _ q) (LC _) ?_,B?,q2 (λw=>z (r2.nil_iff.mpr w)) _ (I.hok.fresh (LC _))⟩;exact⟨by rw[LR];exact hz,_,0,r1.append r2,LH _ rfl⟩
end
def ixN(n:Nat)(i:Int):Option Nat:=if 0<=i then(if i<n then A? i.toNat else Ak)else if -(n:Int)<=i then A? (i+n).toNat else Ak
def atI{α:Type}(xs:List α)(i:Int):Option α:=(ixN xs.length i).bind λj=>xs[j]?
theorem i6{i:Int}(h:ixN n i=A? j):seqIndex? i n=A? j/\j<n/\-(n:Int)<=i/\i<n:=by
 unfold ixN at h;by_cases h0:0<=i
 .rw[Sa h0]at h;by_cases h1:i<n
  .rw[Sa h1]at h;have e:i.toNat=j:=Ma h;exact⟨by rw[seqIndex_of h0 h1,e],by lia,by lia,h1⟩
  .rw[Ra h1]at h;cases h
 .rw[Ra h0]at h;by_cases h1:-(n:Int)<=i
  .rw[Sa h1]at h;have e:(i+n).toNat=j:=Ma h;exact⟨by rw[seqIndex_neg (by lia) h1,e],by lia,h1,by lia⟩
  .rw[Ra h1]at h;cases h
theorem ji{xs:List α}{i:Int}{v:α}(h:atI xs i=A? v):∃j,seqIndex? i xs.length=A? j/\xs[j]?=A? v/\j<xs.length/\-(xs.length:Int)<=i/\i<xs.length:=by
 unfold atI at h;cases e:ixN xs.length i with
 |none=>rw[e]at h;cases h
 | some j =>
   rw[e]at h;obtain⟨h1,h2,h3,h4⟩:=i6 e;exact⟨j,h1,h,h2,h3,h4⟩
theorem bT{xs:List α}{v:α}(h:xs[j]?=A? v):atI xs (j:Int)=A? v:=by
 have hj:j<xs.length:=(glE h)
 have e:ixN xs.length (j:Int)=A? j:=by
  unfold ixN;rw[Sa (by lia),Sa (by lia)];simp
 unfold atI;rw[e];exact h
def px(b:Mv):Prop:=∀o i,subscripted b AH o i=operate [o,i] (OE o i)
def IxR(X:Cx)(r:R2):Prop :=
 ∀(value slice:Mv)(Z:List (Ls×M4))(s:Lw)(Y:St)(H:Hp)(x y:V)(v u:Lu)(Q:VK),Inv X Z Y H s->RelV x v->RelV y u->r x y H Q ->
   subscripted slice AH v u=operate [v,u] (OE v u)->LG (LN X.prog X.w) X.A (subscriptTail value slice v u) (EP X Z Y Q) X.xe s
def MtR(X:Cx)(id:String)(r:V->List V->Hp->VK->Prop):Prop :=
 ∀(Z:List (Ls×M4))(s:Lw)(Y:St)(H:Hp)(x:V)(xs:List V)(v:Lu)(us:List Lu)(Q:VK),Inv X Z Y H s->RelV x v->Vals xs us->r x xs H Q ->
   LG (LN X.prog X.w) X.A (call (.builtin id) (v::us)) (EP X Z Y Q) X.xe s
section
variable{X:Cx}{a b:Mv}{ta tb:TE}
theorem ay{r:R2}(hr:IxR X r)(ha:PE X a ta)(hb:PE X b tb)(hs:px b):PE X (.Subscript a b pos) (tOp r ta tb):=by
 intro Z s Y H Q I h;exact Subscript_ (rX ha hb I h λv u s2 x y H2 I2 rx ry q=>hr a b Z s2 Y H2 x y v u Q I2 rx ry q (hs _ _))
inductive qQ(K:Ly)(x:V)(y:V)(H:Hp)(Q:VK):Prop
 |mk (p:_) (xs:_) (i:_) (v:_) (vX:x=.ref p) (vY:y=.int i) (w6:SqL K H p xs) (yz:atI xs i=A? v) (zv:Q v H):qQ K x y H Q
def sP(K:Ly):R2:=qQ K
inductive qI(K:Ly)(x:V)(y:V)(H:Hp)(Q:VK):Prop
 |mk (p:_) (xs:_) (i:_) (v:_) (vX:x=.ref p) (vY:y=.int i) (w6:SqT K H p xs) (yz:atI xs i=A? v) (zv:Q v H):qI K x y H Q
def jw(K:Ly):R2:=qI K
inductive qC(x:V)(y:V)(H:Hp)(Q:VK):Prop
 |mk (z:_) (i:_) (c:_) (vX:x=.str z) (vY:y=.int i) (w6:z.length<=LK) (yz:atI z.cps.toList i=A? c) (zv:Q (.str ⟨#[c]⟩) H):qC  x y H Q
def uj:R2:=qC
theorem aS:IxR X (sP X.K):=by
 intro value slice Z s Y H x y v u Q I rx ry h hs;obtain⟨p,xs,i,z,rfl,rfl,hq,he,q⟩:=h;cases rx;obtain⟨t,rfl⟩:=ry;obtain⟨its,r,pl,hz⟩:=I.list hq;obtain⟨j,h1,h2,h3,h4,h5⟩:=ji he;obtain⟨w,ew,xk⟩:=r.get h2;have hl:=r.length;have hn:=de;have fin:EP X Z Y Q w s:=⟨z,H,I,xk,q⟩;by_cases h0:0<=i
 .have hj:i.toNat=j:=by
   rw[seqIndex_of h0 h5]at h1;exact Ma h1
  exact item_listR pl.isList h0 (by lia) (by rw[hj];simpa using ew) fin hs
 .have hj:(i+(its.toArray.size:Int)).toNat=j:=by
   rw[seqIndex_neg (by lia) h4]at h1;rw[LD,<-hl];exact Ma h1
  exact subscriptTail_builtinR (x:=w) pl.isList.typeIs slot_list_getitem.lookup
   (wpAny_getItem_list_neg (Q:=λr s'=>r=w/\EP X Z Y Q r s') pl.isList (by lia) (by rw[LD] <;> lia) (by lia) (by rw[hj];simpa using ew) ⟨rfl,fin⟩) hs
theorem aA:IxR X (jw X.K):=by
 intro value slice Z s Y H x y v u Q I rx ry h hs;obtain⟨p,xs,i,z,rfl,rfl,hq,he,q⟩:=h;cases rx;obtain⟨t,rfl⟩:=ry;obtain⟨its,r,pl,hz⟩:=I.tuple hq;obtain⟨j,h1,h2,h3,h4,h5⟩:=ji he;obtain⟨w,ew,xk⟩:=r.get h2;have hl:=r.length;have hn:=de;have fin:EP X Z Y Q w s:=⟨z,H,I,xk,q⟩
 exact subscriptTail_builtinR (x:=w) pl.typeIs slot_tuple_getitem.lookup
  (getItem_tuple (j:=j) (Q:=λr s'=>r=w/\EP X Z Y Q r s') pl (by lia) (by lia) (by rw[LD,<-hl];exact h1) (by simpa using ew) ⟨rfl,fin⟩) hs
theorem rO:IxR X uj:=by
 intro value slice Z s Y H x y v u Q I rx ry h hs;obtain⟨z,i,c,rfl,rfl,hz,he,q⟩:=h;obtain⟨t,rfl⟩:=rx;obtain⟨t',rfl⟩:=ry;obtain⟨j,h1,h2,h3,h4,h5⟩:=ji he;have hl:z.cps.toList.length=z.length:=by simp[Str.length]
 rw[hl]at h1 h4 h5;have hn:=de
 exact tail_any (typeIs_str s z t) slot_str_getitem.lookup (getItem_str (c:=c) (by
  have e1:decide (i < -(2 ^ 63:Int))=false:=Ta (by lia);have e2:decide (i >= 2 ^ 63)=false:=Ta (by lia);rw[e1,e2,Bool.or_false]) (by rw[h1];simpa using h2) ⟨.str ⟨#[c]⟩,H,I.tok _,⟨_,rfl⟩,q⟩) hs
theorem lr(its:List Lu)(n j:Nat)(u:Lu):Nf (·.setIfInBounds j u) {cls:=.type "list",data:=.seq its.toArray n}={cls:=.type "list",data:=.seq (its.set j u).toArray n}:=by
 simp[Nf]
theorem Inv.lst{p:Ls}(I:Inv X Z Y H s)(h:H p=A? (.lst xs)) :
 ∃(its:List Lu)(n:Nat),Vals xs its/\s.1.get? p=A? {cls:=.type "list",data:=.seq its.toArray n}/\xs.length<=LK:=by
 obtain⟨z,its,n,r,e⟩:=I.hok p _ h;exact⟨its,n,r,e,z⟩
theorem Inv.lstUpd{p:Ls}{ys:List V}{its':List Lu}{n':Nat}{f:M4->M4}(I:Inv X Z Y H s)(h:H p=A? (.lst xs))
 (ho:s.1.get? p=A? {cls:=.type "list",data:=.seq its.toArray n}) (hf:f {cls:=.type "list",data:=.seq its.toArray n}={cls:=.type "list",data:=.seq its'.toArray n'}) (r:Vals ys its') (hz:ys.length<=LK) (t:Nat) :
 Inv X Z Y (upd H p (.lst ys)) {s with heap:=s.1.update p f,toks:=t}:=by
 have e:(s.1.update p f).get? p=A? {cls:=.type "list",data:=.seq its'.toArray n'}:=by
  rw[MG f ho (by rw[hf] <;> rfl),hf]
 refine I.write (x:=p) (e:=p) (by rw[h];trivial) (.inl rfl) (λb u hb q=>(MD _ _ (MY hb)).trans q) ⟨_,e⟩ ?_;exact⟨hz,its',n',r,e⟩
def tI:V->V->V->Hp->(Hp->Prop)->Prop:=λo i v H Q=>∃p xs k j,o=.ref p/\i=.int k/\H p=A? (.lst xs)/\ixN xs.length k=A? j/\Q (upd H p (.lst (xs.set j v)))
theorem set_list:tN X tI:=by
 intro Z s Y H o i v ov iv u Q I ro ri rv h;obtain⟨p,xs,k,j,rfl,rfl,hp,hj,q⟩:=h;cases ro;obtain⟨t,rfl⟩:=ri;obtain⟨its,n,r,ho,hz⟩:=I.lst hp;obtain⟨h1,h2,h3,h4⟩:=i6 hj;have hl:=r.length;have hn:=de
 have I':Inv X Z Y (upd H p (.lst (xs.set j v))) {s with heap:=s.1.update p (Nf (·.setIfInBounds j u))} :=
  I.lstUpd hp ho (lr its n j u) (r.set rv j) (by rw[List.length_set];exact hz) s.toks
 by_cases h0:0<=k
 .have hk:k.toNat=j:=by
   rw[seqIndex_of h0 h4]at h1;exact Ma h1
  exact PySem.W.ki_setAt ho h0 (by lia) (by rw[LD,<-hl];exact h4) (by rw[hk];exact⟨_,I',q⟩)
 .have hk:(k+(its.toArray.size:Int)).toNat=j:=by
   rw[seqIndex_neg (by lia) h3]at h1;rw[LD,<-hl];exact Ma h1
  exact PySem.W.ki_setBack ho (by lia) (by rw[LD,<-hl];exact h3) (by lia) (by rw[hk];exact⟨_,I',q⟩)
theorem jl(lo hi:Option Int)(n:Nat):(ON lo hi Ak n).1=((Wb n 0 lo:Nat):Int)/\(ON lo hi Ak n).2.1=((Wb n n hi:Nat):Int)/\(ON lo hi Ak n).2.2=1:=by
 refine⟨?_,?_,B?⟩
 .cases lo with
  |none=>simp[ON,Wb]
  | some i =>
    simp only[ON,Wb,Option.getD_none,show(1:Int) > 0 by decide,if_true];by_cases h:i<0
    .simp only[h,if_true] <;> lia
    .simp only[h,if_false] <;> lia
 .cases hi with
  |none=>simp[ON,Wb]
  | some i =>
    simp only[ON,Wb,Option.getD_none,show(1:Int) > 0 by decide,if_true];by_cases h:i<0
    .simp only[h,if_true] <;> lia
    .simp only[h,if_false] <;> lia
theorem ip(its:List Lu)(lo hi:Option Int):slicePick its.toArray lo hi Ak=((its.drop (Wb its.length 0 lo)).take (Wb its.length its.length hi - Wb its.length 0 lo)).toArray:=by
 obtain⟨h1,h2,h3⟩:=jl lo hi its.toArray.size;unfold slicePick;rw[h1,h2,h3];simp only[sliceRange_one,pick_run,LD] <;> rfl
inductive qz(K:Ly)(x:V)(lo:Option Int)(hi:Option Int)(H:Hp)(Q:VK):Prop
 |mk (a:_) (xs:_) (vX:x=.ref a) (vY:SqL K H a xs) (w6:∀p,H p=Ak->Q (.ref p) (upd H p (.lst (dg xs lo hi)))):qz K x lo hi H Q
def tZ(K:Ly):V->Option Int->Option Int->Hp->VK->Prop:=qz K
theorem qd:SlR X (tZ X.K):=by
 intro Z s Y H x v vl vu lo hi sl Q I rx hs pl pu h;obtain⟨a,xs,rfl,hx,q⟩:=h;cases rx;obtain⟨its,r,ht,hz⟩:=I.list hx;have hlen:=r.length;refine⟨"list",_,slot_list_getitem.lookup,ht.isList.typeIs,?_⟩;refine wpAny_getItem_list_slice ht.isList hs pl pu .none (by simp) ?_ (by rw[LD] <;> lia);rw[ip,<-hlen];refine⟨.ref s.1.1.size,_,I.laid (t':=s.toks) (o:=.lst (dg xs lo hi)) (λb ob q=>LB _ q) (LC _) ?_,B?,q _ (I.hok.fresh (LC _))⟩;exact⟨Mr (fX xs lo hi) hz,_,0,(r.drop (Wb xs.length 0 lo)).take (Wb xs.length xs.length hi - Wb xs.length 0 lo),LH _ rfl⟩
inductive qA(K:Ly)(xs:List V)(H:Hp)(Q:VK):Prop
 |mk (p:Ls) (ys:List V) (vX:xs=[.ref p]) (vY:SqL K H p ys\/SqT K H p ys) (w6:Q (.int ys.length) H):qA K xs H Q
theorem bK:dC X (.builtin "len") (qA X.K):=by
 intro Z s Y H xs us Q I r h;obtain⟨p,ys,rfl,hq,q⟩:=h;obtain⟨u,rfl,rx⟩:=vals1 r;cases rx;have hn:=de;rcases hq with hq|hq
 .obtain⟨its,r',pl,hz⟩:=I.list hq;have hlen:=r'.length;exact Calls.call_len_list pl.isList (by simp only[LD] <;> lia) ⟨.int ys.length,H,I.tok _,⟨s.toks+1,by rw[LD,hlen]⟩,q⟩
 .obtain⟨its,r',pl,hz⟩:=I.tuple hq;have hlen:=r'.length;exact len_tuple pl (by simp only[LD] <;> lia) ⟨.int ys.length,H,I.tok _,⟨s.toks+1,by rw[LD,hlen]⟩,q⟩
theorem aH:dC X (.type "tuple") (λxs H Q=>∃p ys,xs=[.ref p]/\((SqL X.K H p ys/\∀l,H l=Ak->Q (.ref l) (upd H l (.tup ys)))\/(SqT X.K H p ys/\Q (.ref p) H))):=by
 intro Z s Y H xs us Q I r h;obtain⟨p,ys,rfl,h⟩:=h;obtain⟨u,rfl,rx⟩:=vals1 r;cases rx;rcases h with⟨hq,q⟩|⟨hq,q⟩
 .obtain⟨its,r',pl,hz⟩:=I.list hq;have hlen:=r'.length;refine call_tuple_list pl.isList (λh' kp=>?_) (by simp only[LD] <;> lia);have I1:Inv X Z Y H {s with heap:=h'}:=I.kept (t':=s.toks) kp
  have I2:Inv X Z Y (upd H h'.objs.size (.tup ys)) {s with heap:=h'.push {cls:=.type "tuple",data:=.seq its.toArray}} :=
   I1.laid (t':=s.toks) (λb o e=>LB _ e) (LC _) (show ObjOk X.prog X.w _ _ _ (.tup ys)from⟨hz,its,0,r',LH _ rfl⟩)
  exact⟨.ref h'.objs.size,_,I2,B?,q _ (I1.hok.fresh (LC _))⟩
 .obtain⟨its,r',pl,hz⟩:=I.tuple hq;exact call_tuple_same pl ⟨.ref p,H,I,rfl,q⟩
def tyV(K:Ly)(T:String)(x:V)(H:Hp):Prop:=match x with
 |.str _=>T="str"
 |.int _=>T="int"
 |.ref p=>(T="list"/\∃xs,SqL K H p xs)\/(T="tuple"/\∃o,K.lookup p=A? o/\o.cls=.type "tuple"/\o.dict=Ak) \/
  (T="dict"/\((∃uC,H p=A? (.dK uC))\/∃uC,H p=A? (.dT uC)))\/(T="set"/\∃S n,H p=A? (.set S n))
 |_=>False
theorem nM{T:String}{x:V}{v:Lu}(I:Inv X Z Y H s)(r:RelV x v)(ty:tyV X.K T x H) :
 s.TypeIs v T/\∀a,v=.ref a->∃ob,s.1.get? a=A? ob/\ob.dict=none:=by
 cases x with
 | str z =>
   obtain⟨t,rfl⟩:=r;cases(show T="str" from ty);exact⟨typeIs_str s z t,λ_ e=>nomatch e⟩
 | int i =>
   obtain⟨t,rfl⟩:=r;cases(show T="int" from ty);exact⟨typeIs_int s i t,λ_ e=>nomatch e⟩
 | ref p =>
   cases r;rcases ty with⟨rfl,xs,hq⟩|⟨rfl,o,hk,hc,hd⟩|⟨rfl,hk⟩|⟨rfl,S,n,hk⟩
   .obtain⟨its,_,pl,_⟩:=I.list hq;refine⟨pl.isList.typeIs,λa e=>?_⟩;cases e;obtain⟨o,n,e,c,hd,_⟩:=pl;exact⟨o,e,hd⟩
   .refine⟨⟨o,I.kIn p o hk,hc⟩,λa e=>?_⟩;cases e;exact⟨o,I.kIn _ o hk,hd⟩
   .have z:∃o,s.1.get? p=A? o/\o.ExactDict:=by
     rcases hk with⟨uC,hk⟩|⟨uC,hk⟩
     .obtain⟨_,_,_,_,o,_,_,e,ex,_⟩:=I.hok p _ hk;exact⟨o,e,ex⟩
     .obtain⟨_,_,_,_,o,_,_,e,ex,_⟩:=I.hok p _ hk;exact⟨o,e,ex⟩
    obtain⟨o,e,ex⟩:=z;refine⟨⟨o,e,ex.1⟩,λa e2=>?_⟩;cases e2;exact⟨o,e,ex.2.1⟩
   .obtain⟨o,_,_,_,e,ex,_⟩:=I.hok p _ hk;refine⟨⟨o,e,ex.1⟩,λa e2=>?_⟩;cases e2;exact⟨o,e,ex.2.1⟩
 |_=>exact MA ty
def se(K:Ly)(T:String)(r:V->List V->Hp->VK->Prop)(to:TE):TE:=λY H Q=>to Y H λx H1=>tyV K T x H1/\r x [] H1 Q
def tBM(K:Ly)(T:String)(r:V->List V->Hp->VK->Prop)(to:TE)(t:TA):TE:=λY H Q=>to Y H λx H1=>tyV K T x H1/\t Y H1 λxs H2=>r x xs H2 Q
variable{o:Mv}{to:TE}{t:TA}{apos uO:Oi}{T id:String}{r:V->List V->Hp->VK->Prop}
theorem kJ(pa:PlainAttrs T)(slot:Slot T name id)(Dm:typeOf (.builtin id)=pure (.type "method_descriptor"))(hm:MtR X id r)(ho:PE X o to)
 (wm:PF o name X.env (Nd o X.env)=Nd o X.env:=by rfl) (xN:(apos.endLine == uO.line)=true:=by rfl):PE X (.Call (.Attribute o name apos) [] [] uO) (se X.K T r to):=by
 intro Z s Y H Q I h;refine wpAny_Call_method0_late wm xN (thn (ho Z s Y H _ I h) λv s1⟨x,H1,I1,r1,ty,q1⟩=>?_);obtain⟨h1,h2⟩:=nM I1 r1 ty;exact⟨T,id,pa,slot,Dm,h1,h2,P9 rfl (PySem.evalArgs_none (hm Z s1 Y H1 x [] v [] Q I1 r1 .nil q1))⟩
theorem cG(pa:PlainAttrs T)(slot:Slot T name id)(Dm:typeOf (.builtin id)=pure (.type "method_descriptor"))(hm:MtR X id r)(ho:PE X o to)(ha:PA X (e::es) t)
 (wm:PF o name X.env (Nd o X.env)=Nd o X.env:=by rfl)
 (Dn:((NG uO (L7 (e::es) X.env)).all (λx=>!x.1) && (backToKw uO (keywordEach [] X.env)).all (λx=>x.1.isSome)
  && decide ((e::es).length+([]:List Keyword).length+(if([]:List Keyword).isEmpty then 0 else 1)<30))=true:=by rfl)
 (xN:(apos.endLine == uO.line)=true:=by rfl) (hs:L7 (e::es) X.env=(AH,Nd e X.env)::L7 es X.env:=by rfl) (wN:(NG uO (L7 es X.env)).any (·.1)=false:=by rfl) :
 PE X (.Call (.Attribute o name apos) (e::es) [] uO) (tBM X.K T r to t):=by
 intro Z s Y H Q I h;refine wpAny_Call_method_late wm Dn xN rfl (thn (ho Z s Y H _ I h) λv s1⟨x,H1,I1,r1,ty,q1⟩=>?_);obtain⟨h1,h2⟩:=nM I1 r1 ty;refine⟨T,id,pa,slot,Dm,h1,h2,?_⟩;have hA:=ha uO Z s1 Y H1 _ I1 q1;rw[hs]at hA |-;refine P9 (by show(AH ||(NG uO (L7 es X.env)).any (·.1))=AH;rw[wN] <;> rfl) (Qr ?_);exact thn hA λus s2⟨vs,H2,I2,r2,q2⟩=>hm Z s2 Y H2 x vs v us Q I2 r1 r2 q2
end
def MtM(X:Cx)(id:String)(r:V->List V->Hp->VK->Prop):Prop :=
 ∀(Z:List (Ls×M4))(s:Lw)(Y:St)(H:Hp)(x:V)(xs:List V)(v:Lu)(us:List Lu)(Q:VK),Inv X Z Y H s->RelV x v->Vals xs us->r x xs H Q ->
   LG (LN X.prog X.w) X.A (call (.builtin id) (v::us)) (EP X Z Y Q) X.xe s
theorem Vals.one:∀{x:V}{us:List Lu},Vals [x] us->∃u,us=[u]/\RelV x u
 |_,_,.cons r .nil=>⟨_,rfl,r⟩
theorem Vals.zero:∀{us:List Lu},Vals [] us->us=[]
 |_,.nil=>rfl
theorem Vals.dropLast(h:Vals xs us):Vals xs.dropLast us.dropLast:=by
 induction h with
 |nil=>exact .nil
 | cons r t ih =>
   cases t with
   |nil=>exact .nil
   |cons q t'=>exact .cons r ih
theorem lE(l:List α):l.eraseIdx (l.length - 1)=l.dropLast:=by
 induction l with
 |nil=>rfl
 | cons a r ih =>
   cases r with
   |nil=>rfl
   | cons b r =>
     have e:(a::b::r).length - 1=((b::r).length - 1)+1:=by
      have h1:(a::b::r).length=r.length+2:=rfl;have h2:(b::r).length=r.length+1:=rfl;lia
     rw[e,List.eraseIdx_cons_succ,ih]
     all_goals rfl
section
variable{X:Cx}{ys zs:List V}
theorem Inv.lset{its':List Lu}{f:Array Lu->Array Lu}(I:Inv X Z Y H s)(hH:H l=A? (.lst xs))
 (e:s.1.get? l=A? {cls:=.type "list",data:=.seq its.toArray n}) (hf:f its.toArray=its'.toArray) (hv:Vals ys its') (hz:ys.length<=LK) :
 Inv X Z Y (upd H l (.lst ys)) {s with heap:=s.1.update l (Nf f),toks:=t'}:=by
 have q:=PySem.IsL.update e f;rw[hf]at q;refine I.write (x:=l) (e:=l) (by rw[hH];exact trivial) (.inl rfl) (λb' u hb hu=>(MD s.1 (Nf f) (MY hb)).trans hu) ⟨_,q⟩ ?_;exact⟨hz,its',_,hv,q⟩
theorem Inv.lnew(I:Inv X Z Y H s)(hv:Vals ys its)(hz:ys.length<=LK) :
 Inv X Z Y (upd H s.1.1.size (.lst ys)) {s with heap:=s.1.push {cls:=.type "list",data:=.seq its.toArray},toks:=t'} :=
 I.laid (λ_ _ q=>LB _ q) (LC _) ⟨hz,its,0,hv,LH _ rfl⟩
theorem Inv.fresh(I:Inv X Z Y H s):H s.1.1.size=none:=I.hok.fresh (LC _)
theorem Inv.lstM(I:Inv X Z Y H s)(hH:H l=A? (.lst xs)):xs.length<=LK/\∃(its:List Lu)(n:Nat),Vals xs its/\xs.length=its.length/\s.1.get? l=A? {cls:=.type "list",data:=.seq its.toArray n}:=by
 obtain⟨z,its,n,r,e⟩:=I.hok l _ hH;exact⟨z,its,n,r,r.length,e⟩
theorem ky(h:n<=LK):NA n=false:=by
 unfold NA;exact Ta (by lia)
end
section
variable{X:Cx}
inductive jU(x:V)(vs:List V)(H:Hp)(Q:VK):Prop
 |mk (l:_) (xs:_) (y:_) (vX:x=.ref l) (vY:vs=[y]) (w6:H l=A? (.lst xs)) (yz:xs.length<LK) (zv:Q .non (upd H l (.lst (xs++[y])))):jU  x vs H Q
def mw:V->List V->Hp->VK->Prop:=jU
theorem aV:MtM X "list.append" mw:=by
 intro Z s Y H x vs v us Q I rx rv h;obtain⟨l,xs,y,rfl,rfl,hH,hz,q⟩:=h;cases rx;obtain⟨u,rfl,ru⟩:=rv.one;obtain⟨z,its,n,r,hl,e⟩:=I.lstM hH;refine P4 F.slot_list_append ⟨_,e,rfl⟩ F.entry_list_append (F.args_list_append_2 _ _) (PySem.list_append l its.toArray n u (by rw[LD];lia)) ⟨e,?_⟩;refine⟨.non,_,I.lset (its':=its++[u]) hH e (by simp) (r.append (.cons ru .nil)) ?_,B?,q⟩;rw[LR,List.length_singleton];lia
inductive jY(x:V)(vs:List V)(H:Hp)(Q:VK):Prop
 |mk (l:_) (b:_) (xs:_) (zs:_) (vX:x=.ref l) (vY:vs=[.ref b]) (w6:H l=A? (.lst xs)) (yz:H b=A? (.lst zs)) (zv:xs.length+zs.length<=LK) (F':Q .non (upd H l (.lst (xs++zs)))):jY  x vs H Q
def pz:V->List V->Hp->VK->Prop:=jY
theorem mI:MtM X "list.extend" pz:=by
 intro Z s Y H x vs v us Q I rx rv h;obtain⟨l,b,xs,zs,rfl,rfl,hH,hB,hz,q⟩:=h;cases rx;obtain⟨u,rfl,ru⟩:=rv.one;cases ru;obtain⟨z,its,n,r,hl,e⟩:=I.lstM hH;obtain⟨z2,uF,n2,r2,xl,e2⟩:=I.lstM hB;have hsz:its.toArray.size+uF.toArray.size<=LK:=by rw[LD,LD];lia
 have xO:¬(!its.toArray.isEmpty && NA (its.toArray.size+uF.toArray.size))=true:=by
  rw[ky hsz,Bool.and_false];exact LO
 refine P4 F.slot_list_extend ⟨_,e,rfl⟩ F.entry_list_extend (F.args_list_extend_2 _ _)
  (AutoSeq1.list_extend_list_list_0 l its.toArray n b uF.toArray n2 xO (by rw[LD];lia) (by lia)) ⟨e,e2,?_⟩
 refine⟨.non,_,I.lset (its':=its++uF) hH e (by simp) (r.append r2) ?_,B?,q⟩;rw[LR];lia
inductive qT(x:V)(vs:List V)(H:Hp)(Q:VK):Prop
 |mk (l:_) (xs:_) (y:_) (vX:x=.ref l) (vY:vs=[]) (w6:H l=A? (.lst xs)) (yz:xs[xs.length - 1]?=A? y) (zv:Q y (upd H l (.lst xs.dropLast))):qT  x vs H Q
def sw:V->List V->Hp->VK->Prop:=qT
theorem lL:MtM X "list.pop" sw:=by
 intro Z s Y H x vs v us Q I rx rv h;obtain⟨l,xs,y,rfl,rfl,hH,hy,q⟩:=h;cases rx;have Cn:=rv.zero;subst Cn;obtain⟨z,its,n,r,hl,e⟩:=I.lstM hH;obtain⟨u,hu,ru⟩:=r.get hy
 have zw:its.toArray[its.toArray.size - 1]?=A? u:=by
  show its.toArray[its.length - 1]?=A? u;rw[<-PQ,<-hl];exact hu
 refine P4 F.slot_list_pop ⟨_,e,rfl⟩ F.entry_list_pop (F.args_list_pop_1 _) (MeetsSeq.list_pop_last l its.toArray n u zw (by rw[LD];lia)) ⟨e,?_⟩;refine⟨y,_,I.lset (its':=its.dropLast) hH e ?_ r.dropLast ?_,ru,q⟩
 .show its.toArray.eraseIdxIfInBounds (its.toArray.size - 1)=its.dropLast.toArray;rw[LD,List.eraseIdxIfInBounds_toArray,lE]
 .rw[List.length_dropLast];lia
inductive qF(x:V)(y:V)(H:Hp)(Q:VK):Prop
 |mk (l:_) (b:_) (xs:_) (zs:_) (vX:x=.ref l) (vY:y=.ref b) (w6:H l=A? (.lst xs)) (yz:H b=A? (.lst zs)) (zv:xs.length+zs.length<=LK) (F':∀p,H p=Ak->Q (.ref p) (upd H p (.lst (xs++zs)))):qF  x y H Q
def tU:R2:=qF
theorem qX:OpR X (N8 .Add) tU:=by
 intro Z s Y H x y v u Q I rx ry h;obtain⟨l,b,xs,zs,rfl,rfl,hH,hB,hz,q⟩:=h;cases rx;cases ry;obtain⟨z,its,n,r,hl,e⟩:=I.lstM hH;obtain⟨z2,uF,n2,r2,xl,e2⟩:=I.lstM hB;refine PySem.P.add_list e e2 ?_ (by rw[LD,LD];lia);have ea:its.toArray++uF.toArray=(its++uF).toArray:=by simp
 rw[ea];exact⟨.ref _,_,I.lnew (t':=s.toks) (r.append r2) (by rw[LR];lia),B?,q _ I.fresh⟩
end
section
variable{X:Cx}
end
end L2
namespace Att
open PySem PySem.W PySem.Calls PyProof.Rows
theorem ints_of_wellAll{P:Params}:∀(ns:List Int)(vs:List Lu),WellAll P h vs (ns.map WData.int)->IntsAre vs ns:=by
 intro ns;induction ns with
 | nil =>
   intro vs w;rw[N1]at w;cases w;exact .nil
 | cons n ns ih =>
   intro vs w;rw[Mf]at w;cases w with
   | cons a b =>
     cases a;exact .cons _ _ (ih _ b)
theorem script_of{l:OpenLaw}(hn:l.most=A? n){P:Params}{args:List WData}{vals:List Lu}
 (wO:l.row.toRowW.claim.pre args=AG) (yW:WellAll P h vals args) :
 ∃a vs ns,vals=[Mb a]/\args=[WData.list (ns.map WData.int)]/\h.get? a=A? {cls:=.type "list",data:=.seq vs.toArray}/\IntsAre vs ns/\ns.length<=n:=by
 have HW:WShape.hasAll [] args [.list .int]=true:=(pre_splitW wO).1;have hc:l.pre.holds [] {args:=args}=true:=(pre_splitW wO).2;obtain⟨d,r,rfl,h1,h2⟩:=hasAllW_cons HW;obtain rfl:=hasAllW_nil h2;obtain⟨xs,rfl,h3⟩:=hasW_list h1;obtain⟨ns,rfl⟩:=items_int h3
 have hlen:ns.length<=n:=by
  unfold OpenLaw.pre at hc
  have h4:(WTm.not (.lt (.lit (.int (n:Int))) (.len (.arg 0)))).holds [] {args:=[.list (ns.map .int)]}=true:=by
   have h4:=(holds_andW hc).1;rw[hn]at h4;exact h4
  have h5:=condW_of h4 (w_not (w_lt w_lit (w_len_list (w_arg rfl))));rw[Lx]at h5;refine Nat.le_of_not_lt λq=>?_;have q':(n:Int)<((ns.length:Nat):Int):=by lia
  first
   |(rw[Ua q']at h5;exact Wa h5 (by decide))
   |(simp at h5;lia)
 cases yW with
 | cons w1 w2 =>
   cases w2;cases w1 with
   |list ho uL=>exact⟨_,_,ns,B?,B?,ho,ints_of_wellAll ns _ uL,hlen⟩
theorem post_true(l:OpenLaw)(args:List WData):l.row.toRowW.claim.post args (.bool AG) args=AG :=
 postW_of (r:=l.row.toRowW) (X:=(AG == AG))
  (show WShape.has [] (.bool AG) .bool=AG by first|rfl|decide|simp[WShape.has,WShape.arms,WShape.armsAll])
  (show(WTm.eq .res (.lit (.bool AG))).value [] {args:=args,res:=A? (.bool AG),after:=args}=A? (.bool (AG == AG))from w_eq_bool (w_res rfl) w_lit) rfl
theorem attach_call{l:OpenLaw}{q:LF}{d:DefRec}
 (hn:l.most=A? n) (AU:d.params.defaults=[])
 (call:∀(w:LQ)(s₀ uD:Lw)(mg mb:LL->Option Lu)(fa:Ls)(o:M4)(pm cd doc:Lu)(a:Ls)(vs:List Lu)(ns:List Int),
  Ground q loose [] XP w s₀ mg mb uD.heap->YP w uD.heap ->
  uD.heap.get? fa=A? o->o.data=.func (docDef d.name d.params d.body d.scope pm cd doc)->uD.heap.CodeRec cd d.name->mg d.name=A? (.ref fa) ->
  uD.heap.get? a=A? {cls:=.type "list",data:=.seq vs.toArray}->IntsAre vs ns->ns.length<=n->uD.gens=#[] ->
  NC (LN l.prog w) callerA (.call (.ref fa) ⟨[.ref a],[]⟩) (λr s'=>r=.ok (.ret (.bool AG))/\OldK uD.heap s'.1/\s'.os=uD.os/\Qf s'.gens) uD) :
 WalkO q loose XP YP l.row.toRowW d [] (λf vs=>PySem.call f vs):=by
 intro w s₀ uD mg mb G Y fa o pm cd doc dV kV ho hd vA hD Dp hg args vals as wO HX Ga yW KI;obtain rfl:dV=.none:=Dflts.none hD AU;obtain rfl:kV=.none:=Dflts.noKw hD;obtain⟨a,vs,ns,rfl,rfl,zx,hints,hlen⟩:=script_of hn wO yW;refine enter_call (Oe (call w s₀ uD mg mb fa o pm cd doc a vs ns G Y ho (fd_plain hd) vA Dp zx hints hlen hg) λr s' hq=>?_);obtain⟨rfl,h2,h3,h4⟩:=hq;exact⟨.inl ⟨.bool AG,.bool AG,[],B?,λ_=>rfl,.bool AG,post_true l _,λ_=>⟨List.Pairwise.nil,λ_ hm=>(nomatch hm)⟩⟩,h2,h3,h4⟩
section
variable{K:Frag}
end
end Att
namespace L2
open PySem PySem.Spec PyProof.Rows
theorem iF:∀{vs:List Lu}{ns:List Int},IntsAre vs ns->Vals (ns.map Vb) vs
 |_,_,.nil=>.nil
 |_,_,.cons n t h=>.cons ⟨t,rfl⟩ (iF h)
def inClass(s:NP)(j:Nat):NP:=match s with
 |.ClassDef _ _ _ body _ _ _ _ _ _ _=>body.getD j (.Pass ⟨0,0,0,0⟩)
 |_=>.Pass ⟨0,0,0,0⟩
def bw(s:NP):O9:=match s with
 |.FunctionDef _ a _ _ _ _ _ _ _ _=>a
 |_=>{posonlyargs:=[],args:=[],vararg:=Ak,kwonlyargs:=[],kw_defaults:=[],kwarg:=Ak,defaults:=[]}
def aW(s:NP):List NP:=match s with
 |.FunctionDef _ _ b _ _ _ _ _ _ _=>b
 |_=>[]
def az(s:NP):MS:=match s with
 |.FunctionDef _ _ _ _ _ _ sc _ _ _=>sc
 |_=>{kind:=.function,names:=[],isGenerator:=AH,isCoroutine:=AH}
abbrev CX0:CXT:=λ_ _ _ _ _ _=>False
abbrev E0:XK:=λ_ _ _=>False
theorem gb{X:Cx}:Passes CX0 X E0:=λ_ _ _ _ _ _ _ h=>h.elim
structure Fun(K:Ly)(x qual:LL)(st:NP)(f:Ls)(fd:M7):Prop where
 ex:∃(oc:Lu)(od:Option Ls)(kV doc pm:Lu)(an:Option Ls)(uI ct:Lu)(xM:Array (Option Lu)),
  fd=NZ x qual (bw st) (aW st) (az st) .none kV doc pm an uI ct/\K.lookup f=A? ⟨oc,od,.func fd,xM⟩/\PySem.W.codeIn K uI qual=AG
 kp:Nw K (.ref f)=AG
theorem Fun.ok{k:Nat}(F:Fun K x qual st f fd)(S:bX N ps (az st))(len:∀vs H Q E,sp vs H Q E->vs.length=ps.length)
 (uR:∀(uI:Lu)(A:LU)(outer:List OJ)(s:Lw)(H:Hp)(vs:List V)(Q:VK)(E:XK),Room k (A.deeper (NB qual (az st) s.1.1.size f uI))->sp vs H Q E ->
  ∃t,PSs (gv CX0 P w K mg base N qual (az st) f uI A outer s H E).nox (aW st) t/\t {nx:=λ_ H'=>Q .non H',rt:=Q} (start N vs) H):FnOk P w K mg base CX0 (k+1) f fd ps sp:=by
 obtain⟨oc,od,kV,doc,pm,an,uI,ct,xM,rfl,lk,vA⟩:=F.ex;refine ny lk vA S len λA outer s H vs Q E hr vM=>?_;obtain⟨t,h,q⟩:=uR uI A outer s H vs Q E hr vM;exact⟨t,h.nox,q⟩
theorem Fun.okA{k:Nat}(F:Fun K x qual st f fd)(S:bX N ps (az st))
 (uR:∀(uI:Lu)(A:LU)(outer:List OJ)(s:Lw)(H:Hp)(vs:List V)(Q:VK)(E:XK),Room k (A.deeper (NB qual (az st) s.1.1.size f uI))->sp vs H Q E ->
  ∃t,PSs (gv CX0 P w K mg base N qual (az st) f uI A outer s H E).nox (aW st) t/\t {nx:=λ_ H'=>Q .non H',rt:=Q} (start N vs) H) (len:∀vs H Q E,sp vs H Q E->vs.length=ps.length:=by intro _ _ _ _ h;cases h;subst_vars;rfl):FnOk P w K mg base CX0 (k+1) f fd ps sp:=F.ok S len uR
theorem pgN{X:Cx}(i:Nat)(hN:X.N.Nodup)(hi:X.N[i]?=A? x:=by rfl)(hx:Loc X.env.scope x:=by first|exact .inl rfl|exact .inr rfl)(hf:X.fn x=AG\/X.env.scope.names.lookup x=A? .local:=by first|exact .inl rfl|exact .inr rfl|assumption):PG X (.Name x pos) (ax i):=qy hN hi hx hf
theorem ak{X:Cx}(i:Nat){pos':Oi}(hN:X.N.Nodup)(he:PE X e te)(hi:X.N[i]?=A? x:=by rfl)(hx:Loc X.env.scope x:=by first|exact .inl rfl|exact .inr rfl)(hs:swapsWith e (A? (.Name x pos')) pos.line X.env=pure false:=by rfl)(hf:X.fn x=AG\/X.env.scope.names.lookup x=A? .local:=by first|exact .inl rfl|exact .inr rfl|assumption):PS X (.Assign [.Name x pos'] e pos) (mM te (ax i)):=rA hN hi hx he hs hf
theorem Fun.binds(F:Fun K x qual st f fd)
 (h:∀(kV doc pm:Lu)(an:Option Ls)(uI ct:Lu)(us:List Lu),us.length=ps.length->Pd (NZ x qual (bw st) (aW st) (az st) .none kV doc pm an uI ct) ⟨us,[]⟩=pure (ps.zip us)):Binds K fd ps []:=by
 obtain⟨oc,od,kV,doc,pm,an,uI,ct,xM,rfl,lk,vA⟩:=F.ex;exact .all (h kV doc pm an uI ct)
theorem gA{an:Option Ls}{xM:Array (Option Lu)}{kV doc pm uI ct:Lu}(l:K.lookup f=A? ⟨oc,od,.func (NZ x qual (bw st) (aW st) (az st) .none kV doc pm an uI ct),xM⟩)
 (c:PySem.W.codeIn K uI qual=AG) (k:Nw K (.ref f)=AG):Fun K x qual st f (NZ x qual (bw st) (aW st) (az st) .none kV doc pm an uI ct):=⟨⟨oc,od,kV,doc,pm,an,uI,ct,xM,rfl,l,c⟩,k⟩
theorem oq{k:Nat}(hr:Room k A):A.units+1<Nl:=Nat.lt_of_le_of_lt (Nat.add_le_add_left (by decide:1<=64) _) hr.units
section
variable{X:Cx}
theorem pv(i:Nat)(hN:X.N[i]?=A? x:=by rfl)(hv:Vis X.env.scope x:=by first|exact Or.inl rfl|exact Or.inr (Or.inl rfl)|exact Or.inr (Or.inr rfl))(hd:(x == ("__debug__":LL))=false:=by decide)
 (vA:(x == ("__classdict__":LL))=false:=by decide):PE X (.Name x pos) (bo i):=oW hN hv hd vA
end
theorem mG{A:Prop}(h:B):if AH=AG then A else B:=by
 rw[Ra LO];exact h
theorem ol{A:Prop}(h:A):if AG=AG then A else B:=by
 rw[Sa rfl];exact h
theorem bI{c A:Prop}[Decidable c](h1:c->A)(h2:¬c->B):if c then A else B:=by
 by_cases h:c
 .rw[Sa h];exact h1 h
 .rw[Ra h];exact h2 h
def Same(H H':Hp):Prop:=∀b o,H b=A? o->H' b=A? o
theorem Same.refl(H:Hp):Same H H:=λ_ _ h=>h
theorem Same.trans(a:Same H H1)(b:Same H1 H2):Same H H2:=λc o h=>b c o (a c o h)
theorem Same.free(e:Same H H')(h:H' l=Option.none):H l=Option.none:=by
 cases q:H l with
 |none=>rfl
 | some o =>
   rw[e l o q]at h;cases h
theorem Same.seq(e:Same H H')(h:SqL K H a xs):SqL K H' a xs:=by
 rcases h with(h|⟨o,h⟩)|h
 .exact .inl (.inl (e _ _ h))
 .exact .inl (.inr ⟨o,e _ _ h⟩)
 .exact .inr h
theorem eG(env:OJ):∀(ns:List (LL×Nh))(acc:List (LL×Ls)),(∀n,(n,Mz)∈ns->∃c,env.cells.lookup n=A? c) ->
 (∀x c,acc.lookup x=A? c->env.cells.lookup x=A? c) ->
 ∃cl,(forIn ns acc λ(x:LL×Nh)(cs:List (LL×Ls))=>(if(x.2 == Mz)=AG then(do let a <-cellOf env x.1;pure (M3 ((x.1,a)::cs)))else pure (M3 cs):Sem _))=pure cl /\
   (∀x c,cl.lookup x=A? c->env.cells.lookup x=A? c)/\(∀n,(n,Mz)∈ns->∃c,cl.lookup n=A? c)/\∀n c,acc.lookup n=A? c->cl.lookup n=A? c
 | [],acc,_,ha=>⟨acc,rfl,ha,λ_ h=>by simp at h,λ_ _ h=>h⟩
 | (n,k)::r,acc,hf,ha=>by
   by_cases hk:k=Mz
   .subst hk;obtain⟨c,hc⟩:=hf n L5
    have HY:∀x c',((n,c)::acc).lookup x=A? c'->env.cells.lookup x=A? c':=λx c' e=>by
     rw[MK]at e;cases hx:x == n with
     | true =>
       rw[hx]at e;have e1:x=n:=by simpa using hx
       cases e;rw[e1];exact hc
     |false=>rw[hx]at e;exact ha x c' e
    obtain⟨cl,h1,h2,h3,h4⟩:=eG env r ((n,c)::acc) (λm hm=>hf m (LS _ hm)) HY;have up:∀m c',((n,c)::acc).lookup m=A? c'->cl.lookup m=A? c':=h4;refine⟨cl,?_,h2,?_,?_⟩
    .rw[List.forIn_cons];have e0:cellOf env n=pure c:=by unfold cellOf;rw[hc]
     simp only[beq_self_eq_true,if_true,e0,pure_bind];exact h1
    .intro m hm;rcases LW.mp hm with e|e
     .have:m=n:=by simpa using(P0 e).1
      subst this;exact⟨c,up m c (by rw[MK];simp)⟩
     .exact h3 m e
    .intro m c' e;by_cases hm:m=n
     .subst hm;have:=ha m c' e;rw[hc]at this;cases this;exact up m c (by rw[MK];simp)
     .have HZ:(m == n)=false:=by simpa using hm
      exact up m c' (by rw[MK,HZ];exact e)
   .have hb:(k == Mz)=false:=by simpa using hk
    obtain⟨cl,h1,h2,h3,h4⟩:=eG env r acc (λm hm=>hf m (LS _ hm)) ha;refine⟨cl,?_,h2,?_,h4⟩
    .rw[List.forIn_cons];simp only[hb,MN,if_false,pure_bind];exact h1
    .intro m hm;rcases LW.mp hm with e|e
     .exact Wa (P0 e).2.symm hk
     .exact h3 m e
theorem eE(hf:∀n,(n,Mz)∈sc.names->∃c,env.cells.lookup n=A? c) :
 ∃cl,closureFor sc env=pure cl/\(∀x c,cl.lookup x=A? c->env.cells.lookup x=A? c)/\∀n,(n,Mz)∈sc.names->∃c,cl.lookup n=A? c:=by
 obtain⟨cl,h1,h2,h3,_⟩:=eG env sc.names [] hf (λx c e=>by simp at e);refine⟨cl,?_,h2,h3⟩;unfold closureFor;have e:(forIn sc.names ([]:List (LL×Ls)) λ(x:LL×Nh)(cs:List (LL×Ls))=>(do if(x.2 == Mz)=AG then(do let a <-cellOf env x.1;pure (M3 ((x.1,a)::cs)))else pure (M3 cs):Sem _))=pure cl:=h1
 first
  |(rw[show(forIn sc.names ([]:List (LL×Ls)) _:Sem _)=pure cl from h1];rfl)
  |(simp only[h1,pure_bind])
theorem gK{f:LL×Nh->LL×Nh}(hf:∀p,(f p).1=p.1):∀{l:List (LL×Nh)}{x:LL}{k:Nh},l.lookup x=A? k->(l.map f).lookup x=A? (f (x,k)).2
 | [],_,_,h=>by simp at h
 | (n,k0)::r,x,k,h=>by
   have ih:=@gK f hf r x k;rw[Mf];obtain⟨a,b,e⟩:∃a b,f (n,k0)=(a,b):=⟨_,_,rfl⟩;have ea:a=n:=by have:=hf (n,k0);rw[e]at this;exact this
   subst ea;rw[e,MK];cases hx:x == a with
   | true =>
     rw[MK,hx]at h;cases h;have:x=a:=by simpa using hx
     subst this;rw[e]
   |false=>rw[MK,hx]at h;exact ih h
theorem cN{f:LL×Nh->LL×Nh}(hf:∀p,(f p).1=p.1):∀{l:List (LL×Nh)}{x:LL}{k:Nh},(l.map f).lookup x=A? k->∃k0,(x,k0)∈l/\(f (x,k0)).2=k
 | [],_,_,h=>by simp at h
 | (n,k0)::r,x,k,h=>by
   have ih:=@cN f hf r x k;rw[Mf]at h;obtain⟨a,b,e⟩:∃a b,f (n,k0)=(a,b):=⟨_,_,rfl⟩;have ea:a=n:=by have:=hf (n,k0);rw[e]at this;exact this
   subst ea;rw[e,MK]at h;cases hx:x == a with
   | true =>
     rw[hx]at h;cases h;have:x=a:=by simpa using hx
     subst this;exact⟨k0,L5,by rw[e]⟩
   | false =>
     rw[hx]at h;obtain⟨k1,h1,h2⟩:=ih h;exact⟨k1,LS _ h1,h2⟩
def rlb(env:OJ)(p:LL×Nh):LL×Nh:=if(p.2 == Mz && env.scope.kind == .function && env.kindOf p.1 == A? .cell)then(p.1,Om)else(p.1,p.2)
theorem je(env:OJ)(p:LL×Nh):(rlb env p).1=p.1:=by unfold rlb;split <;> rfl
theorem d7(sc:MS)(env:OJ):(relabel sc env).names=sc.names.map (rlb env):=rfl
theorem fj(h:sc.names.lookup x=A? .free):(relabel sc env).names.lookup x=A? .cell\/(relabel sc env).names.lookup x=A? .free:=by
 rw[d7,gK (je env) h];unfold rlb;split
 .exact .inl rfl
 .exact .inr rfl
theorem gO(hn:∀y∈sc.names,y.2≠Om)(h:(relabel sc env).names.lookup x=A? .cell\/(relabel sc env).names.lookup x=A? .free):(x,Mz)∈sc.names:=by
 rw[d7]at h
 have:∃k0,(x,k0)∈sc.names/\((rlb env (x,k0)).2=.cell\/(rlb env (x,k0)).2=.free):=by
  rcases h with h|h
  .obtain⟨k0,a,b⟩:=cN (je env) h;exact⟨k0,a,.inl b⟩
  .obtain⟨k0,a,b⟩:=cN (je env) h;exact⟨k0,a,.inr b⟩
 obtain⟨k0,hm,hk⟩:=this;have nc:=hn _ hm;cases k0 with
 |free=>exact hm
 |cell=>exact Wa rfl nc
 |_=>simp[rlb]at hk
def aE(X:Cx)(N:List LL)(sc:MS)(cl:List (LL×Ls))(C:Ls)(s:Lw)(H:Hp)(fp:List Ls)(Z:List (Ls×M4)):Cx :=
 {X with N:=N,s₀:=s,H₀:=H,env:=compEnvC sc cl C X.env,outer:=X.stack,ex:=fp,fn:=λ_=>AH,pn:=X.pn++Z,xe:=λ_ _=>False}
def cσ(js:List (Option Nat))(Y:St):St:=js.map λo=>o.bind λj=>(Y[j]?).join
structure bR(X:Cx)(sc:MS)(N:List LL)(js:List (Option Nat)):Prop where
 kind:sc.kind=.function
 nocell:∀y∈sc.names,y.2≠Om
 names:∀y∈sc.names,y.2=NameKind.local->sc.names.lookup y.1=A? .local
 frees:∀y∈sc.names,y.2=Mz->X.env.kindOf y.1=A? .cell\/X.env.kindOf y.1=A? .free
 len:js.length=N.length
 slots:∀(i j:Nat)(x:LL),js[i]?=A? (A? j)->N[i]?=A? x->X.N[j]?=A? x/\sc.names.lookup x=A? .free/\(X.env.kindOf x=A? .cell\/X.env.kindOf x=A? .free)
theorem cE{X:Cx}(k:sc.kind=.function)(nc:∀y∈sc.names,y.2≠Om)(nm:∀y∈sc.names,y.2=NameKind.local->sc.names.lookup y.1=A? .local)
 (fr:(sc.names.all λy=>y.2 != Mz ||X.env.kindOf y.1 == A? Om ||X.env.kindOf y.1 == A? Mz)=AG) (ln:js.length=N.length)
 (sl:((js.zip N).all λp=>match p.1 with|none=>AG|some j=>X.N[j]? == A? p.2 && sc.names.lookup p.2 == A? Mz && (X.env.kindOf p.2 == A? Om ||X.env.kindOf p.2 == A? Mz))=AG):bR X sc N js:=by
 refine⟨k,nc,nm,λy hy hf=>?_,ln,λi j x e1 e2=>?_⟩
 .have h:=Nx.mp fr y hy;rw[hf]at h;simpa using h
 .have hm:(A? j,x)∈js.zip N:=by
   have:(js.zip N)[i]?=A? (A? j,x):=by rw[OW];exact⟨e1,e2⟩
   exact L9 this
  have h:=Nx.mp sl _ hm;simp at h;exact⟨h.1.1,h.1.2,h.2⟩
def PTs(X:Cx)(ifs:List Mv)(t:TT):Prop :=
 ∀(Z:List (Ls×M4))(s:Lw)(Y:St)(H:Hp)(Q:Bool->Hp->Prop),Inv X Z Y H s->t Y H Q ->
   LG (LN X.prog X.w) X.A (forIn ifs AG λc r=>if r=AG then do let ok <-isTrue c X.env (Nd c X.env);pure (M3 ok)else pure (M3 r)) (TP X Z Y Q) X.xe s
def bt:TT:=λ_ H Q=>Q AG H
theorem bx{X:Cx}:PTs X [] bt:=λ_ _ _ H _ I h=>wpAny_tests_nil ⟨H,I,h⟩
theorem pQ{X:Cx}{c:Mv}{t:TT}(h:PT X c t):PTs X [c] t:=λZ s Y H Q I q=>wpAny_tests_one (h Z s Y H Q I q)
def Keep(Y uE:St):Prop:=Y.length=uE.length/\∀(i:Nat)(v:V),Y[i]?=A? (A? v)->uE[i]?=A? (A? v)
def iB(js:List (Option Nat))(g:TG):Prop:=∀(Y uS:St)(x:V)(H:Hp)(Q:St->Hp->Prop),Keep (cσ js Y) uS->g x uS H Q->g x uS H λuV H2=>Keep (cσ js Y) uV/\Q uV H2
theorem Keep.refl(Y:St):Keep Y Y:=⟨rfl,λ_ _ h=>h⟩
theorem pP{i:Nat}(h:js[i]?=A? Ak):(cσ js Y)[i]?=A? none:=by
 unfold cσ;rw[LZ,h];rfl
theorem br{i:Nat}(h:js[i]?=A? Ak):iB js (ax i):=λY uS x H Q k q=>by
 refine⟨⟨by rw[List.length_set];exact k.1,λj v e=>?_⟩,q⟩;by_cases hj:i=j
 .subst hj;rw[pP h]at e;cases e
 .rw[NV hj];exact k.2 j v e
def hI(js:List (Option Nat))(g:TG)(tt:TT)(te:TE)(Y:St)(J:It)(D:Ls)(n:Nat)(W:Nat->Hp->Prop)(fin:Hp->Prop):Prop :=
 ∀i H,W i H->(J.stop i H/\fin H)\/(i<n/\J.go i H/\∀x H1,J.yld i H x H1->g x (cσ js Y) H1 λuV H2=>tt uV H2 λb H3 =>
   if b=AG then te uV H3 λv H4=>∃ys,H4 D=A? (.lst ys)/\ys.length<LK/\W (i+1) (upd H4 D (.lst (ys++[v])))else W (i+1) H3)
def og(js:List (Option Nat))(wi:TI)(g:TG)(tt:TT)(te:TE):TE:=λY H Q=>wi Y H λJ H1=>∀D,H1 D=Ak ->
 ∃(n:Nat)(W:Nat->Hp->Prop),W 0 (upd H1 D (.lst []))/\hI js g tt te Y J D n W λH'=>Q (.ref D) H'
section
variable{X:Cx}
theorem kr(S:bR X sc N js)(I:Inv X Z Y H s)
 (vo:∀x c,cl.lookup x=A? c->X.env.cells.lookup x=A? c) (xm:∀n,(n,Mz)∈sc.names->∃c,cl.lookup n=A? c)
 (hf:∀b∈fp,dB X Z H b) (uN:∀b∈fp,b<s.1.1.size) (vR:h1.Ns s.1.1.size λx=>Nq x ([]:List (LL×Lu)))
 (wb:∀b o,s.1.get? b=A? o->h1.get? b=A? o) :
 Inv (aE X N sc cl s.1.1.size s H fp Z) [] (cσ js Y) H {s with heap:=h1,toks:=t'}:=by
 have hok:(aE X N sc cl s.1.1.size s H fp Z).Ok :=
  { mod:=I.ok.mod
    kind:=S.kind
    glob:=I.ok.glob
    blt:=I.ok.blt
    above:=LC _
    inj:=λx y c a b=>I.ok.inj x y c (vo x c a) (vo y c b)
    has:=λx h=>xm x (gO S.nocell h)
    cab:=λx c h=>by cases h
    hd:=I.ok.hd
    frames:=I.ok.frames
    stk:=.inl rfl
    exf:=λb hb=>⟨λe=>Wa (uN b hb) (by rw[e];exact Me _),λx c e z=>(hf b hb).2.2.2.2.1 x c (vo x c e) z⟩
    bs:=I.bs
    bsz:=Mr I.ok.bsz I.sz
    noex:=λb o e hb=>by
     rcases(hf b hb).2.2.2.1 with h|h
     .exact I.ok.noex b o e h
     .exact Wa (LX (LX (LJ e) I.ok.bsz) h) (Me _)
    exfs:=λb hb hm=>by
     rcases LW.mp (I.stkSub b hm)with e|e
     .exact(hf b hb).2.1 e
     .exact(hf b hb).2.2.1 e
    funs:=I.stack
    frf:=I.stkFree }
 have hC:H s.1.1.size=none:=I.hok.fresh (LC _);obtain⟨m0,Gb,Co⟩:=I.loc
 exact
  { ok:=hok
    os:=rfl
    bare:=I.bare
    base:=Un.kept wb
    loc:=⟨_,vR,λi x v e1 e2 KJ=>by
     have Dq:∃j,js[i]?=A? (A? j)/\Y[j]?=A? (A? v):=by
      unfold cσ at e2;rw[LZ]at e2;cases q:js[i]? with
      |none=>rw[q]at e2;cases e2
      | some o =>
        rw[q]at e2;cases o with
        |none=>cases e2
        | some j =>
          refine⟨j,B?,?_⟩;have e3:(Y[j]?).join=A? v:=Ma e2;cases r:Y[j]? with
          |none=>rw[r]at e3;cases e3
          |some z=>rw[r]at e3;exact Xa A? e3
     obtain⟨j,q1,q2⟩:=Dq;obtain⟨n1,n2,n3⟩:=S.slots i j x q1 e1;obtain⟨u,ru,look⟩:=Co j x v n1 q2 (by rcases n3 with z|z;exact .inr (.inl z);exact .inr (.inr z));refine⟨u,ru,.inr ⟨fj n2,?_⟩⟩;have hm:(x,Mz)∈sc.names:=gO (env:=X.env) S.nocell (fj n2);obtain⟨c,hc⟩:=xm x hm;refine⟨c,hc,?_⟩;rcases look with⟨k1,_⟩|⟨_,c',vQ,ic⟩
     .rcases n3 with z|z <;> (rw[k1]at z;cases z)
     .have:=vo x c hc;rw[vQ]at this;cases this;exact ic.keeps wb⟩
    cell:=λx c e=>by
     obtain⟨v,q⟩:=I.cell x c (vo x c e);exact⟨v,q.keeps wb⟩
    free:=hC
    freeC:=λx c e=>I.freeC x c (vo x c e)
    pin:=λp hp=>by
     have Cp:p∈X.pn++Z:=by simpa[aE]using hp
     obtain⟨a1,a2,a3,a4,a5⟩:=I.pin p Cp;refine⟨wb _ _ a1,a2,λe=>?_,λhm=>?_,a5⟩
     .have e':p.1=s.1.1.size:=e;exact Wa (LJ a1) (by rw[e'];exact Me _)
     .rcases LW.mp (I.stkSub p.1 hm)with e|e
      .exact a3 e
      .exact a4 e
    hok:=I.hok.kept wb
    len:=by
     show(cσ js Y).length=N.length;unfold cσ;rw[Lx];exact S.len }
theorem ng{target:Mv}{it:Lu}(J:Nat->Lw->Prop)
 (turn:∀n s,J n s->LG (LN prog w) A (OC it) (λr uD=>(r=Ak/\R (.ok .next) uD)\/∃v,r=A? v /\
  LG (LN prog w) A (OU target it v) (λ_ vd=>LG (LN prog w) A (assign target env v) (λ_ vq =>
   LG (LN prog w) A (forIn ifs AG λc r=>if r=AG then do let ok <-isTrue c env (Nd c env);pure (M3 ok)else pure (M3 r)) (λok vF =>
    (ok=AH/\∃m,m<n/\J m vF)\/(ok=AG/\LG (LN prog w) A (Nd elt env) (λx xP=>LG (LN prog w) A (call (.builtin "list.append") [acc,x]) (λ_ xQ=>∃m,m<n/\J m xQ) (λ_ _=>False) xP) (λ_ _=>False) vF))
    (λ_ _=>False) vq) (λ_ _=>False) vd) (λ_ _=>False) uD) (λ_ _=>False) s)
 (n:Nat) (h:J n s):NC (LN prog w) A (.compLoop (.ListComp elt [⟨target,iter,ifs,0⟩] scope pos) 0 it acc env) R s:=by
 refine codeAny_loop rfl J (λn s hJ=>?_) n h;show LG _ A ((compTurn (.ListComp elt [⟨target,iter,ifs,0⟩] scope pos) 0 it acc env).onRaise _) _ _ s;refine wpAny_noted ?_;rw[compTurn_list];have up:∀{α:Type}{m:Sem α}{Q:α->Lw->Prop}{E:Lu->Lw->Prop}{s:Lw},LG (LN prog w) A m Q (λ_ _=>False) s->LG (LN prog w) A m Q E s:=λq=>Mq q (λ_ _ z=>z) λ_ _ z=>z.elim;refine Lr (wpAny_standAt (Lr (Mq (up (turn n s hJ)) (λr uD uK=>?_) λ_ _ z=>z)));rcases uK with⟨rfl,uK⟩|⟨v,rfl,uK⟩
 .exact Lz uK
 .refine Lr (Mq (up uK) (λ_ vd wQ=>?_) λ_ _ z=>z);refine Lr (Mq (up wQ) (λ_ vq xR=>?_) λ_ _ z=>z);refine Lr (Mq (up xR) (λok vF vG=>?_) λ_ _ z=>z);rcases vG with⟨rfl,vG⟩|⟨rfl,vG⟩
  .exact Lz ⟨rfl,vG⟩
  .exact Lr (Lr (Mq (up vG) (λx xP zy=>Lr (Mq (up zy) (λ_ xQ zz=>Lz (Lz ⟨rfl,zz⟩)) λ_ _ z=>z)) λ_ _ z=>z))
theorem hW{g:TG}{tn:Nat->Ml->Prop}{W:Nat->Hp->Prop}{fin:Hp->Prop}
 {R:Lu->Ls->PH->Lw->Prop} (hc:X.calm=AG) (S:bR X sc N js) (I:Inv X Z Y H s) (T:Turn X.prog X.w X.K tg J fp it tn) (st:tn 0 s.1) (hf:∀b∈fp,dB X Z H b)
 (vo:∀x c,cl.lookup x=A? c->X.env.cells.lookup x=A? c) (xm:∀n,(n,Mz)∈sc.names->∃c,cl.lookup n=A? c)
 (hg:∀cl C s H fp Z,PG (aE X N sc cl C s H fp Z) tg g) (gk:iB js g) (ht:∀cl C s H fp Z,PTs (aE X N sc cl C s H fp Z) ifs tt) (he:∀cl C s H fp Z,PE (aE X N sc cl C s H fp Z) elt te)
 (w0:W 0 (upd H s.1.1.size (.lst []))) (turn:hI js g tt te Y J s.1.1.size n W fin)
 (hR:∀C H' s',C≠X.env.locals->s.1.1.size<C->(∃m,s'.1.Ns C m)->H' C=Ak->(∀h' t',MQ C s'.1 h'->Inv X Z Y H' {s' with heap:=h',toks:=t'})->fin H'->R (.ref s.1.1.size) C (.ok .next) s') :
 LG (LN X.prog X.w) X.A (newList []) (λacc vq=>LG (LN X.prog X.w) X.A (Qj sc X.env.globals cl [] X.env.qual Ak .none (A? X.env)) (λvi vF =>
  NC (LN X.prog X.w) X.A (.compStart (.ListComp elt [⟨tg,iter,ifs,0⟩] sc pos) 0 (.ref it) acc {vi with scope:=relabel sc X.env}) (R acc vi.locals) vF) E vq) E s:=by
 refine Mm (wpAny_newFunctionEnv S.nocell (by intro y hy;simp at hy) (λuK u4 u5=>?_) S.kind);dsimp only at u4 u5 |-;have I3:Inv X Z Y (upd H s.1.1.size (.lst [])) {s with heap:=s.1.push {cls:=.type "list",dict:=Ak,data:=.seq ([]:List Lu).toArray}}:=I.lnew (t':=s.toks) (its:=[]) .nil (by decide)
 have uN:∀b∈fp,b<s.1.1.size:=λb hb=>by
  obtain⟨o,ho,_⟩:=T.obj _ _ st b hb;exact LJ ho
 have wo:∀b o,s.1.get? b=A? o->(s.1.push {cls:=.type "list",dict:=Ak,data:=.seq ([]:List Lu).toArray}).get? b=A? o:=λb o e=>LB _ e;have hsz:(s.1.push {cls:=.type "list",dict:=Ak,data:=.seq ([]:List Lu).toArray}).objs.size=s.1.1.size+1:=N9 ..;generalize AV:({s with heap:=s.1.push {cls:=.type "list",dict:=Ak,data:=.seq ([]:List Lu).toArray}}:Lw)=s3 at I3;have xS:s.1.push {cls:=.type "list",dict:=Ak,data:=.seq ([]:List Lu).toArray}=s3.1:=by rw[<-AV]
 rw[xS]at u4 u5 wo hsz;rw[xS];have Dr:∀t',({s with heap:=uK,toks:=t'}:Lw)={s3 with heap:=uK,toks:=t'}:=λt'=>by rw[<-AV]
 rw[Dr];have wb:∀b o,s3.1.get? b=A? o->uK.get? b=A? o:=λb o e=>u5.extBut b o (Mc (LJ e)) (LB _ e);have yo:∀b∈fp,dB X Z (upd H s.1.1.size (.lst [])) b:=λb hb=>⟨by rw[ai (Mc (uN b hb))];exact(hf b hb).1,(hf b hb).2⟩;have I4:=kr (t':=s.toks+([]:List (LL×Lu)).length) S I3 vo xm yo (λb hb=>by rw[hsz];exact OY (uN b hb)) u4 wb;generalize Ia:upd H s.1.1.size (.lst [])=H3 at I3 I4 yo w0;have uY:tn 0 uK:=T.keep _ _ _ st λb hb o e=>wb _ _ (wo _ _ e)
 have vC:∀{H':Hp},(∀b∈fp,H' b=Ak)->∀b∈fp,dB (aE X N sc cl s3.1.1.size s3 H3 fp Z) [] H' b:=λ{H'}hn b hb=>by
  obtain⟨f0,f1,f2,f3,f4,f5⟩:=hf b hb;refine⟨hn b hb,λe=>?_,λhm=>?_,.inl hb,λx c e=>f4 x c (vo x c e),λp hp=>f5 p (by simpa[aE]using hp)⟩
  .have e':b=s3.1.1.size:=e;have h9:b<s.1.1.size:=uN b hb;rw[e',hsz]at h9;exact Wa h9 (Nat.not_lt.mpr (Nat.le_succ _))
  .rcases LW.mp (I.stkSub b hm)with e|e
   .exact f1 e
   .exact f2 e
 have loop:NC (LN X.prog X.w) X.A (.compLoop (.ListComp elt [⟨tg,iter,ifs,0⟩] sc pos) 0 (.ref it) (.ref s.1.1.size) (compEnvC sc cl s3.1.1.size X.env)) (R (.ref s.1.1.size) s3.1.1.size)
  {s3 with heap:=uK,toks:=s.toks+([]:List (LL×Lu)).length}:=by
  refine ng (λk s'=>∃i H',Inv (aE X N sc cl s3.1.1.size s3 H3 fp Z) [] (cσ js Y) H' s'/\tn i s'.1/\(∀b∈fp,H' b=Ak)/\W i H'/\k=n - i) ?_ n ⟨0,H3,I4,uY,λb hb=>(yo b hb).1,w0,rfl⟩;rintro k s5 ⟨i,H5,I5,xJ,zr,w5,rfl⟩;rcases turn i H5 w5 with⟨stop,qn⟩|⟨xx,go,step⟩
  .refine thn (T.done (aE X N sc cl s3.1.1.size s3 H3 fp Z) rfl rfl rfl hc i [] s5 (cσ js Y) H5 _ I5 (vC zr) xJ stop) λr s6⟨hr,I6⟩=>.inl ⟨hr,?_⟩;have I7:Inv X Z Y H5 s6:=I3.call' (ch:=fp) (I6.os.trans rfl) I6.base I6.hok I6.bare λb hb=>⟨(hf b hb).2.2.2.1,(hf b hb).2.1,(hf b hb).2.2.2.2.1,(hf b hb).2.2.2.2.2⟩;have AW:H5 s3.1.1.size=none:=I6.free;have AX:s3.1.1.size≠X.env.locals:=Pq I3.lt;obtain⟨m6,Ds,_⟩:=I6.loc;refine hR s3.1.1.size H5 s6 AX (by lia) ⟨m6,Ds⟩ AW (λh' t' sb=>?_) qn;refine I7.turned (it:=s3.1.1.size) (λb o hb e=>sb.extBut b o hb e) AW AX (.inr I3.sz) (λx c e z=>?_) λp hp z=>?_
   .obtain⟨v,q⟩:=I3.cell x c e;exact Wa q.lt (by rw[z];exact Me _)
   .exact Wa (LJ (I3.pin p hp).1) (by rw[z];exact Me _)
  .refine thn (T.item (aE X N sc cl s3.1.1.size s3 H3 fp Z) rfl rfl rfl hc i [] s5 (cσ js Y) H5 _ I5 (vC zr) xJ go) λr s6⟨u,hr,h6⟩=>.inr ⟨u,hr,?_⟩;refine thn h6 λ_ s7⟨x,H7,I7,r7,y7,zA,Dt⟩=>?_;have Du:=I7.pinned (vC Dt) (T.obj _ _ zA);refine thn (hg cl s3.1.1.size s3 H3 fp Z _ s7 (cσ js Y) H7 x u _ Du r7 (gk Y (cσ js Y) x H7 _ (.refl _) (step x H7 y7))) λ_ s8⟨wR,H8,I8,k8,q8⟩=>?_;refine thn (ht cl s3.1.1.size s3 H3 fp Z _ s8 wR H8 _ I8 q8) λok s9⟨H9,I9,q9⟩=>?_
   have again:∀{s':Lw}{uE:St}{H':Hp},Keep (cσ js Y) uE->Inv (aE X N sc cl s3.1.1.size s3 H3 fp Z) ([]++fO fp s7.1) uE H' s'->W (i+1) H'->∃m,m<n - i/\∃i H',Inv (aE X N sc cl s3.1.1.size s3 H3 fp Z) [] (cσ js Y) H' s'/\tn i s'.1/\(∀b∈fp,H' b=Ak)/\W i H'/\m=n - i:=λ{s' uE H'}kp I' w'=>by
    refine⟨n - (i+1),by lia,i+1,H',(I'.unpinned).weak kp.1 kp.2,T.keep _ _ _ zA λb hb o e=>(I'.pin (b,o) (LV _ (LV _ (bP hb e)))).1,λb hb=>?_,w',B?⟩;obtain⟨o,e,d⟩:=T.obj _ _ zA b hb;exact(I'.pin (b,o) (LV _ (LV _ (bP hb e)))).2.1
   cases ok with
   | false =>
     refine .inl ⟨rfl,again k8 I9 ?_⟩;have AY:if AH=AG then _ else W (i+1) H9:=q9
     rw[Ra LO]at AY;exact AY
   | true =>
     refine .inr ⟨rfl,?_⟩;rw[Sa rfl]at q9;refine thn (he cl s3.1.1.size s3 H3 fp Z _ s9 wR H9 _ I9 q9) λvv Dw⟨v,Dx,Dy,rv,ys,hD,Dz,DA⟩=>?_;refine thn (aV _ Dw wR Dx (.ref s.1.1.size) [v] (.ref s.1.1.size) [vv] (λ_ H'=>W (i+1) H') Dy rfl (.cons rv .nil) ⟨_,ys,v,rfl,rfl,hD,Dz,DA⟩) λ_ Ib⟨_,Ic,DB,_,DC⟩=>?_;exact again k8 DB DC
 exact codeAny_compStart_list loop (T.self X.A 0 _ _ _ uY loop)
theorem bY{g:TG}(hc:X.calm=AG)(S:bR X sc N js)(hi:PI X tg iter wi)
 (hg:∀cl C s H fp Z,PG (aE X N sc cl C s H fp Z) tg g) (gk:iB js g) (ht:∀cl C s H fp Z,PTs (aE X N sc cl C s H fp Z) ifs tt) (he:∀cl C s H fp Z,PE (aE X N sc cl C s H fp Z) elt te)
 (hs:∀x,Pr iter X.env x=pure x:=by intro _;rfl):PE X (.ListComp elt [⟨tg,iter,ifs,0⟩] sc pos) (og js wi g tt te):=by
 intro Z s Y H Q I h;obtain⟨cl,e1,e2,e3⟩:=eE (env:=X.env) (sc:=sc) λn hn=>I.ok.has n (S.frees _ hn rfl);rw[eval_ListComp];refine PB (use:=Ak) rfl hs e1 S.kind S.names (thn (hi Z s Y H _ I h) λv s1 h1=>thn h1 λAM s2 h2=>?_);obtain⟨it,fp,tn,J,H2,rfl,I2,T,zp,f2,R2⟩:=h2;obtain⟨n,W,w0,turn⟩:=R2 s2.1.1.size I2.fresh;refine hW (R:=λacc C=>compPost (LN X.prog X.w) X.A X.xe Ak (EP X Z Y Q) acc C) hc S I2 T zp f2 e2 e3 hg gk ht he w0 turn λC H' s' _ _ hn _ inv fi=>?_;obtain⟨m,hm⟩:=hn;exact⟨m,hm,λh' sb=>⟨.ref s2.1.1.size,H',inv h' s'.toks sb,B?,fi⟩⟩
theorem l7{i:Nat}{y:LL}{AZ py:Oi}{g:TG}(hN:X.N.Nodup)(hy:X.N[i]?=A? y)(Ie:Loc X.env.scope y)(hc:X.calm=AG)(S:bR X sc N js)(hi:PI X tg iter wi)
 (hg:∀cl C s H fp Z,PG (aE X N sc cl C s H fp Z) tg g) (gk:iB js g) (ht:∀cl C s H fp Z,PTs (aE X N sc cl C s H fp Z) ifs tt) (he:∀cl C s H fp Z,PE (aE X N sc cl C s H fp Z) elt te)
 (Ig:swapsWith (.ListComp elt [⟨tg,iter,ifs,0⟩] sc pos) (A? (.Name y py)) AZ.line X.env=pure true:=by rfl)
 (hs:∀x,Pr iter X.env x=pure x:=by intro _;rfl) (hf:X.fn y=AG\/X.env.scope.names.lookup y=A? .local:=by first|exact .inl rfl|exact .inr rfl|assumption) :
 PS X (.Assign [.Name y py] (.ListComp elt [⟨tg,iter,ifs,0⟩] sc pos) AZ) (mM (og js wi g tt te) (ax i)):=by
 intro Z s Y H D I h;obtain⟨cl,e1,e2,e3⟩:=eE (env:=X.env) (sc:=sc) λn hn=>I.ok.has n (S.frees _ hn rfl);rw[exec_Assign_Name_used _ _ _ _ Ig];refine Lr (wpAny_standAt (Lr ?_));show LG _ X.A (do let _ <-comprehension (.ListComp elt [⟨tg,iter,ifs,0⟩] sc pos) sc X.env _ (newList []) AH (Nd iter X.env) (A? (assign (.Name y py) X.env))) _ _ s;refine Lr (Mq (PB (use:=A? (assign (.Name y py) X.env)) (Q:=λ_ s'=>SP X Z D .next s') rfl hs e1 S.kind S.names (thn (hi Z s Y H _ I h) λv s1 h1=>thn h1 λAM s2 h2=>?_)) (λ_ s' hq=>Lz (Lz hq)) λ_ _ z=>z);obtain⟨it,fp,tn,J,H2,rfl,I2,T,zp,f2,R2⟩:=h2;obtain⟨n,W,w0,turn⟩:=R2 s2.1.1.size I2.fresh;refine hW (R:=λacc C=>compPost (LN X.prog X.w) X.A X.xe (A? (assign (.Name y py) X.env)) (λ_ s'=>SP X Z D .next s') acc C) hc S I2 T zp f2 e2 e3 hg gk ht he w0 turn λC H' s' Gd hC hn DD inv fi=>?_;obtain⟨m,hm⟩:=hn
 have I5:Inv X Z Y H' s':=by
  have q:=inv s'.1 s'.toks (.refl ..);exact q
 refine wpAny_assign_Name (iy (v:=.ref s2.1.1.size) I5 hN hy Ie rfl (λs6 I6⟨a,sb,ha⟩=>?_) hf)
 have Ih:C≠a:=by
  rcases ha with ha|ha
  .rw[ha];exact Gd
  .intro z;obtain⟨v,q⟩:=I2.cell y a ha;exact Wa (Qp q.lt hC) (by rw[z];exact Me _)
 refine⟨m,hm.sameBut sb Ih,λh' Ii=>⟨_,H',I6.turned (it:=C) (t':=s6.toks) (λb o hb e=>Ii.extBut b o hb e) DD Gd (.inr (Mr I2.sz (N0 hC))) (λx c e z=>?_) λp hp z=>?_,fi⟩⟩
 .obtain⟨v,q⟩:=I2.cell x c e;exact Wa (Qp q.lt hC) (by rw[z];exact Me _)
 .exact Wa (Qp (LJ (I2.pin p hp).1) hC) (by rw[z];exact Me _)
end
def ll{α:Type}(xs:List α)(lo hi:Option Int):List α:=(xs.drop (Wb xs.length 0 lo)).take (Wb xs.length xs.length hi - Wb xs.length 0 lo)
def gu(z:LL)(lo hi:Option Int):LL:=⟨(ll z.cps.toList lo hi).toArray⟩
theorem nT(xs:List α)(a n:Nat):((ML n).map λ(k:Nat)=>a+k).filterMap (xs[·]?)=(xs.drop a).take n:=by
 induction n with
 |zero=>simp
 | succ n ih =>
   rw[List.range_succ,L6,Ow,ih,Nn];congr 1;rw[List.getElem?_drop];cases h:xs[a+n]? <;> simp[h]
theorem mQ(n d:Nat)(i:Int):max 0 (min (if i<0 then i+(n:Int)else i) (n:Int))=((Wb n d (A? i):Nat):Int):=by
 show max 0 (min (if i<0 then i+(n:Int)else i) (n:Int))=(((if i<0 then(i+(n:Int)).toNat else min i.toNat n):Nat):Int);by_cases h:i<0
 .rw[Sa h,Sa h];lia
 .rw[Ra h,Ra h];lia
theorem ox(A B:Int)(a b:Nat)(hA:A=(a:Int))(hB:B=(b:Int)):sliceRange A B 1=(ML (b - a)).map λ(k:Nat)=>a+k:=by
 subst hA;subst hB;unfold sliceRange;simp only[show(1:Int) > 0 by decide,if_true]
 have c:(if(a:Int)<(b:Int)then((b:Int) - a+1 - 1) / 1 else 0).toNat=b - a:=by
  split
  .rw[Int.ediv_one];lia
  .lia
 rw[c];refine List.map_congr_left λk _=>?_;lia
theorem mx(lo hi:Option Int)(n:Nat):O6 lo hi 1 n=(ML (Wb n n hi - Wb n 0 lo)).map λ(k:Nat)=>Wb n 0 lo+k:=by
 unfold O6;simp only[show(1:Int) > 0 by decide,if_true];cases lo <;> cases hi <;> refine ox _ _ _ _ ?_ ?_ <;> first|rfl|exact mQ _ _ _
theorem jI(z:LL)(lo hi:Option Int):(gu z lo hi).length<=z.length:=by
 show(ll z.cps.toList lo hi).toArray.size<=z.cps.size;unfold ll;rw[LD,Mj,N2,L4];lia
theorem iq(x:LL)(t:Tok)(l u:Option (Int×Tok))(hz:x.length<=LK)(h:∀t' k,Q (.str (gu x (l.map (·.1)) (u.map (·.1))) t') {s with toks:=k}):(sliceMade x t l u Ak).post Q s:=by
 have e:(Qi x l u Ak).filterMap (x.cps[·]?)=ll x.cps.toList (l.map (·.1)) (u.map (·.1)):=by
  unfold Qi ll;show(O6 (l.map (·.1)) (u.map (·.1)) 1 x.length).filterMap (x.cps[·]?)=_;rw[mx,show(x.cps[·]?)=(x.cps.toList[·]?)from funext λi=>(PQ ..).symm,nT,L4];rfl
 unfold sliceMade;split
 .rename_i hc
  have hl:(Qi x l u Ak).length=x.length:=by
   have:=(N4 _ _ ▸ hc).2;simpa using this
  have hw:gu x (l.map (·.1)) (u.map (·.1))=x:=by
   have e2:(ll x.cps.toList (l.map (·.1)) (u.map (·.1)))=x.cps.toList:=by
    have hp:Qi x l u Ak=(ML (Wb x.length x.length (u.map (·.1)) - Wb x.length 0 (l.map (·.1)))).map λ(k:Nat)=>Wb x.length 0 (l.map (·.1))+k:=mx _ _ _;rw[hp,Lx,NM]at hl;have b1:=HT.sIx_le x.length x.length (LC _) (u.map (·.1));have hx:x.cps.toList.length=x.length:=L4;unfold ll;rw[hx,hl];have Ij:Wb x.length 0 (l.map (·.1))=0\/x.length=0:=by lia
    rcases Ij with h0|h0
    .rw[h0,Ni,MI (by rw[hx];exact LC _)]
    .have:x.cps.toList=[]:=Pk.mp (by rw[hx];exact h0);rw[this];simp
   unfold gu;rw[e2]
  have:=h t s.toks;rw[hw]at this;exact this
 .show(⟨((Qi x l u Ak).filterMap (x.cps[·]?)).toArray⟩:LL).length<=LK/\Q _ _;rw[e];exact⟨Mr (jI x _ _) hz,h s.toks (s.toks+1)⟩
section
variable{X:Cx}
inductive qJ(x:V)(lo:Option Int)(hi:Option Int)(H:Hp)(Q:VK):Prop
 |mk (z:_) (vX:x=.str z) (vY:z.length<=LK) (w6:Q (.str (gu z lo hi)) H):qJ  x lo hi H Q
def tS:V->Option Int->Option Int->Hp->VK->Prop:=qJ
theorem part_of{v:Lu}{o:Option Int}(h:P8 v o):∃l:Option (Int×Tok),v=partValue l/\l.map (·.1)=o:=by
 cases h with
 |none=>exact⟨Ak,B?,B?⟩
 |int i t=>exact⟨A? (i,t),B?,B?⟩
theorem re:SlR X tS:=by
 intro Z s Y H x v vl vu lo hi sl Q I rx hs pl pu h;obtain⟨z,rfl,hz,q⟩:=h;obtain⟨t,rfl⟩:=rx;obtain⟨l,rfl,rfl⟩:=part_of pl;obtain⟨u,rfl,rfl⟩:=part_of pu;refine⟨"str",_,F.slot_str_getitem.lookup,typeIs_str s z t,wpAny_getItem_str_slice (l:=l) (u:=u) (st:=Ak) ?_ rfl (iq z t l u hz λt' k=>?_)⟩
 .obtain⟨o,ho,hc,hd⟩:=hs;exact⟨o,ho,hc,hd⟩
 .exact⟨.str (gu z (l.map (·.1)) (u.map (·.1))),H,I.tok k,⟨_,B?⟩,q⟩
theorem kj(hc:X.calm=AG):dC X (.builtin "sum") (λxs H Q=>∃(p:Ls)(ns:List Int),xs=[.ref p]/\SqL X.K H p (ns.map Vb)/\Q (.int ns.sum) H):=by
 intro Z s Y H xs us Q I r h;obtain⟨p,ns,rfl,hl,q⟩:=h;obtain⟨u,rfl,rx⟩:=vals1 r;cases rx;obtain⟨its,rv,pl,_⟩:=I.list hl;have hi:=intsAre_of rv;obtain⟨ys,e⟩:=(hi.allInts).items;have yy:s.1.IsList p (intItems ys):=by rw[<-e];exact pl.isList
 refine sum_intListG (I.ok.hd hc) yy λh' tk t' hk=>?_
 have e3:preSum (numAt ys) ys.size=ns.sum:=by
  rw[preSum_eq,MI (by simp),<-nums_intItems,<-e];show(numsOf its).sum=_;rw[hi.numsOf]
 rw[e3];exact⟨.int ns.sum,H,I.kept hk,⟨_,B?⟩,q⟩
theorem mV(hc:X.calm=AG):dC X (.builtin "max") (λxs H Q=>∃(p:Ls)(ns:List Int),xs=[.ref p]/\SqL X.K H p (ns.map Vb)/\ns≠[]/\∀M,M∈ns->(∀a,a∈ns->a<=M)->Q (.int M) H):=by
 intro Z s Y H xs us Q I r h;obtain⟨p,ns,rfl,hl,u6,q⟩:=h;obtain⟨u,rfl,rx⟩:=vals1 r;cases rx;obtain⟨its,rv,pl,_⟩:=I.list hl;have hi:=intsAre_of rv;have hlen:=hi.length;obtain⟨ys,e⟩:=(hi.allInts).items;have yy:s.1.IsList p (intItems ys):=by rw[<-e];exact pl.isList
 have hn:ys.toList.map (·.1)=ns:=by rw[<-nums_intItems,<-e];exact hi.numsOf
 have hsz:0<ys.size:=by
  have:ns.length=ys.size:=by rw[<-hn];simp
  have:=List.length_pos_iff.mpr u6;lia
 refine max_intList (I.ok.hd hc) yy hsz λv h' tk hv hk=>?_;obtain⟨t,rfl⟩:=intItems_at hv;obtain⟨h1,h2⟩:=argBest_gt (numAt ys) (ys.size - 1);refine⟨.int _,H,I.kept hk,⟨_,B?⟩,q _ ?_ λa ha=>?_⟩
 .rw[numAt_eq,<-hn];exact getD_mem (by rw[Lx,L4];lia)
 .rw[<-hn]at ha;obtain⟨j,hj,rfl⟩:=mem_getD ha;rw[Lx,L4]at hj;rw[<-numAt_eq];exact h2 j (by lia)
end
end L2
open L2 renaming Same->Sb
namespace PySem
namespace F
theorem bb_owner_rev:Manifest.owners.lookup (String.ofList ['d','e','s','r','e','v','e','r'].reverse)=A? Manifest.sig_reversed:=by kernel_rfl
theorem bb_slot_rev_next:Slot "reversed" "__next__" "reversed.__next__" :=
 .of (owner:="reversed") (n:="__next__") (by rw[OT,NX];kernel_rfl) (by decide +kernel) (by decide +kernel) (by decide +kernel)
  (by first|exact .inl (by decide +kernel)|exact .inr (by decide +kernel)) (by rw[OD];kernel_rfl)
theorem bb_entry_rev_next:entryFor table "reversed.__next__"=A? Ny.«reversed.__next__»:=entryFor_of_tree (by kernel_rfl)
theorem bb_args_rev_next(a:Lu):argsOk "reversed.__next__" ⟨[a],[]⟩:=by
 unfold argsOk;rw[signature?_of (id:="reversed.__next__") (n:=['_','_','t','x','e','n','_','_']) (o:=['d','e','s','r','e','v','e','r']) (by kernel_rfl) bb_owner_rev];kernel_rfl
theorem bb_slot_rev_iter:Slot "reversed" "__iter__" "reversed.__iter__" :=
 .of (owner:="reversed") (n:="__iter__") (by rw[OT,NX];kernel_rfl) (by decide +kernel) (by decide +kernel) (by decide +kernel)
  (by first|exact .inl (by decide +kernel)|exact .inr (by decide +kernel)) (by rw[OD];kernel_rfl)
theorem bb_args_rev_iter(a:Lu):argsOk "reversed.__iter__" ⟨[a],[]⟩:=by
 unfold argsOk;rw[signature?_of (id:="reversed.__iter__") (n:=['_','_','r','e','t','i','_','_']) (o:=['d','e','s','r','e','v','e','r']) (by kernel_rfl) bb_owner_rev];kernel_rfl
theorem bb_entry_rev_iter:entryFor table "reversed.__iter__"=A? Ny.«dict_keyiterator.__iter__» :=
 entryFor_alias (id':="dict_keyiterator.__iter__") (by kernel_rfl) (by first|rfl|decide +kernel|(unfold String.splitOn;simp +decide [String.splitOnAux])) (by decide +kernel) (by kernel_rfl)
theorem bb_tuple_norev:typeLookup (.type "tuple") "__reversed__"=pure none:=by rw[OT,NX];kernel_rfl
theorem bb_sub_rev_rev:isSubtype (.type "reversed") (.type "reversed")=pure true:=by rw[OD];kernel_rfl
theorem bb_sub_tuple_dict:isSubtype (.type "tuple") (.type "dict")=pure false:=by rw[OD];kernel_rfl
end F
open Sem (wp)
theorem bb_slot_rev_init:Slot "reversed" "__init__" "object.__init__" :=
 .of (owner:="object") (n:="__init__") (by rw[OT,NX];kernel_rfl) (by decide +kernel) (by decide +kernel) (by decide +kernel)
  (by first|exact .inl (by decide +kernel)|exact .inr (by decide +kernel)) (by rw[OD];kernel_rfl)
theorem bb_called_rev:TypeCalled "reversed" "reversed.__new__" "object.__init__" :=
 ⟨by decide +kernel,by decide +kernel,⟨_,_,F.mro_reversed⟩,F.made_reversed,by decide +kernel,F.bb_sub_rev_rev,bb_slot_rev_init⟩
def revTup(t:Ls)(i:Int):M4:={cls:=.type "reversed",data:=.fields #[.ref t,Nz i]}
theorem bb_meets_rev_tuple(t:Ls)(items:Array Lu)(hz:(items.size:Int)<2 ^ 63) :
 Meets (Ny.«reversed.__new__» ⟨[.type "reversed",.ref t],[]⟩) (λ_ R s=>Qd s.1 t items/\∀tk,R (.ok (.ret (.ref s.1.1.size))) {s with heap:=s.1.push (revTup t ((items.size:Int) - 1)),toks:=tk}):=by
 refine .of_wp λprog w A R s h=>?_;obtain⟨ht,h⟩:=h;unfold Ny.«reversed.__new__»;refine Lr (OM (newClass_reversed _) ?_)
 try dsimp only
 refine Lr (OM (a:=()) (by first|rfl|kernel_rfl) ?_);refine Lr (OM (a:=()) (by first|rfl|kernel_rfl) ?_)
 try dsimp only
 refine Lr (Nt ht.typeIs F.bb_tuple_norev ?_)
 try dsimp only
 have KL:=F.bb_sub_tuple_dict;have KN:=L8.lookup;have hT:s.TypeIs (.ref t) "tuple":=ht.typeIs
 wp_walk using PyProof.Rows.len_tuple ht hz,NN hT
 exact⟨_,B?,h _⟩
theorem bb_call_rev_tuple{t:Ls}(ht:Qd s.1 t items)(hz:(items.size:Int)<2 ^ 63)
 (h:∀tk,Q (.ref s.1.1.size) {s with heap:=s.1.push (revTup t ((items.size:Int) - 1)),toks:=tk}):LG (LN prog w) A (call (.type "reversed") [.ref t]) Q E s :=
 callType_new bb_called_rev (by decide) (F.typeCall_reversed_1 _) (F.newCall_reversed_1 _) (λobj=>F.args_object_init_2 obj _) F.entry_reversed_new (bb_meets_rev_tuple t items hz)
  ⟨ht,λtk=>⟨⟨_,LH _ rfl,rfl⟩,h tk⟩⟩
def IsRevT(h:Ml)(a t:Ls)(i:Int):Prop:=∃o,h.get? a=A? o/\o.cls=.type "reversed"/\o.data=.fields #[.ref t,Nz i]
theorem IsRevT.typeIs{t:Ls}{i:Int}(x:IsRevT s.1 a t i):s.TypeIs (.ref a) "reversed":=let⟨o,ho,hc,_⟩:=x;⟨o,ho,hc⟩
theorem IsRevT.at{t:Ls}{i:Int}(x:IsRevT h a t i)(e:∀o,h.get? a=A? o->h'.get? a=A? o):IsRevT h' a t i:=let⟨o,ho,r⟩:=x;⟨o,e _ ho,r⟩
theorem bb_rev_iter{t:Ls}{i:Int}(hit:IsRevT s.1 it t i)(h:Q (.ref it) s):LG (LN prog w) A (pyIter (.ref it)) Q E s:=by
 refine wpAny_pyIter_slot hit.typeIs F.bb_slot_rev_iter (MW F.bb_slot_rev_iter hit.typeIs F.bb_entry_rev_iter ?_ (F.bb_args_rev_iter _));show LG _ _ (ret (.ref it)) _ _ s;exact Lz ⟨_,rfl,"reversed",_,hit.typeIs,F.bb_slot_rev_next.lookup,h⟩
theorem bb_rev_next{t:Ls}{i:Nat}{x:Lu}{Q:Option Lu->Lw->Prop}(hit:IsRevT s.1 it t (i:Int))(ht:Qd s.1 t items)(hx:items[i]?=A? x)(hz:(items.size:Int)<2 ^ 63)
 (hQ:∀h' tk,IsRevT h' it t ((i:Int) - 1)->MQ it s.1 h'->Q (A? x) {s with heap:=h',toks:=tk}):LG (LN prog w) A (OC (.ref it)) Q E s:=by
 obtain⟨o,ho,hc,hd⟩:=id hit;have hi:i<items.size:=(M1.mp hx).1;unfold OC
 refine Lr (PC (MO (name:=LI "__next__") hit.typeIs F.bb_slot_rev_next
  (MW F.bb_slot_rev_next hit.typeIs F.bb_entry_rev_next ?_ (F.bb_args_rev_next _))))
 unfold Ny.«reversed.__next__»;refine Lr (OM (a:=(Mb it,[])) rfl ?_)
 try dsimp only
 refine Lr (MV ho hd (x:=.ref t) rfl ?_);refine Lr (MV ho hd (x:=Nz (i:Int)) rfl ?_);show LG _ _ (if(i:Int)<0 then _ else _) _ _ s;rw[Ra (by lia)];refine Lr (Nt ht.typeIs L8.lookup ?_)
 try dsimp only
 rw[Ra (by decide)];refine Lr (m:=mkInt (i:Int)) (wpAny_mkInt ?_);refine Lr (PC (PyProof.Rows.getItem_tuple (j:=i) (x:=x) ht (by lia) (by lia) ?_ hx ?_))
 .refine(L2.i6 (n:=items.size) (i:=(i:Int)) (j:=i) ?_).1;unfold L2.ixN;rw[Sa (by lia),Sa (by lia)];simp
 .try dsimp only
  refine Lr (MV ho hd (x:=Nz (i:Int)) rfl ?_)
  try dsimp only
  refine Lr (N6 ho hd (by simp) ?_);refine Lz ⟨x,rfl,Lz (hQ _ _ ?_ (NF ..))⟩;exact⟨_,MG _ ho (OI (M9 hd _)),(Obj.cls_mapFields ..).trans hc,by rw[M9 hd];simp⟩
theorem bb_rev_end{t:Ls}{Q:Option Lu->Lw->Prop}(hh:A.handled=Ak)(hit:IsRevT s.1 it t (-1))
 (hQ:∀h' tk,Heap.ExtBut it s.1 h'->Q Ak {s with heap:=h',toks:=tk}):LG (LN prog w) A (OC (.ref it)) Q E s:=by
 obtain⟨o,ho,hc,hd⟩:=id hit;unfold OC
 refine Lr (PC (MO (name:=LI "__next__") hit.typeIs F.bb_slot_rev_next
  (MW F.bb_slot_rev_next hit.typeIs F.bb_entry_rev_next ?_ (F.bb_args_rev_next _))))
 unfold Ny.«reversed.__next__»;refine Lr (OM (a:=(Mb it,[])) rfl ?_)
 try dsimp only
 refine Lr (MV ho hd (x:=.ref t) rfl ?_);refine Lr (MV ho hd (x:=Nz (-1)) rfl ?_);show LG _ _ (if(-1:Int)<0 then _ else _) _ _ s;rw[Sa (by decide)];refine Lr (Pa ?_);refine Lr ?_
 wp_delta
 refine Lr (N6 ho hd (by simp) ?_);have xw:=MG (PM (·.setIfInBounds 1 (Nz (-1)))) ho (OI (M9 hd _));refine N6 xw (M9 hd _) (by simp) ?_;refine Lr ?_
 wp_delta
 refine Lr ?_;simp only[newExc,newTuple];refine Lr (Mm ?_ (by size_fits));refine Lr (m:=Qk _ _) (OM (a:=MH) (by first|rfl|(simp only[Qk];rfl)) ?_);refine Mm ?_ (by size_fits);simp only[raiseNew];refine Lr (wpAny_handled ?_)
 first|rw[show A.in1.handled=Ak from hh]|rw[hh]
 refine Lr (Lz (wpAny_throw ?_));refine Lr (OK (T:="StopIteration") (b:=AG) ⟨_,LH _ rfl,rfl⟩ isSubtype_stop ?_);refine Lz (hQ _ _ ?_);refine Heap.ExtBut.push (Heap.ExtBut.push ?_ _) _;intro b o' hb e;rw[MD _ _ (MY hb),MD _ _ (MY hb)];exact e
end PySem
namespace L2
open PySem PySem.Spec PyProof.Rows
section
variable{X:Cx}{p p2 wU:Oi}
def Itv(K:Ly)(a:Ls)(n:Nat):It:=⟨λi H=>i<n/\∃xs,SqL K H a xs/\xs.length=n,λi H x H'=>H'=H/\∀xs,SqL K H a xs->xs[n - 1 - i]?=A? x,λi _=>i=n⟩
theorem oR(a it:Ls)(n:Nat):Turn P w K tg (Itv K a n) [it] it (λi h=>h.IsRevIter it a ((n:Int) - 1 - (i:Nat))) where
 mem:=by simp
 obj:=λi h st b hb=>by
  have e:b=it:=by simpa using hb
  subst e;obtain⟨o,e,c,d⟩:=st;exact⟨o,e,λv z=>by rw[d]at z;cases z⟩
 keep:=λi h h' st k=>st.at λo e=>k it (by simp) o e
 item:=by
  intro X hP hw hK hc i Z s Y H E I hf st hg;subst hP hw hK;obtain⟨hi,xs,hq,hx⟩:=hg;obtain⟨its,rv,p,hz⟩:=I.list hq;have hl:=rv.length;obtain⟨x,uT⟩:∃x,xs[n - 1 - i]?=A? x:=⟨_,LA (by lia)⟩;obtain⟨u,hu,ru⟩:=rv.get uT;obtain⟨f0,f1,f2,f3,f4,f5⟩:=hf it (by simp);have e1:(n:Int) - 1 - (i:Nat)=((n - 1 - i:Nat):Int):=by lia
  rw[e1]at st;refine wpAny_pyNext_rev_item st p.isList (x:=u) (by simpa using hu) λh' wC sb=>?_;have I1:Inv X Z Y H {s with heap:=h'}:=I.turned (t':=s.toks) (λb o hb e=>(sb.2 b hb).trans e) f0 f1 f3 f4 f5;have e2:((n - 1 - i:Nat):Int) - 1=(n:Int) - 1 - ((i+1:Nat):Int):=by lia
  rw[e2]at wC;obtain⟨o,e,c,d⟩:=id wC;exact⟨u,B?,j1 (s:={s with heap:=h'}) e c d (by decide) ⟨x,H,I1,ru,⟨B?,λys hy=>by rw[I.list_inj hy hq];exact uT⟩,wC,λb hb=>(hf b hb).1⟩⟩
 done:=by
  intro X hP hw hK hc i Z s Y H E I hf st hg;subst hP hw hK;have DE:i=n:=hg;subst DE;obtain⟨f0,f1,f2,f3,f4,f5⟩:=hf it (by simp);rw[show(i:Int) - 1 - (i:Nat)=-1 by lia]at st;exact wpAny_pyNext_rev_end (I.ok.hd hc) st λh' eb=>⟨rfl,I.turned (t':=s.toks) (λb o hb e=>eb b o hb e) f0 f1 f3 f4 f5⟩
 self:=λ_ _ _ _ _ st h=>wpAny_pyIter_revIter st h
def tW(K:Ly)(tl:TE):TI:=λY H R=>tl Y H λx H1=>∃a xs,x=.ref a/\SqL K H1 a xs/\R (Itv K a xs.length) H1
theorem rj(g2:Gl X "reversed")(m2:X.mg "reversed"=Ak)(he:PE X e te)(h2:L7 [e] X.env=[(AH,Nd e X.env)]:=by rfl):PI X tg (.Call (.Name "reversed" p2) [e] [] wU) (tW X.K te):=by
 intro Z s Y H R I h;refine MT (fK I g2 m2 boot_reversed (NL ?_ h2 rfl));rw[h2];show LG _ _ (spliced ((AH,Nd e X.env)::[])) _ _ s;refine NQ (thn (he Z s Y H _ I h) λu s1⟨x,H1,I1,r1,a,ys,ex,hq,q⟩=>OF ?_);subst ex;cases r1;obtain⟨its,rv,p,hz⟩:=I1.list hq;have hl:=rv.length;refine call_reversed_list p.isList ?_
 have hit:(s1.1.push (revObj a ((its.toArray.size:Int) - 1))).IsRevIter s1.1.1.size a ((ys.length:Int) - 1 - ((0:Nat):Int)):=by
  rw[hl,show(its.length:Int) - 1 - ((0:Nat):Int)=(its.toArray.size:Int) - 1 by rw[LD];lia];exact⟨_,LH _ rfl,B?,B?⟩
 refine wpAny_pyIter_revIter (s:={s1 with heap:=s1.1.push (revObj a ((its.toArray.size:Int) - 1))}) hit ?_;refine⟨s1.1.1.size,[s1.1.1.size],_,_,H1,B?,I1.kept (t':=s1.toks) λb o e=>LB _ e,oR a _ ys.length,hit,λb hb=>?_,q⟩;have e:b=s1.1.1.size:=by simpa using hb
 subst e;exact I1.fpOk (LC _) (I1.hok.fresh (LC _))
theorem p9{g:TG}(Pv:Nat->St->Hp->Prop)(h0:Pv 0 Y H)(hl:∀i Y H,i<=xs.length->Pv i Y H->SqL K H a xs)
 (hs:∀i x Y H,i<xs.length->xs[xs.length - 1 - i]?=A? x->Pv i Y H->g x Y H λuV H2=>tb {D with nx:=Pv (i+1),ct:=Pv (i+1),bk:=D.nx} uV H2) (hd:∀Y H,Pv xs.length Y H->D.nx Y H) :
 ∃W:Nat->Nat->St->Hp->Prop,(∃m,W 0 m Y H)/\∀i m Y H,W i m Y H ->
   ((Itv K a xs.length).stop i H/\D.nx Y H)\/((Itv K a xs.length).go i H/\∃N:St->Hp->Prop,(∀uE H',N uE H'->∃m',m'<m/\W (i+1) m' uE H')/\∀x H',(Itv K a xs.length).yld i H x H'->g x Y H' λuV H2=>tb {D with nx:=N,ct:=N,bk:=D.nx} uV H2):=by
 refine⟨λi m Y H=>i<=xs.length/\m=xs.length - i/\Pv i Y H,⟨xs.length,MB _,B?,h0⟩,?_⟩;rintro i m Y H ⟨hi,rfl,p⟩;by_cases h:i=xs.length
 .left;exact⟨h,hd Y H (by rw[<-h];exact p)⟩
 .right;have yA:i<xs.length:=by lia
  refine⟨⟨yA,xs,hl i Y H hi p,B?⟩,Pv (i+1),λuE H' q=>⟨xs.length - (i+1),by lia,by lia,B?,q⟩,?_⟩;rintro x H' ⟨rfl,hx⟩;exact hs i x Y H' yA (hx xs (hl i Y H' hi p)) p
end
end L2
namespace BB
open PySem L2
inductive Th where
 |knot (n:LL) (ks:List Th)
 |call (s k:Int)
def q:LL:=LI "?"
def Th.kids:Th->List Th
 |.knot _ ks=>ks
 |.call _ _=>[]
mutual
def Th.size:Th->Nat
 |.knot _ ks=>aC ks+1
 |.call _ _=>1
def aC:List Th->Nat
 | []=>0
 |t::ts=>t.size+aC ts
end
mutual
def Th.tall:Th->Nat
 |.knot _ ks=>aK ks+1
 |.call _ _=>1
def aK:List Th->Nat
 | []=>0
 |t::ts=>max t.tall (aK ts)
end
mutual
def Th.walk:Th->List Th
 |.knot n ks=>.knot n ks::walks ks
 |.call s k=>[.call s k]
def walks:List Th->List Th
 | []=>[]
 |t::ts=>t.walk++walks ts
end
theorem Th.walk_eq(t:Th):t.walk=t::walks t.kids:=by
 cases t with
 |knot n ks=>rw[Th.walk];rfl
 |call s k=>rw[Th.walk];simp[Th.kids,walks]
theorem Th.size_eq(t:Th):t.size=aC t.kids+1:=by
 cases t with
 |knot n ks=>rw[Th.size];rfl
 |call s k=>rw[Th.size];simp[Th.kids,aC]
theorem Th.tall_eq(t:Th):t.tall=aK t.kids+1:=by
 cases t with
 |knot n ks=>rw[Th.tall];rfl
 |call s k=>rw[Th.tall];simp[Th.kids,aK]
theorem di:∀a b:List Th,walks (a++b)=walks a++walks b
 | [],b=>by simp[walks]
 |t::a,b=>by rw[Oy,walks,walks,di a b,OZ]
theorem bg:∀a b:List Th,aC (a++b)=aC a+aC b
 | [],b=>by simp[aC]
 |t::a,b=>by rw[Oy,aC,aC,bg a b,Qb]
mutual
theorem Th.walk_len:∀t:Th,t.walk.length=t.size
 |.knot n ks=>by rw[Th.walk,Th.size,LP,dN ks]
 |.call s k=>by rw[Th.walk,Th.size];rfl
theorem dN:∀ts:List Th,(walks ts).length=aC ts
 | []=>rfl
 |t::ts=>by rw[walks,aC,LR,t.walk_len,dN ts]
end
theorem Th.size_pos(t:Th):1<=t.size:=by rw[t.size_eq];lia
mutual
def At(H:Hp):Th->Ls->Prop
 |.knot n ks,a=>n≠q/\∃as:List Ls,H a=A? (.tup (.str n::as.map Rb))/\Ats H ks as
 |.call s k,a=>H a=A? (.tup [.str q,.int s,.int k])
def Ats(H:Hp):List Th->List Ls->Prop
 | [],as=>as=[]
 |t::ts,as=>∃a r,as=a::r/\At H t a/\Ats H ts r
end
def KT(H H':Hp):Prop:=∀b xs,H b=A? (.tup xs)->H' b=A? (.tup xs)
theorem KT.trans(a:KT H H1)(b:KT H1 H2):KT H H2:=λc o h=>b c o (a c o h)
theorem Same.kt(h:Sb H H'):KT H H':=λb xs e=>h b _ e
theorem fF(h:H l=Ak):KT H (upd H l o):=λb xs e=>by rw[ai (am e h)];exact e
theorem bd(h:H l=A? (.lst xs)):KT H (upd H l o):=λb ys e=>by rw[ai (dG e h (by intro z;cases z))];exact e
mutual
theorem At.mono(k:KT H H'):∀{t:Th}{a:Ls},At H t a->At H' t a
 | .knot n ks,a,h=>by
   rw[At]at h |-;obtain⟨h0,as,h1,h2⟩:=h;exact⟨h0,as,k _ _ h1,Ats.mono k h2⟩
 | .call s c,a,h=>by
   rw[At]at h |-;exact k _ _ h
theorem Ats.mono(k:KT H H'):∀{ts:List Th}{as:List Ls},Ats H ts as->Ats H' ts as
 | [],as,h=>by rw[Ats]at h |-;exact h
 | t::ts,as,h=>by
   rw[Ats]at h |-;obtain⟨a,r,e,h1,h2⟩:=h;exact⟨a,r,e,At.mono k h1,Ats.mono k h2⟩
end
theorem Ats.nil:Ats H [] []:=by rw[Ats]
theorem Ats.cons{t:Th}{ts:List Th}{as:List Ls}(h1:At H t a)(h2:Ats H ts as):Ats H (t::ts) (a::as):=by rw[Ats];exact⟨a,as,B?,h1,h2⟩
theorem Ats.append:∀{ts us:List Th}{as bs:List Ls},Ats H ts as->Ats H us bs->Ats H (ts++us) (as++bs)
 | [],us,as,bs,h,g=>by rw[Ats]at h;subst h;exact g
 | t::ts,us,as,bs,h,g=>by
   rw[Ats]at h;obtain⟨a,r,rfl,h1,h2⟩:=h;exact .cons h1 (h2.append g)
theorem Ats.length:∀{ts:List Th}{as:List Ls},Ats H ts as->as.length=ts.length
 | [],as,h=>by rw[Ats]at h;subst h;rfl
 | t::ts,as,h=>by
   rw[Ats]at h;obtain⟨a,r,rfl,h1,h2⟩:=h;rw[LP,LP,h2.length]
theorem Ats.get:∀{ts:List Th}{as:List Ls}{i:Nat}{a:Ls},Ats H ts as->as[i]?=A? a->∃t,ts[i]?=A? t/\At H t a
 | [],as,i,a,h,e=>by rw[Ats]at h;subst h;simp at e
 | t::ts,as,i,a,h,e=>by
   rw[Ats]at h;obtain⟨b,r,rfl,h1,h2⟩:=h;cases i with
   |zero=>simp at e;subst e;exact⟨t,B?,h1⟩
   |succ i=>exact h2.get (i:=i) (by simpa using e)
theorem Ats.at:∀{ts:List Th}{as:List Ls}{i:Nat}{t:Th},Ats H ts as->ts[i]?=A? t->∃a,as[i]?=A? a/\At H t a
 | [],as,i,a,h,e=>by simp at e
 | t::ts,as,i,a,h,e=>by
   rw[Ats]at h;obtain⟨b,r,rfl,h1,h2⟩:=h;cases i with
   |zero=>simp at e;subst e;exact⟨b,B?,h1⟩
   |succ i=>exact h2.at (i:=i) (by simpa using e)
end BB
open BB.Same renaming kt->Za
open BB.Th renaming tall->Xb,call->Wc,knot->Xc,walk_len->Yc
variable{p head:BB.Th}{ts row:List BB.Th}{pat:Int->LL->BB.Th}
namespace BB
open PySem L2
theorem at_nonneg{xs:List α}{i:Int}{v:α}(h0:0<=i)(h:xs[i.toNat]?=A? v):atI xs i=A? v:=by
 have e:i=((i.toNat:Nat):Int):=by lia
 rw[e];exact bT h
def Low(x:LL):Prop:=∀c∈x.cps.toList,97<=c/\c<=122
theorem nJ(h:Low x):x≠q:=by
 intro e;subst e;have:=h 63 (by decide +kernel);lia
end BB
namespace L2
open PySem PySem.Spec PyProof.Rows
theorem Same.seqT(e:Same H H')(h:SqT K H a xs):SqT K H' a xs:=by
 rcases h with(h|⟨o,h⟩)|h
 .exact .inl (.inl (e _ _ h))
 .exact .inl (.inr ⟨o,e _ _ h⟩)
 .exact .inr h
theorem aj{p:Ls}(h:H p=Ak)(o:HO):Same H (upd H p o):=λb u q=>by rw[ai (am q h)];exact q
@[elab_as_elim] theorem gU{G:Hp->Prop}(h:H a=Ak)(k:∀H',Sb H H'->H' a=A? o->G H'):G (upd H a o):=k _ (aj h _) af
theorem aF(h:Same H H1)(n:H l=Ak):Same H (upd H1 l o):=λb u e=>by rw[ai (am e n)];exact h b u e
end L2
namespace BB
open PySem L2
theorem at0{x:α}{xs:List α}:atI (x::xs) 0=A? x:=bT (j:=0) rfl
theorem at1{x y:α}{xs:List α}:atI (x::y::xs) 1=A? y:=bT (j:=1) rfl
theorem at2{x y z:α}{xs:List α}:atI (x::y::z::xs) 2=A? z:=bT (j:=2) rfl
theorem j2(x:V)(xs:List V):dg (x::xs) (A? 1) Ak=xs:=by
 unfold dg;simp[Wb]
theorem dW:∀ts:List Th,ts.length<=aC ts
 | []=>MB _
 | t::ts=>by
   have:=t.size_pos;have:=dW ts;rw[LP,aC];lia
theorem iX(ts:List Th):aC ts.reverse=aC ts:=by
 induction ts with
 |nil=>rfl
 |cons x xs ih=>rw[Mi,bg,ih,aC,aC,aC];lia
theorem cD(h:n<=1000000):n<LK:=Nat.lt_of_le_of_lt h (by decide)
theorem bV(h:n<=1000000):n<=LK:=N0 (cD h)
theorem lnE(h:Nat.ble n 1000000=AG):n<=LK:=bV (Nat.le_of_ble_eq_true h)
theorem uAE{as:List Ls}:(upd H a (.lst (as.map Rb++[.ref b]))) a=A? (.lst ((as++[b]).map Rb)):=by rw[af,L6];rfl
theorem lbE{f:α->β}{l:List α}(h:l.length<=1000000):(l.map f).length<LK:=cD (by rw[Lx];exact h)
section
variable{G:α->β->Prop}
theorem P2.append:∀{a c:List α}{b d:List β},Mg F a b->Mg F c d->Mg F (a++c) (b++d)
 |_,_,_,_,.nil,h=>h
 |_,_,_,_,.cons r t,h=>.cons r (P2.append t h)
theorem P2.get:∀{a:List α}{b:List β}{i:Nat}{x:α},Mg F a b->a[i]?=A? x->∃y,b[i]?=A? y/\F x y
 |_,_,_,_,.nil,e=>by simp at e
 |_,_,0,_,.cons r _,e=>by simp at e;subst e;exact⟨_,B?,r⟩
 | _,_,i+1,x,.cons _ t,e=>by
   obtain⟨u,h1,h2⟩:=P2.get (i:=i) (x:=x) t (by simpa using e);exact⟨u,by simpa using h1,h2⟩
theorem P2.get':∀{a:List α}{b:List β}{i:Nat}{y:β},Mg F a b->b[i]?=A? y->∃x,a[i]?=A? x/\F x y
 |_,_,_,_,.nil,e=>by simp at e
 |_,_,0,_,.cons r _,e=>by simp at e;subst e;exact⟨_,B?,r⟩
 | _,_,i+1,y,.cons _ t,e=>by
   obtain⟨u,h1,h2⟩:=P2.get' (i:=i) (y:=y) t (by simpa using e);exact⟨u,by simpa using h1,h2⟩
theorem P2.mp(f:∀x y,F x y->G x y):∀{a:List α}{b:List β},Mg F a b->Mg G a b
 |_,_,.nil=>.nil
 |_,_,.cons r t=>.cons (f _ _ r) (P2.mp f t)
end
def KAt(H:Hp)(k:LL×Int)(a:Ls):Prop:=H a=A? (.tup [.str k.1,.int k.2])
def KsAt(H:Hp)(ks:List (LL×Int))(as:List Ls):Prop:=Mg (KAt H) ks as
theorem KsAt.mono(k:KT H H'){ks:List (LL×Int)}{as:List Ls}(h:KsAt H ks as):KsAt H' ks as:=P2.mp (λx y e=>k _ _ e) h
end BB
open BB.P2 renaming append->Uc,mp->Vc,get'->Sd
namespace L2
open PySem
theorem bQ{t u:TS}(R:St->Hp->Prop)(h1:∀k:St->Hp->Prop,(∀uE H',R uE H'->k uE H')->t {D with nx:=k} Y H)(h2:∀uE H',R uE H'->u D uE H'):lK t u D Y H:=h1 _ h2
theorem fw{c:TT}{t u:TS}(R:Bool->Hp->Prop)(h1:∀k:Bool->Hp->Prop,(∀b H',R b H'->k b H')->c Y H k)(h2:∀H',R AG H'->t D Y H')(h3:∀H',R AH H'->u D Y H'):tM c t u D Y H :=
 h1 _ λb H' r=>by
  cases b with
  |true=>rw[Sa rfl];exact h2 H' r
  |false=>rw[Ra LO];exact h3 H' r
end L2
namespace BB
open PySem L2
section
variable{ext:Th->List V}{t:Th}{es:List Ls}
end
theorem dA:∀{ts:List Th}{t:Th},t∈ts->t.tall<=aK ts
 | u::ts,t,h=>by
   rw[aK];rcases LW.mp h with rfl|h
   .lia
   .have:=dA h;lia
theorem iK:∀{ts:List Th},ts≠[]->∃t∈ts,t.tall=aK ts
 | [],h=>Wa rfl h
 | [u],_=>⟨u,L5 ..,by rw[aK,aK];lia⟩
 | u::v::ts,_=>by
   obtain⟨t,h1,h2⟩:=iK (ts:=v::ts) (by simp);rw[aK];by_cases c:aK (v::ts)<=u.tall
   .exact⟨u,L5 ..,by lia⟩
   .exact⟨t,LS _ h1,by lia⟩
theorem ints_map(ts:List Th)(f:Th->Int):(ts.map λt=>Vb (f t))=(ts.map f).map Vb:=by rw[Qq];rfl
theorem take_snoc{xs:List α}{x:α}(h:xs[n]?=A? x):xs.take (n+1)=xs.take n++[x]:=by rw[Nn,h];rfl
theorem bh{xs:List Ls}{i:Nat}{x:V}(h:(xs.map Rb)[i]?=A? x):∃a,x=.ref a/\xs[i]?=A? a:=by
 rw[LZ]at h;obtain⟨a,h1,h2⟩:=Nc.mp h;exact⟨a,h2.symm,h1⟩
end BB
namespace PySem
open Sem (wp)
end PySem
namespace L2
open PySem PySem.Spec PyProof.Rows
section
variable{X:Cx}{p2 wU:Oi}
inductive oJ(K:Ly)(x:V)(y:V)(H:Hp)(Q:VK):Prop
 |mk (a:_) (b:_) (xs:_) (ys:_) (vX:x=.ref a) (vY:y=.ref b) (w6:SqT K H a xs) (yz:SqT K H b ys) (zv:xs.length+ys.length<=LK) (F':(xs=[]->Q (.ref b) H)) (KO:(xs≠[]->ys=[]->Q (.ref a) H)) (KP:(xs≠[]->ys≠[]->∀p,H p=Ak->Q (.ref p) (upd H p (.tup (xs++ys))))):oJ K x y H Q
def qR(K:Ly):R2:=oJ K
theorem pk:OpR X (N8 .Add) (qR X.K):=by
 intro Z s Y H x y v u Q I rx ry h;obtain⟨a,b,xs,ys,e1,e2,ha,hb,hz,q0,q1,q2⟩:=h;by_cases hx:xs=[]
 .subst e1 e2;cases rx;cases ry;obtain⟨its,r1,p1,_⟩:=I.tuple ha;obtain⟨uF,r2,p2,_⟩:=I.tuple hb;have hi:its=[]:=r1.nil_iff.mpr hx;obtain⟨⟨cls,dd,data,sl⟩,ho,hc,n,hd⟩:=p1;obtain⟨⟨zu,yU,data2,yV⟩,xw,vN,n2,hd2⟩:=p2;simp only at hc hd vN hd2;subst hc hd vN hd2;exact concat_meets ⟨_,ho,rfl⟩ ⟨_,xw,rfl⟩ noFill_tuple_add seq_tuple_add Pp Pf (O2 _ _) (tuple_addW0 a b its.toArray uF.toArray n n2 dd yU sl yV (by simp[hi])) ⟨ho,xw,⟨.ref b,H,I,rfl,q0 hx⟩⟩
 .exact lV Z s Y H x y v u Q I rx ry ⟨a,b,xs,ys,e1,e2,ha,hb,hx,hz,q1 hx,q2 hx⟩
end
end L2
namespace PySem
open Sem (wp)
open Sem (wp)
open Sem (wp)
namespace F
end F
end PySem
namespace L2
open PySem PySem.Spec PyProof.Rows
section
variable{X:Cx}{e1 e2:Mv}{t:TA}{p p2 wU:Oi}
end
section
variable{κ:Type}[DecidableEq κ]
def bu(uC:List (κ×V))(k:κ):Option V:=(uC.find? λkv=>decide (kv.1=k)).map (·.2)
def putK(uC:List (κ×V))(k:κ)(v:V):List (κ×V) :=
 if(uC.any λkv=>decide (kv.1=k))=AG then uC.map (λkv=>if kv.1=k then(kv.1,v)else kv)else uC++[(k,v)]
theorem bc{p:κ×V}{r:List (κ×V)}{k:κ}(e:p.1=k):bu (p::r) k=A? p.2:=by simp[bu,Nk,e]
theorem be{p:κ×V}{r:List (κ×V)}{k:κ}(e:¬p.1=k):bu (p::r) k=bu r k:=by simp[bu,Nk,e]
theorem cR(k:κ):∀uC:List (κ×V),(uC.any λkv=>decide (kv.1=k))=(bu uC k).isSome
 | []=>rfl
 | p::r=>by
   rw[List.any_cons];by_cases e:p.1=k
   .simp only[bc e,Ua e,Bool.true_or,Option.isSome_some]
   .rw[be e,Ta e,Bool.false_or];exact cR k r
theorem kB(k j:κ)(y:V):∀uC:List (κ×V),bu (uC.map λkv=>if kv.1=k then(kv.1,y)else kv) j=(bu uC j).map λx=>if j=k then y else x
 | []=>rfl
 | p::r=>by
   have ih:=kB k j y r;rw[Mf];by_cases h:p.1=k
   .rw[Sa h];by_cases e:p.1=j
    .rw[bc (p:=(p.1,y)) e,bc e,Pu,Sa (e.symm.trans h)]
    .rw[be (p:=(p.1,y)) e,be e,ih]
   .rw[Ra h];by_cases e:p.1=j
    .rw[bc (p:=p) e,bc e,Pu,Ra (λz=>h (e.trans z))]
    .rw[be (p:=p) e,be e,ih]
theorem iG(k j:κ)(y:V):∀uC:List (κ×V),bu uC k=Ak->bu (uC++[(k,y)]) j=if j=k then A? y else bu uC j
 | [],_=>by
   by_cases e:k=j
   .rw[Sa e.symm];exact bc (p:=(k,y)) e
   .rw[Ra (λz=>e z.symm)];exact be (p:=(k,y)) e
 | p::r,hn=>by
   rw[Oy];have hk:¬p.1=k:=λz=>by rw[bc z]at hn;cases hn
   rw[be hk]at hn;have ih:=iG k j y r hn;by_cases e:p.1=j
   .rw[bc e,bc e,Ra (λz=>hk (e.trans z))]
   .rw[be e,be e,ih]
theorem jK(uC:List (κ×V))(k j:κ)(y:V):bu (putK uC k y) j=if j=k then A? y else bu uC j:=by
 unfold putK;by_cases a:(uC.any λkv=>decide (kv.1=k))=AG
 .rw[Sa a,kB];rw[cR]at a;by_cases e:j=k
  .obtain⟨x,hx⟩:=O4.mp a;rw[Sa e,e,hx,Pu,Sa rfl]
  .rw[Ra e];cases bu uC j with
   |none=>rfl
   |some x=>rw[Pu,Ra e]
 .rw[Ra a];refine iG k j y uC ?_;rw[cR]at a;cases q:bu uC k with
  |none=>rfl
  |some x=>rw[q]at a;exact(a rfl).elim
theorem ck(uC:List (κ×V))(k:κ)(v:V):(putK uC k v).length<=uC.length+1:=by
 unfold putK;split
 .rw[Lx];lia
 .rw[LR,LP,List.length_nil];lia
theorem jS{uC:List (κ×V)}{k:κ}(v:V)(h:bu uC k=Ak):putK uC k v=uC++[(k,v)]:=by
 unfold putK;rw[cR,h];exact Ra (by decide)
theorem RelO.isSome_eq{o:Option V}{u:Option Lu}(r:RelO o u):o.isSome=u.isSome:=by
 cases o with
 | none=>cases u with
   |none=>rfl
   |some _=>exact(show False from r).elim
 | some _=>cases u with
   |none=>exact(show False from r).elim
   |some _=>rfl
theorem RelO.getD{o:Option V}{u:Option Lu}{d:V}{d':Lu}(r:RelO o u)(rd:RelV d d'):RelV (o.getD d) (u.getD d'):=by
 cases o with
 | none=>cases u with
   |none=>exact rd
   |some _=>exact(show False from r).elim
 | some _=>cases u with
   |none=>exact(show False from r).elim
   |some _=>exact r
theorem KV.val{uC:List (κ×V)}{vs:List (κ×Lu)}(r:KV uC vs)(k:κ):RelO (bu uC k) (valueAt vs k):=by
 unfold KV at r;induction r with
 |nil=>exact Ox
 | @cons p q ps qs h t ih =>
   obtain⟨h1,h2⟩:=h;by_cases e:p.1=k
   .have e':q.1=k:=h1.symm.trans e;have b:valueAt (q::qs) k=A? q.2:=by simp[valueAt,Nk,e']
    rw[bc e,b];exact h2
   .have e':¬q.1=k:=λz=>e (h1.trans z);have b:valueAt (q::qs) k=valueAt qs k:=by simp[valueAt,Nk,e']
    rw[be e,b];exact ih
end
theorem mn{k:Key}(r:RelV (kV k) u):(au P w).is k u=true:=by
 cases k with
 |inl i=>obtain⟨t,e⟩:=(show∃t,u=PX i t from r);subst e;exact jA P w i t
 |inr x=>obtain⟨t,e⟩:=(show∃t,u=Value.str x t from r);subst e;exact jD P w x t
theorem iN:∀{ks:List Key}{us:List Lu},Vals (ks.map kV) us->ItemsAre (au P w) ks us
 | [],_,r=>by rw[N1]at r;cases r;exact .nil
 | k::ks,_,r=>by
   rw[Mf]at r;cases r with
   |cons h t=>exact .cons (mn h) (iN t)
abbrev KTd(H:Hp):List (List Key×V)->List (List Key×Ls×Lu)->Prop:=Mg λp q=>p.1=q.1/\H q.2.1=A? (.tup (p.1.map kV))/\RelV p.2 q.2.2
theorem KTd.val{xs:List (List Key×Ls×Lu)}(r:KTd H uC xs)(k:List Key):RelO (bu uC k) ((Og xs k).map (·.2)):=by
 induction r with
 |nil=>exact Ox
 | @cons p q ps qs h t ih =>
   obtain⟨h1,_,h2⟩:=h;by_cases e:p.1=k
   .have e':q.1=k:=h1.symm.trans e;have b:Og (q::qs) k=A? q.2:=by simp[Og,Nk,e']
    rw[bc e,b];exact h2
   .have e':¬q.1=k:=λz=>e (h1.trans z);have b:Og (q::qs) k=Og qs k:=by simp[Og,Nk,e']
    rw[be e,b];exact ih
theorem KTd.repl{xs:List (List Key×Ls×Lu)}(r:KTd H uC xs)(k:List Key)(ry:RelV y u) :
 KTd H (uC.map λkv=>if kv.1=k then(kv.1,y)else kv) (xs.map (putAt k u)):=by
 induction r with
 |nil=>exact .nil
 | @cons p q ps qs h t ih =>
   rw[Mf,Mf];refine .cons ?_ ih;obtain⟨h1,h2,h3⟩:=h;unfold putAt;by_cases e:p.1=k
   .rw[Sa e,Sa (h1.symm.trans e)];exact⟨h1,h2,ry⟩
   .rw[Ra e,Ra (λz=>e (h1.trans z))];exact⟨h1,h2,h3⟩
theorem KTd.put{xs:List (List Key×Ls×Lu)}(r:KTd H uC xs)(k:List Key)(hb:H b=A? (.tup (k.map kV)))(ry:RelV y u) :
 KTd H (putK uC k y) (storedH xs k b u):=by
 have e:(uC.any λkv=>decide (kv.1=k))=(Og xs k).isSome:=by
  rw[cR,(r.val k).isSome_eq,Option.isSome_map]
 unfold putK storedH;rw[e];by_cases q:(Og xs k).isSome=AG
 .rw[Sa q,Sa q];exact r.repl k ry
 .rw[Ra q,Ra q];exact Paired.snoc r ⟨rfl,hb,ry⟩
theorem KTd.keeps{xs:List (List Key×Ls×Lu)}(r:KTd H uC xs)(ht:∀b ys,H b=A? (.tup ys)->H' b=A? (.tup ys)):KTd H' uC xs :=
 Mg.mapP r λ_ _ z=>⟨z.1,ht _ _ z.2.1,z.2.2⟩
theorem qU{u:HO}(ok:HOk P w H h)(e:Rd H a u):ObjOk P w H h a u:=e.ok ok
theorem ma{uC:List (Key×V)}(ok:HOk P w H h)(e:Rd H a (.dK uC)):uC.length<=LK/\(a == MU)=AH/\∃vs,KV uC vs/\h.DictOf (au P w) a vs :=
 show ObjOk P w H h a (.dK uC)from qU ok e
theorem fB{ks:List Key}(ok:HOk P w H h)(e:H a=A? (.tup (ks.map kV))):(O8 (au P w)).is h ks a:=by
 obtain⟨_,its,n,r,h1⟩:=(show ObjOk P w H h a (.tup (ks.map kV))from ok a _ e);exact⟨_,its.toArray,n,h1,B?,B?,by simpa using iN r⟩
theorem jJ(ok:HOk P w H h)(e:Rd H a (.dT uC)):uC.length<=LK/\(a == MU)=AH /\
 ∃xs,KTd H uC xs/\h.DictOfH (O8 (au P w)) a xs:=by
 obtain⟨z,y,xs,r,o,es,ep,h1,h2,h3,h4,h5⟩:=(show ObjOk P w H h a (.dT uC)from qU ok e);refine⟨z,y,xs,r,o,es,ep,h1,h2,h3,h4,λx hx=>?_,h5⟩
 have all:∀{l:List (List Key×V)}{m:List (List Key×Ls×Lu)},KTd H l m->∀x∈m,(O8 (au P w)).is h x.1 x.2.1:=by
  intro l m q;induction q with
  |nil=>intro x hx;exact nomatch hx
  | @cons p q ps qs hq t ih =>
    intro x hx;rcases LW.mp hx with e|hx
    .subst e;exact fB ok (by rw[<-hq.1];exact hq.2.1)
    .exact ih x hx
 exact all r x hx
theorem mq(ok:HOk P w H h)(e:H a=A? (.dT uC)):uC.length<=LK/\(a == MU)=AH /\
 ∃xs,KTd H uC xs/\h.DictOfH (O8 (au P w)) a xs:=jJ ok (.inl e)
def nY(H:Hp)(a:Ls)(y:V)(r:Option V):Prop :=
 (∃uC k,Rd H a (.dK uC)/\y=kV k/\r=bu uC k)\/∃uC k b,Rd H a (.dT uC)/\y=.ref b/\H b=A? (.tup (k.map kV))/\r=bu uC k
section
variable{X:Cx}{r:Lu}{o:Option V}
theorem Inv.big(I:Inv X Z Y H s):MU<s.1.1.size:=by
 have h:My<s.1.1.size:=(I.mod.glob.keeps I.bk).lt;exact Qp (by decide) h
theorem mZ(hu:A.units+1<Nl)(I:Inv X Z Y H s)(g:nY H a y (A? v))(ry:RelV y u)(h:∀w' s',Inv X Z Y H s'->RelV v w'->Q w' s') :
 LG (LN X.prog X.w) A (OE (.ref a) u) Q E s:=by
 rcases g with⟨uC,k,e,ey,l⟩|⟨uC,k,b,e,ey,eb,l⟩
 .subst ey;obtain⟨z,hd,vs,rel,dd⟩:=ma I.hok e;obtain⟨w',hw,xk⟩:=RelO.some_of (v:=v) (o:=valueAt vs k) (by rw[l];exact rel.val k);exact wpAny_getItem_of (mn ry) dd.mapOf hw (h w' _ (I.tok _) xk)
 .subst ey;cases(show u=Mb b from ry);obtain⟨z,hd,xs,rel,dd⟩:=jJ I.hok e;obtain⟨w',hw,xk⟩:=RelO.some_of (v:=v) (o:=(Og xs k).map (·.2)) (by rw[l];exact rel.val k);obtain⟨p,hp,wq⟩:=Nc.mp hw;refine wpAny_getItem_heap (Pb hu) (fB I.hok eb) dd hp ?_;rw[wq];exact h w' _ (I.tok _) xk
theorem i5{ob:HO}(I:Inv X Z Y H s)(mu:Mut (H a))(hs:MQ a s.1 h')(he:∃q,h'.get? a=A? q)(new:ObjOk X.prog X.w (upd H a ob) h' a ob) :
 Inv X Z Y (upd H a ob) {s with heap:=h',toks:=t'} :=
 I.write (x:=a) (e:=a) mu (.inl rfl) (λb q hb z=>(hs.2 b hb).trans z) he new
end
section
variable{X:Cx}{uC:List (Key×V)}{k:Key}
end
def rG(i:Mv):Prop:=∀ov iv,subscripted i AH ov iv=operate [ov,iv] (OE ov iv)
theorem l9{value slice:Mv}{T id:String}
 (hl:typeLookup (.type T) "__getitem__"=pure (A? (.builtin id))) (hs:rG slice)
 (h:LG (LN prog w) A (Nd value env) (λo uD=>LG (LN prog w) A (Nd slice env) (λi vd=>vd.TypeIs o T/\LG (LN prog w) A (OE o i) Q E vd) E uD) E s) :
 LG (LN prog w) A (Nd (.Subscript value slice pos) env) Q E s:=by
 refine Subscript_ (Mq h (λo uD uK=>Mq uK (λi vd wQ=>?_) λ_ _ x=>x) λ_ _ x=>x);obtain⟨hT,wQ⟩:=wQ;unfold subscriptTail;refine Lr ?_;rw[getitemInPython_of_ne hT.not_modules];refine Lr (Nt hT hl ?_)
 have fin:LG (LN prog w) A (subscripted slice AH o i) (λr vq=>LG (LN prog w) A (letTemporaryGo value o r >>= λ_=>pure r) Q E vq) E vd:=by
  rw[hs o i];exact wpAny_operating (Mq wQ (λr vq xR=>Lr (wpAny_letTemporaryGo (Lz xR))) λ_ _ x=>x)
 first
  |exact Lz (Lr fin)
  |exact Lr (Lz (Lr fin))
  |exact Lr fin
theorem jB{X:Cx}{o:Option V}(I:Inv X Z Y H s)(g:nY H a y o):s.TypeIs (.ref a) "dict":=by
 rcases g with⟨uC,k,e,_,_⟩|⟨uC,k,b,e,_,_,_⟩
 .obtain⟨_,_,vs,_,dd⟩:=ma I.hok e;exact dd.typeIs
 .obtain⟨_,_,xs,_,dd⟩:=jJ I.hok e;exact dd.typeIs
def tH(td ty:TE):TE:=λY H Q=>td Y H λx H1=>ty Y H1 λy H2=>∃a v,x=.ref a/\nY H2 a y (A? v)/\Q v H2
section
variable{X:Cx}{o i value:Mv}{pos' AO:Oi}{td ty tv:TE}
theorem pf(hu:X.A.units+1<Nl)(ho:PE X o td)(hi:PE X i ty)(hs:rG i):PE X (.Subscript o i pos) (tH td ty):=by
 intro Z s Y H Q I h;refine l9 PySem.F.slot_dict_getitem.lookup hs (thn (ho Z s Y H _ I h) λu s1⟨x,H1,I1,rx,q1⟩=>thn (hi Z s1 Y H1 _ I1 q1) λiv s2⟨y,H2,I2,ry,a,v,ex,g,q2⟩=>?_);subst ex;obtain rfl:u=Mb a:=rx;exact⟨jB I2 g,mZ hu I2 g ry λw' s3 I3 xk=>⟨v,H2,I3,xk,q2⟩⟩
end
theorem kb(h:Ml)(hb:MU<h.objs.size):ObjOk P w H (h.push {cls:=.type "dict",data:=.dict #[]}) h.objs.size (.dT []) :=
 ⟨MB _,beq_eq_false_iff_ne.mpr (MY (Mc hb)),[],.nil,_,#[],0,LH _ rfl,⟨rfl,rfl,rfl⟩,rfl,rfl,List.nodup_nil⟩
def rf:TE:=λ_ H Q=>∀p,H p=Ak->Q (.ref p) (upd H p (.dT []))
section
variable{X:Cx}
theorem oX:PE X (.Dict [] [] pos) rf:=λZ s Y H Q I h =>
 wpAny_Dict_empty ⟨.ref s.1.1.size,_,I.laid (a:=s.1.1.size) (o:=.dT []) (t':=s.toks) (λ_ _ q=>LB _ q) (LC _) (kb s.1 I.big),rfl,h _ (I.hok.fresh (LC _))⟩
end
structure M2(X:Cx)(o:Mv)(m:LL)(apos:Oi)(e f:Mv)(uO:Oi):Prop where
 base:PF o m X.env (Nd o X.env)=Nd o X.env
 few:((NG uO (L7 [e,f] X.env)).all (λx=>!x.1) && (backToKw uO (keywordEach [] X.env)).all (λx=>x.1.isSome)
  && decide (([e,f]:List Mv).length+([]:List Keyword).length+(if([]:List Keyword).isEmpty then 0 else 1)<30))=AG
 line:(apos.endLine == uO.line)=AG
 trees:NG uO (L7 [e,f] X.env)=[(AH,Nd e X.env),(AH,Nd f X.env)]
def IsD(H:Hp)(a:Ls):Prop:=(∃uC,Rd H a (.dK uC))\/∃uC,Rd H a (.dT uC)
theorem qV{X:Cx}(I:Inv X Z Y H s)(d:IsD H a) :
 s.TypeIs (.ref a) "dict"/\(∀b,Mb a=.ref b->∃ob,s.1.get? b=A? ob/\ob.dict=Ak)/\(a == MU)=false:=by
 rcases d with⟨uC,e⟩|⟨uC,e⟩
 .obtain⟨_,hd,vs,_,dd⟩:=ma I.hok e;refine⟨dd.typeIs,λb q=>?_,hd⟩;cases q;obtain⟨ob,_,_,h1,h2,_⟩:=dd;exact⟨ob,h1,h2.2.1⟩
 .obtain⟨_,hd,xs,_,dd⟩:=jJ I.hok e;refine⟨dd.typeIs,λb q=>?_,hd⟩;cases q;obtain⟨ob,_,_,h1,h2,_⟩:=dd;exact⟨ob,h1,h2.2.1⟩
section
variable{X:Cx}{d:V}{r:Lu}{o:Option V}
theorem r6(hu:A.units+1<Nl)(I:Inv X Z Y H s)(g:nY H a y o)(ry:RelV y u)(rd:RelV d r)(h:∀w' s',Inv X Z Y H s'->RelV (o.getD d) w'->Q w' s') :
 LG (LN X.prog X.w) A (call (.builtin "dict.get") [.ref a,u,r]) Q E s:=by
 rcases g with⟨uC,k,e,ey,l⟩|⟨uC,k,b,e,ey,eb,l⟩
 .subst ey;obtain⟨z,hd,vs,rel,dd⟩:=ma I.hok e;refine call_meetsIn PL dd.typeIs PySem.F.entry_dict_get (PySem.F.args_dict_get_3 _ _ _) (meets_dict_get_default (au X.prog X.w) a (mn ry) hd r) ⟨_,dd.mapOf,h _ _ (I.tok _) ?_⟩;rw[l];exact(rel.val k).getD rd
 .subst ey;cases(show u=Mb b from ry);obtain⟨z,hd,xs,rel,dd⟩:=jJ I.hok e;refine call_meetsIn PL dd.typeIs PySem.F.entry_dict_get (PySem.F.args_dict_get_3 _ _ _) (meetsH_dict_get_default (O8 (au X.prog X.w)) a b hd r) ⟨Pb hu,k,xs,fB I.hok eb,dd,h _ _ (I.tok _) ?_⟩;rw[l];exact(rel.val k).getD rd
end
def oO(td ty tx:TE):TE:=λY H Q=>td Y H λx H1=>∃a,x=.ref a/\IsD H1 a/\ty Y H1 λy H2=>tx Y H2 λz H3=>∃o,nY H3 a y o/\Q (o.getD z) H3
section
variable{X:Cx}{o f:Mv}{apos uO:Oi}{td ty tx:TE}
theorem n4(hu:X.A.units+1<Nl)(ho:PE X o td)(he:PE X e ty)(hf:PE X f tx)(m:M2 X o "get" apos e f uO):PE X (.Call (.Attribute o "get" apos) [e,f] [] uO) (oO td ty tx):=by
 intro Z s Y H Q I h;refine wpAny_Call_method m.base m.few m.line PySem.F.plainAttrs_dict PL PySem.F.type_dict_get (thn (ho Z s Y H _ I h) λu s1⟨x,H1,I1,rx,a,ex,d,q1⟩=>?_);subst ex;obtain rfl:u=Mb a:=rx;obtain⟨t1,t2,_⟩:=qV I1 d;refine⟨t1,t2,?_⟩;rw[m.trees]
 refine P9 rfl (Qr (NQ (thn (he Z s1 Y H1 _ I1 q1) λiv s2⟨y,H2,I2,ry,q2⟩ =>
  NQ (thn (hf Z s2 Y H2 _ I2 q2) λfv s3⟨z,H3,I3,rz,ov,g,q3⟩=>OF ?_))))
 exact r6 hu I3 g ry rz λw' s4 I4 xk=>⟨_,H3,I4,xk,q3⟩
end
section
variable{X:Cx}{uC:List (Key×V)}
end
section
variable{X:Cx}
end
end L2
namespace BB
open PySem L2
set_option genInjectivity true in
inductive Dv where
 |int (i:Int)
 |str (x:LL)
 |tup (ds:List Dv)
mutual
def Dv.deep:Dv->Nat
 |.int _=>0
 |.str _=>0
 |.tup ds=>d5 ds+1
def d5:List Dv->Nat
 | []=>0
 |d::ds=>max d.deep (d5 ds)
end
mutual
def Dv.tot:Dv->Nat
 |.int _=>1
 |.str _=>1
 |.tup ds=>qw ds+1
def qw:List Dv->Nat
 | []=>0
 |d::ds=>d.tot+qw ds
end
mutual
def DAt(H:Hp):Dv->V->Prop
 |.int i,v=>v=.int i
 |.str x,v=>v=.str x
 |.tup ds,v=>∃a vs,v=.ref a/\H a=A? (.tup vs)/\DAts H ds vs
def DAts(H:Hp):List Dv->List V->Prop
 | [],vs=>vs=[]
 |d::ds,vs=>∃v r,vs=v::r/\DAt H d v/\DAts H ds r
end
theorem DAts.nil:DAts H [] []:=by rw[DAts]
theorem DAts.cons{d:Dv}{ds:List Dv}(h1:DAt H d v)(h2:DAts H ds vs):DAts H (d::ds) (v::vs):=by rw[DAts];exact⟨v,vs,B?,h1,h2⟩
theorem DAts.length:∀{ds:List Dv}{vs:List V},DAts H ds vs->vs.length=ds.length
 | [],vs,h=>by rw[DAts]at h;subst h;rfl
 | d::ds,vs,h=>by
   rw[DAts]at h;obtain⟨v,r,rfl,h1,h2⟩:=h;rw[LP,LP,h2.length]
theorem DAts.at:∀{ds:List Dv}{vs:List V}{i:Nat}{d:Dv},DAts H ds vs->ds[i]?=A? d->∃v,vs[i]?=A? v/\DAt H d v
 | [],vs,i,d,h,e=>by simp at e
 | d0::ds,vs,i,d,h,e=>by
   rw[DAts]at h;obtain⟨v,r,rfl,h1,h2⟩:=h;cases i with
   |zero=>simp at e;subst e;exact⟨v,B?,h1⟩
   | succ i =>
     obtain⟨u,g1,g2⟩:=h2.at (i:=i) (by simpa using e);exact⟨u,by simpa using g1,g2⟩
theorem gJ:∀{ds:List Dv}{i:Nat}{d:Dv},ds[i]?=A? d->d.deep<=d5 ds
 | [],i,d,e=>by simp at e
 | d0::ds,i,d,e=>by
   rw[d5];cases i with
   |zero=>simp at e;subst e;lia
   | succ i =>
     have:=gJ (ds:=ds) (i:=i) (by simpa using e);lia
theorem lS:∀{ds:List Dv}{i:Nat}{d:Dv},ds[i]?=A? d->d.tot<=qw ds
 | [],i,d,e=>by simp at e
 | d0::ds,i,d,e=>by
   rw[qw];cases i with
   |zero=>simp at e;subst e;lia
   | succ i =>
     have:=lS (ds:=ds) (i:=i) (by simpa using e);lia
theorem Dv.tot_pos(d:Dv):1<=d.tot:=by
 cases d with
 |int i=>rw[Dv.tot];lia
 |str x=>rw[Dv.tot];lia
 |tup ds=>rw[Dv.tot];lia
theorem uh{ys:List V}{Q:VK}(ha:H a=A? (.tup xs))(hb:H b=A? (.tup ys))(hz:xs.length+ys.length<=1000000)(q:∀p H',Sb H H'->H' p=A? (.tup (xs++ys))->Q (.ref p) H'):qR K (.ref a) (.ref b) H Q:=by
 refine⟨a,b,xs,ys,B?,B?,Ub ha,Ub hb,bV hz,λe=>?_,λ_ e=>?_,λ_ _ p hp=>?_⟩
 .exact q b H (.refl _) (by rw[e];exact hb)
 .exact q a H (.refl _) (by rw[e,ME];exact ha)
 .exact q p _ (aj hp _) af
theorem P2.reverse:∀{a:List α}{b:List β},Mg F a b->Mg F a.reverse b.reverse
 |_,_,.nil=>.nil
 | _,_,.cons r t=>by
   rw[Mi,Mi];exact Uc (P2.reverse t) (.cons r .nil)
theorem P2.snoc_inv{a:List α}{b:List β}{y:β}(h:Mg F a (b++[y])):∃us x,a=us++[x]/\Mg F us b/\F x y:=by
 have r:=P2.reverse h;rw[Nu,List.reverse_singleton,List.singleton_append]at r;cases e:a.reverse with
 |nil=>rw[e]at r;cases r
 | cons x us =>
   rw[e]at r;cases r with
   | cons h1 h2 =>
     refine⟨us.reverse,x,?_,?_,h1⟩
     .rw[<-Mi,<-e,Np]
     .have:=P2.reverse h2;rw[Np]at this;exact this
end BB
variable{ds:List BB.Dv}
namespace BB
open PySem L2
mutual
def Th.kn:Th->Nat
 |.knot _ ks=>kns ks+1
 |.call _ _=>0
def kns:List Th->Nat
 | []=>0
 |t::ts=>t.kn+kns ts
end
section
variable{ext:Th->List V}{t:Th}{es:List Ls}
end
def Th.isCall:Th->Bool
 |.knot _ _=>AH
 |.call _ _=>AG
def TK(K:Ly)(H:Hp)(a:Ls)(xs:List V):Prop:=H a=A? (.tup xs)\/(xs=[.str (LI "*")]/\∃(o:M4)(its:Array Lu)(n:Nat),K.lookup a=A? o/\o.cls=.type "tuple"/\o.data=.seq its n/\its.size<=LK/\Vals xs its.toList)
theorem TK.of(h:H a=A? (.tup xs)):TK K H a xs:=.inl h
theorem TK.sq(h:TK K H a xs):SqT K H a xs:=by
 rcases h with h|h
 .exact Ub h
 .exact .inr h.2
mutual
def DAtK(K:Ly)(H:Hp):Dv->V->Prop
 |.int i,v=>v=.int i
 |.str x,v=>v=.str x
 |.tup ds,v=>∃a vs,v=.ref a/\TK K H a vs/\DAtsK K H ds vs
def DAtsK(K:Ly)(H:Hp):List Dv->List V->Prop
 | [],vs=>vs=[]
 |d::ds,vs=>∃v r,vs=v::r/\DAtK K H d v/\DAtsK K H ds r
end
theorem DAtsK.length:∀{ds:List Dv}{vs:List V},DAtsK K H ds vs->vs.length=ds.length
 | [],vs,h=>by rw[DAtsK]at h;subst h;rfl
 | d::ds,vs,h=>by
   rw[DAtsK]at h;obtain⟨v,r,rfl,h1,h2⟩:=h;rw[LP,LP,h2.length]
theorem DAtsK.at:∀{ds:List Dv}{vs:List V}{i:Nat}{d:Dv},DAtsK K H ds vs->ds[i]?=A? d->∃v,vs[i]?=A? v/\DAtK K H d v
 | [],vs,i,d,h,e=>by simp at e
 | d0::ds,vs,i,d,h,e=>by
   rw[DAtsK]at h;obtain⟨v,r,rfl,h1,h2⟩:=h;cases i with
   |zero=>simp at e;subst e;exact⟨v,B?,h1⟩
   | succ i =>
     obtain⟨u,g1,g2⟩:=h2.at (i:=i) (by simpa using e);exact⟨u,by simpa using g1,g2⟩
mutual
theorem DAt.k:∀{d:Dv}{v:V},DAt H d v->DAtK K H d v
 |.int i,v,h=>by rw[DAt]at h;rw[DAtK];exact h
 |.str x,v,h=>by rw[DAt]at h;rw[DAtK];exact h
 | .tup ds,v,h=>by
   rw[DAt]at h;rw[DAtK];obtain⟨a,vs,e,h1,h2⟩:=h;exact⟨a,vs,e,.of h1,DAts.k h2⟩
theorem DAts.k:∀{ds:List Dv}{vs:List V},DAts H ds vs->DAtsK K H ds vs
 | [],vs,h=>by rw[DAts]at h;rw[DAtsK];exact h
 | d::ds,vs,h=>by
   rw[DAts]at h;rw[DAtsK];obtain⟨v,r,e,h1,h2⟩:=h;exact⟨v,r,e,DAt.k h1,DAts.k h2⟩
end
mutual
theorem DAtK.inj{X:Cx}(I:Inv X Z Y H s):∀{d e:Dv}{v:V},DAtK X.K H d v->DAtK X.K H e v->d=e
 |.int i,.int j,v,h,g=>by rw[DAtK]at h;rw[DAtK]at g;rw[h]at g;cases g;rfl
 |.int i,.str y,v,h,g=>by rw[DAtK]at h;rw[DAtK]at g;rw[h]at g;cases g
 |.int i,.tup es,v,h,g=>by rw[DAtK]at h;rw[DAtK]at g;obtain⟨a,vs,e,_⟩:=g;rw[h]at e;cases e
 |.str x,.int j,v,h,g=>by rw[DAtK]at h;rw[DAtK]at g;rw[h]at g;cases g
 |.str x,.str y,v,h,g=>by rw[DAtK]at h;rw[DAtK]at g;rw[h]at g;cases g;rfl
 |.str x,.tup es,v,h,g=>by rw[DAtK]at h;rw[DAtK]at g;obtain⟨a,vs,e,_⟩:=g;rw[h]at e;cases e
 |.tup ds,.int j,v,h,g=>by rw[DAtK]at h;rw[DAtK]at g;obtain⟨a,vs,e,_⟩:=h;rw[e]at g;cases g
 |.tup ds,.str y,v,h,g=>by rw[DAtK]at h;rw[DAtK]at g;obtain⟨a,vs,e,_⟩:=h;rw[e]at g;cases g
 | .tup ds,.tup es,v,h,g=>by
   rw[DAtK]at h;rw[DAtK]at g;obtain⟨a,vs,e1,h1,h2⟩:=h;obtain⟨b,ws,e2,g1,g2⟩:=g;rw[e1]at e2;cases e2;have e3:=I.tuple_inj h1.sq g1.sq;subst e3;rw[DAtsK.inj I h2 g2]
theorem DAtsK.inj{X:Cx}(I:Inv X Z Y H s):∀{ds es:List Dv}{vs:List V},DAtsK X.K H ds vs->DAtsK X.K H es vs->ds=es
 | [],[],vs,h,g=>rfl
 | [],e::es,vs,h,g=>by rw[DAtsK]at h;rw[DAtsK]at g;obtain⟨v,r,z,_⟩:=g;rw[h]at z;cases z
 |d::ds,[],vs,h,g=>by rw[DAtsK]at h;rw[DAtsK]at g;obtain⟨v,r,z,_⟩:=h;rw[g]at z;cases z
 | d::ds,e::es,vs,h,g=>by
   rw[DAtsK]at h;rw[DAtsK]at g;obtain⟨v,r,z,h1,h2⟩:=h;obtain⟨v',r',z',g1,g2⟩:=g;rw[z]at z';cases z';rw[DAtK.inj I h1 g1,DAtsK.inj I h2 g2]
end
end BB
open BB.Th renaming kn->Tc
namespace L2
open PySem PySem.Spec PySem.SeqAt PyProof.Rows BB
open Classical in
theorem eJ[DecidableEq α]{uF:List Lu}{ds es:List α}(p1:s.1.IsTuple a its.toArray)(p2:s.1.IsTuple b uF.toArray)(l1:its.length=ds.length)(l2:uF.length=es.length)(hu:A.units<Nl)
 (ih:∀(j:Nat)(d e:α)(u v:Lu),ds[j]?=A? d->es[j]?=A? e->its[j]?=A? u->uF[j]?=A? v->EqAt A.in1 s u v (decide (d=e))):RcAt A s (.ref a) (.ref b) (decide (ds=es)):=by
 have DF:RcAt A s (.ref a) (.ref b) ((ML (min its.toArray.size uF.toArray.size)).all (λj=>decide (ds[j]?=es[j]?)) && its.toArray.size == uF.toArray.size):=by
  refine RcAt.tuples p1 p2 hu λj h1 h2=>?_;have zB:j<ds.length:=by rw[<-l1];simpa using h1
  have zC:j<es.length:=by rw[<-l2];simpa using h2
  have e1:ds[j]?=A? ds[j]:=LA zB;have e2:es[j]?=A? es[j]:=LA zC;have e3:decide (ds[j]?=es[j]?)=decide (ds[j]=es[j]):=by rw[e1,e2];simp
  have g1:its[j]?=A? its[j]:=LA (by rw[l1];exact zB);have g2:uF[j]?=A? uF[j]:=LA (by rw[l2];exact zC);rw[e3];exact ih j ds[j] es[j] its[j] uF[j] e1 e2 g1 g2
 have e:decide (ds=es)=((ML (min its.toArray.size uF.toArray.size)).all (λj=>decide (ds[j]?=es[j]?)) && its.toArray.size == uF.toArray.size):=by
  rw[LD,LD,l1,l2];by_cases h:ds=es
  .subst h;rw[Ua rfl];symm;simp
  .rw[Ta h];symm;by_cases hl:ds.length=es.length
   .rw[hl,Nat.min_self]
    have:¬((ML es.length).all (λj=>decide (ds[j]?=es[j]?)))=true:=by
     intro z;apply h;apply List.ext_getElem?;intro j;by_cases hj:j<es.length
     .exact Va (Nx.mp z j (NT.mpr hj))
     .rw[NJ (by lia),NJ (by lia)]
    rw[O0.mpr this];rfl
   .have:(ds.length == es.length)=false:=by simpa using hl
    rw[this,Bool.and_false]
 rw[e];exact DF
open Classical in
theorem mS{X:Cx}(I:Inv X Z Y H s){es:List Dv}{ws:List V}(ha:SqT X.K H a vs)(hb:SqT X.K H b ws)(yp:DAtsK X.K H ds vs)(xn:DAtsK X.K H es ws)(hu:A.units<Nl)
 (ih:∀(j:Nat)(d e:Dv)(x y:V)(u v:Lu),ds[j]?=A? d->DAtK X.K H d x->DAtK X.K H e y->RelV x u->RelV y v->EqAt A.in1 s u v (decide (d=e))):RcAt A s (.ref a) (.ref b) (decide (Dv.tup ds=Dv.tup es)):=by
 obtain⟨its,r1,p1,_⟩:=I.tuple ha;obtain⟨uF,r2,p2,_⟩:=I.tuple hb;rw[show decide (Dv.tup ds=Dv.tup es)=decide (ds=es)from decide_eq_decide.mpr ⟨λz=>Dv.tup.inj z,λz=>Xa _ z⟩];refine eJ (show s.1.IsTuple a its.toArray from p1) (show s.1.IsTuple b uF.toArray from p2) (by rw[<-r1.length,yp.length]) (by rw[<-r2.length,xn.length]) hu λj d e u v e1 e2 e3 e4=>?_;obtain⟨x',uT,dx⟩:=yp.at e1;obtain⟨y',zw,dy⟩:=xn.at e2;obtain⟨u',wt,Ba⟩:=r1.get uT;obtain⟨v',yn,Bb⟩:=r2.get zw;rw[wt]at e3;rw[yn]at e4;cases e3;cases e4;exact ih j d e x' y' _ _ e1 dx dy Ba Bb
open Classical in
theorem j3{X:Cx}(I:Inv X Z Y H s):∀(n:Nat)(d e:Dv),d.tot<=n->∀(x y:V)(u v:Lu)(A:LU),DAtK X.K H d x->DAtK X.K H e y->RelV x u->RelV y v->A.units+d.deep<Nl->EqAt A s u v (decide (d=e))
 |0,d,e,hn,x,y,u,v,A,hd,he,ru,rv,hu=>by have:=d.tot_pos;lia
 | n+1,.int i,.int j,hn,x,y,u,v,A,hd,he,ru,rv,hu=>by
   rw[DAtK]at hd;rw[DAtK]at he;subst hd he;obtain⟨t,rfl⟩:=ru;obtain⟨t',rfl⟩:=rv
   have e:decide (Dv.int i=Dv.int j)=(i == j):=by
    by_cases h:i=j
    .subst h;simp
    .rw[Ta (λz=>h (Dv.int.inj z))];simp[h]
   rw[e];exact EqAt.int_int i t j t'
 | n+1,.int i,.str b,hn,x,y,u,v,A,hd,he,ru,rv,hu=>by
   rw[DAtK]at hd;rw[DAtK]at he;subst hd he;obtain⟨t,rfl⟩:=ru;obtain⟨t',rfl⟩:=rv;rw[Ta (λz=>by cases z)];exact EqAt.int_str i t b t'
 | n+1,.int i,.tup es,hn,x,y,u,v,A,hd,he,ru,rv,hu=>by
   rw[DAtK]at hd;rw[DAtK]at he;obtain⟨a,vs,rfl,ha,_⟩:=he;subst hd;obtain⟨t,rfl⟩:=ru;cases rv;obtain⟨its,_,p,_⟩:=I.tuple (ha.sq);rw[Ta (λz=>by cases z)];exact EqAt.int_tuple i t (show s.1.IsTuple a its.toArray from p) (by lia)
 | n+1,.str b,.int j,hn,x,y,u,v,A,hd,he,ru,rv,hu=>by
   rw[DAtK]at hd;rw[DAtK]at he;subst hd he;obtain⟨t,rfl⟩:=ru;obtain⟨t',rfl⟩:=rv;rw[Ta (λz=>by cases z)];exact EqAt.str_int b t j t'
 | n+1,.str b,.str c,hn,x,y,u,v,A,hd,he,ru,rv,hu=>by
   rw[DAtK]at hd;rw[DAtK]at he;subst hd he;obtain⟨t,rfl⟩:=ru;obtain⟨t',rfl⟩:=rv
   have e:decide (Dv.str b=Dv.str c)=(b == c):=by
    by_cases h:b=c
    .subst h;simp
    .rw[Ta (λz=>h (Dv.str.inj z))];simp[h]
   rw[e];exact EqAt.str_str b t c t'
 | n+1,.str b,.tup es,hn,x,y,u,v,A,hd,he,ru,rv,hu=>by
   rw[DAtK]at hd;rw[DAtK]at he;obtain⟨a,vs,rfl,ha,_⟩:=he;subst hd;obtain⟨t,rfl⟩:=ru;cases rv;obtain⟨its,_,p,_⟩:=I.tuple (ha.sq);rw[Ta (λz=>by cases z)];exact EqAt.str_tuple b t (show s.1.IsTuple a its.toArray from p) (by lia)
 | n+1,.tup ds,.int j,hn,x,y,u,v,A,hd,he,ru,rv,hu=>by
   rw[DAtK]at hd;rw[DAtK]at he;obtain⟨a,vs,rfl,ha,_⟩:=hd;subst he;cases ru;obtain⟨t,rfl⟩:=rv;obtain⟨its,_,p,_⟩:=I.tuple (ha.sq);rw[Ta (λz=>by cases z)];exact EqAt.tuple_int j t (show s.1.IsTuple a its.toArray from p) (by lia)
 | n+1,.tup ds,.str b,hn,x,y,u,v,A,hd,he,ru,rv,hu=>by
   rw[DAtK]at hd;rw[DAtK]at he;obtain⟨a,vs,rfl,ha,_⟩:=hd;subst he;cases ru;obtain⟨t,rfl⟩:=rv;obtain⟨its,_,p,_⟩:=I.tuple (ha.sq);rw[Ta (λz=>by cases z)];exact EqAt.tuple_str b t (show s.1.IsTuple a its.toArray from p) (by lia)
 | n+1,.tup ds,.tup es,hn,x,y,u,v,A,hd,he,ru,rv,hu=>by
   have yq:=hd;have Ik:=he;rw[DAtK]at hd;rw[DAtK]at he;obtain⟨a,vs,rfl,ha,yp⟩:=hd;obtain⟨b,ws,rfl,hb,xn⟩:=he;cases ru;cases rv;by_cases wV:a=b
   .subst wV;rw[Ua (DAtK.inj I yq Ik)];exact EqAt.same _
   rw[Dv.tot]at hn;rw[Dv.deep]at hu;refine EqAt.of_refs wV (mS I ha.sq hb.sq yp xn (by lia) λj d e x' y' u' v' e1 dx dy Ba Bb=>?_);have q1:=lS e1;have q2:=gJ e1;refine j3 I n d e (by lia) x' y' u' v' A.in1 dx dy Ba Bb ?_;show A.units+1+_<Nl;lia
end L2
namespace BB
open PySem PySem.Spec PyProof.Rows L2
end BB
namespace L2
open PySem PySem.Spec PySem.SeqAt PyProof.Rows BB
open Classical in
theorem qi{X:Cx}(I:Inv X Z Y H s):∀(n:Nat)(d e:Dv),d.tot<=n->∀(x y:V)(u v:Lu)(A:LU),DAt H d x->DAt H e y->RelV x u->RelV y v->A.units+d.deep<Nl->EqAt A s u v (decide (d=e)):=λn d e hn x y u v A hd he=>j3 I n d e hn x y u v A hd.k he.k
end L2
namespace BB
open PySem L2
end BB
namespace PySem
theorem bb_extendT(l:Ls)(items:Array Lu)(n:Nat)(b:Ls)(vH:Array Lu)(n2:Nat)(dd:Option Ls)(sl:Array (Option Lu))(g0:¬(!items.isEmpty && NA (items.size+vH.size))=AG)(g1:items.size<=LK)(g2:items.size+vH.size<=LK+1) :
 Meets (Ny.«list.extend» ⟨[.ref l,.ref b],[]⟩) (λ_ R s=>s.1.get? l=A? {cls:=.type "list",dict:=Ak,data:=.seq items n,slots:=#[]}/\s.1.get? b=A? {cls:=.type "tuple",dict:=dd,data:=.seq vH n2,slots:=sl}/\R (.ok (.ret MH)) {s with heap:=s.1.update l (Nf λx=>x++vH),toks:=s.toks}) :=
 .of_wp λprog w A R s h=>by
  obtain⟨hp,g,d,tk,os⟩:=s;obtain⟨hl,hb,h⟩:=h;have f1:=AutoSeq1.idx_int;have f2:=AutoSeq1.sub_tuple_tuple;have f3:=AutoSeq1.sub_list_list;have f4:=AutoSeq1.sub_tuple_list;have f5:=AutoSeq1.sub_list_tuple;have z2:(items++vH).size<=LK+1:=by rw[Array.size_append];exact g2
  wp_walk using(OR hl rfl (hz:=g1) (_hz':=z2)),AutoSeq1.wpAny_loadPart' hl,AutoSeq1.wpAny_loadPart' hb
  exact⟨_,B?,h⟩
end PySem
namespace L2
open PySem PySem.Spec PyProof.Rows
section
variable{X:Cx}
def nK(K:Ly):V->List V->Hp->VK->Prop:=λx vs H Q=>∃l b xs zs,x=.ref l/\vs=[.ref b]/\H l=A? (.lst xs)/\SqT K H b zs/\xs.length+zs.length<=LK/\Q .non (upd H l (.lst (xs++zs)))
theorem lB:MtM X "list.extend" (nK X.K):=by
 intro Z s Y H x vs v us Q I rx rv h;obtain⟨l,b,xs,zs,rfl,rfl,hH,hB,hz,q⟩:=h;cases rx;obtain⟨u,rfl,ru⟩:=rv.one;cases ru;obtain⟨z,its,n,r,hl,e⟩:=I.lstM hH;obtain⟨uF,r2,p2,_⟩:=I.tuple hB;have xl:=r2.length;obtain⟨⟨zu,yU,data2,yV⟩,e2,vN,n2,hd2⟩:=p2;simp only at vN hd2;subst vN hd2;have hsz:its.toArray.size+uF.toArray.size<=LK:=by rw[LD,LD];lia
 have xO:¬(!its.toArray.isEmpty && NA (its.toArray.size+uF.toArray.size))=true:=by
  rw[ky hsz,Bool.and_false];exact LO
 refine P4 F.slot_list_extend ⟨_,e,rfl⟩ F.entry_list_extend (F.args_list_extend_2 _ _)
  (bb_extendT l its.toArray n b uF.toArray n2 yU yV xO (by rw[LD];lia) (by lia)) ⟨e,e2,?_⟩
 refine⟨.non,_,I.lset (its':=its++uF) hH e (by simp) (r.append r2) ?_,B?,q⟩;rw[LR];lia
end
end L2
namespace BB
open PySem L2
def kDv(k:LL×Int):Dv:=.tup [.str k.1,.int k.2]
theorem p7{a b:LL×Int}(h:kDv a=kDv b):a=b:=by
 unfold kDv at h;have h1:=Dv.tup.inj h;simp at h1;exact Prod.ext h1.1 h1.2
theorem oB:∀{ks:List (LL×Int)}{as:List Ls},Mg (KAt H) ks as->DAts H (ks.map kDv) (as.map Rb)
 |_,_,.nil=>.nil
 | _,_,.cons r h=>by
   rw[Mf,Mf];refine .cons ?_ (oB h);rw[kDv,DAt];exact⟨_,_,B?,r,.cons (by rw[DAt]) (.cons (by rw[DAt]) .nil)⟩
theorem jL:∀ks:List (LL×Int),d5 (ks.map kDv)<=1
 | []=>by rw[N1,d5];exact MB _
 | k::ks=>by
   have:=jL ks;rw[Mf,d5,kDv];simp only[Dv.deep,d5];lia
end BB
namespace PySem
open Sem (wp)
namespace F
theorem bb_entry_upd:entryFor table "dict.update.loop"=A? Ny.«dict.update.loop»:=entryFor_of_tree (by kernel_rfl)
theorem bb_plain_upd:plainId "dict.update.loop"=true:=by decide +kernel
end F
section
variable{xs:Array Lu}{k:Nat}
end
end PySem
open PySem.F renaming bb_plain_upd->Rc
namespace L2
open PySem PySem.Spec PyProof.Rows BB
section
variable{X:Cx}
end
end L2
namespace BB
open PySem L2
end BB
namespace HT
open PySem PySem.Spec PyProof.Rows
theorem getItem_tuple_whole{t:Ls}(ht:IsTup s.1 t items)(hs:s.1.IsSliceOf sl vl vu .none)(pl:P8 vl lo)(pu:P8 vu hi)
 (hw:sIx items.size 0 lo=0/\sIx items.size items.size hi=items.size) (h:Q (.ref t) s):LG (LN prog w) A (OE (.ref t) (.ref sl)) Q E s:=by
 obtain⟨os,vD,w8,vE⟩:=id hs;have AS:s.TypeIs (.ref sl) "slice":=⟨os,vD,w8⟩;have hT:s.TypeIs (.ref t) "tuple":=ht.typeIs;unfold OE
 try with_reducible refine M5 ?_
 first|refine Lr (Lz ?_)|skip
 refine Lr (wpAny_sequenceKey ht.typeIs (by decide) ?_)
 refine Lr (MO (name:=LI "__getitem__") ht.typeIs L8
  (MW L8 ht.typeIs entry_tuple_getitem ?_ (args_tuple_getitem _ _)))
 show LG _ _ (Oa (.ref t) >>= _) _ _ s;refine Lr (tupleItemsOf_ ht ?_);refine Lr (NN AS ?_);rw[Sa (by decide)];refine Lr (sliceApplied_gen hs pl pu ?_)
 have DG:(((sIx items.size 0 lo:Nat):Int) == 0 && (1:Int) == 1 && (sIx items.size items.size hi - sIx items.size 0 lo) == items.size)=true:=by
  rw[hw.1,hw.2];simp
 show LG _ _ (if(((sIx items.size 0 lo:Nat):Int) == 0 && (1:Int) == 1 && (sIx items.size items.size hi - sIx items.size 0 lo) == items.size)=AG then _ else _) _ _ s;rw[Sa DG];refine Lr (m:=Builtin.Tuple.tupleIsExact _) ?_;unfold Builtin.Tuple.tupleIsExact;refine Lr (NN hT (Lz ?_));rw[Sa (by decide)];exact Lr (Pa (Lz ⟨_,rfl,Lz h⟩))
end HT
namespace L2
open PySem PySem.Spec PyProof.Rows
inductive qP(x:V)(lo:Option Int)(hi:Option Int)(H:Hp)(Q:VK):Prop
 |mk (a:_) (xs:_) (vX:x=.ref a) (vY:H a=A? (.tup xs)) (w6:∀p H',Same H H'->H' p=A? (.tup (dg xs lo hi))->Q (.ref p) H'):qP  x lo hi H Q
def uq:V->Option Int->Option Int->Hp->VK->Prop:=qP
theorem pR{X:Cx}:SlR X uq:=by
 intro Z s Y H x v vl vu lo hi sl Q I rx hs pl pu h;obtain⟨a,xs,rfl,ha,q⟩:=h;by_cases hw:Wb xs.length 0 lo=0/\Wb xs.length xs.length hi=xs.length
 .obtain⟨its,r,p1,hz⟩:=I.tuple (Ub (K:=X.K) ha);have hl:=r.length;cases rx
  have e:dg xs lo hi=xs:=by
   unfold dg;rw[hw.1,hw.2,Ni,Qo,Ph]
  refine⟨"tuple",_,L8.lookup,p1.typeIs,HT.getItem_tuple_whole p1 hs pl pu (by rw[LD,<-hl];exact hw) ⟨.ref a,H,I,B?,q a H (.refl _) (by rw[e];exact ha)⟩⟩
 .exact kN Z s Y H _ v vl vu lo hi sl Q I rx hs pl pu ⟨a,xs,rfl,Ub ha,hw,λp hp=>q p _ (aj hp _) af⟩
end L2
namespace PySem
open Sem (wp)
section
variable{i ep:Nat}{od:M4}{es:Array DictEntry}
theorem bb_keyNext{en:DictEntry}{Q:Option Lu->Lw->Prop}(g:s.1.IsKeyIter it d i es.size ep)(g1:s.1.get? d=A? od)(g2:od.data=.dict es ep)(hx:es[i]?=A? en)
 (fin:∀h',h'.IsKeyIter it d (i+1) es.size ep->MQ it s.1 h'->Q (A? en.key) {s with heap:=h'}):LG (LN prog w) A (OC (.ref it)) Q E s:=by
 obtain⟨o,q1,q2,q3⟩:=id g;unfold OC;refine Lr (PC (MO (name:=LI "__next__") g.typeIs Ng (MW Ng g.typeIs F.entry_dict_keyiterator_next ?_ (F.args_dict_keyiterator_next_1 _))));refine Lr (Lz ?_);refine Lr ?_;refine Lr ?_
 first|refine Lr (NK g.typeIs (Lz ?_))|refine Lr (Oj g.typeIs (Lz ?_))
 refine Lr (wpAny_fieldsOf q1 q3 ?_);have own:Builtin.Dict_items.ownsTuple "dict_keyiterator"=false:=by decide
 simp only[own,MN,if_false];show LG _ _ (if(Mb d == MH)=AG then _ else _) _ _ s;rw[Ra (show¬((Mb d == MH)=AG)from LO)];refine Lr (Lz ?_);refine Lr (OB g1 g2 ?_);rw[Ra (by simp)];refine Lr (Lz ?_);refine Lr (wpAny_dictEpoch g1 g2 ?_);rw[Ra (by simp)];refine Lz ?_;have lt:i<es.size:=(M1.mp hx).1;have ee:es[i]=en:=(M1.mp hx).2;simp only[show¬((i:Int)<0)from by lia,if_false,M0,Array.getElem?_eq_getElem lt];refine Lr ?_
 first|refine Lr (NK g.typeIs (Lz ?_))|refine Lr (Oj g.typeIs (Lz ?_))
 refine Lr (wpAny_isOneOf_keyiter g.typeIs ?_);show LG _ _ (setField (.ref it) 1 (Nz ((i:Int)+1)) >>= _) _ _ s;refine Lr (N6 q1 q3 (by simp) ?_);have g':(s.1.update it (PM (·.setIfInBounds 1 (Nz ((i:Int)+1))))).IsKeyIter it d (i+1) es.size ep:=⟨_,MG _ q1 (OI (M9 q3 _)),(Obj.cls_mapFields ..).trans q2,by rw[M9 q3];simp[Nz]⟩;refine Lr (M5 ?_);refine Lr (wpAny_isOneOf_keyiter (s:={s with heap:=s.1.update it (PM (·.setIfInBounds 1 (Nz ((i:Int)+1))))}) g'.typeIs ?_);show LG _ _ (pure es[i].key) _ _ _;rw[ee];exact Lz (Lz ⟨_,rfl,Lz (fin _ g' (NF ..))⟩)
theorem bb_keyEnd{Q:Option Lu->Lw->Prop}(calm:A.handled=Ak)(g:s.1.IsKeyIter it d i es.size ep)(g1:s.1.get? d=A? od)(g2:od.data=.dict es ep)(hx:es.size<=i)
 (fin:∀h',Heap.ExtBut it s.1 h'->Q Ak {s with heap:=h'}):LG (LN prog w) A (OC (.ref it)) Q E s:=by
 obtain⟨o,q1,q2,q3⟩:=id g;unfold OC;refine Lr (PC (MO (name:=LI "__next__") g.typeIs Ng (MW Ng g.typeIs F.entry_dict_keyiterator_next ?_ (F.args_dict_keyiterator_next_1 _))));refine Lr (Lz ?_);refine Lr ?_;refine Lr ?_
 first|refine Lr (NK g.typeIs (Lz ?_))|refine Lr (Oj g.typeIs (Lz ?_))
 refine Lr (wpAny_fieldsOf q1 q3 ?_);have own:Builtin.Dict_items.ownsTuple "dict_keyiterator"=false:=by decide
 simp only[own,MN,if_false];show LG _ _ (if(Mb d == MH)=AG then _ else _) _ _ s;rw[Ra (show¬((Mb d == MH)=AG)from LO)];refine Lr (Lz ?_);refine Lr (OB g1 g2 ?_);rw[Ra (by simp)];refine Lr (Lz ?_);refine Lr (wpAny_dictEpoch g1 g2 ?_);rw[Ra (by simp)];refine Lz ?_;simp only[show¬((i:Int)<0)from by lia,if_false,M0,Array.getElem?_eq_none hx];refine Lr ?_
 first|refine Lr (NK g.typeIs (Lz ?_))|refine Lr (Oj g.typeIs (Lz ?_))
 show LG _ _ (setField (.ref it) 0 .none >>= _) _ _ s;refine Lr (N6 q1 q3 (by simp) ?_);show LG _ _ (newExc (.type "StopIteration") [] >>= _) _ _ _;refine Lr ?_;simp only[newExc,newTuple];refine Lr (Mm ?_ (by size_fits));refine Lr (m:=Qk _ _) (OM (a:=MH) (by first|rfl|(simp only[Qk];rfl)) ?_);refine Mm ?_ (by size_fits);simp only[raiseNew];refine Lr (wpAny_handled ?_)
 first|rw[show A.in1.handled=Ak from calm]|rw[calm]
 refine Lr (Lz (wpAny_throw ?_));refine Lr (OK (T:="StopIteration") (b:=AG) ⟨_,LH _ rfl,rfl⟩ isSubtype_stop ?_);exact Lz (fin _ (((NF ..).extBut.push _).push _))
theorem bb_keyIter(ns:(d == MU)=AH)(g1:s.1.get? d=A? od)(gc:od.cls=.type "dict")(g2:od.data=.dict es ep)
 (fin:Q (.ref s.1.1.size) {s with heap:=s.1.push {cls:=.type "dict_keyiterator",data:=.fields #[.ref d,.int 0 0,.int es.size 0,.int ep 0]}}):LG (LN prog w) A (pyIter (.ref d)) Q E s:=by
 have gT:s.TypeIs (.ref d) "dict":=⟨_,g1,gc⟩;refine wpAny_pyIter_slot gT F.slot_dict_iter (MW F.slot_dict_iter gT F.entry_dict_iter ?_ (F.args_dict_iter_1 _));unfold Ny.«dict.__iter__»;refine Lr ?_;unfold Builtin.Dict.dictSlotNone;refine Lr (Qc gT ?_);show LG _ _ (pure (Mb d)) _ _ s;refine Lz ?_;show LG _ _ (Builtin.Dict.showsAll d >>= _) _ _ s;unfold Builtin.Dict.showsAll;rw[Ra (by rw[ns];exact LO)];refine Lr (Lz ?_);refine Lr (OB g1 g2 ?_);refine Lr (wpAny_dictEpoch g1 g2 ?_);refine Lr (Mm (Lz ⟨_,rfl,"dict_keyiterator",_,⟨_,LH _ rfl,rfl⟩,Ng.lookup,?_⟩));simpa[Nz]using fin
end
end PySem
namespace L2
open PySem PySem.Spec PyProof.Rows
section
variable{X:Cx}
end
end L2
namespace BB
open PySem L2
inductive Top where
 |nm (n:LL) (m:Nat)
 |th (t:Th)
def bl:List Top->List Th
 | []=>[]
 |.nm n m::S=>.knot n ((bl S).take m)::(bl S).drop m
 |.th t::S=>t::bl S
def TopsOk:List Top->Prop
 | []=>True
 |.nm _ m::S=>m<=(bl S).length/\TopsOk S
 |.th _::S=>TopsOk S
theorem TopsOk.drop:∀{l:List Top}(i:Nat),TopsOk l->TopsOk (l.drop i)
 |l,0,h=>by rw[Ni];exact h
 | [],i+1,h=>by rw[List.drop_nil];exact h
 | .nm n m::S,i+1,h=>by
   rw[TopsOk]at h;rw[List.drop_succ_cons];exact TopsOk.drop i h.2
 | .th t::S,i+1,h=>by
   rw[TopsOk]at h;rw[List.drop_succ_cons];exact TopsOk.drop i h
theorem kM:∀l:List Top,(bl l).length<=l.length
 | []=>LC _
 | .nm n m::S=>by
   have:=kM S;rw[bl,LP,LP,N2];lia
 | .th t::S=>by
   have:=kM S;rw[bl,LP,LP];lia
mutual
def Th.fill(f:Int->Int->Th):Th->Th
 |.knot n ks=>.knot n (fills f ks)
 |.call s k=>f s k
def fills(f:Int->Int->Th):List Th->List Th
 | []=>[]
 |t::ts=>t.fill f::fills f ts
end
theorem fC(f:Int->Int->Th):∀ts:List Th,(fills f ts).length=ts.length
 | []=>by rw[fills]
 |t::ts=>by rw[fills,LP,LP,fC f ts]
mutual
theorem mh:∀t:Th,t.fill Wc=t
 |.knot n ks=>by rw[Th.fill,kE ks]
 |.call s k=>by rw[Th.fill]
theorem kE:∀ts:List Th,fills Wc ts=ts
 | []=>by rw[fills]
 |t::ts=>by rw[fills,mh t,kE ts]
end
def ce(f:Int->Int->Th):Th->Top
 |.knot n ks=>.nm n ks.length
 |.call s k=>.th (f s k)
theorem g6(f:Int->Int->Th):∀(n:Nat)(ts:List Th),aC ts<=n->∀S,bl ((walks ts).map (ce f)++S)=fills f ts++bl S/\(TopsOk S->TopsOk ((walks ts).map (ce f)++S))
 |_,[],_,S=>by rw[walks,fills];exact⟨B?,λh=>h⟩
 | 0,t::ts,hn,S=>by
   have:=t.size_pos;rw[aC]at hn;lia
 | n+1,t::ts,hn,S=>by
   have hs:=t.size_eq;rw[aC]at hn;have h2:=g6 f n ts (by lia) S;have e:(walks (t::ts)).map (ce f)++S=ce f t::((walks t.kids).map (ce f)++((walks ts).map (ce f)++S)):=by rw[walks,t.walk_eq];simp
   have h1:=g6 f n t.kids (by lia) ((walks ts).map (ce f)++S);rw[e];cases t with
   | knot nm ks =>
     simp only[Th.kids]at h1 |-;refine⟨?_,λhS=>?_⟩
     .show bl (.nm nm ks.length::_)=_;rw[bl,h1.1,h2.1,<-fC f ks,List.take_left,List.drop_left,fills,Th.fill];rfl
     .show TopsOk (.nm nm ks.length::_);rw[TopsOk];refine⟨?_,h1.2 (h2.2 hS)⟩;rw[h1.1,LR,fC];exact Nat.le_add_right _ _
   | call s k =>
     simp only[Th.kids,walks,N1,Px]at h1 |-;refine⟨?_,λhS=>?_⟩
     .show bl (.th (f s k)::_)=_;rw[bl,h2.1,fills,Th.fill];rfl
     .show TopsOk (.th (f s k)::_);rw[TopsOk];exact h2.2 hS
theorem lP(f:Int->Int->Th)(t:Th):bl (t.walk.map (ce f))=[t.fill f]/\TopsOk (t.walk.map (ce f)):=by
 have h:=g6 f _ [t] (LC _) [];have e:walks [t]=t.walk:=by simp[walks]
 rw[e,ME]at h;refine⟨?_,h.2 (by rw[TopsOk];trivial)⟩;rw[h.1,fills,fills,bl];rfl
theorem pM(x:V)(xs:List V):dg (x::xs) Ak (A? 1)=[x]:=by
 unfold dg;rw[show(A? (1:Int))=A? ((1:Nat):Int)from rfl,HT.sIx_nat,HT.sIx_none,LP,Nat.min_eq_left (by lia)];rfl
end BB
open BB.Th renaming fill->Yb
namespace PySem
open Sem (wp)
end PySem
namespace L2
open PySem PySem.Spec PyProof.Rows BB
end L2
namespace BB
open PySem L2
theorem oE{k:Nat}(hr:L2.Room k A):A.units+150+2<Nl:=by
 have:=hr.un;lia
end BB
namespace L2
open PySem PySem.Spec PySem.SeqAt PyProof.Rows BB
open Classical in
theorem oz{X:Cx}(I:Inv X Z Y H s){es:List Dv}{ws:List V}{uF:List Lu}(r1:Vals vs its)(r2:Vals ws uF)(yp:DAts H ds vs)(xn:DAts H es ws)(hu:A.units+d5 ds+2<Nl) :
 ∀j(h1:j<its.toArray.size)(h2:j<uF.toArray.size),EqAt A.in1 s its.toArray[j] uF.toArray[j] (decide (ds[j]?=es[j]?)):=by
 intro j h1 h2;have l1:its.length=ds.length:=by rw[<-r1.length,yp.length]
 have l2:uF.length=es.length:=by rw[<-r2.length,xn.length]
 have zB:j<ds.length:=by rw[<-l1];simpa using h1
 have zC:j<es.length:=by rw[<-l2];simpa using h2
 have e1:ds[j]?=A? ds[j]:=LA zB;have e2:es[j]?=A? es[j]:=LA zC;obtain⟨x',uT,dx⟩:=yp.at e1;obtain⟨y',zw,dy⟩:=xn.at e2;obtain⟨u',wt,Ba⟩:=r1.get uT;obtain⟨v',yn,Bb⟩:=r2.get zw;have e3:decide (ds[j]?=es[j]?)=decide (ds[j]=es[j]):=by rw[e1,e2];simp
 have e4:its.toArray[j]=u':=by
  rw[LA (by rw[l1];exact zB)]at wt;simpa using wt
 have e5:uF.toArray[j]=v':=by
  rw[LA (by rw[l2];exact zC)]at yn;simpa using yn
 rw[e3,e4,e5];have q2:=gJ e1;refine qi I _ ds[j] es[j] (LC _) x' y' u' v' A.in1 dx dy Ba Bb ?_;show A.units+1+_<Nl;lia
open Classical in
theorem lc{es:List Dv}(hl:ds.length=es.length):(ML ds.length).all (λj=>decide (ds[j]?=es[j]?))=decide (ds=es):=by
 by_cases h:ds=es
 .subst h;rw[Ua rfl];simp
 .rw[Ta h];refine O0.mpr λz=>h (List.ext_getElem? λj=>?_);by_cases hj:j<ds.length
  .exact Va (Nx.mp z j (NT.mpr hj))
  .rw[NJ (by lia),NJ (by lia)]
def tO(K:Ly)(B:Nat):R2:=λx y H Q=>∃a b vs ws ds es,x=.ref a/\y=.ref b/\SqT K H a vs/\SqT K H b ws/\DAts H ds vs/\DAts H es ws/\d5 ds<=B/\∀b:Bool,(b=AG↔ds≠es)->Q (.bl b) H
open Classical in
theorem rK{X:Cx}{B:Nat}(hu:X.A.units+B+2<Nl):OpR X (Od .NotEq) (tO X.K B):=by
 intro Z s Y H x y v u Q I rx ry h;obtain⟨a,b,vs,ws,ds,es,rfl,rfl,ha,hb,yp,xn,hB,q⟩:=h;cases rx;cases ry;obtain⟨its,r1,p1,_⟩:=I.tuple ha;obtain⟨uF,r2,p2,_⟩:=I.tuple hb;have l1:its.length=ds.length:=by rw[<-r1.length,yp.length]
 have l2:uF.length=es.length:=by rw[<-r2.length,xn.length]
 refine RcNeAt.tuples (show s.1.IsTuple a its.toArray from p1) (show s.1.IsTuple b uF.toArray from p2) (by lia) (oz I r1 r2 yp xn (by lia)) X.prog X.w X.xe _ ?_
 have e:((ML (min its.toArray.size uF.toArray.size)).all (λj=>decide (ds[j]?=es[j]?)) && its.toArray.size == uF.toArray.size)=decide (ds=es):=by
  rw[LD,LD,l1,l2];by_cases hl:ds.length=es.length
  .rw[<-hl,Nat.min_self,lc hl];simp
  .rw[Ta (λz=>hl (by rw[z]))];simp[hl]
 refine⟨.bl (!decide (ds=es)),H,I,by rw[e];rfl,q _ ?_⟩;simp
end L2
namespace BB
open PySem L2
inductive Rep where
 |i
 |p
def enc(s l:Int):Int:=1000 * s+l
def StV(r:Rep)(H:Hp)(s:Int)(v:V):Prop:=match r with
 |.i=>v=.int s
 |.p=>∃(a:Ls)(x y:Int),v=.ref a/\H a=A? (.tup [.int x,.int y])/\s=enc x y/\0<=x/\0<=y/\y<1000
theorem StV.mono{r:Rep}(k:KT H H'){s:Int}(h:StV r H s v):StV r H' s v:=by
 cases r with
 |i=>exact h
 | p =>
   obtain⟨a,x,y,e,h1,h2⟩:=h;exact⟨a,x,y,e,k _ _ h1,h2⟩
theorem ph{x y x' y':Int}(h:enc x y=enc x' y')(h1:0<=y)(h2:y<1000)(h3:0<=y')(h4:y'<1000):x=x'/\y=y':=by
 unfold enc at h;lia
end BB
variable{r:BB.Rep}
namespace L2
open PySem PySem.Spec PySem.SeqAt PyProof.Rows BB
end L2
namespace BB
open PySem L2
end BB
namespace L2
open PySem PySem.Spec PyProof.Rows BB
end L2
namespace BB
open PySem L2
theorem pT(h:n<=xs.length):dg xs Ak (A? (n:Int))=xs.take n:=by
 unfold dg;rw[HT.sIx_none,HT.sIx_nat,Nat.min_eq_left h,Ni,Qo]
end BB
namespace L2
open PySem PySem.Spec PySem.Calls PyProof.Rows PySem.W
structure eu(K:Frag)(C:Ls):Prop where
 exc:excIn K C [.type "ValueError",.type "Exception",.type "BaseException",.type "object"] "ValueError.__new__"=AG
 ga:findIn K (.ref C) "__getattribute__"=A? (A? (.builtin "BaseException.__getattribute__"))
 gt:findIn K (.ref C) "__getattr__"=A? Ak
 cl:findIn K (.ref C) "__class__"=A? (A? (.builtin "object.__class__"))
 mo:mroIn K C (.type "object")=A? AG
 mb:mroIn K C (.type "BaseException")=A? AG
section
variable{g:Array GenState}{d:Drawn}{t:Nat}{os:O3}{o:M4}{K:Frag}
open Builtin Builtin.ObjectAttr Builtin.Getset_descriptor in
theorem nG{tp:Lu}(X:K.In h)(hx:h.get? a=A? o)(hc:o.cls=.ref C)(F:eu K C)(hq:R (.ok (.ret (.ref C))) ⟨h,g,d,t,os⟩) :
 NC (LN prog w) A (.call (.builtin "getset_descriptor.__get__") ⟨[.builtin "object.__class__",.ref a,tp],[]⟩) R ⟨h,g,d,t,os⟩:=by
 have L0:Looks (LN prog w) h (typeOf (.ref a)) (.ref C):=hc ▸ (Looks.ld hx).andThen .now;have L1:=looks_mroIn (M:=LN prog w) X F.mo;refine codeAny_call_builtin KF.slot_gs.plain KF.entry_gs (KF.slot_gs.check _ _ _ _ _ _ _ _ KF.type_class (KF.args_gs _ _ _) ?_);unfold Ny.«getset_descriptor.__get__» descrGet;rw[dga_obj];refine Lr (Lz ?_);unfold descrGetter descrCheckInstance descrNameAndClass isInstance;simp only[KF.owner_class]
 repeat lk
 refine⟨Code.quiet_builtin _ (by decide +kernel),OV KF.entry_class ?_⟩;unfold Ny.«object.__class__» shownTypeOf
 repeat lk
 exact hq
theorem ls{Q:Fin->Lw->Prop}(X:K.In h)(hx:h.get? a=A? o)(hc:o.cls=.ref C)(F:eu K C)(hq:Q (.done (.ret (.ref C))) ⟨h,g,d,t,os⟩) :
 LG (LN prog w) A (Ny.«object.__getattribute__» ⟨[.ref a,.str "__class__" tk],[]⟩) Q E ⟨h,g,d,t,os⟩:=by
 have f5:=PySem.F.typeOf_object_class;have f6:=PySem.F.slot_gs_get.lookup;have f7:=PySem.F.slot_gs_set.lookup;have L1:=looks_findIn (M:=LN prog w) X F.cl
 repeat (any_goals (first|assumption|(with_reducible refine wpAny_loadPart_at hx ?_;rw[hc])|with_reducible refine L1.at ?_|wp_step))
 refine nG X hx hc F ?_
 repeat (any_goals (first|assumption|wp_step))
theorem lM{yX:Lu}{Q:Unit->Lw->Prop}(X:K.In h)(hx:h.get? a=A? o)(hc:o.cls=.ref C)(F:eu K C)(hq:Q () ⟨h,g,d,t,os⟩) :
 LG M A (checkBuiltinCall "BaseException.__getattribute__" ⟨[.ref a,yX],[]⟩) Q E ⟨h,g,d,t,os⟩:=by
 have hk:builtinKind "BaseException.__getattribute__"=A? .slot:=by decide +kernel
 have zD:splitId "BaseException.__getattribute__"=A? ("BaseException","__getattribute__"):=by decide +kernel
 have ha:=PySem.F.args_bexc_ga (.ref a) yX;have L0:Looks M h (typeOf (.ref a)) (.ref C):=hc ▸ (Looks.ld hx).andThen .now;have L1:=looks_mroIn (M:=M) X F.mb;simp only[checkBuiltinCall,hk,zD];refine Lr ?_
 .unfold isInstance
  repeat (first|with_reducible refine L0.at ?_|with_reducible refine L1.at ?_|wp_step)
  exact hq
theorem mD(X:K.In h)(hx:h.get? a=A? o)(hc:o.cls=.ref C)(F:eu K C)(hq:R (.ok (.ret (.ref C))) ⟨h,g,d,t,os⟩) :
 NC (LN prog w) A (.call (.builtin "BaseException.__getattribute__") ⟨[.ref a,.str "__class__" tk],[]⟩) R ⟨h,g,d,t,os⟩ :=
 codeAny_call_builtin PySem.F.attr_ValueError.ga.plain PySem.F.entry_bexc_ga (lM X hx hc F (ls X hx hc F hq))
theorem pI{fill expr:Bool}(X:K.In h)(hx:h.get? a=A? o)(hc:o.cls=.ref C)(F:eu K C)(hq:Q (.ref C) ⟨h,g,d,t,os⟩) :
 LG (LN prog w) A (getAttrBy (.ref a) (.str "__class__" tk) fill expr) Q E ⟨h,g,d,t,os⟩:=by
 have f3:=PySem.F.attr_ValueError.ga.bind (.ref a);have zE:(expr && onTheHeap (Ol "BaseException.__getattribute__"))=false:=by cases expr <;> rfl
 have DH:(Ol "BaseException.__getattribute__" == Ol "object.__getattribute__")=false:=by decide +kernel
 have KQ:(onTheHeap (Mb C) && Ol "BaseException.__getattribute__" == Ol "object.__getattribute__")=false:=by rw[DH];rfl
 have L1:=looks_findIn (M:=LN prog w) X F.ga;have L2:=looks_findIn (M:=LN prog w) X F.gt
 repeat (any_goals (first|assumption|(with_reducible refine wpAny_loadPart_at hx ?_;rw[hc])|with_reducible refine L1.at ?_|with_reducible refine L2.at ?_|wp_step))
 refine mD X hx hc F ?_
 repeat (any_goals (first|assumption|wp_step))
theorem mY{Q:Option Lu->Lw->Prop}(X:K.In h)(hx:h.get? a=A? o)(hc:o.cls=.ref C)(F:eu K C)(hq:Q (A? (.ref C)) ⟨h,g,d,t+1,os⟩) :
 LG (LN prog w) A (getAttr? (.ref a) "__class__") Q E ⟨h,g,d,t,os⟩:=by
 unfold getAttr? getAttrBy?
 repeat (any_goals (first|assumption|with_reducible apply pI X hx hc F|wp_step))
theorem oQ(F:eu K C):KitX K (.ref a) (.ref C) (λh=>∃o,h.get? a=A? o/\o.cls=.ref C) where
 ty:=λ_ _ _⟨_,hx,hc⟩=>hc ▸ (Looks.ld hx).andThen .now
 it:=λ_ _ X _=>by
  have hb:=F.mb;unfold mroIn clsIn at hb;split at hb
  .rename_i c' d' Il De ho
   intro A' Q' E' s' k q;unfold isType loadHead;exact Lr (wpAny_loadPart (k _ _ (X _ _ ho)) (Lz q))
  .cases hb
 ne:=λh tp dd its n sl X wW=>by
  refine O0.mpr λq=>?_;have e:C=tp:=Value.ref.inj (beq_iff_eq.mp q);subst e;have hb:=F.mb;unfold mroIn clsIn at hb;split at hb
  .rename_i c' d' Il De ho
   have z:=(X _ _ ho).symm.trans wW;cases z
  .cases hb
 ca:=λ{_ _ _ _ _ s}X⟨_,hx,hc⟩k=>by obtain⟨h,g,d,t,os⟩:=s;exact mY X hx hc F k
end
def tw:V->Lu
 |.ref D=>.ref D
 |.ty n=>.type n
 |_=>.none
def nu(K:Frag)(ea C:Ls):List V->Hp->VK->Prop:=λxs H Q=>∃v b,xs=[.ref ea,v]/\kitOne K (.ref C) (tw v)=A? b/\Q (.bl b) H
theorem dz{X:Cx}{K:Frag}(hp:(ea,oe)∈X.pn)(hc:oe.cls=.ref C)(F:eu K C)(hK:X.K=K:=by rfl):dC X (.builtin "isinstance") (nu K ea C):=by
 subst hK;intro Z s Y H xs us Q I r h;obtain⟨v,b,rfl,k,q⟩:=h;obtain⟨u,w',rfl,r1,r2⟩:=vals2 r;cases(show u=Mb ea from r1)
 have hv:w'=tw v:=by
  cases v with
  |ref D=>exact r2
  |ty n=>exact r2
  |non=>exact Wa k (by intro z;cases z)
  |bl _=>exact Wa k (by intro z;cases z)
  |int _=>exact Wa k (by intro z;cases z)
  |str _=>exact Wa k (by intro z;cases z)
  |byt _=>exact Wa k (by intro z;cases z)
  |flt _=>exact Wa k (by intro z;cases z)
 subst hv;have hx:=(I.pin (ea,oe) (MC _ hp)).1;exact kia_one (oQ F) I.kIn ⟨oe,hx,hc⟩ k (λz=>nomatch z) λtk=>⟨.bl b,H,I.tok tk,rfl,q⟩
theorem ObjOk.there(x:ObjOk P w H h a o):∃ob,h.get? a=A? ob:=by
 cases o with
 |lst xs=>obtain⟨_,_,_,_,e⟩:=x;exact⟨_,e⟩
 |tup xs=>obtain⟨_,_,_,_,e⟩:=x;exact⟨_,e⟩
 |dK uC=>obtain⟨_,_,_,_,o,_,_,e,_⟩:=x;exact⟨_,e⟩
 |dT uC=>obtain⟨_,_,_,_,o,_,_,e,_⟩:=x;exact⟨_,e⟩
 |set S n=>obtain⟨o,_,_,_,e,_⟩:=x;exact⟨_,e⟩
 |ins C dx fs=>obtain⟨_,_,_,e,_⟩:=x;exact⟨_,e⟩
 |own y=>obtain⟨_,e⟩:=x;exact⟨_,e⟩
 |xd fs=>obtain⟨_,⟨_,_,_,e,_⟩,_⟩:=x;exact⟨_,e⟩
 |rng lo hi=>obtain⟨_,_,_,e⟩:=x;exact⟨_,e⟩
 |frz ob u=>obtain⟨e,_⟩:=x;exact⟨_,e⟩
 |tbl ps=>exact⟨_,(show h.get? a=A? _ from x)⟩
 |met f y=>exact⟨_,(show h.get? a=A? _ from x)⟩
 |ext φ=>obtain⟨_,⟨_,e⟩,_⟩:=x;exact⟨_,e⟩
def CX1(P:LF)(w:LQ):CXT:=λouter H s E e s'=>∃(ea C:Ls)(a0:Lu)(B:Ml)(H':Hp),
 e=.ref ea/\s'.os=s.os/\Qf s'.gens/\Un (frs outer) [] H H' s.1 s'.1/\HOk P w H' s'.1/\Heap.FlyingW B outer ea (.ref C) a0 s'.1 /\
 (∀b o,s.1.get? b=A? o->b∉frs outer->∃o',B.get? b=A? o'/\(H b=Ak->o'=o))/\(∀b u,H' b=A? u->∃o',B.get? b=A? o')/\E (.ref C) Ak H'
theorem gx{B:Ml}(hok:HOk P w H' h)(k1:B.StaysIn h)(k2:B.StaysIn h')(b2:∀b u,H' b=A? u->∃o',B.get? b=A? o'):HOk P w H' h':=λa o e =>
 (hok a o e).stay (λb u hb q=>by
  have ht:∃v,H' b=A? v:=by
   rcases hb with rfl|hb
   .exact⟨_,e⟩
   .exact⟨_,hb⟩
  obtain⟨v,hv⟩:=ht;obtain⟨o',vp⟩:=b2 b v hv;have:=k1 b o' vp;rw[q]at this;cases this;exact k2 b _ vp) (λ_ q=>q) λ_ _ q=>q
theorem kO{fs:List Ls}{h2:Ml}{l:List Ls}{B:Ml}(u1:Un fs [] H H1 h h1)(u2:Un l [] H1 H' h1 h2)(hl:∀b o,h.get? b=A? o->b∈l->b∈fs)
 (b1:∀b o,h1.get? b=A? o->b∉l->∃o',B.get? b=A? o'/\(H1 b=Ak->o'=o)) (st:B.StaysIn h') (up:h2.UpToSlots h')
 (hf:∀b∈fs,H b=Ak/\∃o,h.get? b=A? o/\∀vs,o.data≠.fields vs) :
 Un fs [] H H' h h'/\∀b o,h.get? b=A? o->b∉fs->∃o',B.get? b=A? o'/\(H b=Ak->o'=o):=by
 have nx:∀b:Ls,b∉([]:List Ls):=λb=>by simp
 have bb:∀b o,h.get? b=A? o->b∉fs->∃o',B.get? b=A? o'/\(H b=Ak->o'=o):=λb o q nf=>by
  obtain⟨o1,e1⟩:=u1.there b o q (nx b);obtain⟨o',e',g⟩:=b1 b o1 e1 λz=>nf (hl b o q z);refine⟨o',e',λn=>?_⟩;have:=u1.keep b o q n nf (nx b);rw[e1]at this;cases this;exact g (u1.free b _ q n (nx b))
 have sl:∀b o,h.get? b=A? o->H b=Ak->b∈fs->∃sl,h'.get? b=A? {o with slots:=sl}:=λb o q n m=>by
  obtain⟨s1,e1⟩:=u1.slot b o q n m (nx b);obtain⟨s2,e2⟩:=u2.any e1 (u1.free b o q n (nx b)) (nx b);obtain⟨_,o0,q0,nf⟩:=hf b m;rw[q]at q0;cases q0;obtain⟨s3,e3⟩:=up b _ e2 nf;exact⟨s3,e3⟩
 refine⟨⟨λb o q n nf _=>?_,λb o q n m _=>sl b o q n m,λb o q n _=>?_,λb o q _=>?_,λb xs q=>u2.tups b xs (u1.tups b xs q),λb o u q=>u2.frzs b o u (u1.frzs b o u q),λb ps q=>?_⟩,bb⟩
 .obtain⟨o',e',g⟩:=bb b o q nf;rw[<-g n];exact st b o' e'
 .obtain⟨o1,e1⟩:=u1.there b o q (nx b);exact u2.free b o1 e1 (u1.free b o q n (nx b)) (nx b)
 .by_cases m:b∈fs
  .obtain⟨n,_⟩:=hf b m;obtain⟨s3,e3⟩:=sl b o q n m;exact⟨_,e3⟩
  .obtain⟨o',e',_⟩:=bb b o q m;exact⟨o',st b o' e'⟩
 .obtain⟨m1,e1⟩:=u1.tbls b ps q;obtain⟨m2,e2⟩:=u2.tbls b _ e1;exact⟨m1++m2,by rw[e2,OP]⟩
section
variable{E:XK}
theorem jx{l:List OJ}{L:Ls}(hf:env.frame=A? L):frs (env::l)=L::frs l:=by unfold frs;rw[Nb,hf]
def qW(te:TE)(C:Ls)(E:XK):TS:=λ_ Y H=>te Y H λ_ H1=>E (.ref C) Ak H1
theorem pV(X:K.In h)(F:eu K C)(hm:mg x=A? (.ref C)):OwnCls x C [.type "ValueError",.type "Exception",.type "BaseException",.type "object"] "ValueError.__new__" mg h:=by
 have q:=F.exc;refine⟨hm,?_⟩;unfold excIn at q;split at q
 .rename_i dd cd sl ho
  split at q
  .rename_i C' bm k0 k1 k2 k3 n k5 hm hs
   simp only[N4,beq_iff_eq,Bool.not_eq_true']at q;obtain⟨⟨⟨⟨⟨rfl,rfl⟩,Bc⟩,ht⟩,hok⟩,Al⟩:=q;obtain⟨nm,bs,mro,ns,qn,hd,sn,sub,ab,col,del⟩:=cd;dsimp only at hm Bc hok Al;subst hm Bc
   have Ge:sl=#[k0,k1,k2,k3,A? (.builtin "ValueError.__new__"),k5]:=by
    obtain⟨l⟩:=sl;simp only at hs;rw[hs]
   subst Ge;exact⟨bm,ns,nm,qn,bs,hd,sn,sub,ab,col,dd,k0,k1,k2,k3,k5,_,X _ _ ho,.of_isNs (isNs_of_in X hok),nsMap_none_of_in X hok Al,tail_of_in X ht⟩
  .cases q
 .cases q
theorem hG{e0:Mv}{np uO:Oi}(F:eu K C)(hm:mg x=A? (.ref C))(he:PE (gv (CX1 P w) P w K mg base N qual scope f cd A outer s H E) e0 te)
 (hx:(NB qual scope s.1.1.size f cd).kindOf x=A? .globalImplicit:=by rfl)
 (uY:L7 [e0] (NB qual scope s.1.1.size f cd)=[(AH,Nd e0 (NB qual scope s.1.1.size f cd))]:=by rfl) (hd:(x == ("__debug__":LL))=false:=by decide) :
 PS (gv (CX1 P w) P w K mg base N qual scope f cd A outer s H E) (.Raise (A? (.Call (.Name x np) [e0] [] uO)) Ak pos) (qW te C E):=by
 intro Z s1 Y H1 D I h;obtain⟨tl,N',nm,q,bs,hdct,sn,sub,ab,col,dd,k0,k1,k2,k3,k5,mN,hC,hN,Al,T⟩:=(pV I.mod.kin F hm).obj
 refine wpAny_Raise_call_subT (C:=C) (nm:=nm) (q:=q) (N:=N') (bs:=bs) (bm:=tl) (hdct:=hdct) (sn:=sn) (sub:=sub) (ab:=ab) (col:=col) (dd:=dd) (k0:=k0) (k1:=k1) (k2:=k2) (k3:=k3) (k5:=k5)
  PySem.F.excBase_ValueError (mN:=mN) (T.hasType PySem.F.excBase_ValueError.hasBase) (I.ok.hd rfl) (by show(NG uO (L7 [e0] (NB qual scope s.1.1.size f cd))).any (·.1)=AH;rw[uY];rfl) Al (dU I hx hm ⟨rfl,?_⟩ hd)
 show LG _ _ (evalArgs _ AG (NG uO (L7 [e0] (NB qual scope s.1.1.size f cd))) []) _ _ _;rw[uY];refine Qr (NQ (thn (he Z s1 Y H1 _ I h) λv s2⟨y,H2,I2,r2,q2⟩=>OF ⟨rfl,by show 1<=LK;decide,I2.bk _ _ hC,hN.keeps I2.bk,T.keeps I2.bk,λh' e hx=>?_⟩));show LG _ _ (leaving _ _) _ _ _;have FF:=I2.stack;have hl:∀env∈NB qual scope s.1.1.size f cd::outer,∀a,env.frame=A? a->a∈frs (NB qual scope s.1.1.size f cd::outer):=λenv he a ha=>Of.mpr ⟨env,he,ha⟩;refine wpAny_leaves_madeW (base:=Ou s2.1 (frs (NB qual scope s.1.1.size f cd::outer))) (h:=s2.1) I.ok.frames rfl (λb o z=>of_hideAll _ z) (funFrames_hide FF hl) hx λh2 t vS tup tn up=>?_;have nf:∀b u,H2 b=A? u->b∉frs (NB qual scope s.1.1.size f cd::outer):=λb u e z=>by rw[I2.stkFree b z]at e;cases e
 obtain⟨U,zF⟩:=kO (fs:=frs outer) (H:=H) (H1:=H2) (H':=H2) (h:=s.1) (h1:=s2.1) (h2:=h') (l:=frs (NB qual scope s.1.1.size f cd::outer)) (B:=Ou s2.1 (frs (NB qual scope s.1.1.size f cd::outer))) (h':=h2) I2.base (Un.kept hx.keeps) (λb o hb z=>by
  rw[jx (L:=s.1.1.size) rfl]at z;rcases LW.mp z with rfl|z
  .exact Wa (LJ hb) (Me _)
  .exact z) (λb o hb z=>⟨o,hideAll_get _ hb z,λ_=>rfl⟩) vS.1 up (λb hb=>⟨I.ok.frf b hb,(I.ok.funs.mem hb).2⟩)
 have b2:∀b u,H2 b=A? u->∃o',(Ou s2.1 (frs (NB qual scope s.1.1.size f cd::outer))).get? b=A? o':=λb u e=>by
  obtain⟨o,ho⟩:=(I2.hok b u e).there;exact⟨o,hideAll_get _ ho (nf b u e)⟩
 exact⟨e,C,.ref t,_,H2,B?,I2.os,I2.bare,U,gx I2.hok (λb o z=>of_hideAll _ z) vS.1 b2,vS,zF,b2,q2⟩
end
section
variable{X:Cx}
def Cx.tryB(X:Cx)(Z:List (Ls×M4))(R:St->Lu->Hp->Prop):Cx:={ X with
 pn:=X.pn++Z
 xe:=λe s'=>∃uS H1 s1,Inv X Z uS H1 s1/\CX1 X.prog X.w X.stack H1 s1 (λc _ H'=>R uS c H') e s' }
def Cx.suite(X:Cx)(ea:Ls)(oe:M4):Cx:={ X with
 A:=X.A.mark (A? (.ref ea))
 calm:=AH
 pn:=X.pn++[(ea,oe)]
 xe:=λ_ _=>False }
theorem Inv.tryB(I:Inv X Z Y H s)(R:St->Lu->Hp->Prop):Inv (X.tryB Z R) [] Y H s :=
 ⟨⟨I.ok.mod,I.ok.kind,I.ok.glob,I.ok.blt,I.ok.above,I.ok.inj,I.ok.has,I.ok.cab,I.ok.hd,I.ok.frames,I.ok.stk,I.ok.exf,I.ok.bs,I.ok.bsz,I.ok.noex,I.ok.exfs,I.ok.funs,I.ok.frf⟩,
   I.os,I.bare,I.base,I.loc,I.cell,I.free,I.freeC,λp hp=>I.pin p (by simpa[Cx.tryB]using hp),I.hok,I.len⟩
theorem Inv.untryB{R:St->Lu->Hp->Prop}(I:Inv (X.tryB Z R) uM Y H s):Inv X Z Y H s :=
 ⟨⟨I.ok.mod,I.ok.kind,I.ok.glob,I.ok.blt,I.ok.above,I.ok.inj,I.ok.has,I.ok.cab,I.ok.hd,I.ok.frames,I.ok.stk,I.ok.exf,I.ok.bs,I.ok.bsz,I.ok.noex,I.ok.exfs,I.ok.funs,I.ok.frf⟩,
   I.os,I.bare,I.base,I.loc,I.cell,I.free,I.freeC,λp hp=>I.pin p (MC _ hp),I.hok,I.len⟩
theorem Inv.suite(I:Inv X Z Y H s)(h:s.1.get? ea=A? oe/\H ea=Ak/\ea≠X.env.locals/\ea∉X.fs/\∀v,oe.data≠.cell v):Inv (X.suite ea oe) Z Y H s :=
 ⟨⟨I.ok.mod,I.ok.kind,I.ok.glob,I.ok.blt,I.ok.above,I.ok.inj,I.ok.has,I.ok.cab,(λz=>nomatch z),I.ok.frames,I.ok.stk,I.ok.exf,I.ok.bs,I.ok.bsz,I.ok.noex,I.ok.exfs,I.ok.funs,I.ok.frf⟩,
   I.os,I.bare,I.base,I.loc,I.cell,I.free,I.freeC,λp hp=>by
    have hp:p∈(X.pn++[(ea,oe)])++Z:=hp;rcases Mw.mp hp with hp|hp
    .rcases Mw.mp hp with hp|hp
     .exact I.pin p (MC _ hp)
     .obtain rfl:=LM.mp hp;exact h
    .exact I.pin p (LV _ hp),I.hok,I.len⟩
theorem Inv.unsuite(I:Inv (X.suite ea oe) Z Y H s)(hd:X.calm=AG->X.A.handled=Ak):Inv X Z Y H s :=
 ⟨⟨I.ok.mod,I.ok.kind,I.ok.glob,I.ok.blt,I.ok.above,I.ok.inj,I.ok.has,I.ok.cab,hd,I.ok.frames,I.ok.stk,I.ok.exf,I.ok.bs,I.ok.bsz,I.ok.noex,I.ok.exfs,I.ok.funs,I.ok.frf⟩,
   I.os,I.bare,I.base,I.loc,I.cell,I.free,I.freeC,λp hp=>I.pin p (by
    show p∈(X.pn++[(ea,oe)])++Z;rcases Mw.mp hp with hp|hp
    .exact MC _ (MC _ hp)
    .exact LV _ hp),I.hok,I.len⟩
theorem name_goes{i:Nat}{Q:Unit->Lw->Prop}(I:Inv X Z Y H s)(hN:X.N.Nodup)(hi:X.N[i]?=A? x)(hx:X.env.scope.names.lookup x=A? .local)
 (h:∀s',Inv X Z (Y.set i Ak) H s'->Q () s'):LG M A (do bindName X.env x .none;Qh X.env x pos) Q E s:=by
 have wa:(X.env.scope.kind == .class ||(X.env.scope.kind == .module && X.env.locals != X.env.globals))=false:=by rw[I.ok.kind];rfl
 refine Lr (wpAny_bindName (cP (v:=.non) I hN hi (.inl hx) rfl (λs1 I1=>?_) (.inr hx)));unfold Qh;refine wpAny_onRaise (Mq (E:=λ_ _=>False) ?_ (λ_ _ z=>z) λ_ _ z=>z.elim);obtain⟨m,hn,hl⟩:=id I1.loc;have xH:i<Y.length:=by rw[I.len];exact(glE hi)
 obtain⟨u,ru,lu⟩:=hl i x .non hi (Ot xH) (.inl hx)
 have hv:m x=A? MH:=by
  rcases lu with⟨_,e⟩|⟨k,_⟩
  .cases(show u=MH from ru);exact e
  .have uT:X.env.kindOf x=A? .local:=hx;rw[uT]at k;rcases k with k|k <;> cases k
 refine wpAny_unbindName_local hx hn hv wa λh' u' zm hs=>?_;obtain⟨oL,_,_,F6,_⟩:=id hn;have Aj:∀b o,X.s₀.heap.get? b=A? o->b≠X.env.locals:=λb o e=>Mc (LX (LJ e) I.ok.above);refine h _ ⟨I1.ok,I1.os,I1.bare,⟨λb o e n hb hx=>(hs.2 b (Aj b o e)).trans (I1.base.keep b o e n hb hx),λb o e n hb hx=>?_,I1.base.free,λb o e hx=>?_,I1.base.tups,I1.base.frzs,I1.base.tbls⟩,⟨_,zm,λj y v' e1 e2 e3=>?_⟩,λy c e=>?_,I1.free,I1.freeC,λp hp=>?_,?_,by simpa using I.len⟩
 .obtain⟨sl,e1⟩:=I1.base.slot b o e n hb hx;exact⟨sl,(hs.2 b (Aj b o e)).trans e1⟩
 .obtain⟨o',e1⟩:=I1.base.there b o e hx;exact⟨o',(hs.2 b (Aj b o e)).trans e1⟩
 .by_cases hj:j=i
  .subst hj;rw[Ot xH]at e2;cases e2
  .rw[NV (MY hj)]at e2;obtain⟨u2,r2,q2⟩:=hl j y v' e1 (by rw[NV (MY hj)];exact e2) e3;refine⟨u2,r2,?_⟩;rcases q2 with⟨k,e⟩|⟨k,c,e,z⟩
   .refine .inl ⟨k,?_⟩;have:y≠x:=λe=>hj (gM hN e1 (e ▸ hi));simp[this,e]
   .exact .inr ⟨k,c,e,z.sameBut hs (I1.cne y c e)⟩
 .obtain⟨w',z⟩:=I1.cell y c e;exact⟨w',z.sameBut hs (I1.cne y c e)⟩
 .obtain⟨e,n,ne,nf,d⟩:=I1.pin p hp;exact⟨(hs.2 p.1 ne).trans e,n,ne,nf,d⟩
 .intro b ob e;refine(I1.hok b ob e).stay (λc w' hc q=>(hs.2 c ?_).trans q) (λ_ q=>q) λ_ _ q=>q;rintro rfl;rcases hc with rfl|hc
  .rw[I1.free]at e;cases e
  .rw[I1.free]at hc;cases hc
end
structure Hit(K:Frag)(C Ch:Ls):Prop where
 exc:eu K C
 hit:exmOne K (.ref C) (.ref Ch)=A? AG
def Ends.as(D:Ends)(i:Nat):Ends:={nx:=λY H=>D.nx (Y.set i Ak) H,rt:=D.rt,bk:=λY H=>D.bk (Y.set i Ak) H,ct:=λY H=>D.ct (Y.set i Ak) H}
def rQ(K:Frag)(Ch:Ls)(i:Nat)(ts:Ls->Ls->TS)(D:Ends):St->Lu->Hp->Prop:=λuS c H'=>∃C,c=.ref C/\Hit K C Ch/\∀ea,H' ea=Ak->ts ea C (D.as i) (uS.set i (A? (.ref ea))) H'
def sU(K:Frag)(Ch:Ls)(i:Nat)(tb:(St->Lu->Hp->Prop)->TS)(ts:Ls->Ls->TS):TS:=λD Y H=>tb (rQ K Ch i ts D) D Y H
theorem SP.untryB{X:Cx}{R:St->Lu->Hp->Prop}{f:Flow}(h:SP (X.tryB Z R) [] D f s'):SP X Z D f s':=by
 cases f with
 |next=>obtain⟨uE,H',I,q⟩:=h;exact⟨uE,H',I.untryB,q⟩
 |brk=>obtain⟨uE,H',I,q⟩:=h;exact⟨uE,H',I.untryB,q⟩
 |cont=>obtain⟨uE,H',I,q⟩:=h;exact⟨uE,H',I.untryB,q⟩
 |ret u=>obtain⟨v,uE,H',I,r,q⟩:=h;exact⟨v,uE,H',I.untryB,r,q⟩
theorem m9{X:Cx}{Ch:Ls}{cx n:LL}{i:Nat}{np Bd:Oi}{suite:List NP}{b0:NP}{tb:(St->Lu->Hp->Prop)->TS}{ts:Ls->Ls->TS}
 (hb:∀Z R,PSs (X.tryB Z R) body (tb R)) (hs:∀ea oe C,oe.cls=.ref C->eu X.K C->PSs (X.suite ea oe) (b0::suite) (ts ea C))
 (hN:X.N.Nodup) (hi:X.N[i]?=A? n) (hn:X.env.scope.names.lookup n=A? .local) (uY:X.stack=X.env::X.outer) (zG:X.env.frame=A? X.env.locals) (hg:Gl X cx) (hm:X.mg cx=A? (.ref Ch))
 (hd:(cx == ("__debug__":LL))=false:=by decide) :
 PS X (.Try body [.ExceptHandler (A? (.Name cx np)) (A? n) (b0::suite) Bd] [] [] pos) (sU X.K Ch i tb ts):=by
 intro Z s Y H D I h;refine wpAny_Try_except ?_;have uR:=hb Z (rQ X.K Ch i ts D) [] s Y H D (I.tryB _) h;refine Mq uR (λf s1 q=>?_) λe s1 q=>?_
 .have q':=SP.untryB q;cases f with
  |next=>exact OS q'
  |brk=>exact q'
  |cont=>exact q'
  |ret u=>exact q'
 .obtain⟨uS,H1,s0,I1,ea,C,a0,B,H',rfl,vD,vf,un,hok,vS,b1,b2,C',DD,hit,q⟩:=q;cases DD;rw[uY]at vS;have DI:X.A.frames=A? (X.env::X.outer):=by rw[<-uY];exact I1.ok.frames
  have inv:∀(h6:Ml)(tk:Nat),Heap.FlyingW B (X.env::X.outer) ea (.ref C) a0 h6->s1.1.UpToSlots h6->Inv X Z uS H' {s1 with heap:=h6}:=λh6 tk vI up=>by
   obtain⟨U,_⟩:=kO (fs:=frs X.stack) (H:=H1) (H1:=H1) (h:=s0.1) (h1:=s0.1) (h':=h6) (l:=frs X.stack) (B:=B) Un.refl un (λb o _ z=>z) b1 vI.1 up (λb hb=>⟨I1.stkFree b hb,(I1.stack.mem hb).2⟩);exact I1.call' (s':={s1 with heap:=h6}) (ch:=[]) vD U (gx hok vS.1 vI.1 b2) vf λ_ z=>nomatch z
  refine wpAny_looks_onW DI zG vS λh4 Be Im=>?_;refine wpAny_landsW Be λh5 zH DJ=>?_;have Bf:=Im.trans DJ;have I5:=inv h5 0 zH Bf;obtain⟨o5,Io,Ip⟩:=zH.there;refine wpAny_handleBy_cons (codeAny_handlers_test ?_) (by intro q;cases q);have KR:Inv (X.wish X.xe) Z uS H' {s1 with heap:=h5}:=I5;refine Po I5.ok.kind hg (Calls.loadGlobal_global (by rw[I5.ok.glob];exact I5.mod.glob.keeps I5.bk) hm ?_) hd;refine(exm_one (M:=LN X.prog X.w) (h:=h5) I5.kIn (Ip ▸ (Looks.ld Io).andThen .now) hit.hit).here ?_;refine codeAny_handlers_suite_as ?_;refine lands_againW (s:={s1 with heap:=h5}) zH λh6 vI DK=>?_;have I6:=inv h6 0 vI (Bf.trans DK);obtain⟨oe,vs,Gf,yl,Gg,_⟩:=vI.first
  have yY:H' ea=none:=by
   cases z:H' ea with
   |none=>rfl
   | some u =>
     obtain⟨o',vp⟩:=b2 ea u z;rw[vI.2.1]at vp;cases vp
  have wD:ea∉frs (X.env::X.outer):=λz=>by
   obtain⟨_,o,ho,nf⟩:=vI.2.2.1.mem z;rw[Gf]at ho;cases ho;exact nf vs Gg
  rw[jx zG]at wD;have IS:Inv (X.suite ea oe) Z uS H' {s1 with heap:=h6}:=I6.suite ⟨Gf,yY,λz=>wD (z ▸ L5),λz=>wD (LS _ z),λv z=>by rw[Gg]at z;cases z⟩;refine cP (X:=X.suite ea oe) (v:=.ref ea) IS hN hi (.inl hn) rfl (λs7 I7=>?_) (.inr hn);refine Mq (hs ea oe C yl hit.exc Z s7 _ H' (D.as i) I7 (q ea yY)) (λf s8 q8=>?_) λ_ _ z=>MA z
  have fin:∀{wR:St}{H8:Hp}{Q:Unit->Lw->Prop},Inv (X.suite ea oe) Z wR H8 s8->(∀s9,Inv X Z (wR.set i Ak) H8 s9->Q () s9)->LG (LN X.prog X.w) X.A (do bindName X.env n .none;Qh X.env n Bd) Q X.xe s8:=λ{wR H8 Q}J k =>
   name_goes (J.unsuite I1.ok.hd) hN hi hn k
  cases f with
  |next=>obtain⟨wR,H8,J,q⟩:=q8;exact fin J λs9 J9=>⟨_,H8,J9,q⟩
  |brk=>obtain⟨wR,H8,J,q⟩:=q8;exact fin J λs9 J9=>⟨_,H8,J9,q⟩
  |cont=>obtain⟨wR,H8,J,q⟩:=q8;exact fin J λs9 J9=>⟨_,H8,J9,q⟩
  |ret u=>obtain⟨v,wR,H8,J,r,q⟩:=q8;exact fin J λs9 J9=>⟨v,_,H8,J9,r,q⟩
theorem Fun.ok1{k:Nat}(F:Fun K x qual st f fd)(S:bX N ps (az st))(len:∀vs H Q E,sp vs H Q E->vs.length=ps.length)
 (uR:∀(uI:Lu)(A:LU)(outer:List OJ)(s:Lw)(H:Hp)(vs:List V)(Q:VK)(E:XK),Room k (A.deeper (NB qual (az st) s.1.1.size f uI))->sp vs H Q E ->
  ∃t,PSs (gv (CX1 P w) P w K mg base N qual (az st) f uI A outer s H E) (aW st) t/\t {nx:=λ_ H'=>Q .non H',rt:=Q} (start N vs) H):FnOk P w K mg base (CX1 P w) (k+1) f fd ps sp:=by
 obtain⟨oc,od,kV,doc,pm,an,uI,ct,xM,rfl,lk,vA⟩:=F.ex;exact ny lk vA S len λA outer s H vs Q E hr vM=>uR uI A outer s H vs Q E hr vM
def oK(sp:Sp)(vn:List V)(R:St->Lu->Hp->Prop)(t:TA):TE:=λY H Q=>t Y H λvs H1=>sp (vs++vn) H1 Q λc _ H'=>R Y c H'
theorem oY{X:Cx}{R:St->Lu->Hp->Prop}{k:Nat}{vn:List V}{ds:List Lu}{p:Oi}{t:TA}
 (F:FnOk X.prog X.w X.K X.mg X.base (CX1 X.prog X.w) k f fd ps sp) (hr:Room k X.A) (hg:Gl X x) (hm:X.mg x=A? (.ref f)) (hk:Nw X.K (.ref f)=AG) (hb:Binds X.K fd ps ds) (hd:Vals vn ds)
 (ha:PA (X.tryB Z R) (e::es) t) (wM:(x == ("__debug__":LL))=false:=by decide) (he:L7 (e::es) X.env=(AH,Nd e X.env)::L7 es X.env:=by rfl) (vL:(NG pos (L7 es X.env)).any (·.1)=false:=by rfl) :
 PE (X.tryB Z R) (.Call (.Name x p) (e::es) [] pos) (oK sp vn R t):=by
 intro uM s Y H Q I h;refine MT (dU I hg hm ?_ wM);refine OO (h₀:=X.base) I.ok.mod.kin hk (thn (ha pos uM s Y H _ I h) λus s1⟨vs,H1,I1,r,q⟩=>⟨I1.kIn,?_⟩) he vL;have r2:Vals (vs++vn) (us++ds):=r.append hd;have hl:(us++ds).length=ps.length:=by rw[<-r2.length];exact F.len _ _ _ _ q
 refine wpAny_call (Oe (F.run X.A X.stack s1 H1 ⟨us,[]⟩ (us++ds) (vs++vn) Q _ hr I1.env0 (hb s1 us I1.kIn hl) r2 q) λr s' hq=>?_);cases r with
 |error e=>exact⟨Y,H1,s1,I1.untryB,hq⟩
 | ok fl =>
   cases fl with
   |ret u=>exact I1.after hq
   |next=>exact MA hq
   |brk=>exact MA hq
   |cont=>exact MA hq
theorem nb{K:Frag}{Ch:Ls}{i:Nat}{tb:(St->Lu->Hp->Prop)->TS}{ts:Ls->Ls->TS}(R:St->Lu->Hp->Prop)(h1:∀R':St->Lu->Hp->Prop,(∀uS c H',R uS c H'->R' uS c H')->tb R' D Y H)
 (h2:∀uS c H',R uS c H'->rQ K Ch i ts D uS c H'):sU K Ch i tb ts D Y H:=h1 _ h2
theorem cU{X:Cx}:(ea,oe)∈(X.suite ea oe).pn:=LV _ (LM.mpr rfl)
open PySem.SeqAt
theorem lA{k:Nat}(hr:Room k A):A.units+2<Nl:=by
 have:=hr.units;lia
def sy(K:Ly):R2:=λx y H Q=>∃(a b:Ls)(bs cs:List Bool),x=.ref a/\y=.ref b/\SqL K H a (bs.map V.bl)/\SqL K H b (cs.map V.bl)/\Q (.bl (bs == cs)) H
theorem mr{bs:List Bool}(r:Vals (bs.map V.bl) us):us=bs.map NO:=by
 induction bs generalizing us with
 |nil=>cases r;rfl
 | cons b bs ih =>
   cases r with
   | cons r1 r2 =>
     rw[ih r2];cases(show _=NO b from r1);rfl
theorem qu{bs cs:List Bool}(hl:bs.length=cs.length):(ML bs.length).all (λj=>(bs.getD j AH == cs.getD j AH))=(bs == cs):=by
 induction bs generalizing cs with
 | nil=>cases cs with
   |nil=>rfl
   |cons c cs=>cases hl
 | cons b bs ih=>cases cs with
   |nil=>cases hl
   | cons c cs =>
     rw[LP,List.range_succ_eq_map,List.all_cons,List.all_map];show((b == c) && _)=_;have:=ih (cs:=cs) (by simpa using hl);rw[List.cons_beq_cons,<-this];rfl
theorem pA{X:Cx}(hu:X.A.units+2<Nl):OpR X (Od .Eq) (sy X.K):=by
 intro Z s Y H x y v u Q I rx ry h;obtain⟨a,b,bs,cs,rfl,rfl,ha,hb,q⟩:=h;cases rx;cases ry;obtain⟨its,r1,p1,_⟩:=I.list ha;obtain⟨uF,r2,p2,_⟩:=I.list hb;have e1:=mr r1;have e2:=mr r2;subst e1 e2;by_cases hl:bs.length=cs.length
 .have hsz:(bs.map NO).toArray.size=(cs.map NO).toArray.size:=by simp[hl]
  refine RcAt.lists (e:=λj=>(bs.getD j AH == cs.getD j AH)) p1.isList p2.isList hsz (by lia) (λj h1 h2=>?_) X.prog X.w X.xe _ ?_
  .have zB:j<bs.length:=by simpa using h1
   have zC:j<cs.length:=by simpa using h2
   have z1:bs.getD j AH=bs[j]:=by simp[Pm,zB]
   have z2:cs.getD j AH=cs[j]:=by simp[Pm,zC]
   have y1:(bs.map NO).toArray[j]=NO bs[j]:=by simp
   have y2:(cs.map NO).toArray[j]=NO cs[j]:=by simp
   rw[z1,z2,y1,y2];exact EqAt.bool_bool _ _
  .refine⟨.bl (bs == cs),H,I,?_,q⟩;rw[<-qu hl];simp;rfl
 .refine RcAt.lists_lengths p1.isList p2.isList (by simpa using hl) (by lia) X.prog X.w X.xe _ ⟨.bl (bs == cs),H,I,?_,q⟩;have:(bs == cs)=false:=beq_eq_false_iff_ne.mpr λz=>hl (by rw[z]);rw[this];rfl
end L2
namespace BB
open PySem
end BB
namespace L2
open PySem PySem.Spec PySem.Calls PyProof.Rows BB
end L2
namespace PySem
end PySem
namespace L2
open PySem PySem.Spec PySem.Calls PyProof.Rows BB
section
variable{X:Cx}
def uw(K:Ly)(tl:TE):TI:=λY H R=>tl Y H λx H1=>∃a,x=.ref a/\(((∃xs,SqL K H1 a xs)/\R (Itl K a) H1)\/((∃xs,SqT K H1 a xs)/\R (Itt K a) H1))
theorem rm{l:Mv}(hl:PE X l tl):PI X tg l (uw X.K tl):=by
 intro Z s Y H R I h;refine thn (hl Z s Y H _ I h) λv s1⟨x,H1,I1,r1,q1⟩=>?_;obtain⟨a,e,q⟩:=q1;subst e;cases r1
 have fp:∀b∈[s1.1.1.size],dB X Z H1 b:=λb hb=>by
  have e:b=s1.1.1.size:=by simpa using hb
  subst e;exact I1.fpOk (LC _) (I1.hok.fresh (LC _))
 rcases q with⟨⟨xs,hq⟩,q⟩|⟨⟨xs,hq⟩,q⟩
 .obtain⟨its,rv,p,hz⟩:=I1.list hq;refine wpAny_pyIter_list p.isList ?_;exact⟨s1.1.1.size,[s1.1.1.size],_,_,H1,B?,I1.kept (t':=s1.toks) λb o e=>LB _ e,iY a _,⟨_,LH _ rfl,B?,B?⟩,fp,q⟩
 .obtain⟨its,rv,p,hz⟩:=I1.tuple hq;refine wpAny_pyIter_tuple (show s1.1.IsTuple a its.toArray from p) ?_;exact⟨s1.1.1.size,[s1.1.1.size],_,_,H1,B?,I1.kept (t':=s1.toks) λb o e=>LB _ e,ig a _,⟨_,LH _ rfl,B?,B?⟩,fp,q⟩
end
end L2
namespace BB
open PySem L2
theorem lW{g:TG}(zs:List α)(f:α->V)(hz:zs.length=xs.length)(hn:xs.length<=1000000)
 (DL:∀i H2,Sb H H2->i<xs.length->J.go i H2) (xT:∀H2,Sb H H2->J.stop xs.length H2) (zI:∀(i:Nat)H2 x H3,Sb H H2->i<xs.length->J.yld i H2 x H3->H3=H2/\xs[i]?=A? x)
 (hb:∀(i:Nat)x z H2(R:VK)(W':Hp->Prop),xs[i]?=A? x->zs[i]?=A? z->Sb H H2->(∀H3,Sb H2 H3->R (f z) H3)->g x (cσ js Y) H2 λuV H3=>tt uV H3 λb H4=>if b=AG then te uV H4 R else W' H4)
 (vT:∀D H',H D=Ak->Sb H H'->H' D=A? (.lst (zs.map f))->fin D H') :
 ∀D,H D=Ak->∃(n:Nat)(W:Nat->Hp->Prop),W 0 (upd H D (.lst []))/\hI js g tt te Y J D n W λH'=>fin D H':=by
 intro D hD;refine⟨xs.length,λi H'=>i<=xs.length/\Sb H H'/\H' D=A? (.lst ((zs.take i).map f)),⟨MB _,aj hD _,by rw[af];rfl⟩,?_⟩;rintro i H' ⟨hi,s1,e1⟩;by_cases uN:i<xs.length
 .refine .inr ⟨uN,DL i H' s1 uN,λv H1 hy=>?_⟩;obtain⟨e,hx⟩:=zI i H' v H1 s1 uN hy;subst e;obtain⟨z,yZ⟩:∃z,zs[i]?=A? z:=⟨_,LA (by lia)⟩;refine hb i v z _ _ _ hx yZ s1 λH3 s3=>⟨_,s3 _ _ e1,?_,uN,aF (s1.trans s3) hD,?_⟩
  .rw[Lx,Mj];have:LK=16777216:=N7;lia
  .rw[af,take_snoc yZ,L6];rfl
 .have yA:i=xs.length:=by lia
  subst yA;refine .inl ⟨xT _ s1,vT D H' hD s1 ?_⟩;rw[e1,MI (by lia)]
theorem jF{g:TG}(zs:List α)(f:α->V)(hS:SqT K H a xs)(hz:zs.length=xs.length)(hn:xs.length<=1000000)
 (hb:∀(i:Nat)x z H2(R:VK)(W':Hp->Prop),xs[i]?=A? x->zs[i]?=A? z->Sb H H2->(∀H3,Sb H2 H3->R (f z) H3)->g x (cσ js Y) H2 λuV H3=>tt uV H3 λb H4=>if b=AG then te uV H4 R else W' H4)
 (vT:∀D H',H D=Ak->Sb H H'->H' D=A? (.lst (zs.map f))->fin D H') :
 ∀D,H D=Ak->∃(n:Nat)(W:Nat->Hp->Prop),W 0 (upd H D (.lst []))/\hI js g tt te Y (Itt K a) D n W λH'=>fin D H' :=
 lW zs f hz hn (λi H2 s hi=>⟨xs,xs[i],s.seqT hS,LA hi⟩) (λH2 s=>⟨xs,s.seqT hS,LC _⟩) (λi H2 x H3 s hi hy=>⟨hy.1,hy.2 xs (s.seqT hS)⟩) hb vT
theorem dj{g:TG}(zs:List α)(f:α->V)(hS:SqL K H a xs)(hz:zs.length=xs.length)(hn:xs.length<=1000000)
 (hb:∀(i:Nat)x z H2(R:VK)(W':Hp->Prop),xs[i]?=A? x->zs[i]?=A? z->Sb H H2->(∀H3,Sb H2 H3->R (f z) H3)->g x (cσ js Y) H2 λuV H3=>tt uV H3 λb H4=>if b=AG then te uV H4 R else W' H4)
 (vT:∀D H',H D=Ak->Sb H H'->H' D=A? (.lst (zs.map f))->fin D H') :
 ∀D,H D=Ak->∃(n:Nat)(W:Nat->Hp->Prop),W 0 (upd H D (.lst []))/\hI js g tt te Y (Itl K a) D n W λH'=>fin D H' :=
 lW zs f hz hn (λi H2 s hi=>⟨xs,xs[i],s.seq hS,LA hi⟩) (λH2 s=>⟨xs,s.seq hS,LC _⟩) (λi H2 x H3 s hi hy=>⟨hy.1,hy.2 xs (s.seq hS)⟩) hb vT
end BB
namespace HT
open PySem PySem.Spec PyProof.Rows
theorem adjust_back(n:Nat):Nr Ak Ak (-1) (n:Int)=((n:Int) - 1,-1):=rfl
theorem places_back(n:Nat):MJ ((n:Int) - 1) (-1) (-1)=n:=by
 unfold MJ;have h1:¬((-1:Int) > 0):=by lia
 simp only[h1,if_false];by_cases h:n=0
 .subst h;decide
 .have h2:((n:Int) - 1) > -1:=by lia
  simp only[h2,if_true];rw[show(- -1:Int)=1 by decide,Int.ediv_one];lia
theorem pick_back(xs:Array Lu):((ML xs.size).filterMap λ(m:Nat)=>xs[(((xs.size:Nat):Int) - 1+(m:Int) * (-1)).toNat]?).toArray=xs.toList.reverse.toArray:=by
 congr 1
 have e:∀m∈ML xs.size,xs[(((xs.size:Nat):Int) - 1+(m:Int) * (-1)).toNat]?=xs.toList.reverse[m]?:=by
  intro m hm;have DM:=NT.mp hm;rw[Ov (by rw[L4];exact DM),PQ,L4];congr 1;lia
 have f:∀(l:List Nat)(f g:Nat->Option Lu),(∀m∈l,f m=g m)->l.filterMap f=l.filterMap g:=by
  intro l f g;induction l with
  |nil=>intro _;rfl
  | cons y ys ih =>
    intro h;rw[Nb,Nb,h y (by simp),ih (λm hm=>h m (by simp[hm]))]
 rw[f _ _ _ e]
 have gl:∀(ys:List Lu),(ML ys.length).filterMap (λm=>ys[m]?)=ys:=by
  intro ys;have:=pick_run ys.toArray 0 ys.length;simp only[List.filterMap_map]at this
  have e3:((λx=>ys.toArray[x]?) ∘ λx=>0+x)=λm=>ys[m]?:=by
   funext m;simp
  rw[e3]at this;rw[this];simp
 have:=gl xs.toList.reverse;rw[Mp,L4]at this;exact this
theorem sliceApplied_back{t:Tok}{Q:Int×Int×Nat->Lw->Prop}(hs:s.1.IsSliceOf sl .none .none (.int (-1) t))
 (h:Q ((n:Int) - 1,-1,n) s):LG (LN prog w) A (Ob (.ref sl) (pure (n:Int))) Q E s:=by
 obtain⟨os,vD,w8,vE⟩:=id hs;unfold Ob Builtin.Slice.sliceFields;refine Lr (Lr (MV vD vE (x:=.none) rfl (Lr (MV vD vE (x:=.none) rfl (Lr (MV vD vE (x:=.int (-1) t) rfl (Lz ?_)))))));refine Lr (slicePart_int ?_);show LG _ _ (if((-1:Int) == 0)=AG then _ else _) _ _ s;rw[Ra (by decide)];refine Lr (slicePart_none (Lr (slicePart_none (Lr (Lz ?_)))));show LG _ _ (match Nr Ak Ak (-1) (n:Int)with|(lo,hi)=>pure (lo,(-1:Int),MJ lo hi (-1))) _ _ s;rw[adjust_back n];show LG _ _ (pure ((n:Int) - 1,(-1:Int),MJ ((n:Int) - 1) (-1) (-1))) _ _ s;rw[places_back];exact Lz h
theorem getItem_tuple_back{t:Ls}(ht:IsTup s.1 t items)(hs:s.1.IsSliceOf sl .none .none (.int (-1) tk))
 (h:Q (.ref s.1.1.size) {s with heap:=s.1.push {cls:=.type "tuple",data:=.seq items.toList.reverse.toArray}})
 (hsz:items.size<=LK):LG (LN prog w) A (OE (.ref t) (.ref sl)) Q E s:=by
 have ve:sizeOk (.seq items.toList.reverse.toArray):=by
  show items.toList.reverse.toArray.size<=LK;rw[LD,Mp,L4];exact hsz
 obtain⟨os,vD,w8,vE⟩:=id hs;have AS:s.TypeIs (.ref sl) "slice":=⟨os,vD,w8⟩;unfold OE
 try with_reducible refine M5 ?_
 first|refine Lr (Lz ?_)|skip
 refine Lr (wpAny_sequenceKey ht.typeIs (by decide) ?_)
 refine Lr (MO (name:=LI "__getitem__") ht.typeIs L8
  (MW L8 ht.typeIs entry_tuple_getitem ?_ (args_tuple_getitem _ _)))
 show LG _ _ (Oa (.ref t) >>= _) _ _ s;refine Lr (tupleItemsOf_ ht ?_);refine Lr (NN AS ?_);rw[Sa (by decide)];refine Lr (sliceApplied_back hs ?_)
 have xj:¬((((items.size:Nat):Int) - 1 == 0 && (-1:Int) == 1 && items.size == items.size)=AG):=by
  simp
 show LG _ _ (if(((items.size:Nat):Int) - 1 == 0 && (-1:Int) == 1 && items.size == items.size)=AG then _ else _) _ _ s;rw[Ra xj,pick_back]
 first
  |exact Lr (m:=MM _) (Mm (Lz ⟨_,rfl,Lz h⟩) ve)
  |exact Lr (m:=MM _) (Mm (Lr (Lz (Lz ⟨_,rfl,Lz h⟩))) ve)
  |exact Lr (Lr (m:=MM _) (Mm (Lz (Lz ⟨_,rfl,Lz h⟩)) ve))
  |exact Lr (Lr (m:=MM _) (Mm (Lz ⟨_,rfl,Lz h⟩) ve))
end HT
namespace L2
open PySem PySem.Spec PyProof.Rows
section
variable{X:Cx}{p2 p3 p4:Oi}
def BkR(X:Cx)(r:V->Hp->VK->Prop):Prop :=
 ∀(Z:List (Ls×M4))(s:Lw)(Y:St)(H:Hp)(x:V)(v:Lu)(t:Tok)(sl:Ls)(Q:VK),Inv X Z Y H s->RelV x v->s.1.IsSliceOf sl .none .none (.int (-1) t)->r x H Q ->
   ∃T id,typeLookup (.type T) "__getitem__"=pure (A? (.builtin id))/\s.TypeIs v T/\LG (LN X.prog X.w) X.A (OE v (.ref sl)) (EP X Z Y Q) X.xe s
def tBk(r:V->Hp->VK->Prop)(te:TE):TE:=λY H Q=>te Y H λx H1=>r x H1 Q
theorem pC{r:V->Hp->VK->Prop}(hr:BkR X r)(he:PE X e te):PE X (.Subscript e (.Slice Ak Ak (A? (.UnaryOp .USub (.Constant (.int 1) 0 p3) p4)) p2) pos) (tBk r te):=by
 intro Z s Y H Q I h;refine Subscript_ (thn (he Z s Y H _ I h) λv s1⟨x,H1,I1,r1,q1⟩=>?_);refine wpAny_Slice ?_;rw[evalPart_none];refine Lz ?_;refine Lz ?_;have Cq:PO X (A? (.UnaryOp .USub (.Constant (.int 1) 0 p3) p4)) (qG (tUn (rU λi=>.int (-i)) (tC (.int 1)))):=dP (tJ rc ad);refine thn (Cq Z s1 Y H1 (λo H'=>o=A? (-1)/\r x H' Q) I1 ⟨1,rfl,_,rfl,rfl,q1⟩) λvs s2⟨o,H2,I2,ps,ho,q2⟩=>?_;subst ho;cases ps with
 | int i t =>
   have I4:Inv X Z Y H2 {s2 with heap:=s2.1.push {cls:=.type "slice",data:=.fields #[.none,.none,.int (-1) t]}}:=I2.kept (t':=s2.toks) λb ob q=>LB _ q;obtain⟨T,id,hT,ht,hg⟩:=hr Z {s2 with heap:=s2.1.push {cls:=.type "slice",data:=.fields #[.none,.none,.int (-1) t]}} Y H2 x v t s2.1.1.size Q I4 r1 (Heap.IsSliceOf.new ..) q2;show LG (LN X.prog X.w) X.A (subscriptTail e (.Slice Ak Ak (A? (.UnaryOp .USub (.Constant (.int 1) 0 p3) p4)) p2) v (.ref s2.1.1.size)) (EP X Z Y Q) X.xe {s2 with heap:=s2.1.push {cls:=.type "slice",data:=.fields #[.none,.none,.int (-1) t]}};exact tail_any (ops:=[v,.ref s2.1.1.size]) ht hT hg (by with_unfolding_all rfl)
def uk(K:Ly):V->Hp->VK->Prop:=λx H Q=>∃a xs,x=.ref a/\SqT K H a xs/\∀p,H p=Ak->Q (.ref p) (upd H p (.tup xs.reverse))
theorem Vals.rev(r:Vals xs us):Vals xs.reverse us.reverse:=by
 induction r with
 |nil=>exact .nil
 |cons r1 r2 ih=>rw[Mi,Mi];exact ih.append (.cons r1 .nil)
theorem rV:BkR X (uk X.K):=by
 intro Z s Y H x v t sl Q I rx hs h;obtain⟨a,xs,rfl,hx,q⟩:=h;cases rx;obtain⟨its,r,ht,hz⟩:=I.tuple hx;have hlen:its.toArray.size=xs.length:=by rw[LD];exact r.length.symm
 refine⟨"tuple",_,L8.lookup,ht.typeIs,?_⟩;refine HT.getItem_tuple_back ht hs ?_ (by rw[hlen];exact hz);refine⟨.ref s.1.1.size,_,I.laid (t':=s.toks) (o:=.tup xs.reverse) (λb ob q=>LB _ q) (LC _) ?_,B?,q _ (I.hok.fresh (LC _))⟩;exact⟨by rw[Mp];exact hz,_,0,r.rev,LH _ rfl⟩
end
open PySem.Calls
section
variable{X:Cx}
def tz(K:Ly):R2:=λx y H Q=>∃a b xs ys,x=.ref a/\y=.ref b/\SqL K H a xs/\SqL K H b ys/\xs.length+ys.length<=LK/\∀p,H p=Ak->Q (.ref p) (upd H p (.lst (xs++ys)))
theorem p8:OpR X (N8 .Add) (tz X.K):=by
 intro Z s Y H x y v u Q I rx ry h;obtain⟨a,b,xs,ys,rfl,rfl,ha,hb,hz,q⟩:=h;cases rx;cases ry;obtain⟨its,r1,p1,_⟩:=I.list ha;obtain⟨uF,r2,p2,_⟩:=I.list hb;have l1:=r1.length;have l2:=r2.length;obtain⟨⟨cls,dd,data,sl⟩,ho,hc,n,hd⟩:=p1.isList;obtain⟨⟨zu,yU,data2,yV⟩,xw,vN,n2,hd2⟩:=p2.isList;simp only at hc hd vN hd2;subst hc hd vN hd2;have e:its.toArray++uF.toArray=(its++uF).toArray:=by simp
 refine concat_meets ⟨_,ho,rfl⟩ ⟨_,xw,rfl⟩ noFill_list_add seq_list_add PySem.F.slot_list_add PySem.F.entry_list_add (PySem.F.args_list_add_2 _ _) (list_addW a b its.toArray uF.toArray n n2 dd yU sl yV (by rw[LD,LD];lia)) ⟨ho,xw,?_⟩;rw[e];refine⟨.ref s.1.1.size,_,I.laid (t':=s.toks) (o:=.lst (xs++ys)) (λb o e=>LB _ e) (LC _) ?_,B?,q _ (I.hok.fresh (LC _))⟩;exact⟨by rw[LR];exact hz,its++uF,0,r1.append r2,LH _ rfl⟩
end
def dr(z:LL)(n:Nat):LL:=⟨(Oq n z.cps).foldl (·++·) #[]⟩
theorem j6(c:Nat):∀(n:Nat)(a:Array Nat),(Oq n #[c]).foldl (·++·) a=a++(Oq n c).toArray
 |0,a=>by simp
 | n+1,a=>by
   rw[List.replicate_succ,List.foldl_cons,j6 c n,List.replicate_succ,OP];congr 1;simp
theorem kl(c n:Nat):dr ⟨#[c]⟩ n=⟨(Oq n c).toArray⟩:=by
 unfold dr;rw[j6];simp
theorem o6(c n:Nat):(dr ⟨#[c]⟩ n).length=n:=by
 rw[kl];show(Oq n c).toArray.size=n;simp
section
variable{X:Cx}
def sQ:R2:=λx y H Q=>∃(c:Nat)(n:Int),x=.str ⟨#[c]⟩/\y=.int n/\1<=n/\n<=1000/\Q (.str (dr ⟨#[c]⟩ n.toNat)) H
theorem pi:OpR X (N8 .Mult) sQ:=by
 intro Z s Y H x y v u Q I rx ry h;obtain⟨c,n,rfl,rfl,h1,h2,q⟩:=h;obtain⟨t,rfl⟩:=rx;obtain⟨t',rfl⟩:=ry;have hlen:(⟨#[c]⟩:LL).length=1:=rfl;refine PySem.P.mul_str ?_ ?_ ?_ ?_
 .rw[Ta (by lia),Ta (by lia)];rfl
 .intro _ _;rw[hlen]
  have:(1:Int)<=(2 ^ 63 - 1) / n:=by
   rw[Int.le_ediv_iff_mul_le (by lia)];lia
  show¬((1:Nat):Int) > (2 ^ 63 - 1) / n;lia
 .intro _ _;rw[hlen,Nat.one_mul];have:LK=16777216:=N7;exact Ta (by lia)
 .rw[Ra (by lia)];by_cases hn:n=1
  .subst hn;rw[Sa (by rfl)];exact⟨.str ⟨#[c]⟩,H,I,⟨_,B?⟩,by rw[show dr ⟨#[c]⟩ (1:Int).toNat=⟨#[c]⟩from kl c 1]at q;exact q⟩
  .rw[Ra (by rw[hlen];simp;lia)];refine⟨?_,⟨.str (dr ⟨#[c]⟩ n.toNat),H,I.tok _,⟨_,B?⟩,q⟩⟩;show(dr ⟨#[c]⟩ n.toNat).length<=LK;have:LK=16777216:=N7;rw[o6];lia
def isStr(z:LL):Lu->Bool
 |.str y _=>y == z
 |_=>AH
def qf(K:Ly):V->List V->Hp->VK->Prop:=λx vs H Q=>∃(l:Ls)(zs:List LL)(z:LL)(j:Nat),x=.ref l/\vs=[.str z]/\SqL K H l (zs.map V.str)/\zs[j]?=A? z/\(∀i,i<j->zs[i]?≠A? z)/\zs.length<=100000/\Q (.int (j:Nat)) H
theorem nk:MtM X "list.index" (qf X.K):=by
 intro Z s Y H x vs v us Q I rx rv h;obtain⟨l,zs,z,j,rfl,rfl,hS,hj,xj,hz,q⟩:=h;cases rx;obtain⟨u,rfl,t,rfl⟩:=rv.one;obtain⟨its,r,pl,_⟩:=I.list hS;have hlen:=r.length;rw[Lx]at hlen;obtain⟨⟨cls,dd,data,sl⟩,ho,hc,n,hd⟩:=pl.isList;simp only at hc hd;subst hc hd;have Cr:j<zs.length:=(glE hj)
 have get:∀m,m<zs.length->∃y t',its[m]?=A? (.str y t')/\zs[m]?=A? y:=λm hm=>by
  obtain⟨v,hv,rv⟩:=r.get (i:=m) (x:=.str zs[m]) (by rw[LZ,LA hm];rfl);obtain⟨t',rfl⟩:=rv;exact⟨_,t',hv,LA hm⟩
 refine P4 PySem.F.slot_list_index ⟨_,ho,rfl⟩ PySem.F.entry_list_index (PySem.F.args_list_index_2 _ _)
  (SeqAt.list_indexAt l its.toArray n dd sl (.str z t) (isStr z) j (by rw[LD];lia) (by lia) ?_ ?_) ⟨ho,λy hy=>?_,⟨.int (j:Nat),H,I.tok _,⟨_,rfl⟩,q⟩⟩
 .obtain⟨y,t',h1,h2⟩:=get j Cr;rw[hj]at h2;cases h2
  have h3:its.toArray[j]'(by rw[LD];lia)=.str z t':=by
   rw[LA (by lia)]at h1;simpa using h1
  rw[h3];show(z == z)=AG;simp
 .intro m hm uN;obtain⟨y,t',h1,h2⟩:=get m (by lia)
  have h3:its.toArray[m]'hm=.str y t':=by
   rw[LA (by lia)]at h1;simpa using h1
  rw[h3];show(y == z)=AH;refine O0.mpr λe=>xj m uN ?_;rw[h2,beq_iff_eq.mp e]
 .have zw:y∈its:=by simpa using hy
  obtain⟨m,hm,rfl⟩:=List.getElem_of_mem zw;obtain⟨y,t',h1,h2⟩:=get m (by lia);rw[LA hm]at h1;have h3:=Ma h1;rw[h3];exact SeqAt.EqAt.str_str _ _ _ _
end
end L2
namespace BB
open PySem L2
structure dD(ks:List (LL×Int)):Prop where
 ne:1<=ks.length
 le:ks.length<=8
 low:∀k∈ks,Low k.1/\k.1.length<=8
 num:∀k∈ks,0<=k.2/\k.2<=3
 zero:∃k∈ks,k.2=0
 nd:∀(i j:Nat)(k l:LL×Int),ks[i]?=A? k->ks[j]?=A? l->k.1=l.1->i=j
mutual
def Th.FitS(ks:List (LL×Int))(S C:Int):Th->Prop
 |.knot n ts=>(n,(ts.length:Int))∈ks/\FitSs ks S C ts
 |.call s k=>0<=s/\s<S/\0<=k/\k<C
def FitSs(ks:List (LL×Int))(S C:Int):List Th->Prop
 | []=>True
 |t::ts=>t.FitS ks S C/\FitSs ks S C ts
end
def SameB(l:Ls)(H H':Hp):Prop:=∀b o,b≠l->H b=A? o->H' b=A? o
theorem SameB.of(h:Sb H H'):SameB l H H':=λb o _ e=>h b o e
def RowAt(H:Hp)(row:List Th)(a:Ls):Prop:=∃as:List Ls,H a=A? (.tup (as.map Rb))/\Ats H row as
theorem RowAt.mono(k:KT H H')(h:RowAt H row a):RowAt H' row a:=by
 obtain⟨as,h1,h2⟩:=h;exact⟨as,k _ _ h1,h2.mono k⟩
structure BookAt(H:Hp)(ins outs:List (LL×Int))(head:Th)(rows:List (List Th))(r ia oa ha ra:Ls)(wu vt vj:List Ls):Prop where
 bk:H r=A? (.tup [.ref ia,.ref oa,.ref ha,.ref ra])
 inE:H ia=A? (.tup (wu.map Rb))
 inK:KsAt H ins wu
 outE:H oa=A? (.tup (vt.map Rb))
 outK:KsAt H outs vt
 hd:At H head ha
 rl:H ra=A? (.tup (vj.map Rb))
 rw:Mg (RowAt H) rows vj
theorem BookAt.mono(k:KT H H'){rows:List (List Th)}{r ia oa ha ra:Ls}{wu vt vj:List Ls}(b:BookAt H ins outs head rows r ia oa ha ra wu vt vj):BookAt H' ins outs head rows r ia oa ha ra wu vt vj :=
 ⟨k _ _ b.bk,k _ _ b.inE,b.inK.mono k,k _ _ b.outE,b.outK.mono k,b.hd.mono k,k _ _ b.rl,Vc (λ_ _ e=>e.mono k) b.rw⟩
theorem iM{ks:List (LL×Int)}{C:Int}:∀{ts:List Th},FitSs ks S C ts->∀t∈ts,t.FitS ks S C
 | [],_,t,ht=>by cases ht
 | a::ts,h,t,ht=>by
   rw[FitSs]at h;rcases LW.mp ht with rfl|ht
   .exact h.1
   .exact iM h.2 t ht
def Bk(H:Hp)(ins outs:List (LL×Int))(head:Th)(rows:List (List Th))(r:Ls):Prop:=∃ia oa ha ra wu vt vj,BookAt H ins outs head rows r ia oa ha ra wu vt vj
theorem Bk.mono(k:KT H H'){rows:List (List Th)}{r:Ls}(b:Bk H ins outs head rows r):Bk H' ins outs head rows r:=by
 obtain⟨ia,oa,ha,ra,wu,vt,vj,b⟩:=b;exact⟨ia,oa,ha,ra,wu,vt,vj,b.mono k⟩
end BB
open BB.Th renaming FitS->Zb
open BB.RowAt renaming mono->Zc
namespace L2
open PySem PySem.Spec PySem.Calls PyProof.Rows PySem.SeqAt
end L2
namespace BB
open PySem L2
structure Job where
 p:Th
 k:Th
 r:Nat
 o:Th
def jos(js:List Job):List Th:=js.map (·.o)
theorem gW(l:List Th):aC l.reverse=aC l:=by
 induction l with
 |nil=>rfl
 |cons t l ih=>rw[Mi,bg,ih,aC,aC,aC];lia
end BB
namespace L2
open PySem PySem.Spec PyProof.Rows
section
variable{X:Cx}{p p2 wU:Oi}
def tj(K:Ly)(a:Ls)(n:Nat):It:=⟨λi H=>i<n/\∃xs,SqT K H a xs/\xs.length=n,λi H x H'=>H'=H/\∀xs,SqT K H a xs->xs[n - 1 - i]?=A? x,λi _=>i=n⟩
theorem mE(a it:Ls)(n:Nat):Turn P w K tg (tj K a n) [it] it (λi h=>IsRevT h it a ((n:Int) - 1 - (i:Nat))) where
 mem:=by simp
 obj:=λi h st b hb=>by
  have e:b=it:=by simpa using hb
  subst e;obtain⟨o,e,c,d⟩:=st;exact⟨o,e,λv z=>by rw[d]at z;cases z⟩
 keep:=λi h h' st k=>st.at λo e=>k it (by simp) o e
 item:=by
  intro X hP hw hK hc i Z s Y H E I hf st hg;subst hP hw hK;obtain⟨hi,xs,hq,hx⟩:=hg;obtain⟨its,rv,p,hz⟩:=I.tuple hq;have hl:=rv.length;have hn:=de;obtain⟨x,uT⟩:∃x,xs[n - 1 - i]?=A? x:=⟨_,LA (by lia)⟩;obtain⟨u,hu,ru⟩:=rv.get uT;obtain⟨f0,f1,f2,f3,f4,f5⟩:=hf it (by simp);have e1:(n:Int) - 1 - (i:Nat)=((n - 1 - i:Nat):Int):=by lia
  rw[e1]at st;refine bb_rev_next st p (x:=u) (by simpa using hu) (by rw[LD];lia) λh' tk wC sb=>?_;have I1:Inv X Z Y H {s with heap:=h',toks:=tk}:=I.turned (t':=tk) (λb o hb e=>(sb.2 b hb).trans e) f0 f1 f3 f4 f5;have e2:((n - 1 - i:Nat):Int) - 1=(n:Int) - 1 - ((i+1:Nat):Int):=by lia
  rw[e2]at wC;obtain⟨o,e,c,d⟩:=id wC;exact⟨u,B?,j1 (s:={s with heap:=h',toks:=tk}) e c d (by decide) ⟨x,H,I1,ru,⟨B?,λys hy=>by rw[I.tuple_inj hy hq];exact uT⟩,wC,λb hb=>(hf b hb).1⟩⟩
 done:=by
  intro X hP hw hK hc i Z s Y H E I hf st hg;subst hP hw hK;have DE:i=n:=hg;subst DE;obtain⟨f0,f1,f2,f3,f4,f5⟩:=hf it (by simp);rw[show(i:Int) - 1 - (i:Nat)=-1 by lia]at st;exact bb_rev_end (I.ok.hd hc) st λh' tk eb=>⟨rfl,I.turned (t':=tk) (λb o hb e=>eb b o hb e) f0 f1 f3 f4 f5⟩
 self:=λ_ _ _ _ _ st h=>bb_rev_iter st h
def tm(K:Ly)(tl:TE):TI:=λY H R=>tl Y H λx H1=>∃a xs,x=.ref a/\SqT K H1 a xs/\R (tj K a xs.length) H1
theorem qk(g2:Gl X "reversed")(m2:X.mg "reversed"=Ak)(he:PE X e te)(h2:L7 [e] X.env=[(AH,Nd e X.env)]:=by rfl):PI X tg (.Call (.Name "reversed" p2) [e] [] wU) (tm X.K te):=by
 intro Z s Y H R I h;refine MT (fK I g2 m2 boot_reversed (NL ?_ h2 rfl));rw[h2];show LG _ _ (spliced ((AH,Nd e X.env)::[])) _ _ s;refine NQ (thn (he Z s Y H _ I h) λu s1⟨x,H1,I1,r1,a,ys,ex,hq,q⟩=>OF ?_);subst ex;cases r1;obtain⟨its,rv,p,hz⟩:=I1.tuple hq;have hl:=rv.length;have hn:=de;refine bb_call_rev_tuple p (by rw[LD];lia) λtk=>?_
 have hit:IsRevT (s1.1.push (revTup a ((its.toArray.size:Int) - 1))) s1.1.1.size a ((ys.length:Int) - 1 - ((0:Nat):Int)):=by
  rw[hl,show(its.length:Int) - 1 - ((0:Nat):Int)=(its.toArray.size:Int) - 1 by rw[LD];lia];exact⟨_,LH _ rfl,B?,B?⟩
 refine bb_rev_iter (s:={s1 with heap:=s1.1.push (revTup a ((its.toArray.size:Int) - 1)),toks:=tk}) hit ?_;refine⟨s1.1.1.size,[s1.1.1.size],_,_,H1,B?,I1.kept (t':=tk) λb o e=>LB _ e,mE a _ ys.length,hit,λb hb=>?_,q⟩;have e:b=s1.1.1.size:=by simpa using hb
 subst e;exact I1.fpOk (LC _) (I1.hok.fresh (LC _))
end
end L2
namespace BB
open PySem L2
theorem cW{F:Hp->α->Ls->Prop}{g:TG}(zs:List α)(hF:∀H1 H2 z p,KT H1 H2->F H1 z p->F H2 z p)(hz:zs.length=xs.length)(hn:xs.length<=1000000)
 (DL:∀i H2,Sb H H2->i<xs.length->J.go i H2) (xT:∀H2,Sb H H2->J.stop xs.length H2) (zI:∀(i:Nat)H2 x H3,Sb H H2->i<xs.length->J.yld i H2 x H3->H3=H2/\xs[i]?=A? x)
 (hb:∀(i:Nat)x z H2(R:VK)(W':Hp->Prop),xs[i]?=A? x->zs[i]?=A? z->Sb H H2->(∀H3 p,Sb H2 H3->F H3 z p->R (.ref p) H3)->g x (cσ js Y) H2 λuV H3=>tt uV H3 λb H4=>if b=AG then te uV H4 R else W' H4)
 (vT:∀D H' as,H D=Ak->Sb H H'->H' D=A? (.lst (as.map Rb))->Mg (F H') zs as->fin D H') :
 ∀D,H D=Ak->∃(n:Nat)(W:Nat->Hp->Prop),W 0 (upd H D (.lst []))/\hI js g tt te Y J D n W λH'=>fin D H':=by
 intro D hD;refine⟨xs.length,λi H'=>i<=xs.length/\Sb H H'/\∃as:List Ls,H' D=A? (.lst (as.map Rb))/\Mg (F H') (zs.take i) as,⟨MB _,aj hD _,[],by rw[af];rfl,.nil⟩,?_⟩;rintro i H' ⟨hi,s1,as,e1,hp⟩;by_cases uN:i<xs.length
 .refine .inr ⟨uN,DL i H' s1 uN,λv H1 hy=>?_⟩;obtain⟨e,hx⟩:=zI i H' v H1 s1 uN hy;subst e;obtain⟨z,yZ⟩:∃z,zs[i]?=A? z:=⟨_,LA (by lia)⟩;have hl:(zs.take i).length=as.length:=L3 hp;rw[Mj]at hl;refine hb i v z _ _ _ hx yZ s1 λH3 p s3 Iq=>⟨_,s3 _ _ e1,?_,uN,aF (s1.trans s3) hD,as++[p],?_,?_⟩
  .rw[Lx];have:LK=16777216:=N7;lia
  .rw[af,L6];rfl
  .have kt:KT H3 (upd H3 D (.lst (as.map Rb++[.ref p]))):=bd (s3 _ _ e1);rw[take_snoc yZ];exact Uc (Vc (λx y e=>hF _ _ _ _ ((Za s3).trans kt) e) hp) (.cons (hF _ _ _ _ kt Iq) .nil)
 .have yA:i=xs.length:=by lia
  subst yA;refine .inl ⟨xT _ s1,vT D H' as hD s1 e1 ?_⟩;rw[MI (by lia)]at hp;exact hp
end BB
namespace L2
open PySem PySem.Spec PyProof.Rows
theorem FnOk.x0{k:Nat}{Gh:Sp}(F:FnOk P w K mg base (CX1 P w) k f fd ps Gh)
 (h:∀vs H Q E,sp vs H Q E->Gh vs H Q λ_ _ _=>False):FnOk P w K mg base CX0 k f fd ps sp :=
 ⟨λvs H Q E q=>F.len vs H Q _ (h _ _ _ _ q),λA outer s H args us vs Q E hr he hb hv hs=>Oe (F.run A outer s H args us vs Q _ hr he hb hv (h _ _ _ _ hs)) λr s' hc=>by
  cases r with
  | error e =>
    obtain⟨_,_,_,_,_,_,_,_,_,_,_,_,_,hE⟩:=(show CX1 P w outer H s (λ_ _ _=>False) e s' from hc);exact hE.elim
  |ok v=>cases v <;> exact hc⟩
theorem us1:∀{us:List α},us.length=1->∃a,us=[a]
 | [a],_=>⟨a,rfl⟩
theorem us2:∀{us:List α},us.length=2->∃a b,us=[a,b]
 | [a,b],_=>⟨a,b,rfl⟩
theorem us3:∀{us:List α},us.length=3->∃a b c,us=[a,b,c]
 | [a,b,c],_=>⟨a,b,c,rfl⟩
theorem us4:∀{us:List α},us.length=4->∃a b c d,us=[a,b,c,d]
 | [a,b,c,d],_=>⟨a,b,c,d,rfl⟩
end L2
namespace PySem
open Sem (wp)
section
variable{K:Type}[DecidableEq K]{knd:HeapKind prog w K}
end
end PySem
namespace L2
open PySem PySem.Spec PyProof.Rows BB
end L2
namespace BB
open PySem L2
end BB
namespace PySem
open Sem (wp)
section
variable{I:Ls}{wr:List Ls}{G:Array GenState->Array GenState->Prop}{P:Nat->Lu->Prop}{St:Nat->Lw->Prop}
end
end PySem
namespace L2
open PySem PySem.Spec PyProof.Rows
section
variable{X:Cx}{o:Mv}{to:TE}{p2 wU apos uO:Oi}
end
end L2
namespace PySem
open Sem (wp)
namespace F
theorem bb_list_nokeys:typeLookup (.type "list") "keys"=pure none:=by rw[OT,NX];kernel_rfl
end F
section
variable{xs:Array Lu}{k:Nat}
theorem bb_nokeysL{Q:Option Lu->Lw->Prop}(hA:A.handled=Ak)(hx:s.1.get? a=A? {cls:=.type "list",data:=.seq xs k})
 (q:∀h' tk,(∀b o,s.1.get? b=A? o->h'.get? b=A? o)->Q Ak {s with heap:=h',toks:=tk}):LG (LN prog w) A (getAttr? (.ref a) "keys") Q E s:=by
 obtain⟨hp,g,d,tk,os⟩:=s;have gT:∀z,(⟨hp,g,d,z,os⟩:Lw).TypeIs (.ref a) "list":=λ_=>⟨_,hx,rfl⟩;have g1:=sub_AttributeError;have g3:=PN.lookup;have g4:=PN.bind (.ref a);have g5:=am_list_getattr_none;unfold getAttr? getAttrBy? getAttrBy
 repeat (any_goals (first|assumption|exact gT _|((with_reducible show LG _ _ (call (Ol "list.__getattribute__") _ _) _ _ _);refine P4 PN (gT _) am_entry_list_getattribute (F.args_list_getattribute_2 _ _) (meets_getattribute_miss_list a xs k #[] "keys" _ F.bb_list_nokeys (by decide +kernel) (by decide)) ⟨hx,hA,λh' Ir e uT=>?_⟩)|wp_step))
 obtain⟨t',u',he⟩:=uT.there;show LG _ _ (getattributeRaised _ _ _ _ _ _ _) _ _ _;unfold getattributeRaised
 repeat (any_goals (first|assumption|wp_step))
 exact q h' Ir uT.keeps
end
end PySem
namespace L2
open PySem PySem.Spec PyProof.Rows
def dS:List (List Key×V)->List (List Key×V)->List (List Key×V)
 |uC,[]=>uC
 |uC,p::ps=>dS (putK uC p.1 p.2) ps
def PrA(H:Hp)(pr:List Key×V)(pa:Ls):Prop:=∃ka,H pa=A? (.tup [.ref ka,pr.2])/\H ka=A? (.tup (pr.1.map kV))
section
variable{X:Cx}
theorem nh{r:Lu}{k:List Key}{Q:Unit->Lw->Prop}(hu:(O8 (au X.prog X.w)).room A)(I:Inv X Z Y H s)(e:H a=A? (.dT uC))(eb:H b=A? (.tup (k.map kV)))(l:uC.length<LK)(rv:RelV v r)(h:∀h' tk,MQ a s.1 h'->Inv X Z Y (upd H a (.dT (putK uC k v))) {s with heap:=h',toks:=tk}->Q () {s with heap:=h',toks:=tk}) :
 LG (LN X.prog X.w) A (dictSet a (.ref b) r) Q E s:=by
 obtain⟨z,hd,xs,rel,dd⟩:=mq I.hok e;have hz:xs.length<=LK:=by rw[<-L3 rel];exact z
 have hl:(putK uC k v).length<=LK:=by have:=ck uC k v;lia
 refine wpAny_dictSet_heap (hsz:=hz) hu (fB I.hok eb) dd λh' Bg hs=>h _ _ hs ?_;obtain⟨q,es,ep,hq,h2,h3,h4,_,h5⟩:=Bg;refine i5 I (by rw[e];exact Ox) hs ⟨q,hq⟩ ⟨hl,hd,_,(rel.put k eb rv).keeps λc ys ec=>?_,q,es,ep,hq,h2,h3,h4,h5⟩;rw[ai (dG ec e (λz=>nomatch z))];exact ec
theorem lb{prs:List (List Key×V)}{ps:List Ls}(hh:A.handled=Ak)(hu:A.units+8<Nl)(hn:prs.length<=10000) :
 ∀(m i:Nat)(s:Lw)(tk:Tok)(H:Hp)(uC:List (List Key×V)),prs.length - i=m->i<=prs.length->Inv X Z Y H s->H d=A? (.dT uC)->uC.length<=i->dB X Z H it->s.1.IsListIter it l i->H l=A? (.lst (ps.map Rb))->Mg (PrA H) prs ps ->
   (∀s',Inv X Z Y (upd H d (.dT (dS uC (prs.drop i)))) s'->R (.ok (.ret .none)) s') ->
   NC (LN X.prog X.w) A (.builtin "dict.update.loop" ⟨[.ref d,.ref it,.int i tk,.none],[]⟩) R s:=by
 intro m;induction m with
 | zero =>
   intro i s tk H uC hk hi I ed zJ hf hit el yr hR;have xx:i=prs.length:=by lia
   subst xx;obtain⟨its,rv,p,hz⟩:=I.list (Tb (K:=X.K) el);have vL:prs.length=ps.length:=L3 yr;have hl:=rv.length;rw[Lx]at hl;obtain⟨f0,f1,f2,f3,f4,f5⟩:=hf;refine OV PySem.F.bb_entry_upd ?_;rw[OQ Rc _];show LG _ A.in1 (OC (.ref it) >>= _) _ _ s;refine Lr (wpAny_pyNext_list_end hh hit p.isList (by simp;lia) λh' eb=>?_);refine Lr (Lz (Lz ?_));refine hR _ ?_;rw[List.drop_length]
   have e0:upd H d (.dT (dS uC []))=H:=by
    funext b;by_cases hb:b=d
    .rw[hb,af,ed];rfl
    .rw[ai hb]
   rw[e0];exact I.turned (t':=s.toks) (λb o hb e=>eb b o hb e) f0 f1 f3 f4 f5
 | succ m ih =>
   intro i s tk H uC hk hi I ed zJ hf hit el yr hR;have uN:i<prs.length:=by lia
   have vL:prs.length=ps.length:=L3 yr;obtain⟨its,rv,p,hz⟩:=I.list (Tb (K:=X.K) el);have hl:=rv.length;rw[Lx]at hl;obtain⟨pa,Am,ka,xy,DP⟩:=BB.P2.get yr (LA uN);have hx:(ps.map Rb)[i]?=A? (.ref pa):=by rw[LZ,Am];rfl
   obtain⟨u,Iu,ru⟩:=rv.get hx;cases ru;obtain⟨f0,f1,f2,f3,f4,f5⟩:=id hf;refine OV PySem.F.bb_entry_upd ?_;rw[OQ Rc _];show LG _ A.in1 (OC (.ref it) >>= _) _ _ s;refine Lr (wpAny_pyNext_list_item hit p.isList (x:=.ref pa) (by simpa using Iu) λh1 DQ Iv=>?_);have I1:Inv X Z Y H {s with heap:=h1}:=I.turned (t':=s.toks) (λb o hb e=>(Iv.2 b hb).trans e) f0 f1 f3 f4 f5;obtain⟨_,uF,n2,Iw,e2⟩:=(show ObjOk X.prog X.w H h1 pa (.tup [.ref ka,(prs[i]).2])from I1.hok pa _ xy)
   obtain⟨vv,rfl,Iy⟩:∃vv,uF=[.ref ka,vv]/\RelV (prs[i]).2 vv:=by
    cases Iw with
    | cons a b =>
      cases b with
      | cons c d =>
        cases d;cases a;exact⟨_,B?,c⟩
   have Iz:(⟨h1,s.gens,s.drawn,s.toks,s.os⟩:Lw).TypeIs (.ref pa) "tuple":=⟨_,e2,rfl⟩;refine Lr (M5 ?_);refine Lr (wpAny_tryCatch ?_);unfold Builtin.Dict.pairItems;refine Lr (NN Iz ?_);rw[Sa (by decide)];refine Lr (Qg e2 rfl (Lz ?_));show LG _ _ (holding [.ref ka,vv] (dictSet d (.ref ka) vv)) _ _ _;refine M5 (nh (k:=(prs[i]).1) ?_ I1 ed DP (by have:=de;rw[N7];lia) Iy λh2 KS Bh I2=>?_)
   .exact Pb (by lia)
   refine Lz ⟨PD Rc _,?_⟩
   have Bi:Nz ((i:Int)+1)=.int ((i+1:Nat):Int) 0:=by
    show PX ((i:Int)+1) 0=_;rw[show((i+1:Nat):Int)=(i:Int)+1 by lia]
   rw[Bi];have Cs:it≠d:=λz=>by rw[z,ed]at f0;cases f0
   refine ih (i+1) _ 0 _ (putK uC (prs[i]).1 (prs[i]).2) (by lia) uN I2 af (by have:=ck uC (prs[i]).1 (prs[i]).2;lia) ⟨by rw[ai Cs];exact f0,f1,f2,f3,f4,f5⟩ ?_ ?_ ?_ λs' I'=>hR s' ?_
   .obtain⟨o,g1,r⟩:=DQ;exact⟨o,(Bh.2 it Cs).trans g1,r⟩
   .rw[ai (dG el ed (λz=>nomatch z))];exact el
   .refine Vc (λx y e=>?_) yr;obtain⟨Ct,g1,g2⟩:=e;exact⟨Ct,by rw[ai (dG g1 ed (λz=>nomatch z))];exact g1,by rw[ai (dG g2 ed (λz=>nomatch z))];exact g2⟩
   .rw[l6]at I';rw[OX uN];exact I'
def rb:List V->Hp->VK->Prop:=λxs H Q=>∃(l:Ls)(ps:List Ls)(prs:List (List Key×V)),xs=[.ref l]/\H l=A? (.lst (ps.map Rb))/\Mg (PrA H) prs ps/\prs.length<=10000/\∀d,H d=Ak->Q (.ref d) (upd H d (.dT (dS [] prs)))
theorem gY(hu:X.A.units+12<Nl)(hc:X.calm=AG):dC X (.type "dict") rb:=by
 intro Z s Y H xs us Q I r h;obtain⟨l,ps,prs,rfl,el,yr,hn,q⟩:=h;obtain⟨u,rfl,rx⟩:=vals1 r;cases rx;obtain⟨z,its,n,rv,e⟩:=(show ObjOk X.prog X.w H s.1 l (.lst (ps.map Rb))from I.hok l _ el);refine callType_codes (Q₁:=λobj uD=>obj=.ref s.1.1.size/\uD={s with heap:=s.1.push {cls:=.type "dict",data:=.dict #[]}}) PySem.F.kt_called_dict (PySem.F.kt_typeCall_dict_1 _) PySem.F.entry_dict_init (kt_code_dict_new _ ⟨rfl,rfl⟩) ?_;rintro obj uD ⟨rfl,rfl⟩;have gn:(s.1.push {cls:=.type "dict",data:=.dict #[]}).DictOf (au X.prog X.w) s.1.1.size []:=Heap.DictOf.new s.1;have gt:(s.1.push {cls:=.type "dict",data:=.dict #[]}).get? l=A? {cls:=.type "list",data:=.seq its.toArray n}:=LB _ e;refine⟨gn.typeIs,PySem.F.args_dict_init_2 _ _,?_⟩;have yq:=I.hok.fresh (LC s.1.1.size);have I1:Inv X Z Y (upd H s.1.1.size (.dT [])) {s with heap:=s.1.push {cls:=.type "dict",data:=.dict #[]}}:=I.laid (a:=s.1.1.size) (o:=.dT []) (t':=s.toks) (λ_ _ q=>LB _ q) (LC _) (kb s.1 I.big);unfold Ny.«dict.__init__»;refine Lr ?_;unfold Builtin.Dict.selfAndRest;refine Lr (Qc gn.typeIs ?_);show LG _ _ (pure (s.1.1.size,[Mb l])) _ _ _;refine Lz ?_;show LG _ _ (Builtin.Dict.updateFrom "dict.__init__" s.1.1.size (.ref l) [] .none) _ _ _;unfold Builtin.Dict.updateFrom;refine Lr (NN (T:="list") ⟨_,gt,rfl⟩ ?_);rw[Sa (by decide)];refine Lr (bb_nokeysL (A:=X.A.in1.in1) (I.ok.hd hc) gt λh1 DR k1=>?_);have I2:Inv X Z Y (upd H s.1.1.size (.dT [])) {s with heap:=h1,toks:=DR}:=I1.kept (t':=DR) λb o e=>k1 b o e;simp only[Option.isNone_none,if_true];refine Lr (Pa ?_);obtain⟨od,es,ep,IA,KU⟩:=id gn;have uN:s.1.1.size<h1.objs.size:=LJ (k1 _ _ IA);refine Lr (wpAny_pyIter_list (l:=l) (items:=its.toArray) ⟨_,k1 _ _ gt,rfl,n,rfl⟩ ?_);refine Lz ⟨PD Rc _,?_⟩;have IB:l≠s.1.1.size:=am el yq
 have DS:Mg (PrA (upd H s.1.1.size (.dT []))) prs ps:=Vc (λx y e=>by
  obtain⟨ka,g1,g2⟩:=e;exact⟨ka,by rw[ai (am g1 yq)];exact g1,by rw[ai (am g2 yq)];exact g2⟩) yr
 have Al:(upd H s.1.1.size (.dT [])) h1.objs.size=none:=I2.hok.fresh (LC _);refine lb (A:=X.A.in1) (d:=s.1.1.size) (it:=h1.objs.size) (l:=l) (prs:=prs) (ps:=ps) (I.ok.hd hc) (by show X.A.units+1+8<Nl;lia) hn prs.length 0 _ 0 (upd H s.1.1.size (.dT [])) [] (Qo _) (MB _) (I2.kept (t':=DR) λb o e=>LB _ e) af (LC _) (I2.fpOk (LC _) Al) ⟨_,LH _ rfl,rfl,rfl⟩ (by rw[ai IB];exact el) DS λs' I'=>?_;rw[l6,Ni]at I';exact⟨B?,.ref s.1.1.size,_,I',B?,q _ yq⟩
end
end L2
namespace BB
open PySem L2
theorem pE{k:Nat}(hr:L2.Room k A):A.units+12<Nl:=by
 have:=hr.units;lia
end BB
namespace PySem
end PySem
namespace L2
open PySem PySem.Spec PyProof.Rows
section
variable{X:Cx}{e1 e2:Mv}{t:TA}{p2 wU:Oi}
end
end L2
namespace BB
open PySem L2
noncomputable section
local instance:DecidableEq Th:=λ_ _=>Classical.propDecidable _
end
end BB
namespace PySem
open Sem (wp)
section
variable{K:Type}[DecidableEq K]{knd:HeapKind prog w K}
theorem bb_setDefault_heap{xs:List (K×Ls×Lu)}{k:K}{v:Lu}(hu:knd.room A)(wL:knd.is s.1 k a)(hm:s.1.DictOfH knd d xs)
 (zK:∀p,Og xs k=A? p->Q p.2 {s with toks:=s.toks+knd.draws k})
 (DT:Og xs k=Ak->∀h',h'.DictOfH knd d (storedH xs k a v)->MQ d s.1 h'->Q v {s with heap:=h',toks:=s.toks+knd.draws k})
 (hsz:xs.length<=LK):LG (LN prog w) A (dictSetDefault d (.ref a) v) Q E s:=by
 obtain⟨o,es,ep,ho,hc,hd,he,Cu,hn⟩:=hm;unfold dictSetDefault
 try with_reducible refine M5 ?_
 refine Lr (knd.pyHash hu wL ?_);refine Lr (wpAny_dictFind_heap (s:={s with toks:=s.toks+knd.draws k}) hu wL ho hd he Cu hn ?_ ?_)
 .intro xj;have DU:k∉xs.map (·.1):=not_mem_keys_of_get xj
  refine Lr (Pa (Lr (wpAny_updateDictKeys (hz:=by have e:=size_of_entries he;lia) (s:={s with toks:=s.toks+knd.draws k}) ho hd (Lz (DT (Pt xj) _ ⟨_,_,ep+1,MG _ ho (Obj.isFreed_of_dict (Obj.data_mapDictKeys hd _)),
   hc.mapDictKeys _,Obj.data_mapDictKeys hd _,?_,?_,?_⟩ (NF ..))))))
  .rw[storedH_new (Pt xj)];simp[he,entryOfKey]
  .rw[storedH_new (Pt xj)];intro x hx;rcases Mw.mp hx with hx|hx
   .exact knd.keeps (Cu x hx) ho hd (NF ..)
   .simp only[LM]at hx;subst hx;exact knd.keeps wL ho hd (NF ..)
  .rw[storedH_new (Pt xj)];rw[L6,List.nodup_append];refine⟨hn,by simp,?_⟩;intro x hx y hy;simp only[Mf,N1,LM]at hy;subst hy;exactλe=>DU (e ▸ hx)
 .intro j p hj;have h1:=zK _ (atKey_of_get hn hj);refine Lr (OB (s:={s with toks:=s.toks+knd.draws k}) ho hd ?_);rw[entry_at he j,hj];exact Lr (Pa (Lz h1))
theorem bb_meets_setdefault(knd:HeapKind prog w K)(d a:Ls)(dflt:Lu)(hd:(d == MU)=AH) :
 MeetsIn prog w (Ny.«dict.setdefault» ⟨[.ref d,.ref a,dflt],[]⟩) (λA R s=>knd.room A.in1/\∃k xs,knd.is s.1 k a/\s.1.DictOfH knd d xs/\xs.length<=LK /\
  (∀p,Og xs k=A? p->R (.ok (.ret p.2)) {s with toks:=s.toks+knd.draws k}) /\
  (Og xs k=Ak->∀h',h'.DictOfH knd d (storedH xs k a dflt)->MQ d s.1 h'->R (.ok (.ret dflt)) {s with heap:=h',toks:=s.toks+knd.draws k})) :=
 .of_wp λA R s⟨hu,k,xs,wL,hm,hz,h1,h2⟩=>by
  unfold Ny.«dict.setdefault»;refine Lr ?_;unfold Builtin.Dict.keyAndDefault;have hT:s.TypeIs (.ref d) "dict":=hm.typeIs;refine Lr (Qc hT ?_);show LG _ _ (pure (d,Mb a,A? dflt)) _ _ s;refine Lz ?_;show LG _ _ (if(d == MU)=AG then _ else(dictSetDefault d (.ref a) dflt >>= _)) _ _ s;rw[Ra (by rw[hd];exact LO)];exact Lr (bb_setDefault_heap hu wL hm (λp hp=>Lz ⟨_,rfl,h1 p hp⟩) (λhn h' DM An=>Lz ⟨_,rfl,h2 hn h' DM An⟩) hz)
end
end PySem
namespace L2
open PySem PySem.Spec PyProof.Rows
def qb:V->List V->Hp->VK->Prop:=λx vs H Q=>∃(a b:Ls)(v:V)(k:List Key)(uC:List (List Key×V)),x=.ref a/\vs=[.ref b,v]/\H a=A? (.dT uC)/\H b=A? (.tup (k.map kV))/\uC.length<LK /\
 (∀u,bu uC k=A? u->Q u H)/\(bu uC k=Ak->Q v (upd H a (.dT (putK uC k v))))
theorem ij{X:Cx}(hu:X.A.units+1<Nl):MtM X "dict.setdefault" qb:=by
 intro Z s Y H x vs v us Q I rx rv h;obtain⟨a,b,y,k,uC,rfl,rfl,e,eb,l,q1,q2⟩:=h;cases rx;cases rv with
 |cons r1 rv =>
 cases rv with
 |cons r2 rv =>
 cases rv;cases r1;obtain⟨z,hd,xs,rel,dd⟩:=mq I.hok e;have hz:xs.length<=LK:=by rw[<-L3 rel];exact z
 have hl:(putK uC k y).length<=LK:=by have:=ck uC k y;lia
 have hT:s.TypeIs (.ref a) "dict":=dd.typeIs;refine call_meetsIn PySem.F.slot_dict_setdefault hT PySem.F.entry_dict_setdefault (PySem.F.args_dict_setdefault_3 _ _ _) (bb_meets_setdefault (O8 (au X.prog X.w)) a b _ hd) ⟨Pb hu,k,xs,fB I.hok eb,dd,hz,λp hp=>?_,λhn h' Bg hs=>?_⟩
 .have hr:=rel.val k;rw[hp]at hr;cases hv:bu uC k with
  |none=>rw[hv]at hr;exact hr.elim
  | some u =>
    rw[hv]at hr;exact⟨u,H,I.tok _,hr,q1 u hv⟩
 .have hr:=rel.val k;rw[hn]at hr;cases hv:bu uC k with
  |some u=>rw[hv]at hr;exact hr.elim
  | none =>
    refine⟨y,_,?_,r2,q2 hv⟩;obtain⟨q,es,ep,hq,h2,h3,h4,_,h5⟩:=Bg;refine i5 I (by rw[e];exact Ox) hs ⟨q,hq⟩ ⟨hl,hd,_,(rel.put k eb r2).keeps λc ys ec=>?_,q,es,ep,hq,h2,h3,h4,h5⟩;rw[ai (dG ec e (λz=>nomatch z))];exact ec
end L2
namespace PySem
open Sem (wp)
theorem bb_key_loop{S:Ls}{es:Array DictEntry}{ep:Nat}{od:M4}(hh:A.in1.handled=Ak)(hz:es.size<=LK)(zL:S≠it)(Bj:S≠d)(Cs:d≠it)(g2:od.data=.dict es ep)(res:Lu) :
 ∀(k i:Nat)(s:Lw)(acc:Array Lu)(c:Nat),es.size - i=k->i<=es.size->s.1.IsKeyIter it d i es.size ep->s.1.get? d=A? od->s.1.get? S=A? {cls:=.type "list",dict:=Ak,data:=.seq acc c,slots:=#[]}->acc.toList=(es.toList.take i).map (·.key) ->
 (∀h' xp c',(∀b o,b≠S->b≠it->s.1.get? b=A? o->h'.get? b=A? o)->h'.get? S=A? {cls:=.type "list",dict:=Ak,data:=.seq xp c',slots:=#[]}->xp.toList=es.toList.map (·.key)->R (.ok (.ret res)) {s with heap:=h'}) ->
 NC (LN prog w) A (.builtin "list.extend.loop" ⟨[.ref S,.ref it,res],[]⟩) R s:=by
 intro k;induction k with
 | zero =>
   intro i s acc c hk hi hit hd hS wc hR;have xx:i=es.size:=by lia
   subst xx;refine OV F.entry_extend_loop ?_;rw[OQ Oh _];show LG _ A.in1 (OC (.ref it) >>= _) _ _ s;refine Lr (bb_keyEnd hh hit hd g2 (LC _) λh' vk=>Lz ?_);refine hR h' acc c (λb o _ hb e=>vk b o hb e) (vk _ _ zL hS) ?_;rw[wc,MI (by rw[L4];lia)]
 | succ k ih =>
   intro i s acc c hk hi hit hd hS wc hR;have uN:i<es.size:=by lia
   refine OV F.entry_extend_loop ?_;rw[OQ Oh _];show LG _ A.in1 (OC (.ref it) >>= _) _ _ s;have hx:es[i]?=A? es[i]:=Array.getElem?_eq_getElem uN
   have v5:acc.size=i:=by
    have:=Xa NU wc;rw[L4,Lx,Mj,L4]at this;lia
   refine Lr (bb_keyNext hit hd g2 hx λh' DV vk=>?_);have Cv:=(vk.2 S zL).trans hS;have we:=(vk.2 d Cs).trans hd;show LG _ A.in1 (updateSeq S (·.push es[i].key) >>= _) _ _ _;refine Lr ?_;have Ao:∀b o,b≠S->h'.get? b=A? o->(h'.update S (Nf (·.push es[i].key))).get? b=A? o:=λb o hb e=>(MD _ _ (MY hb)).trans e
   refine OR Cv rfl (Lz ⟨PD Oh _,ih (i+1) _ (acc.push es[i].key) _ (by lia) uN (DV.at λo e=>Ao _ _ (MY zL) e) (Ao _ _ (MY Bj) we) (MG _ Cv rfl) ?_ λDW xp c' DX DY Bl=>?_⟩)
    (by rw[v5];lia) (by show(acc.push _).size<=LK+1;rw[Array.size_push,v5];lia)
   .rw[Array.toList_push,wc,Nn,LA (by rw[L4];exact uN),L6];simp
   .exact hR DW xp c' (λb o hb hb2 e=>DX b o hb hb2 (Ao b o hb ((vk.2 b hb2).trans e))) DY Bl
theorem bb_list_keys{es:Array DictEntry}{ep:Nat}{od:M4}(hh:A.in1.in1.handled=Ak)(ns:(d == MU)=AH)(hd:s.1.get? d=A? od)(gc:od.cls=.type "dict")(g2:od.data=.dict es ep)(hz:es.size<=LK)
 (hQ:∀h' acc c,(∀b o,s.1.get? b=A? o->h'.get? b=A? o)->h'.get? s.1.1.size=A? {cls:=.type "list",dict:=Ak,data:=.seq acc c,slots:=#[]}->acc.toList=es.toList.map (·.key)->Q (.ref s.1.1.size) {s with heap:=h'}) :
 LG (LN prog w) A (call (.type "list") [.ref d]) Q E s:=by
 have Ap:=LJ hd;have Bj:s.1.1.size≠d:=Pq Ap
 refine callType_codes (Q₁:=λobj uD=>obj=.ref s.1.1.size/\uD={s with heap:=s.1.push {cls:=.type "list",data:=.seq #[]}}) F.called_list (F.typeCall_list_1 _) F.entry_list_init
  (code_list_new _ ⟨rfl,rfl⟩) λobj uD uK=>?_
 obtain⟨rfl,rfl⟩:=uK;have hS:(s.1.push {cls:=.type "list",data:=.seq #[]}).get? s.1.1.size=A? {cls:=.type "list",data:=.seq #[]}:=LH _ rfl;refine⟨⟨_,hS,B?⟩,F.args_list_init_2 _ _,?_⟩;show LG _ A.in1.in1 (do let old <-Builtin.List.listItems (.ref s.1.1.size);Builtin.List.listUpdate (.ref s.1.1.size) (λ_=>#[]);letGo old.toList.reverse;Builtin.List.listExtendWith (.ref s.1.1.size) (.ref d) .none) _ _ _;refine Lr ?_;unfold Builtin.List.listItems;refine Lr (Qg hS rfl (Lz ?_));refine Lr (OR hS rfl ?_);have y3:=MG (Nf (λ_=>(#[]:Array Lu))) hS rfl;refine Lr (wpAny_letGo ?_);have yB:((s.1.push {cls:=.type "list",data:=.seq #[]}).update s.1.1.size (Nf (λ_=>(#[]:Array Lu)))).objs.size=s.1.1.size+1:=by rw[Heap.size_update,N9]
 generalize hH:(s.1.push {cls:=.type "list",data:=.seq #[]}).update s.1.1.size (Nf (λ_=>(#[]:Array Lu)))=H2 at y3 yB |-
 have old:∀b o,s.1.get? b=A? o->H2.get? b=A? o:=λb o e=>by
  rw[<-hH,MD _ _ (MY (Mc (LJ e)))];exact LB _ e
 obtain⟨c2,IC⟩:∃c,H2.get? s.1.1.size=A? {cls:=.type "list",data:=.seq #[] c}:=⟨_,y3⟩;have hd2:=old _ _ hd;have ID:({s with heap:=H2}:Lw).TypeIs (.ref d) "dict":=⟨_,hd2,gc⟩;unfold Builtin.List.listExtendWith;refine Lr (NN ID ?_);have h1:Builtin.List.listSameRef (.ref s.1.1.size) (.ref d)=false:=by simp[Builtin.List.listSameRef,Bj]
 have h2:(P6 "dict" == P6 "list")=false:=by decide
 have h3:(P6 "dict" == P6 "tuple")=false:=by decide
 simp only[h1,h2,h3,Bool.or_false,MN,if_false];refine Lr (bb_keyIter (s:={s with heap:=H2}) ns hd2 gc g2 ?_);refine Lr (M5 ?_);have zM:(H2.push {cls:=.type "dict_keyiterator",data:=.fields #[.ref d,.int 0 0,.int es.size 0,.int ep 0]}).IsKeyIter H2.objs.size d 0 es.size ep:=⟨_,LH _ rfl,rfl,rfl⟩;have Aq:∀b o,H2.get? b=A? o->(H2.push {cls:=.type "dict_keyiterator",data:=.fields #[.ref d,.int 0 0,.int es.size 0,.int ep 0]}).get? b=A? o:=λb o e=>LB _ e;have Bm:s.1.1.size≠H2.objs.size:=by rw[yB];lia
 have DZ:d≠H2.objs.size:=by rw[yB];exact Mc (OY Ap)
 show LG _ _ _ _ _ ({s with heap:=H2.push {cls:=.type "dict_keyiterator",data:=.fields #[.ref d,.int 0 0,.int es.size 0,.int ep 0]}}:Lw);generalize H2.push {cls:=.type "dict_keyiterator",data:=.fields #[.ref d,.int 0 0,.int es.size 0,.int ep 0]}=H3 at zM Aq |-;have Gi:=Aq _ _ hd2;have D0:=Aq _ _ IC;have D1:({s with heap:=H3}:Lw).TypeIs (.ref d) "dict":=⟨_,Gi,gc⟩
 have key:∀(h:Ml)(c₁:Nat),h.IsKeyIter H2.objs.size d 0 es.size ep->(∀b o,b≠s.1.1.size->H3.get? b=A? o->h.get? b=A? o)->h.get? s.1.1.size=A? {cls:=.type "list",data:=.seq #[] c₁} ->
  NC (LN prog w) A.in1 (.builtin "list.extend.loop" ⟨[.ref s.1.1.size,.ref H2.objs.size,.none],[]⟩) (wants (λr vd=>r=.none/\Q (.ref s.1.1.size) vd) E) {s with heap:=h}:=by
  intro h c₁ hit hk Bn;refine bb_key_loop hh hz Bm Bj DZ g2 .none es.size 0 _ #[] c₁ rfl (MB _) hit (hk _ _ (MY Bj) Gi) Bn rfl λh' xp c' hm Cv wc=>?_;refine⟨B?,hQ h' xp c' (λb o e=>?_) Cv wc⟩;have hb:=Mc (LJ e);exact hm b o hb (by rw[yB];exact Mc (OY (LJ e))) (hk b o hb (Aq b o (old b o e)))
 unfold Builtin.List.listLengthHint;refine Lr (Nt D1 F.slot_dict_len.lookup ?_);generalize hid:("dict.__len__":String)=IE
 wp_delta
 rw[show splitId IE=A? ("dict","__len__")from by subst hid;decide +kernel];subst hid;refine Lr (OK (T:="dict") (b:=AG) D1 (by rw[OD];kernel_rfl) ?_);refine wpAny_ite_split (λwV=>Wa wV (by decide)) (λ_=>?_);refine wpAny_ite_split (λ_=>?_) (λwV=>Wa (by decide +kernel) wV);refine Lr (NN D1 ?_);refine Lz ?_;refine wpAny_ite_split (λ_=>?_) (λ_=>Lz ⟨PD Oh _,key _ c2 zM (λb o _ e=>e) D0⟩);refine Lr (Pa ?_);refine Lr ?_;show LG _ _ (updateSeq s.1.1.size (·.push .none) >>= λ_=>updateSeq s.1.1.size (·.pop)) _ _ _;refine Lr (OR D0 rfl ?_);have y4:=MG (Nf (·.push MH)) D0 rfl;refine OR (hz:=by seq_fits) y4 rfl ?_;have Bo:=MG (Nf (·.pop)) y4 rfl
 have Ao:∀b o,b≠s.1.1.size->H3.get? b=A? o->((H3.update s.1.1.size (Nf (·.push MH))).update s.1.1.size (Nf (·.pop))).get? b=A? o :=
  λb o hb e=>(MD _ _ (MY hb)).trans ((MD _ _ (MY hb)).trans e)
 exact Lz ⟨PD Oh _,key _ _ (zM.at λo e=>Ao _ _ (MY Bm) e) Ao Bo⟩
end PySem
namespace L2
open PySem PySem.Spec PyProof.Rows
def rL:List V->Hp->VK->Prop:=λxs H Q=>∃(a:Ls)(uC:List (List Key×V)),xs=[.ref a]/\H a=A? (.dT uC)/\∀(l:Ls)(bs:List Ls),H l=Ak->Mg (λkv b=>H b=A? (.tup (kv.1.map kV))) uC bs->Q (.ref l) (upd H l (.lst (bs.map Rb)))
theorem oN{ys:List (List Key×Ls×Lu)}(rel:KTd H uC ys):Mg (λkv b=>H b=A? (.tup (kv.1.map kV))) uC (ys.map λy=>y.2.1):=by
 induction rel with
 |nil=>exact .nil
 |cons h t ih=>exact .cons h.2.1 ih
theorem g9{X:Cx}(hc:X.calm=AG):dC X (.type "list") rL:=by
 intro Z s Y H xs us Q I r h;obtain⟨a,uC,rfl,e,q⟩:=h;obtain⟨u,rfl,rx⟩:=vals1 r;cases rx;obtain⟨z,hd,ys,rel,dd⟩:=mq I.hok e;have hT:=dd.typeIs;obtain⟨o,es,ep,ho,KW,IF,he,Cu,hn⟩:=dd;obtain⟨o',vp,vo⟩:=hT;have eo:o'=o:=Ma (vp.symm.trans ho);subst eo;have hl:uC.length=ys.length:=L3 rel
 have D5:es.toList.map (·.key)=ys.map λy=>Mb y.2.1:=by
  rw[he,Qq];rfl
 have hsz:es.size<=LK:=by
  have:=Xa NU D5;rw[Lx,Lx,L4]at this;lia
 have hh:X.A.in1.in1.handled=none:=I.ok.hd hc;refine bb_list_keys hh hd vp vo IF hsz λh' acc c hk hS wc=>?_;have hp:Mg (λkv b=>H b=A? (.tup (kv.1.map kV))) uC (ys.map λy=>y.2.1):=oN rel;refine⟨.ref s.1.1.size,upd H s.1.1.size (.lst ((ys.map λy=>y.2.1).map Rb)),?_,B?,q _ _ I.fresh hp⟩;refine I.laid (t':=s.toks) hk (LC _) ⟨by rw[Lx,Lx];lia,acc.toList,c,?_,hS⟩;rw[wc,D5];clear hn Cu he D5 wc hS hl z rel hp q;induction ys with
 |nil=>exact .nil
 |cons y ys ih=>exact .cons rfl ih
open BB
end L2
namespace PySem
open Sem (wp)
section
variable{K:Type}[DecidableEq K](knd:HeapKind prog w K)(d:Ls)
theorem bb_meets_len(hd:(d == MU)=AH) :
 MeetsIn prog w (Ny.«dict.__len__» ⟨[.ref d],[]⟩) (λ_ R s=>∃xs,s.1.DictOfH knd d xs/\R (.ok (.ret (.int xs.length s.toks))) {s with toks:=s.toks+1}) :=
 .of_wp λA R s⟨xs,hm,h⟩=>by
  obtain⟨o,es,ep,ho,hc,D6,he,hp,hn⟩:=hm;show LG _ _ (dictSize d >>= _) _ _ s;unfold dictSize;refine Lr (Lr (OB ho D6 (Lz ?_)));show LG _ _ (Builtin.Dict.pendingCount d >>= _) _ _ s;refine Lr (wpAny_pendingCount_other hd ?_);refine wpAny_ret_mkInt ?_
  have:es.size=xs.length:=by
   have:=Xa NU he;rw[Lx,L4]at this;exact this
  rw[Nat.add_zero,this];exact h
end
section
variable{K:Type}[DecidableEq K]{knd:HeapKind prog w K}
theorem bb_call_len{xs:List (K×Ls×Lu)}(hd:(d == MU)=AH)(hm:s.1.DictOfH knd d xs)(vJ:(xs.length:Int)<2 ^ 63)
 (h:Q (.int xs.length (s.toks+1)) {s with toks:=s.toks+1+1}):LG (LN prog w) A (call (.builtin "len") [.ref d]) Q E s:=by
 refine Calls.call_function_entry kind_len plain_len entry_len (args_len1 _) ?_;unfold Ny.«len»;refine Lr (m:=oneArg "len" _) (Lz ?_)
 refine Lr (m:=callSpecial? (.ref d) (LI "__len__")) (MO (name:=LI "__len__") hm.typeIs F.slot_dict_len
  (call_meetsIn F.slot_dict_len hm.typeIs F.entry_dict_len (F.args_dict_len_1 _) (bb_meets_len knd d hd) ⟨xs,hm,?_⟩))
 show LG _ _ _ _ _ {s with toks:=s.toks+1};refine Lr (M5 (Lz ?_));refine Lr (wpAny_letGo ?_);show LG _ _ (if((xs.length:Nat):Int)<0 then _ else _) _ _ _;rw[Ra (by lia)];show LG _ _ (if((xs.length:Nat):Int) >= 2 ^ 63 then _ else _) _ _ _;rw[Ra (by lia)];exact Lr (wpAny_mkInt (Lz ⟨_,rfl,h⟩))
end
end PySem
namespace L2
open PySem PySem.Spec PyProof.Rows
def su:List V->Hp->VK->Prop:=λxs H Q=>∃(a:Ls)(uC:List (List Key×V)),xs=[.ref a]/\H a=A? (.dT uC)/\Q (.int uC.length) H
theorem fR{X:Cx}:dC X (.builtin "len") su:=by
 intro Z s Y H xs us Q I r h;obtain⟨a,uC,rfl,e,q⟩:=h;obtain⟨u,rfl,rx⟩:=vals1 r;cases rx;obtain⟨z,hd,ys,rel,dd⟩:=mq I.hok e;have hl:uC.length=ys.length:=L3 rel;refine bb_call_len hd dd (by rw[N7]at z;lia) ?_;rw[<-hl];exact⟨.int uC.length,H,I.tok _,⟨_,B?⟩,q⟩
end L2
namespace BB
open PySem L2
open PySem.Builtin PySem.Builtin.Str
end BB
namespace L2
open PySem PySem.Spec PySem.Calls PyProof.Rows BB
section
variable{X:Cx}{Y:List (Option V)}
end
open PySem.Builtin PySem.Builtin.Str
variable{X:Cx}
end L2
namespace BB
open PySem L2
section
variable{t:Th}{es:List Ls}
end
end BB
namespace L2
open PySem PySem.Spec PyProof.Rows BB
variable{X:Cx}
end L2
namespace L2
open PySem PySem.Spec PyProof.Rows PySem.W
open BB
variable{X:Cx}
end L2
namespace L2
open PySem PySem.Spec PySem.Calls PyProof.Rows PySem.W
end L2
namespace BB
open PySem L2 PySem.Builtin PySem.Builtin.Str
end BB
namespace L2
open PySem PySem.Spec PySem.Calls PyProof.Rows PySem.Builtin PySem.Builtin.Str BB
variable{X:Cx}
end L2
namespace L2
open PySem PySem.Spec PyProof.Rows
theorem bD{v:Const}{k:Nat}{p:Oi}:L7 (.Constant v k p::es) env=(AH,Nd (.Constant v k p) env)::L7 es env:=by
 rw[L7];intro e q z;cases z
end L2
namespace BB
open PySem L2
theorem j9{ks:List (LL×Int)}(g:dD ks):(ks.map (·.1)).Nodup:=by
 refine List.pairwise_iff_getElem.mpr λi j hi hj KY e=>?_;rw[Lx]at hi hj;rw[List.getElem_map,List.getElem_map]at e;have:=g.nd i j _ _ (LA hi) (LA hj) e;lia
end BB
namespace L2
open PySem PySem.Spec PyProof.Rows
open PySem.Calls
structure pX(P:LF)(w:LQ)(K:Ly)(mg:LL->Option Lu)(base:Ml)(CX:CXT)(k:Nat)(f:Ls)(sp:Sp):Prop where
 fn:∀(A:LU)(outer:List OJ)(s:Lw)(H:Hp)(vs:List V)(Q:VK)(E:XK),Env0 P w K mg base A outer s H->sp vs H Q E->PySem.W.FnAt f s.1
 run:∀(A:LU)(outer:List OJ)(s:Lw)(H:Hp)(us:List Lu)(vs:List V)(Q:VK)(E:XK),Room k A->Env0 P w K mg base A outer s H->Vals vs us->sp vs H Q E ->
  NC (LN P w) A (.call (.ref f) ⟨us,[]⟩) (CR CX outer P w H s Q E) s
section
variable{X:Cx}{k i:Nat}{E:XK}{p:Oi}{t:TA}
def rZ(P:LF)(w:LQ)(K:Ly)(mg:LL->Option Lu)(base:Ml)(CX:CXT)(k i:Nat)(E:XK)(t:TA):TE:=λY H Q=>∃f sp,Y[i]?=A? (A? (.ref f))/\pX P w K mg base CX k f sp/\t Y H λvs H1=>sp vs H1 Q E
theorem lI{E:Lu->Lw->Prop}{q:Ls}{rest:List Mv}(h:LG M A (spliced (NG pos (L7 (e::rest) env))) (λvs uD=>PySem.W.FnAt q uD.heap/\LG M A (call (.ref q) ([]++vs)) Q E uD) E s)
 (he:L7 (e::rest) env=(AH,Nd e env)::L7 rest env) (wN:(NG pos (L7 rest env)).any (·.1)=AH) :
 LG M A (callWith pos (.ref q) [] (NG pos (L7 (e::rest) env)) []) Q E s:=by
 rw[he]at h |-;exact PySem.W.callWith_of (by show((AH ||(NG pos (L7 rest env)).any (·.1)) ||false)=AH;rw[wN];rfl) PySem.W.keeps_F (evalArgs_plain h)
theorem nN(hN:X.N[i]?=A? x)(hv:Vis X.env.scope x)(hr:Room k X.A)(hx:Passes CX X E)(ha:PA X (e::es) t)(wM:(x == ("__debug__":LL))=false:=by decide)(vA:(x == ("__classdict__":LL))=false:=by decide)
 (he:L7 (e::es) X.env=(AH,Nd e X.env)::L7 es X.env:=by rfl) (vL:(NG pos (L7 es X.env)).any (·.1)=false:=by rfl) :
 PE X (.Call (.Name x p) (e::es) [] pos) (rZ X.prog X.w X.K X.mg X.base CX k i E t):=by
 intro Z s Y H Q I h;obtain⟨f,sp,D7,F,q⟩:=h;refine MT (thn (oW (X:=X) hN hv wM vA Z s Y H (λv H1=>v=.ref f/\t Y H1 λvs H2=>sp vs H2 Q E) I ⟨_,D7,rfl,q⟩) λu s1⟨v,H1,I1,r,e1,q1⟩=>?_);subst e1;obtain rfl:u=Mb f:=r;refine lI (thn (ha pos Z s1 Y H1 _ I1 q1) λus s2⟨vs,H2,I2,r2,q2⟩=>⟨F.fn X.A X.stack s2 H2 vs Q E I2.env0 q2,?_⟩) he vL;refine wpAny_call (Oe (F.run X.A X.stack s2 H2 ([]++us) vs Q E hr I2.env0 r2 q2) λr s' hq=>?_);cases r with
 |error e=>exact hx Z Y H2 s2 e s' I2 hq
 | ok fl =>
   cases fl with
   |ret u=>exact I2.after hq
   |next=>exact MA hq
   |brk=>exact MA hq
   |cont=>exact MA hq
end
def fgt(S:List Ls)(H:Hp):Hp:=λb=>if b∈S then Ak else H b
def rst(S:List Ls)(H H':Hp):Hp:=λb=>if b∈S then H b else H' b
theorem eI{S:List Ls}(h:b∈S):fgt S H b=none:=Sa h
theorem ba{S:List Ls}(h:b∉S):fgt S H b=H b:=Ra h
theorem oZ{S:List Ls}(h:b∈S):rst S H H' b=H b:=Sa h
theorem bZ{S:List Ls}(h:b∉S):rst S H H' b=H' b:=Ra h
theorem oM{S:List Ls}(h:fgt S H b=A? o):b∉S/\H b=A? o:=by
 by_cases hb:b∈S
 .rw[eI hb]at h;cases h
 .exact⟨hb,by rw[ba hb]at h;exact h⟩
def Exts(S:List Ls)(H:Hp):Prop:=∀b∈S,∃φ,H b=A? (.ext φ)
theorem Exts.out{S:List Ls}(x:Exts S H)(e:H b=A? o)(n:∀φ,o≠.ext φ):b∉S:=λz=>by
 obtain⟨φ,h⟩:=x b z;rw[e]at h;exact n φ (Ma h)
theorem HOk.fgt{S:List Ls}(x:HOk P w H h)(hS:Exts S H):HOk P w (fgt S H) h:=λa o e=>by
 obtain⟨ha,e'⟩:=oM e;exact(x a o e').stay (λ_ _ _ q=>q) (λb q=>by rw[ba (hS.out q (by intro φ z;cases z))];exact q) λb xs q=>by rw[ba (hS.out q (by intro φ z;cases z))];exact q
theorem HOk.rst{S:List Ls}(x:HOk P w H h)(x':HOk P w H' h')(hS:Exts S H)(hk:∀b∈S,∀o,h.get? b=A? o->h'.get? b=A? o)(hn:∀b∈S,H' b=Ak):HOk P w (rst S H H') h':=λa o e=>by
 by_cases ha:a∈S
 .rw[oZ ha]at e;obtain⟨φ,IG⟩:=hS a ha;have e2:=IG;rw[e]at e2;cases e2;obtain⟨p,⟨ob,q⟩,st⟩:=x a _ e;exact⟨st _ _ p (λo z=>hk a ha o z),⟨ob,hk a ha ob q⟩,st⟩
 .rw[bZ ha]at e;have out:∀b u,H' b=A? u->b∉S:=λb u q z=>by rw[hn b z]at q;cases q
  exact(x' a o e).stay (λ_ _ _ q=>q) (λb q=>by rw[bZ (out b _ q)];exact q) λb xs q=>by rw[bZ (out b _ q)];exact q
def CellAt(H:Hp)(c:Ls)(v:V):Prop:=∃φ,H c=A? (.ext φ)/\∀h:Ml,φ h->∃u,RelV v u/\h.IsCell c (A? u)
def CodeAt(H:Hp)(c:Ls)(qual:LL):Prop:=∃φ,H c=A? (.ext φ)/\∀h:Ml,φ h->h.CodeRec (.ref c) qual
def pO(H:Hp)(cl:List (LL×Ls))(ns:List LL)(ws:List V):Prop:=Mg (λ(x:LL)(v:V)=>∃c,cl.lookup x=A? c/\CellAt H c v) ns ws
theorem CellAt.mono(s:Same H H'){c:Ls}(h:CellAt H c v):CellAt H' c v:=by
 obtain⟨φ,h1,h2⟩:=h;exact⟨φ,s _ _ h1,h2⟩
theorem CodeAt.mono(s:Same H H'){c:Ls}{q:LL}(h:CodeAt H c q):CodeAt H' c q:=by
 obtain⟨φ,h1,h2⟩:=h;exact⟨φ,s _ _ h1,h2⟩
theorem CellAt.now{c:Ls}(x:HOk P w H h)(z:CellAt H c v):∃u,RelV v u/\h.IsCell c (A? u):=by
 obtain⟨φ,h1,h2⟩:=z;exact h2 h (x c _ h1).1
theorem fT{c:Ls}(h:cl.lookup x=A? c):c∈cl.map (·.2):=MZ.mpr ⟨(x,c),Mn h,rfl⟩
theorem iV:∀{l:List (LL×Lu)}{x:LL}{u:Lu},(l.map (·.1)).Nodup->(x,u)∈l->l.lookup x=A? u
 | [],_,_,_,h=>by cases h
 | (y,v)::l,x,u,nd,h=>by
   rw[Mf,OG]at nd;rw[MK];rcases LW.mp h with e|e
   .cases e;rw[beq_self_eq_true]
   .have u6:(x == y)=false:=by
     rw[beq_eq_false_iff_ne];intro z;subst z;exact nd.1 (MZ.mpr ⟨_,e,rfl⟩)
    rw[u6];exact iV nd.2 e
theorem kC{i:Nat}(nd:ps.Nodup)(hl:us.length=ps.length)(h1:ps[i]?=A? x)(h2:us[i]?=A? u):(ps.zip us).reverse.lookup x=A? u:=by
 refine iV ?_ ?_
 .rw[List.map_reverse,List.map_fst_zip (by lia)];exact(List.pairwise_reverse.mpr (nd.imp λh z=>h z.symm))
 .rw[List.mem_reverse];exact L9 (OW.mpr ⟨h1,h2⟩)
structure Lam(mg:LL->Option Lu)(base:Ml)(c P:Ls):Prop where
 hd:PySem.W.CodeHd base c P
 bl:base.BuiltinsAt mg P
def SameT(P:Ls)(H H':Hp):Prop:=∀b o,b≠P->H b=A? o->H' b=A? o
def tabOf(pos:Oi)(c':Ls):Array Lu:=#[Nz pos.line,Nz pos.col,.ref c']
def TabSt(H:Hp)(P:Ls)(pos:Oi)(qual:LL):Prop:=H P=A? (.tbl #[])\/∃c',H P=A? (.tbl (tabOf pos c'))/\CodeAt H c' qual
theorem TabSt.mono(s:Same H H'){P:Ls}(h:TabSt H P pos qual):TabSt H' P pos qual:=by
 rcases h with h|⟨c',h1,h2⟩
 .exact .inl (s _ _ h)
 .exact .inr ⟨c',s _ _ h1,h2.mono s⟩
theorem SameT.refl(P:Ls)(H:Hp):SameT P H H:=λ_ _ _ e=>e
theorem SameT.trans{P:Ls}(a:SameT P H H1)(b:SameT P H1 H2):SameT P H H2:=λc o n e=>b c o n (a c o n e)
theorem Same.t(s:Same H H')(P:Ls):SameT P H H':=λb o _ e=>s b o e
theorem SameT.kt{P:Ls}(s:SameT P H H'){pp:Array Lu}(hP:H P=A? (.tbl pp)):BB.KT H H':=λb xs e=>s b _ (λz=>by rw[z,hP]at e;cases e) e
theorem TabSt.kt{P:Ls}(t:TabSt H P pos qual)(s:SameT P H H'):BB.KT H H':=by
 rcases t with h|⟨_,h,_⟩
 .exact s.kt h
 .exact s.kt h
theorem oo(pos:Oi)(c':Ls):TriplesOk (tabOf pos c').toList:=trivial
theorem mW(pos:Oi)(c':Ls):codeAmong pos (tabOf pos c').toList=A? (.ref c'):=by
 show codeAmong pos [Nz pos.line,Nz pos.col,.ref c']=_;simp[codeAmong,Nz]
section
variable{X:Cx}{k:Nat}{p:Oi}{t:TA}
def Trk(X:Cx)(Y:St)(cl:List (LL×Ls))(H H':Hp):Prop:=(∀b∈cl.map (·.2),H b=Ak)/\(∀b,b∉cl.map (·.2)->H' b=H b)/\Exts (cl.map (·.2)) H'/\∀(i:Nat)(y:LL)(v:V)(c:Ls),X.N[i]?=A? y->Y[i]?=A? (A? v)->cl.lookup y=A? c->CellAt H' c v
theorem Trk.same{X:Cx}(t:Trk X Y cl H H'):Same H H':=λb o e=>by
 rw[t.2.1 b (λz=>by rw[t.1 b z]at e;cases e)];exact e
theorem Trk.back{X:Cx}(t:Trk X Y cl H H')(s:Same H' H3):Same H (fgt (cl.map (·.2)) H3):=λb o e=>by
 rw[ba (λz=>by rw[t.1 b z]at e;cases e)];exact s _ _ (t.same _ _ e)
theorem Trk.kt{X:Cx}(t:Trk X Y cl H H')(s:Same H' H3):BB.KT H3 (fgt (cl.map (·.2)) H3):=λb xs e=>by
 rw[ba λz=>?_]
 .exact e
 obtain⟨φ,h⟩:=t.2.2.1 b z;rw[s _ _ h]at e;cases e
structure ku(X:Cx)(cl:List (LL×Ls)):Prop where
 look:∀y c,(y,c)∈cl->X.env.cells.lookup y=A? c
 fn:∀y c,(y,c)∈cl->X.fn y=AG
 kind:∀y c,(y,c)∈cl->X.env.kindOf y=A? .cell
end
theorem qr{c P:Ls}(F:Fun K x qual st f fd)(hn:PySem.W.nsIn K My x=A? (A? (.ref f)))(ht:Oz K x=A? (c,P)):fd.code=.ref c:=by
 obtain⟨oc,od,kV,doc,pm,an,uI,ct,xM,rfl,lk,vA⟩:=F.ex;unfold Oz at ht;rw[hn]at ht;simp only[lk]at ht;show uI=.ref c;cases uI with
 | ref c2 =>
   simp only[NZ]at ht;split at ht
   .split at ht
    .cases ht;rfl
    .cases ht
   .cases ht
 |_=>simp[NZ]at ht
theorem mF{mb:LL->Option Lu}{k:Nat}{fa c T:Ls}{uD:Lw}{vs:List Lu}{ns:List Int}
 (KX:K.In uD.heap) (vR:uD.heap.Ns My mg) (hb:uD.heap.Ns builtinsNs mb) (Cw:∀x:LL,x≠"__name__"->mb x=O1 x) (D8:uD.heap.NoLimit) (hg:uD.gens=#[])
 (ha:uD.heap.get? a=A? {cls:=.type "list",data:=.seq vs.toArray}) (hi:IntsAre vs ns) (hl:ns.length<=LK) (hr:Room k callerA)
 (hC:PySem.W.CodeHd uD.heap c T) (hT:uD.heap.get? T=A? (PySem.W.tabObj #[])) (zN:uD.heap.BuiltinsAt mg T) (D9:K.lookup T=Ak)
 (F:∀base:Ml,K.In base->base.Ns My mg->Lam mg base c T->FnOk P w K mg base CX k fa fd [x] sp) (Bp:∀(s:Lw)(u:Lu),BindsTo s fd ⟨[u],[]⟩ [(x,u)])
 (vM:∀H:Hp,SqL K H a (ns.map Vb)->H T=A? (.tbl #[])->sp [.ref a] H (λv _=>v=.bl AG) λ_ _ _=>False)
 (D':∀H e s',CX [] H uD (λ_ _ _=>False) e s'->False) :
 NC (LN P w) callerA (.call (.ref fa) ⟨[.ref a],[]⟩) (λr s'=>r=.ok (.ret (.bool AG))/\OldK uD.heap s'.1/\s'.os=uD.os/\Qf s'.gens) uD:=by
 have rv:=iF hi;have Ea:=hi.length;have Gj:a≠T:=λz=>by rw[z,hT]at ha;cases ha
 have core:∀H:Hp,(∀b,H b=Ak\/(∃o xs,H b=A? (.frz o (.lst xs)))\/(b=T/\H b=A? (.tbl #[])))->H T=A? (.tbl #[])->SqL K H a (ns.map Vb)->HOk P w H uD.heap->(∀b,H b≠Ak->b=a\/b=T)->(H a≠Ak->K.lookup a=Ak) ->
  NC (LN P w) callerA (.call (.ref fa) ⟨[.ref a],[]⟩) (λr s'=>r=.ok (.ret (.bool AG))/\OldK uD.heap s'.1/\s'.os=uD.os/\Qf s'.gens) uD:=by
  intro H hO Eb hS hok hA hK;have vB:∀{b:Ls}{o:M4},uD.heap.get? b=A? o->H b=Ak->(io uD.heap H).get? b=A? o:=λe n=>n9 e n
  have Ec:∀{b:Ls}{o:M4},uD.heap.get? b=A? o->(∀xs n,o.data≠.seq xs n)->(∀xs,o.data≠.fields xs\/o.cls≠.none)->H b=none:=λ{b o}e d1 d2=>by
   cases q:H b with
   |none=>rfl
   | some u =>
     rcases hA b (by rw[q];simp)with e'|e'
     .subst e';rw[ha]at e;cases e;exact Wa rfl (d1 _ _)
     .subst e';rw[hT]at e;cases e;rcases d2 #[]with z|z
      .exact Wa rfl z
      .exact Wa rfl z
  have Cy:∀{b:Ls}{m:LL->Option Lu},uD.heap.Ns b m->(io uD.heap H).Ns b m:=λ{b m}⟨o,es,ep,e,d,r⟩=>⟨o,es,ep,vB e (Ec e (λxs n=>by rw[d];exactλz=>nomatch z) (λxs=>.inl (by rw[d];exactλz=>nomatch z))),d,r⟩
  have Gk:K.In (io uD.heap H):=λb o e=>vB (KX b o e) (by
   cases q:H b with
   |none=>rfl
   | some u =>
     rcases hA b (by rw[q];simp)with e'|e'
     .subst e';rw[hK (by rw[q];simp)]at e;cases e
     .subst e';rw[D9]at e;cases e)
  have hM:Mod K mg (io uD.heap H):=⟨Gk,Cy vR,⟨mb,Cy hb,Cw⟩,let⟨mc,h1,h2⟩:=D8;⟨mc,Cy h1,h2⟩⟩
  have hL:Lam mg (io uD.heap H) c T:=by
   refine⟨?_,?_⟩
   .obtain⟨o,IH,file,tf,flags,tg,II,text,tt,e1,r1,r2,r3⟩:=hC;exact⟨o,IH,file,tf,flags,tg,II,text,tt,vB e1 (Ec e1 (λxs n=>by rw[r2];exactλz=>nomatch z) (λxs=>.inr (by rw[r1];exactλz=>nomatch z))),r1,r2,r3⟩
   .obtain⟨bm,o,h1,h2,h3,h4,h5,h6,h7,h8⟩:=zN;exact⟨bm,o,h1,h2,h3,h4,vB h5 (Ec h5 (λxs n=>by rw[h8];exactλz=>nomatch z) (λxs=>.inl (by rw[h8];exactλz=>nomatch z))),h6,h7,h8⟩
  have e0:Env0 P w K mg (io uD.heap H) callerA [] uD H:=⟨rfl,hM,λb o e=>qv e,Nat.le_of_eq (mR _ _),trivial,λb hb=>Wa (show b∈([]:List Ls)from hb) (by simp),hok,.of_eq hg⟩;refine Oe ((F _ Gk (Cy vR) hL).run callerA [] uD H ⟨[.ref a],[]⟩ [.ref a] [.ref a] _ _ hr e0 (Bp uD (.ref a)) (.cons rfl .nil) (vM H hS Eb)) λr s' h=>?_;cases r with
  |error e=>exact(D' H e s' h).elim
  | ok fl =>
    cases fl with
    |next=>exact MA h
    |brk=>exact MA h
    |cont=>exact MA h
    | ret u =>
      obtain⟨v,H',os,bare,un,Bq,r',q⟩:=h;have q':v=.bl true:=q;subst q';obtain rfl:u=NO true:=r';refine⟨B?,⟨λb o e=>?_,λb o e=>un.there b o e (by simp)⟩,os,bare⟩;cases q:H b with
      |none=>exact .inl (un.keep b o e q (by intro z;exact Wa (show b∈([]:List Ls)from z) (by simp)) (by simp))
      | some u =>
        rcases hO b with z|⟨ob,xs,z⟩|⟨rfl,z⟩
        .rw[q]at z;cases z
        .have z2:=un.frzs b ob _ z;obtain⟨e1,_⟩:=hok b _ z;obtain⟨e2,_⟩:=Bq b _ z2;rw[e]at e1;cases e1;exact .inl e2
        .obtain⟨more,z2⟩:=un.tbls b _ z;have e2:s'.1.get? b=A? {cls:=.none,data:=.fields (#[]++more)}:=Bq b _ z2;rw[hT]at e;cases e;exact .inr (.inl ⟨(hC.tab hT).isCodeTable,rfl,#[],more,rfl,e2⟩)
 have Gm:∀H:Hp,ObjOk P w H uD.heap T (.tbl #[]):=λ_=>hT;cases hk:K.lookup a with
 | some o =>
   have e:=KX a o hk;rw[ha]at e;cases e;refine core (λb=>if b=T then A? (.tbl #[])else Ak) (λb=>?_) (Sa rfl) (.inr ⟨_,vs.toArray,_,hk,rfl,rfl,rfl,by rw[LD,Ea];exact hl,by simpa using rv⟩) (λb u z=>?_) (λb z=>?_) λz=>Wa (Ra Gj) z
   .by_cases hb:b=T
    .exact .inr (.inr ⟨hb,Sa hb⟩)
    .exact .inl (Ra hb)
   .by_cases hb:b=T
    .have z':=(Sa hb).symm.trans z;cases z';rw[hb];exact Gm _
    .have z':=(Ra hb).symm.trans z;cases z'
   .by_cases hb:b=T
    .exact .inr hb
    .exact Wa (Ra hb) z
 | none =>
   refine core (λb=>if b=T then A? (.tbl #[])else if b=a then A? (.frz {cls:=.type "list",data:=.seq vs.toArray} (.lst (ns.map Vb)))else Ak) (λb=>?_) (Sa rfl) (.inl (.inr ⟨{cls:=.type "list",data:=.seq vs.toArray},(Ra Gj).trans (Sa rfl)⟩)) (λb u z=>?_) (λb z=>?_) λ_=>hk
   .by_cases hb:b=T
    .exact .inr (.inr ⟨hb,Sa hb⟩)
    .by_cases vK:b=a
     .exact .inr (.inl ⟨_,_,(Ra hb).trans (Sa vK)⟩)
     .exact .inl ((Ra hb).trans (Ra vK))
   .by_cases hb:b=T
    .have z':=(Sa hb).symm.trans z;cases z';rw[hb];exact Gm _
    .have z':=(Ra hb).symm.trans z;by_cases vK:b=a
     .have z2:=(Sa vK).symm.trans z';cases z2;subst vK;exact⟨ha,by rw[Lx];exact hl,vs,_,rv,ha⟩
     .have z2:=(Ra vK).symm.trans z';cases z2
   .by_cases hb:b=T
    .exact .inr hb
    .by_cases vK:b=a
     .exact .inl vK
     .exact Wa ((Ra hb).trans (Ra vK)) z
def tabAt(o:M4):Option Ls:=match o.data with
 | .fields vs=>(match(vs[11]?:Option Lu)with
   |some (.ref P)=>A? P
   |_=>Ak)
 |_=>Ak
theorem rg{c T:Ls}{sl:Array (Option Lu)}{ot:M4}(hn:PySem.W.nsIn K My x=A? (A? (.ref f)))(hl:K.lookup f=A? ⟨oc,od,.func fd,sl⟩)(hc:fd.code=.ref c)(ho:K.lookup c=A? ot)(ht:tabAt ot=A? T):Oz K x=A? (c,T):=by
 unfold Oz;rw[hn];simp only[hl,hc,ho];obtain⟨o1,o2,o3,o4⟩:=ot;unfold tabAt at ht;cases o3 with
 | fields vs =>
   simp only at ht |-;split at ht
   .rename_i e
    cases ht;simp only[e]
   .cases ht
 |_=>cases ht
theorem nE{l:PySem.W.OpenLaw}{k:Nat}{q:LF}{d dt:DefRec}{K:Params->Ly}{CX:LQ->CXT}{sp:LQ->Ls->Sp}{tn:LL}
 (hn:l.most=A? n) (AN:n<=LK) (AU:d.params.defaults=[]) (hr:Room k callerA) (hq:(recsOf q).find? (λe=>e.name == tn)=A? dt)
 (hY:∀(w:LQ)(h:Ml),YP w h->(K w.params).In h)
 (F:∀(w:LQ)(mg:LL->Option Lu)(fa:Ls)(h:Ml),(K w.params).In h->h.Ns My mg->mg d.name=A? (.ref fa) ->
  ∃(fd:M7)(c T:Ls),(∀(s:Lw)(u:Lu),BindsTo s fd ⟨[u],[]⟩ [(x,u)])/\Oz (K w.params) tn=A? (c,T)/\(K w.params).lookup T=Ak /\
    ∀base:Ml,(K w.params).In base->base.Ns My mg->Lam mg base c T->FnOk l.prog w (K w.params) mg base (CX w) k fa fd [x] (sp w T))
 (vM:∀(w:LQ)(T:Ls)(H:Hp)(a:Ls)(ns:List Int),ns.length<=n->SqL (K w.params) H a (ns.map Vb)->H T=A? (.tbl #[])->sp w T [.ref a] H (λv _=>v=.bl AG) λ_ _ _=>False)
 (D':∀(w:LQ)(H:Hp)(s:Lw)(e:Lu)(s':Lw),CX w [] H s (λ_ _ _=>False) e s'->False) :
 PySem.W.WalkO q loose XP YP l.row.toRowW d [] (λf vs=>PySem.call f vs):=by
 refine Att.attach_call hn AU λw s₀ uD mg mb fa o pm cd doc a vs ns G Y ho hd vA Dp zx hints hlen hg=>?_;have KX:=hY w _ Y;obtain⟨fd,c,T,hb,ht,D9,hF⟩:=F w mg fa _ KX G.T.g Dp;obtain⟨hC,hT⟩:=PySem.W.tab_of G.T KX hq ht
 have zN:uD.heap.BuiltinsAt mg T:=by
  obtain⟨bm,ob,b1,b2,b3,b4,b5,b6⟩:=G.T.bmain;refine⟨bm,ob,b1,b2,λz=>?_,λz=>?_,b3,b4,b5,b6⟩
  .obtain⟨o',es,ep,e,d',_⟩:=G.T.g;rw[z,e]at b3;cases b3;rw[d']at b6;cases b6
  .rw[z,hT]at b3;cases b3;cases b4
 exact mF KX G.T.g G.T.b G.T.builtins G.T.nolimit hg zx hints (Mr hlen AN) hr hC hT zN D9 hF hb (λH hS Eb=>vM w T H a ns hlen hS Eb) λH e s'=>D' w H uD e s'
end L2
namespace BB
open PySem L2
def iT:Th->Option (Int×Int)
 |.knot _ _=>Ak
 |.call s k=>A? (s,k)
def bN(t:Th):List (Int×Int):=t.walk.filterMap iT
def stT(t:Th):List Int:=(bN t).map (·.1)
def bE(ts:List Th):List Int:=ts.flatMap stT
theorem dE(s k:Int):stT (.call s k)=[s]:=rfl
theorem bJ(n:LL)(ks:List Th):stT (.knot n ks)=bE ks:=by
 unfold stT bN bE;rw[Th.walk,Nb];show((walks ks).filterMap iT).map (·.1)=_;induction ks with
 |nil=>rfl
 | cons t ts ih =>
   rw[walks,Ow,L6,ih];rfl
def cq(m:List Int)(s:Int):List Int:=if s∈m then m else m++[s]
def aR(m l:List Int):List Int:=l.foldl cq m
theorem dI(m a b:List Int):aR m (a++b)=aR (aR m a) b:=List.foldl_append
theorem jO(m:List Int)(s:Int):m <+: cq m s:=by
 unfold cq;split
 .exact Pj _
 .exact List.prefix_append _ _
theorem fk(l:List Int):∀m:List Int,m <+: aR m l:=by
 induction l with
 |nil=>exactλm=>Pj _
 |cons s l ih=>exactλm=>(jO m s).trans (ih _)
theorem g7{s x:Int}:x∈cq m s↔x∈m\/x=s:=by
 unfold cq;split
 .rename_i h
  exact⟨.inl,λz=>z.elim id λy=>y ▸ h⟩
 .rw[Mw,LM]
theorem dF{l:List Int}:∀{m:List Int}{x:Int},x∈aR m l↔x∈m\/x∈l:=by
 induction l with
 |nil=>intro m x;simp[aR]
 | cons s l ih =>
   intro m x;show x∈aR (cq m s) l↔_;rw[ih,g7,LW,or_assoc]
def bfs(R:Int->List Th):Nat->List Int->Nat->List Int
 |0,m,_=>m
 | n+1,m,i=>match m[i]? with
   |none=>m
   |some s=>bfs R n (aR m (bE (R s))) (i+1)
theorem i8(R:Int->List Th):∀(n:Nat)(m:List Int)(i:Nat),m <+: bfs R n m i
 |0,m,i=>Pj _
 | n+1,m,i=>by
   rw[bfs];split
   .exact Pj _
   .exact(fk _ _).trans (i8 R n _ _)
theorem nU(R:Int->List Th)(p:Int->Prop)(hR:∀s,p s->∀x∈bE (R s),p x):∀(n:Nat)(m:List Int)(i:Nat),(∀x∈m,p x)->∀x∈bfs R n m i,p x
 |0,m,i,h=>h
 | n+1,m,i,h=>by
   rw[bfs];split
   .exact h
   .rename_i s hs
    refine nU R p hR n _ _ λx hx=>?_;rcases dF.mp hx with z|z
    .exact h x z
    .exact hR s (h s (L9 hs)) x z
theorem lO(R:Int->List Th)(n:Nat)(m:List Int)(i:Nat)(h:m.length<=i):bfs R n m i=m:=by
 cases n with
 |zero=>rfl
 |succ n=>rw[bfs,NJ h]
def idx(M:List Int)(s:Int):Int:=(M.idxOf s:Nat)
theorem lR{M:List Int}(h:m <+: M){s:Int}(hs:s∈m):idx M s=idx m s:=by
 obtain⟨r,rfl⟩:=h;unfold idx;rw[List.idxOf_append,Sa hs]
def ren(g:Int->Int)(t:Th):Th:=t.fill λs k=>.call (g s) k
theorem jM(g:Int->Int)(s k:Int):ren g (.call s k)=.call (g s) k:=by unfold ren;rw[Yb]
theorem fM(f:Int->Int->Th):∀ts:List Th,fills f ts=ts.map (·.fill f)
 | []=>rfl
 |t::ts=>by rw[fills,fM f ts];rfl
theorem j8(g:Int->Int)(n:LL)(ks:List Th):ren g (.knot n ks)=.knot n (ks.map (ren g)):=by
 unfold ren;rw[Yb,fM]
mutual
theorem lp{g h:Int->Int}:∀t:Th,(∀s∈stT t,g s=h s)->ren g t=ren h t
 |.call s k,e=>by rw[jM,jM,e s (by rw[dE];exact LM.mpr rfl)]
 | .knot n ks,e=>by
   rw[j8,j8,mj ks λs hs=>e s (by rw[bJ];exact hs)]
theorem mj{g h:Int->Int}:∀ts:List Th,(∀s∈bE ts,g s=h s)->ts.map (ren g)=ts.map (ren h)
 | [],_=>rfl
 | t::ts,e=>by
   rw[Mf,Mf,lp t λs hs=>e s (MC _ hs),mj ts λs hs=>e s (LV _ hs)]
end
def rowOf(rows:List (List Th))(s:Int):List Th:=rows.getD s.toNat []
section
variable{rows:List (List Th)}
end
end BB
namespace L2
open PySem PySem.Spec PySem.SeqAt PyProof.Rows
theorem jN{k l:Key}{v:Lu}(hu:d9 k u=AG)(hv:d9 l v=AG):EqAt A s u v (decide (k=l)):=by
 rcases aL hu with⟨i,t,rfl,rfl⟩|⟨x,t,rfl,rfl⟩
 .rcases aL hv with⟨j,t',rfl,rfl⟩|⟨y,t',rfl,rfl⟩
  .have:decide ((MR i:Key)=MR j)=(i == j):=by
    by_cases h:i=j
    .subst h;simp
    .rw[Ta (λz=>h (NS z)),beq_eq_false_iff_ne.mpr h]
   rw[this];exact EqAt.int_int i t j t'
  .rw[Ta (λz=>nomatch z)];exact EqAt.int_str i t y t'
 .rcases aL hv with⟨j,t',rfl,rfl⟩|⟨y,t',rfl,rfl⟩
  .rw[Ta (λz=>nomatch z)];exact EqAt.str_int x t j t'
  .have:decide ((NY x:Key)=NY y)=(x == y):=by
    by_cases h:x=y
    .subst h;simp
    .rw[Ta (λz=>h (Sum.inr.inj z)),beq_eq_false_iff_ne.mpr h]
   rw[this];exact EqAt.str_str x t y t'
theorem fN:∀{ks:List Key}{vs:List Lu}{j:Nat}{k:Key}{v:Lu},ItemsAre (au P w) ks vs->ks[j]?=A? k->vs[j]?=A? v->d9 k v=AG
 |_,_,0,k,v,.cons h _,e1,e2=>by cases e1;cases e2;exact h
 |_,_,j+1,k,v,.cons _ h,e1,e2=>fN (j:=j) h e1 e2
theorem mJ{x y:List Key}(hx:IsTupleKey (au P w) s.1 x a)(hy:IsTupleKey (au P w) s.1 y b)(hu:A.units<Nl):EqAt A s (.ref a) (.ref b) (decide (x=y)):=by
 by_cases wV:a=b
 .subst wV;obtain rfl:=hx.inj hy;rw[Ua rfl];exact EqAt.same _
 .obtain⟨o,its,n,ho,hc,hd,hi⟩:=hx;obtain⟨o',its',n',vp,vQ,we,yA⟩:=hy;have p1:s.1.IsTuple a its.toList.toArray:=⟨o,ho,hc,n,by rw[hd]⟩;have p2:s.1.IsTuple b its'.toList.toArray:=⟨o',vp,vQ,n',by rw[we]⟩;have:=eJ (ds:=x) (es:=y) p1 p2 hi.length.symm yA.length.symm hu λj d e u v e1 e2 e3 e4=>jN (A:=A.in1) (s:=s) (fN hi e1 e3) (fN yA e2 e4);exact EqAt.of_refs wV this
abbrev bp:=List Key×Key
def IsNest(P:LF)(w:LQ)(h:Ml)(k:bp)(a:Ls):Prop:=∃(o:M4)(n:Nat)(b:Ls)(u:Lu),h.get? a=A? o/\o.cls=.type "tuple"/\o.data=.seq #[.ref b,u] n/\IsTupleKey (au P w) h k.1 b/\d9 k.2 u=AG
theorem IsNest.typeIs{k:bp}(x:IsNest P w s.1 k a):s.TypeIs (.ref a) "tuple":=let⟨o,_,_,_,ho,hc,_⟩:=x;⟨o,ho,hc⟩
theorem IsNest.inj{x y:bp}(hx:IsNest P w h x a)(hy:IsNest P w h y a):x=y:=by
 obtain⟨o,n,b,u,ho,_,hd,hb,hu⟩:=hx;obtain⟨o',n',b',u',vp,_,we,vK,wt⟩:=hy;obtain rfl:o=o':=Ma (ho.symm.trans vp);rw[hd]at we;injection we with h1 _;have h2:=Xa Array.toList h1;cases h2;exact Prod.ext (hb.inj vK) ((au P w).inj _ _ _ hu wt)
theorem IsNest.keeps{k:bp}{o:M4}{es ep}(x:IsNest P w h k a)(ho:h.get? d=A? o)(hd:o.data=.dict es ep)(hs:MQ d h h'):IsNest P w h' k a:=by
 obtain⟨o',n,b,u,vp,hc,we,hb,hu⟩:=x
 have u6:a≠d:=by
  rintro rfl;obtain rfl:o'=o:=Ma (vp.symm.trans ho);rw[hd]at we;exact nomatch we
 exact⟨o',n,b,u,(hs.2 a u6).trans vp,hc,we,hb.keeps ho hd hs,hu⟩
theorem mU{x y:bp}(hx:IsNest P w s.1 x a)(hy:IsNest P w s.1 y b)(hu:A.units+1<Nl):EqAt A s (.ref a) (.ref b) (decide (x=y)):=by
 by_cases wV:a=b
 .subst wV;obtain rfl:=hx.inj hy;rw[Ua rfl];exact EqAt.same _
 .obtain⟨o,n,c,u,ho,hc,hd,hb,hk⟩:=hx;obtain⟨o',n',c',u',vp,vQ,we,vK,vk⟩:=hy;have p1:s.1.IsTuple a [Mb c,u].toArray:=⟨o,ho,hc,n,by rw[hd]⟩;have p2:s.1.IsTuple b [Mb c',u'].toArray:=⟨o',vp,vQ,n',by rw[we]⟩
  have:=eJ (A:=A) (ds:=[MR x.1,(NY x.2:Sum (List Key) Key)]) (es:=[MR y.1,NY y.2]) p1 p2 rfl rfl (by lia) λj d e v v' e1 e2 e3 e4=>by
   match j with
   | 0 =>
     cases e1;cases e2;cases e3;cases e4;rw[show decide ((MR x.1:Sum (List Key) Key)=MR y.1)=decide (x.1=y.1)from decide_eq_decide.mpr ⟨λz=>NS z,λz=>Xa _ z⟩];exact mJ (A:=A.in1) hb vK (show A.units+1<Nl from hu)
   | 1 =>
     cases e1;cases e2;cases e3;cases e4;rw[show decide ((NY x.2:Sum (List Key) Key)=NY y.2)=decide (x.2=y.2)from decide_eq_decide.mpr ⟨λz=>Sum.inr.inj z,λz=>Xa _ z⟩];exact jN (A:=A.in1) (s:=s) hk vk
   |j+2=>cases e1
  refine EqAt.of_refs wV ?_
  rw[show decide (x=y)=decide ([MR x.1,(NY x.2:Sum (List Key) Key)]=[MR y.1,NY y.2])from decide_eq_decide.mpr ⟨λz=>by rw[z],λz=>by
   injection z with z1 z2;injection z2 with z2 _;exact Prod.ext (NS z1) (Sum.inr.inj z2)⟩]
  exact this
def gI(P:LF)(w:LQ)(k:bp):Int:=reduceHash (M8 [Oc (au P w) k.1,(au P w).hash k.2])
theorem jR{k:bp}{Q:Int->Lw->Prop}(hu:A.units+1<Nl)(hk:IsNest P w s.1 k a)(h:Q (gI P w k) {s with toks:=s.toks+(k.1.length+3)}) :
 LG (LN P w) A (pyHash (.ref a)) Q E s:=by
 have hT:=hk.typeIs;obtain⟨o,n,c,u,ho,hc,hd,hb,hk⟩:=hk;unfold pyHash
 first|unfold pyHashByItsType|skip
 first|refine Lr (wpAny_cRoomFor_or (.inr (by lia)) ?_)|skip
 refine Lr (Nt hT Py.lookup ?_);show LG _ _ (if(A? (Ol "tuple.__hash__") == A? MH)=AG then _ else _) Q E s;rw[Ra (by rw[beq_builtin_none];exact LO)];refine Lr (Nt hT Py.lookup ?_);show LG _ _ (callSpecialIfBoundUnlessNone? (.ref a) "__hash__" _ >>= _) Q E s;refine Lr (wpAny_callSpecialIfBoundUnlessNone?_slot hT Py (MW Py hT F.entry_tuple_hash ?_ (F.args_tuple_hash_1 _)));show LG _ _ (Oa (.ref a) >>= _) _ _ s;refine Lr (wpAny_tupleItemsOf ho hd ?_);refine Lr ?_;rw[<-Qe]
 refine PR _
  (λrest(b:Array Int)s'=>(rest=[.ref c,u]/\b=#[]/\s'=s)\/(rest=[u]/\b=#[Oc (au P w) k.1]/\s'={s with toks:=s.toks+(k.1.length+1)})\/(rest=[]/\b=#[Oc (au P w) k.1,(au P w).hash k.2]/\s'={s with toks:=s.toks+(k.1.length+1)+1}))
  _ ?_ ?_ _ _ (.inl ⟨rfl,rfl,rfl⟩)
 .rintro x rest b s' (⟨e1,rfl,rfl⟩|⟨e1,rfl,rfl⟩|⟨e1,_⟩)
  .cases e1;refine Lr (wpAny_pyHash_tuple (by show _<Nl;first|exact hu|lia) hb ?_)
   first
    |exact Lz (.inr (.inl ⟨rfl,rfl,rfl⟩))
    |exact Lr (Lz (Lz (.inr (.inl ⟨rfl,rfl,rfl⟩))))
  .cases e1;refine Lr ((au P w).pyHash hk ?_)
   first
    |exact Lz (.inr (.inr ⟨rfl,rfl,rfl⟩))
    |exact Lr (Lz (Lz (.inr (.inr ⟨rfl,rfl,rfl⟩))))
  .cases e1
 .rintro b s' (⟨e1,_⟩|⟨e1,_⟩|⟨_,rfl,rfl⟩)
  .cases e1
  .cases e1
  show LG _ _ (retInt (M8 [Oc (au P w) k.1,(au P w).hash k.2])) _ _ _;refine wpAny_ret_mkInt ?_;show LG _ _ (if(decide (-(2:Int) ^ 63<=M8 [Oc (au P w) k.1,(au P w).hash k.2]) && decide (M8 [Oc (au P w) k.1,(au P w).hash k.2]<2 ^ 63))=AG then _ else _) Q E _;unfold gI reduceHash at h;by_cases hr:(decide (-(2:Int) ^ 63<=M8 [Oc (au P w) k.1,(au P w).hash k.2]) && decide (M8 [Oc (au P w) k.1,(au P w).hash k.2]<2 ^ 63))=AG
  .rw[Sa hr];rw[Sa hr]at h;exact Lz (by simpa[Qb]using h)
  .rw[Ra hr];rw[Ra hr]at h;exact Lr (Pa (Lz (by simpa[Qb]using h)))
theorem lx{m:Nat}{ks:List Key}{Q:Bool->Lw->Prop}(hk:IsTupleKey (au P w) s.1 ks a)(h:Q AG s):LG (LN P w) A (eqIsQuiet (m+1) (.ref a)) Q E s:=by
 have hT:=hk.typeIs;obtain⟨o,items,n,ho,_,hd,hi⟩:=hk;unfold eqIsQuiet;refine Lr (Nt hT F.slot_tuple_eq.lookup ?_);show LG _ _ (isInstance (.ref a) (.type "tuple") >>= _) _ _ s;refine Lr (OK hT isSubtype_tuple_tuple ?_);simp only[O7,MN,if_false];refine Lr (Qg ho hd ?_);refine Lr ?_;show LG _ _ (forIn items _ _) _ _ s;rw[<-Qe];refine PR _ (λrest r s'=>r.1=Ak/\s'=s/\∀v∈rest,carriedByValue v=AG) _ ?_ ?_ _ _ ⟨rfl,rfl,hi.byValue⟩
 .rintro v rest r s' ⟨hr,rfl,uL⟩;rw[eqIsQuiet_byValue _ (uL v L5)];refine Lr (Lz ?_);simp only[O7,MN,if_false];exact Lz ⟨rfl,rfl,λu wt=>uL u (LS _ wt)⟩
 .rintro⟨r1,r2⟩ s' ⟨hr,rfl,_⟩;simp only at hr;subst hr;exact Lz h
theorem lC{k:bp}{Q:Bool->Lw->Prop}(hk:IsNest P w s.1 k a)(h:Q AG s):LG (LN P w) A (eqIsQuiet 8 (.ref a)) Q E s:=by
 have hT:=hk.typeIs;obtain⟨o,n,c,u,ho,hc,hd,hb,hk⟩:=hk;unfold eqIsQuiet;refine Lr (Nt hT F.slot_tuple_eq.lookup ?_);show LG _ _ (isInstance (.ref a) (.type "tuple") >>= _) _ _ s;refine Lr (OK hT isSubtype_tuple_tuple ?_);simp only[O7,MN,if_false];refine Lr (Qg ho hd ?_);refine Lr ?_;show LG _ _ (forIn #[Mb c,u] _ _) _ _ s;rw[<-Qe];refine PR _ (λrest r s'=>r.1=Ak/\s'=s/\∀v∈rest,v=.ref c\/v=u) _ ?_ ?_ _ _ ⟨rfl,rfl,λv hv=>by simpa using hv⟩
 .rintro v rest r s' ⟨hr,rfl,uL⟩;have y6:∀z∈rest,z=.ref c\/z=u:=λz hz=>uL z (LS _ hz);rcases uL v L5 with rfl|rfl
  .refine Lr (lx hb ?_);simp only[O7,MN,if_false];exact Lz ⟨rfl,rfl,y6⟩
  .rw[eqIsQuiet_byValue _ ((au P w).byValue _ _ hk)];refine Lr (Lz ?_);simp only[O7,MN,if_false];exact Lz ⟨rfl,rfl,y6⟩
 .rintro⟨r1,r2⟩ s' ⟨hr,rfl,_⟩;simp only at hr;subst hr;exact Lz h
def cV(P:LF)(w:LQ):HeapKind P w bp where
 is:=IsNest P w
 hash:=gI P w
 draws:=λk=>k.1.length+3
 room:=λA=>A.units+1<Nl
 inj:=λhx hy=>hx.inj hy
 keeps:=λx ho hd hs=>x.keeps ho hd hs
 pyHash:=λhu hk h=>jR hu hk h
 eqBool:=λhu hx hy h=>mU hx hy hu _ _ _ _ h
 quiet:=λhk h=>lC hk h
def mL(P:LF)(w:LQ)(xs:List (bp×Ls×Lu))(a:Ls)(h:Ml):Prop:=∃o es ep,h.get? a=A? o/\o.ExactDict/\o.data=.dict es ep/\es.toList=xs.map (entryOfKey (cV P w))/\(xs.map (·.1)).Nodup
def NKAt(H:Hp)(k:bp)(b:Ls):Prop:=∃c,H b=A? (.tup [.ref c,kV k.2])/\H c=A? (.tup (k.1.map kV))
abbrev KTn(H:Hp):List (bp×V)->List (bp×Ls×Lu)->Prop:=Mg λp q=>p.1=q.1/\NKAt H q.1 q.2.1/\RelV p.2 q.2.2
def DN(P:LF)(w:LQ)(H:Hp)(a:Ls)(uC:List (bp×V)):Prop:=uC.length<=LK/\(a == MU)=AH/\∃xs φ,H a=A? (.ext φ)/\(∀h,φ h->mL P w xs a h)/\KTn H uC xs
theorem NKAt.mono(k:BB.KT H H'){n:bp}(h:NKAt H n b):NKAt H' n b:=by
 obtain⟨c,h1,h2⟩:=h;exact⟨c,k _ _ h1,k _ _ h2⟩
theorem KTn.mono(k:BB.KT H H'){uC:List (bp×V)}{xs:List (bp×Ls×Lu)}(r:KTn H uC xs):KTn H' uC xs:=Mg.mapP r λ_ _ z=>⟨z.1,z.2.1.mono k,z.2.2⟩
theorem DN.mono(s:Same H H'){uC:List (bp×V)}(h:DN P w H a uC):DN P w H' a uC:=by
 obtain⟨z,hd,xs,φ,e,f,r⟩:=h;exact⟨z,hd,xs,φ,s _ _ e,f,KTn.mono (Za s) r⟩
theorem jg{k:bp}(ok:HOk P w H h)(e:NKAt H k b):IsNest P w h k b:=by
 obtain⟨c,h1,h2⟩:=e;obtain⟨_,its,n,r,e1⟩:=(show ObjOk P w H h b (.tup [.ref c,kV k.2])from ok b _ h1);cases r with
 |cons r1 r =>
 cases r with
 |cons r2 r =>
 cases r;cases r1;exact⟨_,n,c,_,e1,B?,B?,fB ok h2,mn (P:=P) (w:=w) r2⟩
theorem qB{uC:List (bp×V)}(ok:HOk P w H h)(e:DN P w H a uC):uC.length<=LK/\(a == MU)=AH/\∃xs φ,H a=A? (.ext φ)/\KTn H uC xs/\h.DictOfH (cV P w) a xs:=by
 obtain⟨z,y,xs,φ,ea,f,r⟩:=e;obtain⟨o,es,ep,h1,h2,h3,h4,h5⟩:=f h (ok a _ ea).1;refine⟨z,y,xs,φ,ea,r,o,es,ep,h1,h2,h3,h4,λx hx=>?_,h5⟩
 have all:∀{l:List (bp×V)}{m:List (bp×Ls×Lu)},KTn H l m->∀x∈m,(cV P w).is h x.1 x.2.1:=by
  intro l m q;induction q with
  |nil=>intro x hx;exact nomatch hx
  | @cons p q ps qs hq t ih =>
    intro x hx;rcases LW.mp hx with e|hx
    .subst e;exact jg ok hq.2.1
    .exact ih x hx
 exact all r x hx
theorem KTn.val{uC:List (bp×V)}{xs:List (bp×Ls×Lu)}(r:KTn H uC xs)(k:bp):RelO (bu uC k) ((Og xs k).map (·.2)):=by
 induction r with
 |nil=>exact Ox
 | @cons p q ps qs hq t ih =>
   by_cases e:p.1=k
   .rw[bc e];have:Og (q::qs) k=A? q.2:=by simp[Og,Nk,<-hq.1,e]
    rw[this];exact hq.2.2
   .rw[be e];have:Og (q::qs) k=Og qs k:=by simp[Og,Nk,<-hq.1,e]
    rw[this];exact ih
theorem KTn.put{uC:List (bp×V)}{xs:List (bp×Ls×Lu)}(r:KTn H uC xs)(k:bp)(hb:NKAt H k b)(ry:RelV y u):KTn H (putK uC k y) (storedH xs k b u):=by
 have hv:=KTn.val r k;cases e:bu uC k with
 | none =>
   rw[e]at hv
   have hn:Og xs k=none:=by
    cases q:Og xs k with
    |none=>rfl
    |some p=>rw[q]at hv;exact hv.elim
   rw[jS y e,storedH_new hn];exact Uc r (.cons ⟨rfl,hb,ry⟩ .nil)
 | some v0 =>
   rw[e]at hv
   obtain⟨p,hp⟩:∃p,Og xs k=A? p:=by
    cases q:Og xs k with
    |none=>rw[q]at hv;exact hv.elim
    |some p=>exact⟨p,B?⟩
   rw[storedH_old hp];unfold putK;rw[Sa (by rw[cR,e];rfl)]
   have all:∀{l:List (bp×V)}{m:List (bp×Ls×Lu)},KTn H l m->KTn H (l.map λkv=>if kv.1=k then(kv.1,y)else kv) (m.map (putAt k u)):=by
    intro l m q;induction q with
    |nil=>exact .nil
    | @cons p q ps qs hq t ih =>
      refine .cons ?_ ih;unfold putAt;dsimp only;by_cases z:p.1=k
      .rw[Sa z,Sa (by rw[<-hq.1];exact z)];exact⟨hq.1,hq.2.1,ry⟩
      .rw[Ra z,Ra (by rw[<-hq.1];exact z)];exact hq
   exact all r
section
variable{X:Cx}{o i value:Mv}{pos':Oi}{td ty tv:TE}
inductive nR(P:LF)(w:LQ)(x y:V)(H:Hp)(Q:VK):Prop
 |mk (a b:Ls) (k:bp) (uC:List (bp×V)) (v:V) (z0:x=.ref a) (z1:y=.ref b) (z2:DN P w H a uC) (z3:NKAt H k b) (z4:bu uC k=A? v) (z5:Q v H):nR P w x y H Q
def rE(P:LF)(w:LQ)(td ty:TE):TE:=λY H Q=>td Y H λx H1=>ty Y H1 λy H2=>nR P w x y H2 Q
theorem oV(hu:X.A.units+2<Nl)(ho:PE X o td)(hi:PE X i ty)(hs:rG i):PE X (.Subscript o i pos) (rE X.prog X.w td ty):=by
 intro Z s Y H Q I h;refine l9 PySem.F.slot_dict_getitem.lookup hs (thn (ho Z s Y H _ I h) λu s1⟨x,H1,I1,rx,q1⟩=>thn (hi Z s1 Y H1 _ I1 q1) λiv s2⟨y,H2,I2,ry,q2⟩=>?_);obtain⟨a,b,k,uC,v,rfl,rfl,hd,hk,hv,q⟩:=q2;obtain rfl:u=Mb a:=rx;obtain rfl:iv=Mb b:=ry;obtain⟨_,_,xs,φ,ea,rel,dd⟩:=qB I2.hok hd;obtain⟨w',hw,xk⟩:=RelO.some_of (v:=v) (o:=(Og xs k).map (·.2)) (by rw[<-hv];exact KTn.val rel k);obtain⟨p,hp,wq⟩:=Nc.mp hw;refine⟨dd.typeIs,wpAny_getItem_heap (knd:=cV X.prog X.w) (show X.A.units+1+1<Nl from hu) (jg I2.hok hk) dd hp ?_⟩;rw[wq];exact⟨v,H2,I2.tok _,xk,q⟩
inductive nD(P:LF)(w:LQ)(x y v:V)(H:Hp)(R:Hp->Prop):Prop
 |mk (a b:Ls) (k:bp) (uC:List (bp×V)) (z0:x=.ref a) (z1:y=.ref b) (z2:DN P w H a uC) (z3:NKAt H k b) (z4:uC.length<LK) (z5:∀H',(∀c o,c≠a->H c=A? o->H' c=A? o)->DN P w H' a (putK uC k v)->R H'):nD P w x y v H R
def rM(P:LF)(w:LQ)(td ty tv:TE):TS:=λD Y H=>tv Y H λv H1=>td Y H1 λx H2=>ty Y H2 λy H3=>nD P w x y v H3 λH4=>D.nx Y H4
theorem o8(hu:X.A.units+2<Nl)(ho:PE X o td)(hi:PE X i ty)(hv:PE X value tv)(hs:swapsWith value (A? (.Subscript o i pos')) pos.line X.env=pure AH) :
 PS X (.Assign [.Subscript o i pos'] value pos) (rM X.prog X.w td ty tv):=by
 intro Z s Y H D I h;refine wpAny_Assign_Subscript (thn (hv Z s Y H _ I h) λr s1⟨v,H1,I1,rv,q1⟩=>thn (ho Z s1 Y H1 _ I1 q1) λu s2⟨x,H2,I2,rx,q2⟩=>thn (hi Z s2 Y H2 _ I2 q2) λiv s3⟨y,H3,I3,ry,q3⟩=>?_) hs;obtain⟨a,b,k,uC,rfl,rfl,hd,hk,hl,q⟩:=q3;obtain rfl:u=Mb a:=rx;obtain rfl:iv=Mb b:=ry;obtain⟨z,we,xs,φ,ea,rel,dd⟩:=qB I3.hok hd;have hz:xs.length<=LK:=by rw[<-L3 rel];exact z
 have yy:(putK uC k v).length<=LK:=by have:=ck uC k v;lia
 refine wpAny_setItem_heap (knd:=cV X.prog X.w) (hsz:=hz) (show X.A.units+1+1<Nl from hu) (jg I3.hok hk) dd λh' Bg hs=>?_;obtain⟨ob,es,ep,hq,h2,h3,h4,_,h5⟩:=Bg;have ne:mL X.prog X.w (storedH xs k b r) a h':=⟨ob,es,ep,hq,h2,h3,h4,h5⟩
 have I4:=i5 (ob:=.ext (mL X.prog X.w (storedH xs k b r) a)) (t':=s3.toks+(cV X.prog X.w).draws k) I3 (by rw[ea];exact Ox) hs ⟨ob,hq⟩ ⟨ne,⟨ob,hq⟩,λh1 h2 p kk=>by
  obtain⟨o1,Ed,Ee,g1,g2⟩:=p;exact⟨o1,Ed,Ee,kk _ g1,g2⟩⟩
 have kt:BB.KT H3 (upd H3 a (.ext (mL X.prog X.w (storedH xs k b r) a))):=λc ys ec=>by
  rw[ai (dG ec ea (λz=>nomatch z))];exact ec
 exact⟨Y,_,I4,q _ (λc o hc e=>by rw[ai hc];exact e) ⟨yy,we,_,_,af,λ_ p=>p,KTn.mono kt (KTn.put rel k hk rv)⟩⟩
def r8(P:LF)(w:LQ):TE:=λ_ H Q=>∀p H',H p=Ak->Same H H'->DN P w H' p []->Q (.ref p) H'
theorem oj:PE X (.Dict [] [] pos) (r8 X.prog X.w):=λZ s Y H Q I h=>by
 have hn:H s.1.1.size=none:=I.hok.fresh (LC _);have ne:mL X.prog X.w [] s.1.1.size (s.1.push {cls:=.type "dict",data:=.dict #[]}):=⟨_,#[],0,LH _ rfl,⟨rfl,rfl,rfl⟩,rfl,rfl,List.nodup_nil⟩;refine wpAny_Dict_empty ⟨.ref s.1.1.size,_,I.laid (a:=s.1.1.size) (o:=.ext (mL X.prog X.w [] s.1.1.size)) (t':=s.toks) (λ_ _ q=>LB _ q) (LC _) ⟨ne,⟨_,LH _ rfl⟩,λh1 h2 p kk=>?_⟩,rfl,h _ _ hn (aj hn _) ⟨MB _,beq_eq_false_iff_ne.mpr (MY (Mc I.big)),[],_,af,λ_ p=>p,.nil⟩⟩;obtain⟨o1,Ed,Ee,g1,g2⟩:=p;exact⟨o1,Ed,Ee,kk _ g1,g2⟩
end
end L2
namespace BB
open PySem L2
mutual
def AtG(r:Rep)(H:Hp):Th->Ls->Prop
 |.knot n ks,a=>n≠q/\∃as:List Ls,H a=A? (.tup (.str n::as.map Rb))/\AtsG r H ks as
 |.call s k,a=>∃v,H a=A? (.tup [.str q,v,.int k])/\StV r H s v
def AtsG(r:Rep)(H:Hp):List Th->List Ls->Prop
 | [],as=>as=[]
 |t::ts,as=>∃a z,as=a::z/\AtG r H t a/\AtsG r H ts z
end
mutual
theorem AtG.mono(k:KT H H'):∀{t:Th}{a:Ls},AtG r H t a->AtG r H' t a
 | .knot n ks,a,h=>by
   rw[AtG]at h |-;obtain⟨h0,as,h1,h2⟩:=h;exact⟨h0,as,k _ _ h1,AtsG.mono k h2⟩
 | .call s c,a,h=>by
   rw[AtG]at h |-;obtain⟨v,h1,h2⟩:=h;exact⟨v,k _ _ h1,h2.mono k⟩
theorem AtsG.mono(k:KT H H'):∀{ts:List Th}{as:List Ls},AtsG r H ts as->AtsG r H' ts as
 | [],as,h=>by rw[AtsG]at h |-;exact h
 | t::ts,as,h=>by
   rw[AtsG]at h |-;obtain⟨a,r,e,h1,h2⟩:=h;exact⟨a,r,e,AtG.mono k h1,AtsG.mono k h2⟩
end
theorem AtsG.nil:AtsG r H [] []:=by rw[AtsG]
theorem AtsG.cons{t:Th}{as:List Ls}(h1:AtG r H t a)(h2:AtsG r H ts as):AtsG r H (t::ts) (a::as):=by rw[AtsG];exact⟨a,as,B?,h1,h2⟩
theorem AtsG.append:∀{ts us:List Th}{as bs:List Ls},AtsG r H ts as->AtsG r H us bs->AtsG r H (ts++us) (as++bs)
 | [],us,as,bs,h,g=>by rw[AtsG]at h;subst h;exact g
 | t::ts,us,as,bs,h,g=>by
   rw[AtsG]at h;obtain⟨a,r,rfl,h1,h2⟩:=h;exact .cons h1 (h2.append g)
theorem AtsG.length:∀{ts:List Th}{as:List Ls},AtsG r H ts as->as.length=ts.length
 | [],as,h=>by rw[AtsG]at h;subst h;rfl
 | t::ts,as,h=>by
   rw[AtsG]at h;obtain⟨a,r,rfl,h1,h2⟩:=h;rw[LP,LP,h2.length]
theorem AtsG.reverse:∀{ts:List Th}{as:List Ls},AtsG r H ts as->AtsG r H ts.reverse as.reverse
 | [],as,h=>by rw[AtsG]at h;subst h;exact .nil
 | t::ts,as,h=>by
   rw[AtsG]at h;obtain⟨a,r,rfl,h1,h2⟩:=h;rw[Mi,Mi];exact h2.reverse.append (.cons h1 .nil)
theorem AtsG.get:∀{ts:List Th}{as:List Ls}{i:Nat}{a:Ls},AtsG r H ts as->as[i]?=A? a->∃t,ts[i]?=A? t/\AtG r H t a
 | [],as,i,a,h,e=>by rw[AtsG]at h;subst h;simp at e
 | t::ts,as,i,a,h,e=>by
   rw[AtsG]at h;obtain⟨b,r,rfl,h1,h2⟩:=h;cases i with
   |zero=>simp at e;subst e;exact⟨t,B?,h1⟩
   |succ i=>exact h2.get (i:=i) (by simpa using e)
theorem AtsG.at:∀{ts:List Th}{as:List Ls}{i:Nat}{t:Th},AtsG r H ts as->ts[i]?=A? t->∃a,as[i]?=A? a/\AtG r H t a
 | [],as,i,a,h,e=>by simp at e
 | t::ts,as,i,a,h,e=>by
   rw[AtsG]at h;obtain⟨b,r,rfl,h1,h2⟩:=h;cases i with
   |zero=>simp at e;subst e;exact⟨b,B?,h1⟩
   |succ i=>exact h2.at (i:=i) (by simpa using e)
theorem AtsG.snoc_inv{as:List Ls}(h:AtsG r H ts (as++[a])):∃us t,ts=us++[t]/\AtsG r H us as/\AtG r H t a:=by
 have r:=h.reverse;rw[Nu,List.reverse_singleton,List.singleton_append]at r;cases e:ts.reverse with
 |nil=>rw[e,AtsG]at r;cases r
 | cons t us =>
   rw[e,AtsG]at r;obtain⟨b,z,e1,h1,h2⟩:=r;cases e1;refine⟨us.reverse,t,?_,?_,h1⟩
   .rw[<-Mi,<-e,Np]
   .have:=h2.reverse;rw[Np]at this;exact this
theorem AtG.tup{t:Th}(h:AtG r H t a):∃n z,H a=A? (.tup (.str n::z)):=by
 cases t with
 |knot n ks=>rw[AtG]at h;obtain⟨_,as,h1,_⟩:=h;exact⟨n,_,h1⟩
 |call s k=>rw[AtG]at h;obtain⟨v,h1,_⟩:=h;exact⟨q,_,h1⟩
mutual
theorem At.g:∀{t:Th}{a:Ls},At H t a->AtG .i H t a
 | .knot n ks,a,h=>by
   rw[At]at h;rw[AtG];obtain⟨h0,as,h1,h2⟩:=h;exact⟨h0,as,h1,Ats.g h2⟩
 | .call s c,a,h=>by
   rw[At]at h;rw[AtG];exact⟨_,h,B?⟩
theorem Ats.g:∀{ts:List Th}{as:List Ls},Ats H ts as->AtsG .i H ts as
 | [],as,h=>by rw[Ats]at h;rw[AtsG];exact h
 | t::ts,as,h=>by
   rw[Ats]at h;rw[AtsG];obtain⟨a,z,e,h1,h2⟩:=h;exact⟨a,z,e,At.g h1,Ats.g h2⟩
end
mutual
theorem AtG.i:∀{t:Th}{a:Ls},AtG .i H t a->At H t a
 | .knot n ks,a,h=>by
   rw[AtG]at h;rw[At];obtain⟨h0,as,h1,h2⟩:=h;exact⟨h0,as,h1,AtsG.i h2⟩
 | .call s c,a,h=>by
   rw[AtG]at h;rw[At];obtain⟨v,h1,h2⟩:=h;rw[show v=Vb s from h2]at h1;exact h1
theorem AtsG.i:∀{ts:List Th}{as:List Ls},AtsG .i H ts as->Ats H ts as
 | [],as,h=>by rw[AtsG]at h;rw[Ats];exact h
 | t::ts,as,h=>by
   rw[AtsG]at h;rw[Ats];obtain⟨a,z,e,h1,h2⟩:=h;exact⟨a,z,e,AtG.i h1,AtsG.i h2⟩
end
def TopAtG(r:Rep)(H:Hp):Top->Ls->Prop
 |.nm n m,a=>∃ta,H a=A? (.tup [.ref ta,.int (m:Nat)])/\n≠q/\H ta=A? (.tup [.str n])
 |.th t,a=>∃ta,H a=A? (.tup [.ref ta,.int 0])/\AtG r H t ta
theorem TopAtG.mono(k:KT H H'):∀{x:Top}{a:Ls},TopAtG r H x a->TopAtG r H' x a
 | .nm n m,a,h=>by
   obtain⟨ta,h1,h2,h3⟩:=h;exact⟨ta,k _ _ h1,h2,k _ _ h3⟩
 | .th t,a,h=>by
   obtain⟨ta,h1,h2⟩:=h;exact⟨ta,k _ _ h1,h2.mono k⟩
theorem eN(k:KT H H'){xs:List Top}{as:List Ls}(h:Mg (TopAtG r H) xs as):Mg (TopAtG r H') xs as:=Vc (λ_ _ e=>e.mono k) h
theorem AtG.width{t:Th}(h:AtG r H t a)(ha:H a=A? (.tup xs)):xs.length<=t.size+2:=by
 cases t with
 | knot n ks =>
   rw[AtG]at h;obtain⟨_,as,h1,h2⟩:=h;rw[ha]at h1;cases h1;have:=h2.length;have:=dW ks;rw[LP,Lx,Th.size];lia
 | call s k =>
   rw[AtG]at h;obtain⟨v,h1,_⟩:=h;rw[ha]at h1;cases h1;rw[Th.size];exact LC _
theorem AtG.same{t:Th}(h:AtG r H t a)(ha:H a=A? (.tup xs))(hb:H b=A? (.tup xs)):AtG r H t b:=by
 cases t with
 | knot n ks =>
   rw[AtG]at h |-;obtain⟨h0,as,h1,h2⟩:=h;rw[ha]at h1;cases h1;exact⟨h0,as,hb,h2⟩
 | call s k =>
   rw[AtG]at h |-;obtain⟨v,h1,h2⟩:=h;rw[ha]at h1;cases h1;exact⟨v,hb,h2⟩
def md(fs:List (Int->Th))(s c:Int):Th:=(fs.getD c.toNat λ_=>.knot (LI "") []) s
mutual
def dX(pat:Int->LL->Th):Th->Int->Th
 |.call l h,s=>.call (enc s l) h
 |.knot n ts,s=>(pat s n).fill (md (gX pat ts))
def gX(pat:Int->LL->Th):List Th->List (Int->Th)
 | []=>[]
 |t::ts=>dX pat t::gX pat ts
end
theorem iW(pat:Int->LL->Th):∀ts:List Th,gX pat ts=ts.map (dX pat)
 | []=>by rw[gX];rfl
 |t::ts=>by rw[gX,iW pat ts];rfl
def made(pat:Int->LL->Th)(p k:Th):Th:=p.fill (md (gX pat k.kids))
theorem cQ(pat:Int->LL->Th)(n:LL)(ks:List Th)(k:Th):made pat (.knot n ks) k=.knot n (ks.map λp=>made pat p k):=by
 unfold made;rw[Yb,fM]
theorem dR(pat:Int->LL->Th){s:Int}{k k':Th}(h:k.kids[c.toNat]?=A? k'):made pat (.call s c) k=dX pat k' s:=by
 unfold made;rw[Yb];unfold md;rw[iW,Pm,LZ,h];rfl
theorem bO(pat:Int->LL->Th)(l h s:Int):dX pat (.call l h) s=.call (enc s l) h:=by rw[dX]
theorem cS(pat:Int->LL->Th)(n:LL)(ts:List Th)(s:Int):dX pat (.knot n ts) s=made pat (pat s n) (.knot n ts):=by
 rw[dX];rfl
theorem FitSs.mem'{ks:List (LL×Int)}{C:Int}:∀{ts:List Th},FitSs ks S C ts->∀t∈ts,t.FitS ks S C
 | [],_,t,ht=>by cases ht
 | u::us,h,t,ht=>by
   rw[FitSs]at h;rcases LW.mp ht with e|e
   .rw[e];exact h.1
   .exact FitSs.mem' h.2 t e
def aP(ins:List (LL×Int))(rows:List (List Th))(s:Int)(n:LL):Th:=(rowOf rows s).getD ((ins.map (·.1)).idxOf n) (.knot (LI "") [])
theorem eX(g:dD ins){rows:List (List Th)}{s:Int}{n:LL}{m:Int}(hr:rows[s.toNat]?=A? row)(hj:ins[j]?=A? (n,m))(hp:row[j]?=A? p):aP ins rows s n=p:=by
 have h1:(ins.map (·.1))[j]?=A? n:=by rw[LZ,hj];rfl
 obtain⟨hl,he⟩:=N5.mp h1;have h2:(ins.map (·.1)).idxOf n=j:=by rw[<-he];exact List.Nodup.idxOf_getElem (j9 g) j hl
 unfold aP rowOf;rw[h2,Pm,Pm,hr];show(row[j]?).getD _=p;rw[hp];rfl
structure jv(ins outs:List (LL×Int))(S:Int)(rows:List (List Th)):Prop where
 len:(rows.length:Int)=S
 row:∀row∈rows,row.length=ins.length/\∀(j:Nat)(p:Th)(k:LL×Int),row[j]?=A? p->ins[j]?=A? k->p.FitS outs S k.2
structure Lead(ins outs:List (LL×Int))(S S1:Int)(p k:Th):Prop where
 fit:p.FitS outs S (k.kids.length:Int)
 kid:∀u∈k.kids,∃C,u.FitS ins S1 C
theorem Lead.call{s:Int}{k:Th}(h:Lead ins outs S S1 (.call s c) k):0<=s/\s<S/\0<=c/\∃k',k.kids[c.toNat]?=A? k'/\k'∈k.kids:=by
 have:=h.fit;rw[Zb]at this;obtain⟨h0,h1,h2,h3⟩:=this;have hl:c.toNat<k.kids.length:=by lia
 exact⟨h0,h1,h2,_,LA hl,Pl hl⟩
theorem Lead.next{rows:List (List Th)}(g:dD ins)(ok:jv ins outs S rows){s:Int}{k:Th}{n:LL}(h:Lead ins outs S S1 (.call s c) k)(hk:k.kids[c.toNat]?=A? (.knot n ts)) :
 ∃(j:Nat)(row:List Th)(p:Th),ins[j]?=A? (n,(ts.length:Int))/\rows[s.toNat]?=A? row/\row[j]?=A? p/\aP ins rows s n=p/\Lead ins outs S S1 p (.knot n ts)/\made (aP ins rows) (.call s c) k=made (aP ins rows) p (.knot n ts):=by
 obtain⟨h0,h1,h2,k',vk,hm⟩:=h.call;rw[hk]at vk;cases vk;obtain⟨C,hC⟩:=h.kid _ hm;rw[Zb]at hC;obtain⟨j,hj⟩:=NI.mp hC.1;have hl:=ok.len;have hs:s.toNat<rows.length:=by lia
 have hr:=LA hs;have Cz:=ok.row _ (Pl hs);have Cr:=(glE hj);obtain⟨p,hp⟩:∃p,(rows[s.toNat])[j]?=A? p:=⟨_,LA (by rw[Cz.1];exact Cr)⟩;have hf:=Cz.2 j _ _ hp hj;have yC:=eX g hr hj hp;refine⟨j,_,_,hj,hr,hp,yC,⟨hf,λu hu=>⟨C,FitSs.mem' hC.2 u hu⟩⟩,?_⟩;rw[dR _ hk,cS,yC]
mutual
def cnT:Th->Nat
 |.knot _ ks=>aM ks
 |.call _ _=>1
def aM:List Th->Nat
 | []=>0
 |t::ts=>cnT t+aM ts
end
structure Small(t:Th):Prop where
 tall:t.tall<=20
 kn:t.kn<=400
 cn:cnT t<=200
theorem sd(t:Th):t.kn=(if t.isCall=AG then 0 else 1)+kns t.kids:=by
 cases t with
 |knot n ks=>rw[Tc,Th.isCall,Th.kids,Ra LO];lia
 |call s k=>rw[Tc,Th.isCall,Th.kids,Sa rfl,kns]
theorem sk(t:Th):cnT t=(if t.isCall=AG then 1 else 0)+aM t.kids:=by
 cases t with
 |knot n ks=>rw[cnT,Th.isCall,Th.kids,Ra LO];lia
 |call s k=>rw[cnT,Th.isCall,Th.kids,Sa rfl,aM]
theorem eF(a b:List Th):kns (a++b)=kns a+kns b:=by
 induction a with
 |nil=>rw[Px,kns];lia
 |cons x a ih=>rw[Oy,kns,kns,ih];lia
theorem dJ(a b:List Th):aM (a++b)=aM a+aM b:=by
 induction a with
 |nil=>rw[Px,aM];lia
 |cons x a ih=>rw[Oy,aM,aM,ih];lia
theorem pN(l:List Th):kns l.reverse=kns l:=by
 induction l with
 |nil=>rfl
 |cons t l ih=>rw[Mi,eF,ih,kns,kns,kns];lia
theorem oF(l:List Th):aM l.reverse=aM l:=by
 induction l with
 |nil=>rfl
 |cons t l ih=>rw[Mi,dJ,ih,aM,aM,aM];lia
mutual
theorem i3:∀t:Th,t.size=t.kn+cnT t
 |.knot n ks=>by rw[Th.size,Tc,cnT,gz ks];lia
 |.call s k=>by rw[Th.size,Tc,cnT]
theorem gz:∀ts:List Th,aC ts=kns ts+aM ts
 | []=>by rw[aC,kns,aM]
 |t::ts=>by rw[aC,kns,aM,i3 t,gz ts];lia
end
theorem Small.size{t:Th}(h:Small t):t.size<=600:=by
 have:=i3 t;have:=h.kn;have:=h.cn;lia
structure MInv(o:Th)(done:List Th)(js:List Job)(k c:Int):Prop where
 wk:done++walks (jos js).reverse=o.walk
 low:∀j∈js,j.r+j.o.tall<=o.tall+1
 kn:k+(kns (jos js):Int)=(o.kn:Int)
 cn:c+(aM (jos js):Int)=(cnT o:Int)
theorem MInv.start{k o:Th}:MInv o [] [⟨p,k,1,o⟩] 0 0:=by
 refine⟨by simp[jos,walks],λj hj=>?_,?_,?_⟩
 .rw[LM.mp hj];show 1+o.tall<=o.tall+1;lia
 .show(0:Int)+((kns [o]:Nat):Int)=_;rw[kns,kns];lia
 .show(0:Int)+((aM [o]:Nat):Int)=_;rw[aM,aM];lia
theorem eV(js:List Job)(j:Job):jos (js++[j])=jos js++[j.o]:=by
 unfold jos;rw[L6];rfl
theorem MInv.size{o:Th}{done:List Th}{js:List Job}{k:Int}(h:MInv o done js k c):done.length+aC (jos js)=o.size:=by
 have:=Xa NU h.wk;rw[LR,dN,gW,Yc]at this;exact this
theorem j7{k:Int}{a c o:Nat}{i:Nat}(h:k+((a+(i+c+0):Nat):Int)=(o:Int))(hk:k'=k+(i:Int)):k'+((a+c:Nat):Int)=(o:Int):=by lia
theorem oU{k:Int}{a o:Nat}(h:k+(a:Int)=(o:Int))(ho:o<=n):k<=(n:Int):=by lia
theorem MInv.kn'{o:Th}{done:List Th}{js:List Job}{j:Job}{k:Int}(h:MInv o done (js++[j]) k c)(hk:k'=if j.o.isCall=AG then k else k+1):k'+((kns (jos js)+kns j.o.kids:Nat):Int)=(o.kn:Int):=by
 have h2:=h.kn;rw[eV,eF,kns,kns,sd]at h2;refine j7 h2 (hk.trans ?_);split
 .exact(Int.add_zero k).symm
 .rfl
theorem MInv.cn'{o:Th}{done:List Th}{js:List Job}{j:Job}{k:Int}(h:MInv o done (js++[j]) k c)(hc:c'=if j.o.isCall=AG then c+1 else c):c'+((aM (jos js)+aM j.o.kids:Nat):Int)=(cnT o:Int):=by
 have h3:=h.cn;rw[eV,dJ,aM,aM,sk]at h3;refine j7 h3 (hc.trans ?_);split
 .rfl
 .exact(Int.add_zero c).symm
theorem MInv.takes{o:Th}{done:List Th}{js:List Job}{j:Job}{k:Int}(h:MInv o done (js++[j]) k c)(sm:Small o)(hk:k'=if j.o.isCall=AG then k else k+1)(hc:c'=if j.o.isCall=AG then c+1 else c):((j.r:Nat):Int)<=20/\k'<=400/\c'<=200:=by
 refine⟨?_,oU (h.kn' hk) sm.kn,oU (h.cn' hc) sm.cn⟩;have h1:=h.low j (by simp);have h4:=j.o.tall_eq;have h5:=sm.tall;clear h sm hk hc;lia
theorem MInv.next{o:Th}{done:List Th}{js vO:List Job}{j:Job}{k:Int}(h:MInv o done (js++[j]) k c)(hk:k'=if j.o.isCall=AG then k else k+1)(hc:c'=if j.o.isCall=AG then c+1 else c)(h2:jos vO=j.o.kids.reverse)(hr:∀i∈vO,i.r=j.r+1):MInv o (done++[j.o]) (js++vO) k' c':=by
 have e1:jos (js++vO)=jos js++j.o.kids.reverse:=by rw[<-h2];unfold jos;rw[L6]
 refine⟨?_,λi hi=>?_,?_,?_⟩
 .rw[<-h.wk,eV,e1,Nu,Nu,Np,OZ,di];show done++([j.o]++_)=done++walks (j.o::(jos js).reverse);rw[walks,Th.walk_eq];rfl
 .rcases Mw.mp hi with hi|hi
  .exact h.low i (MC _ hi)
  .have h1:=h.low j (by simp)
   have h3:i.o∈j.o.kids:=by
    rw[<-List.mem_reverse,<-h2];exact MZ.mpr ⟨i,hi,rfl⟩
   have:=dA h3;have h4:=j.o.tall_eq;rw[hr i hi];lia
 .rw[e1,eF,pN];exact h.kn' hk
 .rw[e1,dJ,oF];exact h.cn' hc
theorem MInv.done{o:Th}{done:List Th}{k:Int}(h:MInv o done [] k c):done=o.walk:=by simpa[jos,walks]using h.wk
def MJAt(H:Hp)(ins outs:List (LL×Int))(S S1:Int)(pat:Int->LL->Th)(j:Job)(a:Ls):Prop:=∃(pa ka:Ls)(n:LL)(ts:List Th),H a=A? (.tup [.ref pa,.ref ka,.int (j.r:Nat)])/\AtG .i H j.p pa/\j.k=.knot n ts/\AtG .i H (.knot n ts) ka/\Lead ins outs S S1 j.p j.k/\j.o=made pat j.p j.k
theorem MJAt.mono(kt:KT H H'){j:Job}(h:MJAt H ins outs S S1 pat j a):MJAt H' ins outs S S1 pat j a:=by
 obtain⟨pa,ka,n,ts,h1,h2,h3,h4,h5⟩:=h;exact⟨pa,ka,n,ts,kt _ _ h1,h2.mono kt,h3,h4.mono kt,h5⟩
theorem Lead.kids{n:LL}{ks:List Th}{k:Th}(h:Lead ins outs S S1 (.knot n ks) k):∀t∈ks,Lead ins outs S S1 t k:=λt ht=>by
 have:=h.fit;rw[Zb]at this;exact⟨FitSs.mem' this.2 t ht,h.kid⟩
theorem gf:∀{ts:List Th}{as:List Ls},Mg (AtG r H) ts as->AtsG r H ts as
 |_,_,.nil=>.nil
 |_,_,.cons h g=>.cons h (gf g)
def sol(t:Th):Th:=.knot (LI "") [t]
def aU(R:Int->List Th)(head:Th):List Int:=bfs R 21 (aR [] (stT head)) 0
def joH(mid:List (LL×Int))(f':List (List Th))(uA uB:Th):Th:=made (aP mid f') uA (sol uB)
def joR(mid:List (LL×Int))(f' rows1:List (List Th))(s:Int):List Th:=(rowOf rows1 (s%1000)).map λt=>made (aP mid f') (.call (s / 1000) 0) (sol t)
def PairOk(S S1 s:Int):Prop:=0<=s / 1000/\s / 1000<S/\0<=s%1000/\s%1000<S1
theorem PairOk.enc{st l:Int}(h0:0<=st)(h1:st<S)(g0:0<=l)(g1:l<S1)(hS:S1<=1000):PairOk S S1 (enc st l):=by
 unfold PairOk BB.enc;lia
theorem o9(t:Th):(sol t).kids=[t]:=rfl
theorem Lead.sol{C:Int}{t:Th}(hp:p.FitS outs S 1)(ht:t.FitS ins S1 C):Lead ins outs S S1 p (sol t) :=
 ⟨hp,λu hu=>⟨C,by rw[o9]at hu;rw[LM.mp hu];exact ht⟩⟩
mutual
theorem lT{q:Int->Prop}(f:Int->Int->Th){ks:List (LL×Int)}{C:Int}(hf:∀s c,0<=s->s<S->0<=c->c<C->∀x∈stT (f s c),q x):∀t:Th,t.FitS ks S C->∀x∈stT (t.fill f),q x
 | .call s c,h,x,hx=>by
   rw[Zb]at h;rw[Yb]at hx;exact hf s c h.1 h.2.1 h.2.2.1 h.2.2.2 x hx
 | .knot n ts,h,x,hx=>by
   rw[Zb]at h;rw[Yb,bJ]at hx;exact jH f hf ts h.2 x hx
theorem jH{q:Int->Prop}(f:Int->Int->Th){ks:List (LL×Int)}{C:Int}(hf:∀s c,0<=s->s<S->0<=c->c<C->∀x∈stT (f s c),q x):∀ts:List Th,FitSs ks S C ts->∀x∈bE (fills f ts),q x
 | [],_,x,hx=>by rw[fills]at hx;cases hx
 | t::ts,h,x,hx=>by
   rw[FitSs]at h;rw[fills]at hx;have uT:x∈stT (t.fill f)++bE (fills f ts):=hx;rcases Mw.mp uT with z|z
   .exact lT f hf t h.1 x z
   .exact jH f hf ts h.2 x z
end
theorem jm{rows:List (List Th)}(g:dD ins)(ok:jv ins outs S rows)(hS:S1<=1000):∀(n:Nat){p k:Th},k.size<=n->Lead ins outs S S1 p k->∀x∈stT (made (aP ins rows) p k),PairOk S S1 x
 |0,p,k,hn,_=>by have:=k.size_pos;lia
 | n+1,p,k,hn,h=>by
   unfold made;refine lT _ (λs c h0 h1 h2 h3 x hx=>?_) p h.fit;have hl:Lead ins outs S S1 (.call s c) k:=⟨by rw[Zb];exact⟨h0,h1,h2,h3⟩,h.kid⟩;obtain⟨_,_,_,k',hk,hm⟩:=hl.call;have e:md (gX (aP ins rows) k.kids) s c=made (aP ins rows) (.call s c) k:=by unfold made;rw[Yb]
   rw[e]at hx
   have hsz:k'.size<=n:=by
    have h1:=xU hm;have h2:=k.size_eq;lia
   cases k' with
   | call l hh =>
     rw[dR _ hk,bO]at hx;obtain⟨C,hC⟩:=h.kid _ hm;rw[Zb]at hC;have uT:x∈[enc s l]:=hx;rw[LM.mp uT];exact PairOk.enc h0 h1 hC.1 hC.2.1 hS
   | knot nm ts =>
     obtain⟨j,row,p',hj,hr,Cp,yC,yy,xV⟩:=Lead.next g ok hl hk;rw[xV]at hx;exact jm g ok hS n hsz yy x hx
where
 xU {ts:List Th} {t:Th} (h:t∈ts):t.size<=aC ts:=by
  induction ts with
  |nil=>cases h
  | cons u ts ih =>
    rw[aC];rcases LW.mp h with rfl|h
    .lia
    .have:=ih h;lia
theorem fG{rows:List (List Th)}(ok:jv ins outs S rows){l:Int}(h0:0<=l)(h1:l<S):∃row,rows[l.toNat]?=A? row/\rowOf rows l=row/\row.length=ins.length/\∀t∈row,∃C,t.FitS outs S C:=by
 have hl:=ok.len;have hs:l.toNat<rows.length:=by lia
 refine⟨rows[l.toNat],LA hs,?_,(ok.row _ (Pl hs)).1,λt ht=>?_⟩
 .unfold rowOf;rw[Pm,LA hs];rfl
 .obtain⟨hlen,vJ⟩:=ok.row _ (Pl hs);obtain⟨j,hj⟩:=NI.mp ht;have Cr:=(glE hj);exact⟨_,vJ j t _ hj (LA (by lia))⟩
section
variable{mid:List (LL×Int)}{S2:Int}{uB uA:Th}{rows1 f':List (List Th)}
theorem jZ{st:Int}(h0:0<=st)(h1:st<S):(Wc st 0).FitS outs S 1:=by
 rw[Zb];exact⟨h0,h1,Int.le_refl _,by decide⟩
end
end BB
namespace L2
open PySem PySem.Spec PySem.Calls PyProof.Rows
abbrev gC:M4:={cls:=.type "frame",data:=.dict #[]}
abbrev l4:M4:={cls:=.type "cell",data:=.cell Ak}
theorem fL{globals:Ls}{closure:List (LL×Ls)}{binds:List (LL×Lu)}{func:Option Ls}{code:Lu}{builtins:Ls}{Q:OJ->Lw->Prop}
 (hk:scope.kind=.function) (hl:∀x∈binds,scope.names.lookup x.1=A? .local)
 (hQ:∀h',h'.Ns s.1.1.size (λx=>binds.reverse.lookup x)->MQ s.1.1.size (pushCells (s.1.push gC) scope.names) h' ->
  Q (newEnv scope s.1.1.size globals (PV (s.1.1.size+1) scope.names closure) qual func code Ak builtins) {s with heap:=h',toks:=s.toks+binds.length}) :
 LG M A (Qj scope globals closure binds qual func code Ak builtins) Q E s:=by
 simp only[Qj,Option.isSome_none,MN,if_false];refine Lr (wpAny_alloc ?_);refine Lr (wpAny_layCells _ (λname kind cells=>by cases IJ:kind == Om <;> simp[IJ]) _ _ _ _ ?_);rw[show({s with heap:=s.1.push {cls:=.type "frame",data:=.dict #[]}}:Lw).heap.1.size=s.1.1.size+1 from N9 ..];refine Lr ?_;generalize w8:PV (s.1.1.size+1) scope.names closure=cs at hQ |-
 refine PR _
  (λrest _ s'=>∃done h',binds=done++rest/\s'={s with heap:=h',toks:=s.toks+done.length} /\
   h'.Ns s.1.1.size (λx=>done.reverse.lookup x) /\
   MQ s.1.1.size (pushCells (s.1.push gC) scope.names) h') _ ?_ ?_ binds _
  ⟨[],_,rfl,rfl,(Heap.Ns.new ..).keeps (pushCells_keeps _ _),Heap.SameBut.refl ..⟩
 .rintro⟨name,v⟩ rest _ s' ⟨done,h',hb,rfl,vR,wb⟩
  have vk:Env.kindOf {scope,locals:=s.1.1.size,globals,cells:=cs,qual,func,code,frame:=A? s.1.1.size,builtins} name=A? .local :=
   hl (name,v) (by rw[hb];simp)
  have hp:(({scope,locals:=s.1.1.size,globals,cells:=cs,qual,func,code,frame:=A? s.1.1.size,builtins}:OJ).scope.kind == .class ||(({scope,locals:=s.1.1.size,globals,cells:=cs,qual,func,code,frame:=A? s.1.1.size,builtins}:OJ).scope.kind == .module &&
   ({scope,locals:=s.1.1.size,globals,cells:=cs,qual,func,code,frame:=A? s.1.1.size,builtins}:OJ).locals != ({scope,locals:=s.1.1.size,globals,cells:=cs,qual,func,code,frame:=A? s.1.1.size,builtins}:OJ).globals))=false:=by
   show(scope.kind == .class ||(scope.kind == .module && _))=AH;rw[hk];rfl
  simp only[storeName_local vk hp];refine Lr (wpAny_nsSet vR λDW Eg Eh=>Lz ⟨done++[(name,v)],DW,by simp[hb],?_,?_,wb.trans Eh⟩)
  .simp[Qb]
  .rw[lookup_reverse_snoc];exact Eg
 .rintro _ s' ⟨done,h',hb,rfl,vR,wb⟩;rw[ME]at hb;subst hb;exact Lz (hQ h' vR wb)
def NestAt(H:Hp)(f c':Ls)(name qual:LL)(params:O9)(body:List NP)(scope:MS)(cl:List (LL×Ls)):Prop:=∃φ,H f=A? (.ext φ)/\∀h:Ml,φ h->∃doc pm xq,h.get? f=A? (PZ name qual params body scope cl doc pm c' xq)
theorem NestAt.mono(s:Same H H'){c':Ls}(h:NestAt H f c' name qual params body scope cl):NestAt H' f c' name qual params body scope cl:=by
 obtain⟨φ,h1,h2⟩:=h;exact⟨φ,s _ _ h1,h2⟩
def cxN(P:LF)(w:LQ)(K:Ly)(mg:LL->Option Lu)(base:Ml)(N:List LL)(qual:LL)(scope:MS)(f:Ls)(cd:Lu)(y:LL)(cl:List (LL×Ls))(A:LU)(outer:List OJ)(s:Lw)(H:Hp):Cx where
 prog:=P
 w:=w
 K:=K
 mg:=mg
 base:=base
 A:=A.deeper (OL qual scope s.1.1.size f cd ((y,s.1.1.size+1)::cl))
 N:=N
 s₀:=s
 H₀:=fgt (cl.map (·.2)) H
 env:=OL qual scope s.1.1.size f cd ((y,s.1.1.size+1)::cl)
 outer:=outer
 stack:=OL qual scope s.1.1.size f cd ((y,s.1.1.size+1)::cl)::outer
 ex:=[]
 calm:=AG
 fn:=λx=>x == y
 pn:=[]
 xe:=λ_ _=>False
structure iH(N ps fs:List LL)(y:LL)(cl:List (LL×Ls))(sc:MS):Prop where
 kind:sc.kind=.function
 co:sc.isCoroutine=AH
 gen:sc.isGenerator=AH
 nd:N.Nodup
 pre:N.take (ps.length+fs.length)=ps++fs
 par:∀x∈ps,sc.names.lookup x=A? .local
 fre:∀x∈fs,sc.names.lookup x=A? .free
 cells:∀n:Nat,PV n sc.names cl=(y,n)::cl
 push:∀h:Ml,pushCells h sc.names=h.push l4
 cel:∀x,sc.names.lookup x=A? .cell->x=y
 has:∀x,sc.names.lookup x=A? .free->∃c,cl.lookup x=A? c
 inj:∀x z c,cl.lookup x=A? c->cl.lookup z=A? c->x=z
 ney:∀x∈fs,(x == y)=AH
 neq:∀x,sc.names.lookup x=A? .free->(x == y)=AH
theorem jE{S:List Ls}(s:Same (fgt S H) H'):Same H (rst S H H'):=λb o e=>by
 by_cases hb:b∈S
 .rw[oZ hb];exact e
 .rw[bZ hb];exact s _ _ (by rw[ba hb];exact e)
theorem nX{S:List Ls}(hn:∀b∈S,H' b=Ak):Same H' (rst S H H'):=λb o e=>by
 rw[bZ λz=>by rw[hn b z]at e;cases e];exact e
theorem rN{S:List Ls}(hx:Exts S H):BB.KT H (fgt S H):=λb xs e=>by
 rw[ba (hx.out e λφ z=>nomatch z)];exact e
def sN(X:Cx)(P:Ls)(i:Nat)(name:LL)(pos:Oi)(params:O9)(body:List NP)(scope:MS)(cl:List (LL×Ls)):TS:=λD Y H=>TabSt H P pos (X.env.qual++name) /\
 ∀f c' H',SameT P H H'->H' P=A? (.tbl (tabOf pos c'))->CodeAt H' c' (X.env.qual++name)->NestAt H' f c' name (X.env.qual++name) params body scope cl->H f=Ak->D.nx (Y.set i (A? (.ref f))) H'
theorem p6{X:Cx}{c P:Ls}{i:Nat}(L:Lam X.mg X.base c P)(hN:X.N.Nodup)(hi:X.N[i]?=A? name)(zE:Loc X.env.scope name)(hc:X.env.code=.ref c)(vo:closureFor scope X.env=pure cl)
 (yq:params.defaults=[]:=by rfl) (Gn:params.kw_defaults=[]:=by rfl) (ha:annTrees params Ak X.env=[]:=by rfl) (hq:qualnameIn X.env name name=X.env.qual++name:=by rfl) (Gp:X.fn name=AG\/X.env.scope.names.lookup name=A? .local:=by first|exact .inl rfl|exact .inr rfl|assumption) :
 PS X (.FunctionDef name params body [] Ak [] scope Ak name pos) (sN X P i name pos params body scope cl):=by
 intro Z s Y H D I h;obtain⟨tab,q⟩:=h;have Ei:s.1.Ns My X.mg:=I.mod.glob.keeps I.bk;have C:PySem.W.CodeHd s.1 c P:=L.hd.keeps I.bk
 have hb:s.1.BuiltinsAt X.mg P:=by
  obtain⟨bm,o,h1,h2,h3,h4,h5,h6⟩:=L.bl;exact⟨bm,o,h1,h2,h3,h4,I.bk _ _ h5,h6⟩
 refine PySem.W.nestDef_K yq Gn ha ?_;rw[hq];rcases tab with hP|⟨c',hP,ym⟩
 .have CA:s.1.get? P=A? (PySem.W.tabObj #[]):=I.hok P _ hP
  have IK:My≠P:=λz=>by
   obtain⟨o,es,ep,e,d,_⟩:=Ei;rw[z,CA]at e;cases e;cases d
  refine PySem.W.makeFunction_K vo I.ok.glob Ei hc C CA trivial rfl IK hb λc' xq doc h' tk hx CB uN Br Gq=>?_;have hsz:s.1.1.size<=h'.objs.size:=Mr CB (N0 uN);have Gr:H c'=none:=I.hok.fresh CB;have nf:H h'.objs.size=none:=I.hok.fresh hsz;have IL:c'≠h'.objs.size:=Mc uN;have IM:P≠c':=λz=>by rw[z,Gr]at hP;cases hP
  have IP:P≠h'.objs.size:=λz=>by rw[z,nf]at hP;cases hP
  obtain⟨ob,Ar⟩:∃ob,ob=PZ name (X.env.qual++name) params body scope cl doc ((X.mg "__name__").getD .none) c' xq:=⟨_,rfl⟩;rw[<-Ar];have kp:∀b o,b≠P->s.1.get? b=A? o->(h'.push ob).get? b=A? o:=λb o n e=>LB _ (hx b o n e);obtain⟨H',CC⟩:∃H',H'=upd (upd (upd H P (.tbl (tabOf pos c'))) c' (.ext λh=>h.CodeRec (.ref c') (X.env.qual++name))) h'.objs.size (.ext λh=>h.get? h'.objs.size=A? ob):=⟨_,rfl⟩;have eP:H' P=A? (.tbl (tabOf pos c')):=by rw[CC,ai IP,ai IM,af]
  have ec:H' c'=A? (.ext λh=>h.CodeRec (.ref c') (X.env.qual++name)):=by rw[CC,ai IL,af]
  have ef:H' h'.objs.size=A? (.ext λh=>h.get? h'.objs.size=A? ob):=by rw[CC,af]
  have eo:∀b,b≠P->b≠c'->b≠h'.objs.size->H' b=H b:=λb n1 n2 n3=>by rw[CC,ai n3,ai n2,ai n1]
  have es:∀b o,H b=A? o->b≠P->H' b=A? o:=λb o e n=>by rw[eo b n (λz=>by rw[z,Gr]at e;cases e) (λz=>by rw[z,nf]at e;cases e)];exact e
  have un:Un X.fs [] H H' s.1 (h'.push ob):=by
   have nP:∀b,H b=Ak->b≠P:=λb n z=>by rw[z,hP]at n;cases n
   refine⟨λb o e n _ _=>kp b o (nP b n) e,λb o e n _ _=>⟨o.slots,kp b o (nP b n) e⟩,λb o e n _=>?_,λb o e _=>?_,λb xs e=>es b _ e (λz=>by rw[z,hP]at e;cases e),λb o u e=>es b _ e (λz=>by rw[z,hP]at e;cases e),λb pp e=>?_⟩
   .rw[eo b (nP b n) (Mc (LX (LJ e) CB)) (Mc (LX (LJ e) hsz))];exact n
   .by_cases hb:b=P
    .exact⟨_,by rw[hb];exact LB _ Gq⟩
    .exact⟨o,kp b o hb e⟩
   .by_cases hb:b=P
    .subst hb;rw[hP]at e;cases e;exact⟨tabOf pos c',by rw[eP];simp⟩
    .exact⟨#[],by rw[es b _ e hb];simp⟩
  have hok:HOk X.prog X.w H' (h'.push ob):=λa o e=>by
   by_cases ha:a=P
   .subst ha;rw[eP]at e;cases e;exact LB _ Gq
   by_cases vQ:a=c'
   .subst vQ;rw[ec]at e;cases e;refine⟨Br.push _,?_,λh1 h2 z k=>?_⟩
    .obtain⟨_,oc,_,_,e1,e2,_⟩:=Br;cases e1;exact⟨oc,LB _ e2⟩
    .obtain⟨_,oc,vs,t,e1,e2,e3⟩:=z;cases e1;exact⟨_,oc,vs,t,B?,k _ e2,e3⟩
   by_cases Bs:a=h'.objs.size
   .subst Bs;rw[ef]at e;cases e;have zG:ob.isFreed=false:=by rw[Ar];rfl
    exact⟨LH _ zG,⟨_,LH _ zG⟩,λh1 h2 z k=>k _ z⟩
   rw[eo a ha vQ Bs]at e;refine(I.hok a o e).stay (λb u hb z=>kp b u ?_ z) (λb z=>es b _ z (λy=>by rw[y,hP]at z;cases z)) λb xs z=>es b _ z (λy=>by rw[y,hP]at z;cases z);rcases hb with hb|hb
   .rw[hb];exact ha
   .exactλy=>by rw[y,hP]at hb;cases hb
  refine cP (v:=.ref h'.objs.size) (I.un un hok) hN hi zE rfl (λs2 I2=>⟨_,H',I2,q _ c' H' (λb o n e=>es b o e n) eP ⟨_,ec,λ_ z=>z⟩ ⟨_,ef,λ_ z=>⟨_,_,_,by rw[z,Ar]⟩⟩ nf⟩) Gp
 .have CA:s.1.get? P=A? (PySem.W.tabObj (tabOf pos c')):=I.hok P _ hP;refine PySem.W.makeFunction_hit vo I.ok.glob Ei hc C CA (oo pos c') (mW pos c') hb λxq doc h' tk hk hsz=>?_;have nf:H h'.objs.size=none:=I.hok.fresh hsz
  have I':=I.laid (h':=h'.push {cls:=.type "function",data:=.func (PySem.W.fnX name (X.env.qual++name) params body scope cl .none .none doc ((X.mg "__name__").getD .none) Ak (.ref c') xq)}) (a:=h'.objs.size) (t':=tk)
   (o:=.ext λh=>h.get? h'.objs.size=A? (PZ name (X.env.qual++name) params body scope cl doc ((X.mg "__name__").getD .none) c' xq)) (λb u e=>LB _ (hk b u e)) hsz ⟨LH _ rfl,⟨_,LH _ rfl⟩,λh1 h2 z k=>k _ z⟩
  have sm:Same H (upd H h'.objs.size (.ext λh=>h.get? h'.objs.size=A? (PZ name (X.env.qual++name) params body scope cl doc ((X.mg "__name__").getD .none) c' xq))):=aj nf _;exact cP (v:=.ref h'.objs.size) I' hN hi zE rfl (λs2 I2=>⟨_,_,I2,q _ c' _ (sm.t P) (sm _ _ hP) (ym.mono sm) ⟨_,af,λ_ z=>⟨_,_,_,z⟩⟩ nf⟩) Gp
theorem ui{X:Cx}{y z:LL}{c:Ls}(h1:X.env.cells.lookup y=A? c)(h2:X.fn y=AG)(h3:X.env.kindOf y=A? .cell)(g1:X.env.cells.lookup z=A? d)(g2:X.fn z=AG)(g3:X.env.kindOf z=A? .cell):ku X [(y,c),(z,d)] :=
 ⟨λa b h=>(LW.mp h).elim (λe=>by cases e;exact h1) λe=>by cases LM.mp e;exact g1,
  λa b h=>(LW.mp h).elim (λe=>by cases e;exact h2) λe=>by cases LM.mp e;exact g2,
  λa b h=>(LW.mp h).elim (λe=>by cases e;exact h3) λe=>by cases LM.mp e;exact g3⟩
end L2
namespace BB
open PySem L2
theorem cm(pat:Int->LL->Th)(s:Int)(t:Th):made pat (.call s 0) (sol t)=dX pat t s:=dR (k:=sol t) pat rfl
section
variable{mid:List (LL×Int)}{S2:Int}{uB uA:Th}{rows1 f':List (List Th)}{IQ IT IU IV IW IX IY:Nat}
end
end BB
namespace L2
open PySem PySem.Spec PySem.Calls PyProof.Rows
end L2
namespace BB
open PySem L2
section
variable{k0 k1 k2 k3:List (LL×Int)}{SA SB SC:Int}{a0 b0 c0:Th}{Gs Gu Gv:List (List Th)}
end
section
variable{mid:List (LL×Int)}{S2:Int}{uB uA:Th}{rows1 f':List (List Th)}{IQ IT IU IV IW IX IY:Nat}
end
theorem hid{G:Prop}(k:∀F:Prop,(G->F)->F):G:=k G id
inductive Ex1{A0:Type}(p:A0->Prop):Prop
 |mk (x0:A0) (h:p x0):Ex1 p
inductive Ex2{A0 A1:Type}(p:A0->A1->Prop):Prop
 |mk (x0:A0) (x1:A1) (h:p x0 x1):Ex2 p
inductive Ex3{A0 A1 A2:Type}(p:A0->A1->A2->Prop):Prop
 |mk (x0:A0) (x1:A1) (x2:A2) (h:p x0 x1 x2):Ex3 p
inductive Ex4{A0 A1 A2 A3:Type}(p:A0->A1->A2->A3->Prop):Prop
 |mk (x0:A0) (x1:A1) (x2:A2) (x3:A3) (h:p x0 x1 x2 x3):Ex4 p
inductive Ex5{A0 A1 A2 A3 A4:Type}(p:A0->A1->A2->A3->A4->Prop):Prop
 |mk (x0:A0) (x1:A1) (x2:A2) (x3:A3) (x4:A4) (h:p x0 x1 x2 x3 x4):Ex5 p
inductive Ex6{A0 A1 A2 A3 A4 A5:Type}(p:A0->A1->A2->A3->A4->A5->Prop):Prop
 |mk (x0:A0) (x1:A1) (x2:A2) (x3:A3) (x4:A4) (x5:A5) (h:p x0 x1 x2 x3 x4 x5):Ex6 p
inductive Ex7{A0 A1 A2 A3 A4 A5 A6:Type}(p:A0->A1->A2->A3->A4->A5->A6->Prop):Prop
 |mk (x0:A0) (x1:A1) (x2:A2) (x3:A3) (x4:A4) (x5:A5) (x6:A6) (h:p x0 x1 x2 x3 x4 x5 x6):Ex7 p
inductive Ex9{A0 A1 A2 A3 A4 A5 A6 A7 A8:Type}(p:A0->A1->A2->A3->A4->A5->A6->A7->A8->Prop):Prop
 |mk (x0:A0) (x1:A1) (x2:A2) (x3:A3) (x4:A4) (x5:A5) (x6:A6) (x7:A7) (x8:A8) (h:p x0 x1 x2 x3 x4 x5 x6 x7 x8):Ex9 p
inductive tD{A0 A1 A2 A3 A4 A5 A6 A7 A8 A9:Type}(p:A0->A1->A2->A3->A4->A5->A6->A7->A8->A9->Prop):Prop
 |mk (x0:A0) (x1:A1) (x2:A2) (x3:A3) (x4:A4) (x5:A5) (x6:A6) (x7:A7) (x8:A8) (x9:A9) (h:p x0 x1 x2 x3 x4 x5 x6 x7 x8 x9):tD p
inductive An2(a0 a1:Prop):Prop
 |mk (h0:a0) (h1:a1):An2 a0 a1
inductive An3(a0 a1 a2:Prop):Prop
 |mk (h0:a0) (h1:a1) (h2:a2):An3 a0 a1 a2
inductive An4(a0 a1 a2 a3:Prop):Prop
 |mk (h0:a0) (h1:a1) (h2:a2) (h3:a3):An4 a0 a1 a2 a3
inductive An5(a0 a1 a2 a3 a4:Prop):Prop
 |mk (h0:a0) (h1:a1) (h2:a2) (h3:a3) (h4:a4):An5 a0 a1 a2 a3 a4
inductive An6(a0 a1 a2 a3 a4 a5:Prop):Prop
 |mk (h0:a0) (h1:a1) (h2:a2) (h3:a3) (h4:a4) (h5:a5):An6 a0 a1 a2 a3 a4 a5
inductive An7(a0 a1 a2 a3 a4 a5 a6:Prop):Prop
 |mk (h0:a0) (h1:a1) (h2:a2) (h3:a3) (h4:a4) (h5:a5) (h6:a6):An7 a0 a1 a2 a3 a4 a5 a6
inductive An8(a0 a1 a2 a3 a4 a5 a6 a7:Prop):Prop
 |mk (h0:a0) (h1:a1) (h2:a2) (h3:a3) (h4:a4) (h5:a5) (h6:a6) (h7:a7):An8 a0 a1 a2 a3 a4 a5 a6 a7
inductive sD(a0 a1 a2 a3 a4 a5 a6 a7 a8 a9:Prop):Prop
 |mk (h0:a0) (h1:a1) (h2:a2) (h3:a3) (h4:a4) (h5:a5) (h6:a6) (h7:a7) (h8:a8) (h9:a9):sD a0 a1 a2 a3 a4 a5 a6 a7 a8 a9
inductive pH(a0 a1 a2 a3 a4 a5 a6 a7 a8 a9 Gw Gx:Prop):Prop
 |mk (h0:a0) (h1:a1) (h2:a2) (h3:a3) (h4:a4) (h5:a5) (h6:a6) (h7:a7) (h8:a8) (h9:a9) (KZ:Gw) (K0:Gx):pH a0 a1 a2 a3 a4 a5 a6 a7 a8 a9 Gw Gx
end BB
namespace L2
open PySem PySem.Spec PyProof.Rows
end L2
namespace BB
open PySem L2
section
variable{d:Nat}{rows:List (List Th)}
end
end BB
namespace L2
open PySem PySem.Spec PyProof.Rows
open PySem.Calls PySem.W
theorem eR{L e:Ls}{cls a0 fl:Lu}{Q:Unit->Lw->Prop}
 (zG:A.frames=A? (env::outer)) (hf:env.frame=A? L) (CD:base.StaysIn s.1) (yD:base.get? e=Ak) (hl:s.1.FunFrames base (env::outer)) (ht:s.1.TracedAtW base e cls a0 fl)
 (hQ:∀h',Heap.FlyingW base outer e cls a0 h'->s.1.UpToSlots h'->Q () {s with heap:=h'}):LG M A (leaving env (.ref e)) Q E s:=by
 by_cases CF:fl=Nz L
 .subst CF;unfold leaving;refine Lr (wpAny_noteFrame_againW hf ht ?_);refine wpAny_landsW (base:=base) (l:=env::outer) (cls:=cls) (a0:=a0) (L:=L) ⟨CD,yD,hl,ht⟩ λh' CF up=>?_;obtain⟨k1,k2,⟨_,_,k3⟩,k4⟩:=CF;exact hQ h' ⟨k1,k2,k3,k4⟩ up
 .obtain⟨oe,vs,T,oT,ts,he,⟨wa,h0⟩,hd,h1,zO,Au,hT,xW,h3⟩:=ht;subst wa;unfold leaving PU;simp only[hf];refine Lr (Lr (MV he hd h1 ?_));rw[Sa (show(Mb T != MH)=AG from by simp)];refine Lr (MV hT xW h3 ?_);rw[Ra (show¬((fl == Nz L)=AG)fromλz=>CF (beq_iff_eq.mp z))];refine Lr (N6 hT xW (M1.mp h3).1 ?_);have other:∀b,b≠T->(s.1.update T (PM (·.setIfInBounds 3 MH))).get? b=s.1.get? b:=λb hb=>MD _ _ (MY hb)
  have uW:∀b o,s.1.get? b=A? o->(∀vs,o.data≠.fields vs)->b≠T:=λb o hb wD q=>by
   rw[q,hT]at hb;injection hb with hb;subst hb;exact wD ts xW
  refine wpAny_newEntryW zG (hl.of_keeps λb o hb wD=>⟨o,(other b (uW b o hb wD)).trans hb,rfl⟩) hf ((other e (MY Au)).trans he)
   (λb o zP=>(other b λq=>by rw[q,zO]at zP;cases zP).trans (CD b o zP)) yD hd (M1.mp h1).1 h0
   λh'⟨x1,⟨_,_,x2⟩,x3,x4⟩=>hQ h' ⟨x1,yD,x2,x3⟩ λb o hb wD=>x4 b o ((other b (uW b o hb wD)).trans hb) wD
theorem iw{xG:String}{vi:OJ}{l:List OJ}{e:Ls}{cls a0 fl:Lu}{Q:α->Lw->Prop}
 (CD:base.StaysIn s.1) (hl:s.1.FunFrames base l) (ht:s.1.TracedAtW base e cls a0 fl)
 (h:∀h' Gy,base.StaysIn h'->h'.FunFrames base l->h'.TracedAtW base e cls a0 Gy->s.1.UpToSlots h'->E (.ref e) {s with heap:=h'}):LG M A (PySem.passOn xG (.ref e) vi:Sem α) Q E s:=by
 obtain⟨oe,vs,T,oT,ts,he,wa,hd,h1,zO,Au,hT,xW,h3⟩:=ht;have Bt:3<ts.size:=(M1.mp h3).1
 have other:∀b,b≠T->(s.1.update T (PM (·.setIfInBounds 3 (vi.frame.elim MH λf=>Nz f)))).get? b=s.1.get? b :=
  λb hb=>MD _ _ (MY hb)
 have uW:∀b o,s.1.get? b=A? o->(∀vs,o.data≠.fields vs)->b≠T:=λb o hb wD q=>by
  rw[q,hT]at hb;injection hb with hb;subst hb;exact wD ts xW
 unfold PySem.passOn;refine Lr (MV he hd h1 ?_);rw[Ra (show¬((Mb T == MH)=AG)from by simp)];refine Lr ?_;unfold setFlight;refine Lr (MV he hd h1 ?_);rw[Sa (show(Mb T != MH)=AG from by simp)]
 refine N6 hT xW Bt (wpAny_throw (h _ (vi.frame.elim MH λf=>Nz f) (λb o zP=>(other b λq=>by rw[q,zO]at zP;cases zP).trans (CD b o zP))
  (hl.of_keeps λb o hb wD=>⟨o,(other b (uW b o hb wD)).trans hb,rfl⟩) ?_ λb o hb wD=>⟨o.slots,(other b (uW b o hb wD)).trans hb⟩))
 exact⟨oe,vs,T,_,_,(other e (MY Au)).trans he,wa,hd,h1,zO,Au,MG _ hT (OI (M9 xW _)),M9 xW _,by simp[Bt]⟩
theorem funFrames_base{w9:Ml}(k:∀b o,w9.get? b=A? o->base.get? b=A? o):∀{l:List OJ},h.FunFrames base l->h.FunFrames w9 l
 | [],_=>trivial
 | env::_,⟨hk,⟨L,o,hf,hn,ho,hd⟩,hr⟩ =>
   have zm:w9.get? L=none:=by
    cases z:w9.get? L with
    |none=>rfl
    |some o'=>rw[k L o' z]at hn;cases hn
   ⟨hk,⟨L,o,hf,zm,ho,hd⟩,funFrames_base k hr⟩
theorem qt{fs:List Ls}{h2:Ml}{l:List Ls}{B:Ml}(u1:Un fs [] H H1 h h1)(u2:Un l [] H1 H' h1 h2)(hl:∀b o,h.get? b=A? o->b∈l->b∈fs)
 (b1:∀b o o1,h.get? b=A? o->h1.get? b=A? o1->b∉l->∃o',B.get? b=A? o'/\(H1 b=Ak->o'=o1)) (st:B.StaysIn h') (up:∀b o o2,h.get? b=A? o->h2.get? b=A? o2->(∀vs,o2.data≠.fields vs)->∃sl,h'.get? b=A? {o2 with slots:=sl})
 (hf:∀b∈fs,H b=Ak/\∃o,h.get? b=A? o/\∀vs,o.data≠.fields vs) :
 Un fs [] H H' h h'/\∀b o,h.get? b=A? o->b∉fs->∃o',B.get? b=A? o'/\(H b=Ak->o'=o):=by
 have nx:∀b:Ls,b∉([]:List Ls):=λb=>by simp
 have bb:∀b o,h.get? b=A? o->b∉fs->∃o',B.get? b=A? o'/\(H b=Ak->o'=o):=λb o q nf=>by
  obtain⟨o1,e1⟩:=u1.there b o q (nx b);obtain⟨o',e',g⟩:=b1 b o o1 q e1 λz=>nf (hl b o q z);refine⟨o',e',λn=>?_⟩;have:=u1.keep b o q n nf (nx b);rw[e1]at this;cases this;exact g (u1.free b _ q n (nx b))
 have sl:∀b o,h.get? b=A? o->H b=Ak->b∈fs->∃sl,h'.get? b=A? {o with slots:=sl}:=λb o q n m=>by
  obtain⟨s1,e1⟩:=u1.slot b o q n m (nx b);obtain⟨s2,e2⟩:=u2.any e1 (u1.free b o q n (nx b)) (nx b);obtain⟨_,o0,q0,nf⟩:=hf b m;rw[q]at q0;cases q0;obtain⟨s3,e3⟩:=up b o _ q e2 nf;exact⟨s3,e3⟩
 refine⟨⟨λb o q n nf _=>?_,λb o q n m _=>sl b o q n m,λb o q n _=>?_,λb o q _=>?_,λb xs q=>u2.tups b xs (u1.tups b xs q),λb o u q=>u2.frzs b o u (u1.frzs b o u q),λb ps q=>?_⟩,bb⟩
 .obtain⟨o',e',g⟩:=bb b o q nf;rw[<-g n];exact st b o' e'
 .obtain⟨o1,e1⟩:=u1.there b o q (nx b);exact u2.free b o1 e1 (u1.free b o q n (nx b)) (nx b)
 .by_cases m:b∈fs
  .obtain⟨n,_⟩:=hf b m;obtain⟨s3,e3⟩:=sl b o q n m;exact⟨_,e3⟩
  .obtain⟨o',e',_⟩:=bb b o q m;exact⟨o',st b o' e'⟩
 .obtain⟨m1,e1⟩:=u1.tbls b ps q;obtain⟨m2,e2⟩:=u2.tbls b _ e1;exact⟨m1++m2,by rw[e2,OP]⟩
theorem pY{m:LL->Option Lu}(n:h.Ns a m):∃o,h.get? a=A? o/\∀vs,o.data≠.fields vs:=by
 obtain⟨o,es,ep,ho,hd,_⟩:=n;exact⟨o,ho,λvs z=>by rw[hd]at z;cases z⟩
theorem gq{e:Lu}{Bu:OJ}(h:env.frame=Bu.frame):PU e env=PU e Bu:=by
 unfold PU PySem.frameOf;rw[h]
section
variable{Ej:List LL}{s₀:Lw}{H₀:Hp}{E:XK}
def cF(X:Cx)(E:XK)(N:List LL)(sc:MS)(cl:List (LL×Ls))(C:Ls)(s:Lw)(H:Hp)(fp:List Ls)(Z:List (Ls×M4)):Cx :=
 {aE X N sc cl C s H fp Z with xe:=λe s'=>∃uM uS H1 s1,Inv (aE X N sc cl C s H fp Z) uM uS H1 s1/\CX1 X.prog X.w X.stack H1 s1 E e s'}
theorem Inv.toX{X:Cx}{uS:St}(I:Inv (aE X N sc cl C s H fp Z) uM uS H1 s1):Inv (cF X E N sc cl C s H fp Z) uM uS H1 s1 :=
 ⟨⟨I.ok.mod,I.ok.kind,I.ok.glob,I.ok.blt,I.ok.above,I.ok.inj,I.ok.has,I.ok.cab,I.ok.hd,I.ok.frames,I.ok.stk,I.ok.exf,I.ok.bs,I.ok.bsz,I.ok.noex,I.ok.exfs,I.ok.funs,I.ok.frf⟩,I.os,I.bare,I.base,I.loc,I.cell,I.free,I.freeC,I.pin,I.hok,I.len⟩
theorem Inv.ofX{X:Cx}{uS:St}(I:Inv (cF X E N sc cl C s H fp Z) uM uS H1 s1):Inv (aE X N sc cl C s H fp Z) uM uS H1 s1 :=
 ⟨⟨I.ok.mod,I.ok.kind,I.ok.glob,I.ok.blt,I.ok.above,I.ok.inj,I.ok.has,I.ok.cab,I.ok.hd,I.ok.frames,I.ok.stk,I.ok.exf,I.ok.bs,I.ok.bsz,I.ok.noex,I.ok.exfs,I.ok.funs,I.ok.frf⟩,I.os,I.bare,I.base,I.loc,I.cell,I.free,I.freeC,I.pin,I.hok,I.len⟩
theorem qH{X:Cx}:Passes (CX1 X.prog X.w) (cF X E N sc cl C s H fp Z) E :=
 λuM uS H1 s1 e s2 I h=>⟨uM,uS,H1,s1,I.ofX,h⟩
end
section
variable{X:Cx}
theorem lv{XE:Lu->Lw->Prop}{target:Mv}{it:Lu}(J:Nat->Lw->Prop)
 (turn:∀n s,J n s->LG (LN prog w) A (OC it) (λr uD=>(r=Ak/\R (.ok .next) uD)\/∃v,r=A? v /\
  LG (LN prog w) A (OU target it v) (λ_ vd=>LG (LN prog w) A (assign target env v) (λ_ vq =>
   LG (LN prog w) A (forIn ifs AG λc r=>if r=AG then do let ok <-isTrue c env (Nd c env);pure (M3 ok)else pure (M3 r)) (λok vF =>
    (ok=AH/\∃m,m<n/\J m vF)\/(ok=AG/\LG (LN prog w) A (Nd elt env) (λx xP=>LG (LN prog w) A (call (.builtin "list.append") [acc,x]) (λ_ xQ=>∃m,m<n/\J m xQ) (λ_ _=>False) xP) XE vF))
    (λ_ _=>False) vq) (λ_ _=>False) vd) (λ_ _=>False) uD) (λ_ _=>False) s)
 (IZ:∀e s',XE e s'->notedBy (LN prog w) A env (λe s'=>R (.error e) s') e s') (n:Nat) (h:J n s):NC (LN prog w) A (.compLoop (.ListComp elt [⟨target,iter,ifs,0⟩] scope pos) 0 it acc env) R s:=by
 refine codeAny_loop rfl J (λn s hJ=>?_) n h;show LG _ A ((compTurn (.ListComp elt [⟨target,iter,ifs,0⟩] scope pos) 0 it acc env).onRaise _) _ _ s;refine wpAny_noted ?_;rw[compTurn_list];have up:∀{α:Type}{m:Sem α}{Q:α->Lw->Prop}{E:Lu->Lw->Prop}{s:Lw},LG (LN prog w) A m Q (λ_ _=>False) s->LG (LN prog w) A m Q E s:=λq=>Mq q (λ_ _ z=>z) λ_ _ z=>z.elim;refine Lr (wpAny_standAt (Lr (Mq (up (turn n s hJ)) (λr uD uK=>?_) λ_ _ z=>z)));rcases uK with⟨rfl,uK⟩|⟨v,rfl,uK⟩
 .exact Lz uK
 .refine Lr (Mq (up uK) (λ_ vd wQ=>?_) λ_ _ z=>z);refine Lr (Mq (up wQ) (λ_ vq xR=>?_) λ_ _ z=>z);refine Lr (Mq (up xR) (λok vF vG=>?_) λ_ _ z=>z);rcases vG with⟨rfl,vG⟩|⟨rfl,vG⟩
  .exact Lz ⟨rfl,vG⟩
  .exact Lr (Lr (Mq vG (λx xP zy=>Lr (Mq (up zy) (λ_ xQ zz=>Lz (Lz ⟨rfl,zz⟩)) λ_ _ z=>z)) λe s' z=>IZ e s' z))
theorem kc{g:TG}{tn:Nat->Ml->Prop}{W:Nat->Hp->Prop}{fin:Hp->Prop}
 {E0:XK} {R:Lu->Ls->PH->Lw->Prop} (hc:X.calm=AG) (S:bR X sc N js) (I:Inv X Z Y H s) (T:Turn X.prog X.w X.K tg J fp it tn) (st:tn 0 s.1) (hf:∀b∈fp,dB X Z H b)
 (vo:∀x c,cl.lookup x=A? c->X.env.cells.lookup x=A? c) (xm:∀n,(n,Mz)∈sc.names->∃c,cl.lookup n=A? c)
 (hg:∀cl C s H fp Z,PG (aE X N sc cl C s H fp Z) tg g) (gk:iB js g) (ht:∀cl C s H fp Z,PTs (aE X N sc cl C s H fp Z) ifs tt) (he:∀cl C s H fp Z,PE (cF X E0 N sc cl C s H fp Z) elt te)
 (w0:W 0 (upd H s.1.1.size (.lst []))) (turn:hI js g tt te Y J s.1.1.size n W fin)
 (hR:∀C H' s',C≠X.env.locals->s.1.1.size<C->(∃m,s'.1.Ns C m)->H' C=Ak->(∀h' t',MQ C s'.1 h'->Inv X Z Y H' {s' with heap:=h',toks:=t'})->fin H'->R (.ref s.1.1.size) C (.ok .next) s')
 (hX:∀s3 H3,Inv X Z Y H3 s3->(∀b∈fp,dB X Z H3 b)->∀e s',(cF X E0 N sc cl s3.1.1.size s3 H3 fp Z).xe e s'->notedBy (LN X.prog X.w) X.A (compEnvC sc cl s3.1.1.size X.env) (λe s'=>R (.ref s.1.1.size) s3.1.1.size (.error e) s') e s') :
 LG (LN X.prog X.w) X.A (newList []) (λacc vq=>LG (LN X.prog X.w) X.A (Qj sc X.env.globals cl [] X.env.qual Ak .none (A? X.env)) (λvi vF =>
  NC (LN X.prog X.w) X.A (.compStart (.ListComp elt [⟨tg,iter,ifs,0⟩] sc pos) 0 (.ref it) acc {vi with scope:=relabel sc X.env}) (R acc vi.locals) vF) E vq) E s:=by
 refine Mm (wpAny_newFunctionEnv S.nocell (by intro y hy;simp at hy) (λuK u4 u5=>?_) S.kind);dsimp only at u4 u5 |-;have I3:Inv X Z Y (upd H s.1.1.size (.lst [])) {s with heap:=s.1.push {cls:=.type "list",dict:=Ak,data:=.seq ([]:List Lu).toArray}}:=I.lnew (t':=s.toks) (its:=[]) .nil (by decide)
 have uN:∀b∈fp,b<s.1.1.size:=λb hb=>by
  obtain⟨o,ho,_⟩:=T.obj _ _ st b hb;exact LJ ho
 have wo:∀b o,s.1.get? b=A? o->(s.1.push {cls:=.type "list",dict:=Ak,data:=.seq ([]:List Lu).toArray}).get? b=A? o:=λb o e=>LB _ e;have hsz:(s.1.push {cls:=.type "list",dict:=Ak,data:=.seq ([]:List Lu).toArray}).objs.size=s.1.1.size+1:=N9 ..;generalize AV:({s with heap:=s.1.push {cls:=.type "list",dict:=Ak,data:=.seq ([]:List Lu).toArray}}:Lw)=s3 at I3;have xS:s.1.push {cls:=.type "list",dict:=Ak,data:=.seq ([]:List Lu).toArray}=s3.1:=by rw[<-AV]
 rw[xS]at u4 u5 wo hsz;rw[xS];have Dr:∀t',({s with heap:=uK,toks:=t'}:Lw)={s3 with heap:=uK,toks:=t'}:=λt'=>by rw[<-AV]
 rw[Dr];have wb:∀b o,s3.1.get? b=A? o->uK.get? b=A? o:=λb o e=>u5.extBut b o (Mc (LJ e)) (LB _ e);have yo:∀b∈fp,dB X Z (upd H s.1.1.size (.lst [])) b:=λb hb=>⟨by rw[ai (Mc (uN b hb))];exact(hf b hb).1,(hf b hb).2⟩;have I4:=kr (t':=s.toks+([]:List (LL×Lu)).length) S I3 vo xm yo (λb hb=>by rw[hsz];exact OY (uN b hb)) u4 wb;generalize Ia:upd H s.1.1.size (.lst [])=H3 at I3 I4 yo w0;have uY:tn 0 uK:=T.keep _ _ _ st λb hb o e=>wb _ _ (wo _ _ e)
 have vC:∀{H':Hp},(∀b∈fp,H' b=Ak)->∀b∈fp,dB (aE X N sc cl s3.1.1.size s3 H3 fp Z) [] H' b:=λ{H'}hn b hb=>by
  obtain⟨f0,f1,f2,f3,f4,f5⟩:=hf b hb;refine⟨hn b hb,λe=>?_,λhm=>?_,.inl hb,λx c e=>f4 x c (vo x c e),λp hp=>f5 p (by simpa[aE]using hp)⟩
  .have e':b=s3.1.1.size:=e;have h9:b<s.1.1.size:=uN b hb;rw[e',hsz]at h9;exact Wa h9 (Nat.not_lt.mpr (Nat.le_succ _))
  .rcases LW.mp (I.stkSub b hm)with e|e
   .exact f1 e
   .exact f2 e
 have loop:NC (LN X.prog X.w) X.A (.compLoop (.ListComp elt [⟨tg,iter,ifs,0⟩] sc pos) 0 (.ref it) (.ref s.1.1.size) (compEnvC sc cl s3.1.1.size X.env)) (R (.ref s.1.1.size) s3.1.1.size)
  {s3 with heap:=uK,toks:=s.toks+([]:List (LL×Lu)).length}:=by
  refine lv (XE:=(cF X E0 N sc cl s3.1.1.size s3 H3 fp Z).xe) (λk s'=>∃i H',Inv (aE X N sc cl s3.1.1.size s3 H3 fp Z) [] (cσ js Y) H' s'/\tn i s'.1/\(∀b∈fp,H' b=Ak)/\W i H'/\k=n - i) ?_ (λe s' z=>hX s3 H3 I3 yo e s' z) n ⟨0,H3,I4,uY,λb hb=>(yo b hb).1,w0,rfl⟩;rintro k s5 ⟨i,H5,I5,xJ,zr,w5,rfl⟩;rcases turn i H5 w5 with⟨stop,qn⟩|⟨xx,go,step⟩
  .refine thn (T.done (aE X N sc cl s3.1.1.size s3 H3 fp Z) rfl rfl rfl hc i [] s5 (cσ js Y) H5 _ I5 (vC zr) xJ stop) λr s6⟨hr,I6⟩=>.inl ⟨hr,?_⟩;have I7:Inv X Z Y H5 s6:=I3.call' (ch:=fp) (I6.os.trans rfl) I6.base I6.hok I6.bare λb hb=>⟨(hf b hb).2.2.2.1,(hf b hb).2.1,(hf b hb).2.2.2.2.1,(hf b hb).2.2.2.2.2⟩;have AW:H5 s3.1.1.size=none:=I6.free;have AX:s3.1.1.size≠X.env.locals:=Pq I3.lt;obtain⟨m6,Ds,_⟩:=I6.loc;refine hR s3.1.1.size H5 s6 AX (by lia) ⟨m6,Ds⟩ AW (λh' t' sb=>?_) qn;refine I7.turned (it:=s3.1.1.size) (λb o hb e=>sb.extBut b o hb e) AW AX (.inr I3.sz) (λx c e z=>?_) λp hp z=>?_
   .obtain⟨v,q⟩:=I3.cell x c e;exact Wa q.lt (by rw[z];exact Me _)
   .exact Wa (LJ (I3.pin p hp).1) (by rw[z];exact Me _)
  .refine thn (T.item (aE X N sc cl s3.1.1.size s3 H3 fp Z) rfl rfl rfl hc i [] s5 (cσ js Y) H5 _ I5 (vC zr) xJ go) λr s6⟨u,hr,h6⟩=>.inr ⟨u,hr,?_⟩;refine thn h6 λ_ s7⟨x,H7,I7,r7,y7,zA,Dt⟩=>?_;have Du:=I7.pinned (vC Dt) (T.obj _ _ zA);refine thn (hg cl s3.1.1.size s3 H3 fp Z _ s7 (cσ js Y) H7 x u _ Du r7 (gk Y (cσ js Y) x H7 _ (.refl _) (step x H7 y7))) λ_ s8⟨wR,H8,I8,k8,q8⟩=>?_;refine thn (ht cl s3.1.1.size s3 H3 fp Z _ s8 wR H8 _ I8 q8) λok s9⟨H9,I9,q9⟩=>?_
   have again:∀{s':Lw}{uE:St}{H':Hp},Keep (cσ js Y) uE->Inv (aE X N sc cl s3.1.1.size s3 H3 fp Z) ([]++fO fp s7.1) uE H' s'->W (i+1) H'->∃m,m<n - i/\∃i H',Inv (aE X N sc cl s3.1.1.size s3 H3 fp Z) [] (cσ js Y) H' s'/\tn i s'.1/\(∀b∈fp,H' b=Ak)/\W i H'/\m=n - i:=λ{s' uE H'}kp I' w'=>by
    refine⟨n - (i+1),by lia,i+1,H',(I'.unpinned).weak kp.1 kp.2,T.keep _ _ _ zA λb hb o e=>(I'.pin (b,o) (LV _ (LV _ (bP hb e)))).1,λb hb=>?_,w',B?⟩;obtain⟨o,e,d⟩:=T.obj _ _ zA b hb;exact(I'.pin (b,o) (LV _ (LV _ (bP hb e)))).2.1
   cases ok with
   | false =>
     refine .inl ⟨rfl,again k8 I9 ?_⟩;have AY:if AH=AG then _ else W (i+1) H9:=q9
     rw[Ra LO]at AY;exact AY
   | true =>
     refine .inr ⟨rfl,?_⟩;rw[Sa rfl]at q9;refine Mq (he cl s3.1.1.size s3 H3 fp Z _ s9 wR H9 _ I9.toX q9) (λvv Dw⟨v,Dx,Ek,rv,ys,hD,Dz,DA⟩=>?_) λ_ _ z=>z;have Dy:=Ek.ofX;refine thn (aV _ Dw wR Dx (.ref s.1.1.size) [v] (.ref s.1.1.size) [vv] (λ_ H'=>W (i+1) H') Dy rfl (.cons rv .nil) ⟨_,ys,v,rfl,rfl,hD,Dz,DA⟩) λ_ Ib⟨_,Ic,DB,_,DC⟩=>?_;exact again k8 DB DC
 exact codeAny_compStart_list loop (T.self X.A 0 _ _ _ uY loop)
end
section
variable{Ej:List LL}{s₀:Lw}{H₀:Hp}{E:XK}
end
structure Lv(X:Cx)(E:XK):Prop where
 fr:X.env.frame=A? X.s₀.heap.1.size
 stk:X.stack=X.env::X.outer
 calm:X.calm=AG
 ex:X.ex=[]
 xe:∀e s2,LG (LN X.prog X.w) X.A (leaving X.env e) (λ_ xi=>CX1 X.prog X.w X.outer X.H₀ X.s₀ E e xi) (λe' xi=>CX1 X.prog X.w X.outer X.H₀ X.s₀ E e' xi) s2->X.xe e s2
theorem lv1{E:XK}:Lv (gv (CX1 P w) P w K mg base N qual scope f cd A outer s H E) E:=⟨rfl,rfl,rfl,rfl,λ_ _ h=>h⟩
section
variable{X:Cx}{E:XK}
theorem lZ(L:Lv X E):Passes (CX1 X.prog X.w) X E:=by
 intro Z Y H1 s1 e s2 I h;obtain⟨ea,C,a0,B,H',rfl,vD,vf,un,hok,vS,b1,b2,q⟩:=h;rw[L.stk]at un vS b1;refine L.xe _ _ ?_;refine wpAny_leaves_onW (outer:=X.outer) (E:=λe' xi=>CX1 X.prog X.w X.outer X.H₀ X.s₀ E e' xi) (I.ok.frames.trans (by rw[L.stk])) L.fr vS λh' zQ up=>?_
 obtain⟨U,zF⟩:=kO (fs:=frs X.outer) (H:=X.H₀) (h:=X.s₀.heap) (l:=frs (X.env::X.outer)) (B:=B) (h':=h') (by have:=I.base;rw[L.ex]at this;exact this) un (λb o hb z=>by
  rw[jx L.fr]at z;rcases LW.mp z with rfl|z
  .exact Wa (LJ hb) (Me _)
  .exact z) b1 zQ.1 up (λb hb=>⟨I.ok.frf b hb,(I.ok.funs.mem hb).2⟩)
 exact⟨ea,C,a0,B,H',B?,vD.trans I.os,vf,U,gx hok vS.1 zQ.1 b2,zQ,zF,b2,q⟩
theorem lH(L:Lv X E){s3:Lw}{e:Lu}{s2:Lw}{use:Option (Lu->Sem Unit)}
 (I3:Inv X Z Y H3 s3)
 (hf:∀b∈fp,dB X Z H3 b)
 (h:(cF X E N sc cl s3.1.1.size s3 H3 fp Z).xe e s2) :
 notedBy (LN X.prog X.w) X.A (compEnvC sc cl s3.1.1.size X.env)
  (λe s'=>compPost (LN X.prog X.w) X.A X.xe use Q acc s3.1.1.size (.error e) s') e s2:=by
 obtain⟨uM,uS,H1,s1,I1,ea,C0,a0,B,H',rfl,vD,vf,un,hok,vS,b1,b2,q⟩:=h;have un:Un (frs (X.env::X.outer)) [] H1 H' s1.1 s2.1:=by rw[<-L.stk];exact un
 have vS:Heap.FlyingW B (X.env::X.outer) ea (.ref C0) a0 s2.1:=by rw[<-L.stk];exact vS
 have b1:∀b o,s1.1.get? b=A? o->b∉frs (X.env::X.outer)->∃o',B.get? b=A? o'/\(H1 b=Ak->o'=o):=by rw[<-L.stk];exact b1
 have I7:Inv X Z Y H1 s1:=I3.call' (ch:=fp) (I1.os.trans rfl) I1.base I1.hok I1.bare λb hb=>⟨(hf b hb).2.2.2.1,(hf b hb).2.1,(hf b hb).2.2.2.2.1,(hf b hb).2.2.2.2.2⟩;have Gz:H1 s3.1.1.size=none:=I1.free;obtain⟨m1,CH,_⟩:=I1.loc;have CH:s1.1.Ns s3.1.1.size m1:=CH;obtain⟨oC,El,GA⟩:=pY CH
 have GC:s3.1.1.size∉frs (X.env::X.outer):=λz=>by
  have:=(I3.stack.mem (by rw[L.stk];exact z)).2;obtain⟨o,ho,_⟩:=this;exact Wa (LJ ho) (Me _)
 have I0:s2.1.get? s3.1.1.size=A? oC:=un.keep _ _ El Gz GC (by simp);have Ja:H' s3.1.1.size=none:=un.free _ _ El Gz (by simp);show LG _ _ (PU (.ref ea) _) _ _ s2;rw[show PU (.ref ea) (compEnvC sc cl s3.1.1.size X.env)=PU (.ref ea) X.env from gq rfl];refine wpAny_looks_onW (outer:=X.outer) (L:=X.s₀.heap.1.size) (I3.ok.frames.trans (by rw[L.stk])) L.fr vS λh3 held GD=>?_;obtain⟨Jb,GF⟩:=GD _ _ I0 GA;obtain⟨o0,es,ep,GG,yq,r0⟩:=CH;have Em:h3.Ns s3.1.1.size m1:=⟨{oC with slots:=Jb},es,ep,GF,by rw[El]at GG;cases GG;exact yq,r0⟩
 have post:∃m,h3.Ns s3.1.1.size m/\∀h',MQ s3.1.1.size h3 h'->∀vi:OJ,vi.locals=s3.1.1.size->LG (LN X.prog X.w) X.A (PySem.passOn "comprehension.variables-let-go" (.ref ea) vi:Sem Lu) (λ_ _=>False) X.xe {s2 with heap:=h'}:=by
  refine⟨m1,Em,λh4 sb vi vo=>?_⟩;obtain⟨k1,k2,k3,k4⟩:=held;have hB:∀b o,(Ou B [s3.1.1.size]).get? b=A? o->B.get? b=A? o:=λb o z=>of_hideAll _ z
  have Jc:∀b o,(Ou B [s3.1.1.size]).get? b=A? o->b≠s3.1.1.size:=λb o z e=>by
   rw[e,hideAll_none _ (LM.mpr rfl)]at z;cases z
  have Bv:∀b o,h3.get? b=A? o->b≠s3.1.1.size->h4.get? b=A? o:=λb o e n=>(sb.2 b n).trans e;have Jd:(Ou B [s3.1.1.size]).StaysIn h4:=λb o z=>Bv b o (k1 b o (hB b o z)) (Jc b o z)
  have zk:∀b o vs,h3.get? b=A? o->o.data=.fields vs->b≠s3.1.1.size:=λb o vs e d z=>by
   rw[z,GF]at e;cases e;exact GA vs d
  have Je:h4.TracedAtW (Ou B [s3.1.1.size]) ea (.ref C0) a0 (Nz X.s₀.heap.1.size):=by
   obtain⟨oe,vs,T,oT,ts,he,wa,hd,h1,zO,Au,hT,xW,Jf⟩:=k4;refine⟨oe,vs,T,oT,ts,Bv _ _ he (zk _ _ _ he hd),wa,hd,h1,?_,Au,Bv _ _ hT (zk _ _ _ hT xW),xW,Jf⟩;cases z:(Ou B [s3.1.1.size]).get? T with
   |none=>rfl
   |some o'=>rw[hB _ _ z]at zO;cases zO
  have Jg:h4.FunFrames (Ou B [s3.1.1.size]) (X.env::X.outer):=by
   refine funFrames_base hB ?_
   have:∀{l:List OJ},(∀env∈l,∀a,env.frame=A? a->a≠s3.1.1.size)->h3.FunFrames B l->h4.FunFrames B l:=λ{l}hl hh=>by
    induction l with
    |nil=>trivial
    | cons env l ih =>
      obtain⟨hk,⟨L,o,hf,hn,ho,hd⟩,hr⟩:=hh;exact⟨hk,⟨L,o,hf,hn,Bv _ _ ho (hl env (L5 ..) L hf),hd⟩,ih (λe he=>hl e (LS _ he)) hr⟩
   exact this (λenv he a ha z=>GC (by rw[<-z];exact Of.mpr ⟨env,he,ha⟩)) k3
  refine iw (s:={s2 with heap:=h4}) Jd Jg Je λh5 Gy xJ Jh Ji DJ=>?_
  have yD:(Ou B [s3.1.1.size]).get? ea=none:=by
   cases z:(Ou B [s3.1.1.size]).get? ea with
   |none=>rfl
   |some o'=>rw[hB _ _ z]at k2;cases k2
  refine L.xe _ _ ?_;refine eR (s:={s2 with heap:=h5}) (outer:=X.outer) (L:=X.s₀.heap.1.size) (I3.ok.frames.trans (by rw[L.stk])) L.fr xJ yD Jh Ji λh6 vI DK=>?_
  have hold:∀b o,X.s₀.heap.get? b=A? o->b≠s3.1.1.size:=λb o e z=>by
   obtain⟨o',e'⟩:=I3.base.there b o e (by rw[L.ex];simp);exact Wa (LJ e') (by rw[z];exact Me _)
  obtain⟨U,zF⟩:=qt (fs:=frs X.outer) (H:=X.H₀) (h:=X.s₀.heap) (l:=frs (X.env::X.outer)) (B:=Ou B [s3.1.1.size]) (h':=h6) (by have:=I7.base;rw[L.ex]at this;exact this) un (λb o hb z=>by
   rw[jx (L:=X.s₀.heap.1.size) L.fr]at z;rcases LW.mp z with rfl|z
   .exact Wa (LJ hb) (Me _)
   .exact z) (λb o o1 hb h1 nl=>by
    obtain⟨o',e',g⟩:=b1 b o1 h1 nl;exact⟨o',hideAll_get _ e' λz=>hold b o hb (LM.mp z),g⟩) vI.1 (λb o o2 hb h2 nf=>by
    obtain⟨K1,e3⟩:=GD b o2 h2 nf;obtain⟨K2,e5⟩:=DJ b _ (Bv _ _ e3 (hold b o hb)) nf;obtain⟨Jj,e6⟩:=DK b _ e5 nf;exact⟨Jj,e6⟩) (λb hb=>⟨I3.ok.frf b hb,(I3.ok.funs.mem hb).2⟩)
  have xb:∀b u,H' b=A? u->∃o',(Ou B [s3.1.1.size]).get? b=A? o':=λb u e=>by
   obtain⟨o',e'⟩:=b2 b u e;exact⟨o',hideAll_get _ e' λz=>by rw[LM.mp z,Ja]at e;cases e⟩
  exact⟨ea,C0,a0,Ou B [s3.1.1.size],H',B?,vD.trans I7.os,vf,U,gx hok (λb o z=>vS.1 b o (hB b o z)) vI.1 xb,vI,zF,xb,q⟩
 cases use <;> exact post
theorem jW(L:Lv X E){g:TG}(S:bR X sc N js)(hi:PI X tg iter wi)
 (hg:∀cl C s H fp Z,PG (aE X N sc cl C s H fp Z) tg g) (gk:iB js g) (ht:∀cl C s H fp Z,PTs (aE X N sc cl C s H fp Z) ifs tt) (he:∀cl C s H fp Z,PE (cF X E N sc cl C s H fp Z) elt te)
 (hs:∀x,Pr iter X.env x=pure x:=by intro _;rfl):PE X (.ListComp elt [⟨tg,iter,ifs,0⟩] sc pos) (og js wi g tt te):=by
 intro Z s Y H Q I h;obtain⟨cl,e1,e2,e3⟩:=eE (env:=X.env) (sc:=sc) λn hn=>I.ok.has n (S.frees _ hn rfl);rw[eval_ListComp];refine PB (use:=Ak) rfl hs e1 S.kind S.names (thn (hi Z s Y H _ I h) λv s1 h1=>thn h1 λAM s2 h2=>?_);obtain⟨it,fp,tn,J,H2,rfl,I2,T,zp,f2,R2⟩:=h2;obtain⟨n,W,w0,turn⟩:=R2 s2.1.1.size I2.fresh;refine kc (R:=λacc C=>compPost (LN X.prog X.w) X.A X.xe Ak (EP X Z Y Q) acc C) L.calm S I2 T zp f2 e2 e3 hg gk ht he w0 turn (λC H' s' _ _ hn _ inv fi=>?_) λs3 H3 I3 yo e s' z=>lH L I3 yo z;obtain⟨m,hm⟩:=hn;exact⟨m,hm,λh' sb=>⟨.ref s2.1.1.size,H',inv h' s'.toks sb,B?,fi⟩⟩
end
def exN(S:List Ls)(H:Hp)(E:XK):XK:=λc v H'=>(∀b∈S,H' b=Ak)->E c v (rst S H H')
def qa(P:LF)(w:LQ)(K:Ly)(mg:LL->Option Lu)(base:Ml)(N:List LL)(qual:LL)(scope:MS)(f:Ls)(cd:Lu)(y:LL)(cl:List (LL×Ls))(A:LU)(outer:List OJ)(s:Lw)(H:Hp)(E:XK):Cx :=
 { cxN P w K mg base N qual scope f cd y cl A outer s H with
   xe:=λe s'=>LG (LN P w) (A.deeper (OL qual scope s.1.1.size f cd ((y,s.1.1.size+1)::cl))) (leaving (OL qual scope s.1.1.size f cd ((y,s.1.1.size+1)::cl)) e)
    (λ_ xi=>CX1 P w outer (fgt (cl.map (·.2)) H) s (exN (cl.map (·.2)) H E) e xi)
    (λe' xi=>CX1 P w outer (fgt (cl.map (·.2)) H) s (exN (cl.map (·.2)) H E) e' xi) s' }
theorem lvN{y:LL}{E:XK}:Lv (qa P w K mg base N qual scope f cd y cl A outer s H E) (exN (cl.map (·.2)) H E):=⟨rfl,rfl,rfl,rfl,λ_ _ h=>h⟩
theorem n6{k:Nat}{c':Ls}{y:LL}{fs:List LL}
 (S:iH N ps fs y cl scope) (bind:∀(doc pm xq:Lu)(us:List Lu),us.length=ps.length->Pd (PySem.W.fnX name qual params body scope cl .none .none doc pm Ak (.ref c') xq) ⟨us,[]⟩=pure (ps.zip us))
 (vM:∀vs H Q E,sp vs H Q E->vs.length=ps.length/\NestAt H f c' name qual params body scope cl/\CodeAt H c' qual/\Exts (cl.map (·.2)) H/\∀x c,cl.lookup x=A? c->∃v,CellAt H c v)
 (uR:∀(A:LU)(outer:List OJ)(s:Lw)(H:Hp)(vs:List V)(Q:VK)(E:XK),Room k (A.deeper (OL qual scope s.1.1.size f (.ref c') ((y,s.1.1.size+1)::cl)))->sp vs H Q E ->
  ∃t ws,pO H cl fs ws/\PSs (qa P w K mg base N qual scope f (.ref c') y cl A outer s H E) body t/\t {nx:=λ_ H'=>(∀b∈cl.map (·.2),H' b=Ak)->Q .non (rst (cl.map (·.2)) H H'),rt:=λv H'=>(∀b∈cl.map (·.2),H' b=Ak)->Q v (rst (cl.map (·.2)) H H')} (start N (vs++ws)) (fgt (cl.map (·.2)) H)) :
 pX P w K mg base (CX1 P w) (k+1) f sp where
 fn:=λA outer s H vs Q E e0 h=>by
  obtain⟨_,⟨φ,h1,h2⟩,_⟩:=vM _ _ _ _ h;obtain⟨doc,pm,xq,e⟩:=h2 _ (e0.hok f _ h1).1;exact⟨_,_,_,_,e⟩
 run:=λA outer s H us vs Q E hr e0 r h=>by
  obtain⟨hl,⟨φ,h1,h2⟩,⟨ψ,g1,g2⟩,hx,En⟩:=vM _ _ _ _ h;obtain⟨doc,pm,xq,ef⟩:=h2 _ (e0.hok f _ h1).1;have Jk:=g2 _ (e0.hok c' _ g1).1;have Cn:us.length=ps.length:=by rw[<-r.length];exact hl
  have Eo:∀z∈ps.zip us,scope.names.lookup z.1=A? .local:=λ⟨n,v⟩hy=>S.par n (Pw hy).1;refine codeAny_call_function hr.depth ef rfl S.co S.gen rfl Jk ?_;rw[show Pd _ _=_ from bind doc pm xq us Cn];refine Lz (fL S.kind Eo λuK vR wb=>?_);rw[S.push]at wb;have wx:∀b o,s.1.get? b=A? o->uK.get? b=A? o:=λb o e=>wb.extBut b o (Mc (LJ e)) (LB _ (LB _ e));have Ep:(s.1.push gC).objs.size=s.1.1.size+1:=N9 ..;have Er:uK.IsCell (s.1.1.size+1) none:=⟨l4,wb.extBut _ _ (Pq (Pg _)) (by rw[<-Ep];exact LH _ rfl),rfl⟩;refine⟨e0.mod.nolimit.keeps λb o e=>wx b o (e0.bs b o e).1,codeAny_func ?_⟩;show LG _ (A.deeper (newEnv scope s.1.1.size My (PV (s.1.1.size+1) scope.names cl) (qual++".<locals>.") (A? f) (.ref c') Ak builtinsNs)) _ _ _ _;rw[S.cells];obtain⟨t,ws,xn,ht,hq⟩:=uR A outer s H vs Q E (hr.deeper _) h;have yW:fs.length=ws.length:=L3 xn;have vL:ps.length+fs.length<=N.length:=by have:=Xa NU S.pre;rw[Mj,LR]at this;lia
  have vo:∀x c,cl.lookup x=A? c->c∈cl.map (·.2):=λx c e=>fT e
  have uN:∀c∈cl.map (·.2),c<s.1.1.size:=λc hc=>by
   obtain⟨zR,e⟩:=hx c hc;exact e0.hok.lt e
  have look:∀x c,((y,s.1.1.size+1)::cl).lookup x=A? c->(x=y/\c=s.1.1.size+1)\/((x == y)=AH/\cl.lookup x=A? c):=λx c e=>by
   rw[MK]at e;cases hb:x == y with
   |true=>rw[hb]at e;cases e;exact .inl ⟨beq_iff_eq.mp hb,rfl⟩
   |false=>rw[hb]at e;exact .inr ⟨rfl,e⟩
  have y8:∀x c,(x == y)=AH->cl.lookup x=A? c->((y,s.1.1.size+1)::cl).lookup x=A? c:=λx c hb e=>by
   rw[MK,hb];exact e
  have Bw:((y,s.1.1.size+1)::cl).lookup y=A? (s.1.1.size+1):=by
   rw[MK,beq_self_eq_true]
  have zS:∀x c,((y,s.1.1.size+1)::cl).lookup x=A? c->∃v,uK.IsCell c v:=λx c e=>by
   rcases look x c e with⟨_,rfl⟩|⟨_,e⟩
   .exact⟨_,Er⟩
   .obtain⟨v,hv⟩:=En x c e;obtain⟨u,_,o,ho,hd⟩:=hv.now e0.hok;exact⟨_,o,wx _ _ ho,hd⟩
  have y9:∀b,H b=Ak->fgt (cl.map (·.2)) H b=none:=λb e=>by
   by_cases hb:b∈cl.map (·.2)
   .exact eI hb
   .rw[ba hb];exact e
  have ndP:ps.Nodup:=by
   have:N.take (ps.length+fs.length)=ps++fs:=S.pre;have h2:(ps++fs).Nodup:=by rw[<-this];exact S.nd.sublist (List.take_sublist _ _)
   exact(List.nodup_append.mp h2).1
  have yE:∀(i:Nat)(x:LL),i<ps.length+fs.length->N[i]?=A? x->(ps++fs)[i]?=A? x:=λi x hi e=>by
   rw[<-S.pre,List.getElem?_take_of_lt hi];exact e
  have I:Inv (qa P w K mg base N qual scope f (.ref c') y cl A outer s H E) [] (start N (vs++ws)) (fgt (cl.map (·.2)) H) {s with heap:=uK,toks:=s.toks+(ps.zip us).length}:=by
   refine⟨⟨e0.mod,S.kind,B?,B?,LC _,λx z c e1 e2=>?_,λx hx=>?_,λx c hf e=>?_,λ_=>hr.hd,Around.frames_deeper e0.frames,.inr ⟨B?,B?⟩,λb z=>(by cases z),λb o e=>⟨(e0.bs b o e).1,?_⟩,e0.bsz,λb _ _ z=>(by cases z),λb z=>(by cases z),e0.funs,λb hb=>?_⟩,
    rfl,e0.bare,Un.kept wx,⟨_,vR,λi x v e1 e2 e3=>?_⟩,zS,?_,λx c e=>?_,λp hp=>(by cases hp),?_,?_⟩
   .rcases look x c e1 with⟨rfl,h1⟩|⟨_,h1⟩ <;> rcases look z c e2 with⟨rfl,h2⟩|⟨_,h2⟩
    .rfl
    .have:=uN c (vo _ _ h2);lia
    .have:=uN c (vo _ _ h1);lia
    .exact S.inj x z c h1 h2
   .have uT:scope.names.lookup x=A? .cell\/scope.names.lookup x=A? .free:=hx;rcases uT with z|z
    .exact⟨_,by rw[S.cel x z];exact Bw⟩
    .obtain⟨c,hc⟩:=S.has x z;exact⟨c,y8 x c (S.neq x z) hc⟩
   .have Bs:(x == y)=true:=hf;rcases look x c e with⟨_,h1⟩|⟨h1,_⟩
    .show s.1.1.size<=c;lia
    .rw[h1]at Bs;cases Bs
   .exact y9 b (e0.bs b o e).2
   .exact y9 b (e0.frf b hb)
   .have xx:i<(vs++ws).length:=by
     unfold start at e2;by_cases hi:i<(vs++ws).length
     .exact hi
     .rw[NW (by simpa using hi)]at e2;rw[List.getElem?_replicate]at e2;split at e2 <;> cases e2
    have ha:(vs++ws)[i]?=A? v:=by
     unfold start at e2;rw[M6 (by simpa using xx),LZ]at e2;cases e:(vs++ws)[i]? with
     |none=>rw[e]at e2;cases e2
     |some a=>rw[e]at e2;cases e2;rfl
    rw[LR]at xx;have hp:=yE i x (by lia) e1;by_cases hi:i<vs.length
    .rw[M6 hi]at ha;rw[M6 (by lia)]at hp;obtain⟨u,hu,rv⟩:=r.get ha;exact⟨u,rv,.inl ⟨S.par x (L9 hp),kC ndP Cn hp hu⟩⟩
    .rw[NW (by lia)]at ha;rw[NW (by lia)]at hp;rw[hl]at ha;obtain⟨w',CJ,c,hc,vZ⟩:=BB.P2.get xn hp;rw[ha]at CJ;cases CJ;obtain⟨u,ru,o,ho,Jl⟩:=vZ.now e0.hok;have hm:=L9 hp;exact⟨u,ru,.inr ⟨.inr (S.fre x hm),c,y8 x c (S.ney x hm) hc,o,wx _ _ ho,Jl⟩⟩
   .exact y9 _ (e0.hok.fresh (LC _))
   .rcases look x c e with⟨_,rfl⟩|⟨_,e⟩
    .exact y9 _ (e0.hok.fresh (by lia))
    .exact eI (vo x c e)
   .exact(e0.hok.fgt hx).kept wx
   .show(start N (vs++ws)).length=N.length;unfold start;rw[LR,Lx,List.length_replicate,LR];lia
  have kS:∀{H':Hp}{h':Ml},Un (frs outer) [] (fgt (cl.map (·.2)) H) H' s.1 h'->∀b∈cl.map (·.2),∀o,s.1.get? b=A? o->h'.get? b=A? o:=λ{H' h'}un b hb o e=>un.keep b o e (eI hb) (λz=>by
   obtain⟨zR,e'⟩:=hx b hb;rw[e0.frf b z]at e';cases e') (by simp)
  have Av:∀{H':Hp}{h':Ml},Un (frs outer) [] (fgt (cl.map (·.2)) H) H' s.1 h'->∀b∈cl.map (·.2),H' b=none:=λ{H' h'}un b hb=>by
   obtain⟨zR,e'⟩:=hx b hb;obtain⟨_,⟨o,ho⟩,_⟩:=e0.hok b _ e';exact un.free b o ho (eI hb) (by simp)
  have nS:∀b,H b=Ak->b∉cl.map (·.2):=λb e hb=>by
   obtain⟨zR,e'⟩:=hx b hb;rw[e]at e';cases e'
  have GH:∀{H':Hp}{h':Ml},Un (frs outer) [] (fgt (cl.map (·.2)) H) H' s.1 h'->Un (frs outer) [] H (rst (cl.map (·.2)) H H') s.1 h':=λ{H' h'}un=>by
   refine⟨λb o e n hb uT=>un.keep b o e (y9 b n) hb uT,λb o e n hb uT=>un.slot b o e (y9 b n) hb uT,λb o e n uT=>?_,λb o e uT=>un.there b o e uT,λb xs e=>?_,λb o u' e=>?_,λb pp e=>?_⟩
   .rw[bZ (nS b n)];exact un.free b o e (y9 b n) uT
   .have hb:=hx.out e (by intro zR z;cases z);rw[bZ hb];exact un.tups b xs (by rw[ba hb];exact e)
   .have hb:=hx.out e (by intro zR z;cases z);rw[bZ hb];exact un.frzs b o u' (by rw[ba hb];exact e)
   .have hb:=hx.out e (by intro zR z;cases z);rw[bZ hb];exact un.tbls b pp (by rw[ba hb];exact e)
  have conv:∀{e:Lu}{s':Lw},CX1 P w outer (fgt (cl.map (·.2)) H) s (exN (cl.map (·.2)) H E) e s'->CX1 P w outer H s E e s':=λ{e s'}z=>by
   obtain⟨ea,C,a0,B,H',rfl,vD,vf,un,hok,vS,b1,b2,q⟩:=z;refine⟨ea,C,a0,B,rst (cl.map (·.2)) H H',B?,vD,vf,GH un,HOk.rst e0.hok hok hx (kS un) (Av un),vS,λb o e nf=>?_,λb u e=>?_,q (Av un)⟩
   .obtain⟨o',g1,g2⟩:=b1 b o e nf;exact⟨o',g1,λn=>g2 (y9 b n)⟩
   .by_cases hb:b∈cl.map (·.2)
    .obtain⟨zR,e'⟩:=hx b hb;obtain⟨_,⟨o,ho⟩,_⟩:=e0.hok b _ e';obtain⟨o',g1,_⟩:=b1 b o ho λz=>by rw[e0.frf b z]at e';cases e'
     exact⟨o',g1⟩
    .rw[bZ hb]at e;exact b2 b u e
  refine Mq (ht [] _ _ _ _ I hq) (λfl s' hs=>?_) λe s' z=>Mq z (λ_ _ z=>conv z) λ_ _ z=>conv z
  have fin:∀{uE:St}{H':Hp}{v:V}{u:Lu},Inv (qa P w K mg base N qual scope f (.ref c') y cl A outer s H E) [] uE H' s'->RelV v u->((∀b∈cl.map (·.2),H' b=Ak)->Q v (rst (cl.map (·.2)) H H'))->CE outer P w H s Q u s':=λ{uE H' v u}I' rv q'=>by
   have un:Un (frs outer) [] (fgt (cl.map (·.2)) H) H' s.1 s'.1:=I'.base;exact⟨v,rst (cl.map (·.2)) H H',I'.os,I'.bare,GH un,HOk.rst e0.hok I'.hok hx (kS un) (Av un),rv,q' (Av un)⟩
  cases fl with
  | ret u =>
    obtain⟨v,uE,H',J,rv,q⟩:=hs;exact fin J rv q
  | next =>
    obtain⟨uE,H',J,q⟩:=hs;exact fin (v:=V.non) (u:=MH) J rfl q
  | brk =>
    obtain⟨_,_,_,q⟩:=hs;exact MA q
  | cont =>
    obtain⟨_,_,_,q⟩:=hs;exact MA q
section
variable{X:Cx}{k:Nat}{p:Oi}{t:TA}
def qx(X:Cx)(cl:List (LL×Ls))(sp:Sp)(E:XK)(t:TA):TE:=λY H Q=>t Y H λvs H1=>∀H2,Trk X Y cl H1 H2->sp vs H2 (λv H3=>(∀b∈cl.map (·.2),H3 b=H2 b)/\Q v (fgt (cl.map (·.2)) H3)) λc o H3=>(∀b∈cl.map (·.2),H3 b=H2 b)/\E c o (fgt (cl.map (·.2)) H3)
theorem mH{E:XK}(L:Lv X E)(F:FnOk X.prog X.w X.K X.mg X.base (CX1 X.prog X.w) k f fd ps sp)(hr:Room k X.A)(hg:Gl X x)(hm:X.mg x=A? (.ref f))(hk:Nw X.K (.ref f)=AG)(hb:Binds X.K fd ps [])(oc:ku X cl)
 (ha:PA X (e::es) t) (wM:(x == ("__debug__":LL))=false:=by decide) (he:L7 (e::es) X.env=(AH,Nd e X.env)::L7 es X.env:=by rfl) (vL:(NG pos (L7 es X.env)).any (·.1)=false:=by rfl) :
 PE X (.Call (.Name x p) (e::es) [] pos) (qx X cl sp E t):=by
 intro Z s Y H Q I h;refine MT (dU I hg hm ?_ wM);refine OO (h₀:=X.base) I.ok.mod.kin hk (thn (ha pos Z s Y H _ I h) λus s1⟨vs,H1,I1,r,q⟩=>⟨I1.kIn,?_⟩) he vL
 have yF:∀b∈cl.map (·.2),∃y,(y,b)∈cl:=λb hb=>by
  obtain⟨⟨y,c⟩,h1,h2⟩:=MZ.mp hb;cases h2;exact⟨y,h1⟩
 have vZ:∀b∈cl.map (·.2),∃v o,s1.1.get? b=A? o/\o.data=.cell v:=λb hb=>by
  obtain⟨y,hy⟩:=yF b hb;obtain⟨v,o,h1,h2⟩:=I1.cell y b (oc.look y b hy);exact⟨v,o,h1,h2⟩
 have wj:∀b∈cl.map (·.2),H1 b=none:=λb hb=>by
  obtain⟨y,hy⟩:=yF b hb;exact I1.freeC y b (oc.look y b hy)
 obtain⟨H2,GI⟩:∃H2:Hp,H2=λb=>if b∈cl.map (·.2)then A? (.ext λh=>h.get? b=s1.1.get? b/\(h.get? b).isSome=AG)else H1 b:=⟨_,rfl⟩
 have Bx:∀b∈cl.map (·.2),H2 b=A? (.ext λh=>h.get? b=s1.1.get? b/\(h.get? b).isSome=AG):=λb hb=>by rw[GI];exact Sa hb
 have vm:∀b,b∉cl.map (·.2)->H2 b=H1 b:=λb hb=>by rw[GI];exact Ra hb
 have DH:Exts (cl.map (·.2)) H2:=λb hb=>⟨_,Bx b hb⟩;have By:∀b u,H1 b=A? u->b∉cl.map (·.2):=λb u z hb=>by rw[wj b hb]at z;cases z
 have Es:HOk X.prog X.w H2 s1.1:=λa o ea=>by
  by_cases hb:a∈cl.map (·.2)
  .rw[Bx a hb]at ea;cases ea;obtain⟨v,o,h1,h2⟩:=vZ a hb
   exact⟨⟨B?,by rw[h1];rfl⟩,⟨o,h1⟩,λg1 g2 z y=>by
    obtain⟨ob,Ar⟩:=O4.mp z.2;have:=y ob Ar;exact⟨by rw[this,<-Ar];exact z.1,by rw[this];rfl⟩⟩
  .rw[vm a hb]at ea;exact(I1.hok a o ea).stay (λ_ _ _ z=>z) (λb z=>by rw[vm b (By b _ z)];exact z) λb xs z=>by rw[vm b (By b _ z)];exact z
 have wm:∀b o,X.base.get? b=A? o->b∉cl.map (·.2):=λb o z hb=>by
  obtain⟨y,hy⟩:=yF b hb;have h1:=I1.ok.cab y b (oc.fn y b hy) (oc.look y b hy);exact Wa (LX (LJ z) (Mr I1.ok.bsz h1)) (Me _)
 have Bz:∀b∈frs X.stack,b∉cl.map (·.2):=λb hb hc=>by
  obtain⟨y,hy⟩:=yF b hc;rcases LW.mp (I1.stkSub b hb)with z|z
  .exact I1.cne y b (oc.look y b hy) z
  .obtain⟨_,o,ho,_⟩:=I1.ok.funs.mem z;have h1:=I1.ok.cab y b (oc.fn y b hy) (oc.look y b hy);exact Wa (LX (LJ ho) h1) (Me _)
 have e0:=I1.env0;have e2:Env0 X.prog X.w X.K X.mg X.base X.A X.stack s1 H2:=⟨e0.frames,e0.mod,λb o z=>⟨(e0.bs b o z).1,by rw[vm b (wm b o z)];exact(e0.bs b o z).2⟩,e0.bsz,e0.funs,λb hb=>by rw[vm b (Bz b hb)];exact e0.frf b hb,Es,e0.bare⟩
 have Et:Trk X Y cl H1 H2:=by
  refine⟨wj,vm,DH,λi y v c hN D7 hc=>?_⟩;have GJ:(y,c)∈cl:=Mn hc;have Jm:=oc.look y c GJ;have CK:=oc.kind y c GJ;obtain⟨m,hn,hl⟩:=I1.loc;obtain⟨u,ru,l⟩:=hl i y v hN D7 (.inr (.inl CK));rcases l with⟨z,_⟩|⟨_,c2,vN,z⟩
  .rw[CK]at z;cases z
  .rw[Jm]at vN;cases vN;refine⟨_,Bx c (fT hc),λh z'=>⟨u,ru,?_⟩⟩;obtain⟨o,ho,hd⟩:=z;exact⟨o,by rw[z'.1];exact ho,hd⟩
 have vM:=q H2 Et;have hl:us.length=ps.length:=by rw[<-r.length];exact F.len _ _ _ _ vM
 have vK:=hb s1 us I1.kIn (by rw[ME];exact hl);rw[ME]at vK;refine wpAny_call (Oe (F.run X.A X.stack s1 H2 ⟨us,[]⟩ us vs _ _ hr e2 vK r vM) λrr s' hq=>?_)
 have back:∀{H3:Hp}{h':Ml},Un (frs X.stack) [] H2 H3 s1.1 h'->(∀b∈cl.map (·.2),H3 b=H2 b)->HOk X.prog X.w H3 h'->Exts (cl.map (·.2)) H3/\(∀b∈cl.map (·.2),h'.get? b=s1.1.get? b)/\Un (frs X.stack) [] H1 (fgt (cl.map (·.2)) H3) s1.1 h':=λ{H3 h'}un hS wX=>by
  have BA:Exts (cl.map (·.2)) H3:=λb hb=>⟨_,(hS b hb).trans (Bx b hb)⟩;have kS:∀b∈cl.map (·.2),h'.get? b=s1.1.get? b:=λb hb=>((wX b _ ((hS b hb).trans (Bx b hb))).1).1;refine⟨BA,kS,λb o z n hb uT=>?_,λb o z n hb uT=>?_,λb o z n uT=>?_,λb o z uT=>un.there b o z uT,λb xs z=>?_,λb o u' z=>?_,λb pp z=>?_⟩
  .by_cases hc:b∈cl.map (·.2)
   .rw[kS b hc];exact z
   .exact un.keep b o z (by rw[vm b hc];exact n) hb uT
  .exact un.slot b o z (by rw[vm b (Bz b hb)];exact n) hb uT
  .by_cases hc:b∈cl.map (·.2)
   .exact eI hc
   .rw[ba hc];exact un.free b o z (by rw[vm b hc];exact n) uT
  .have hc:=By b _ z;rw[ba hc];exact un.tups b xs (by rw[vm b hc];exact z)
  .have hc:=By b _ z;rw[ba hc];exact un.frzs b o u' (by rw[vm b hc];exact z)
  .have hc:=By b _ z;rw[ba hc];exact un.tbls b pp (by rw[vm b hc];exact z)
 cases rr with
 | error e =>
   refine lZ L Z Y H1 s1 e s' I1 ?_;obtain⟨ea,C,a0,B,H3,e1,vD,vf,un,wX,vS,b1,b2,hS,q3⟩:=hq;obtain⟨BA,kS,Eu⟩:=back un hS wX;refine⟨ea,C,a0,B,fgt (cl.map (·.2)) H3,e1,vD,vf,Eu,wX.fgt BA,vS,λb o z nf=>?_,λb u z=>?_,q3⟩
   .obtain⟨o',g1,g2⟩:=b1 b o z nf;refine⟨o',g1,λn=>?_⟩;by_cases hc:b∈cl.map (·.2)
    .have:=vS.1 b o' g1;rw[kS b hc,z]at this;exact(Ma this).symm
    .exact g2 (by rw[vm b hc];exact n)
   .have hc:b∉cl.map (·.2):=λy=>by rw[eI y]at z;cases z
    rw[ba hc]at z;exact b2 b u z
 | ok fl =>
   cases fl with
   |next=>exact MA hq
   |brk=>exact MA hq
   |cont=>exact MA hq
   | ret u =>
     obtain⟨v,H3,os,bare,un,wX,rv,hS,q3⟩:=hq;obtain⟨BA,kS,Eu⟩:=back un hS wX;exact⟨v,fgt (cl.map (·.2)) H3,I1.call' (ch:=[]) os Eu (wX.fgt BA) bare (λb z=>by cases z),rv,q3⟩
end
theorem Fun.okTX{c:Ls}{k:Nat}(F:Fun K x qual st f fd)(hc:fd.code=.ref c)(S:bX N ps (az st))(len:∀vs H Q E,sp vs H Q E->vs.length=ps.length)
 (uR:∀(A:LU)(outer:List OJ)(s:Lw)(H:Hp)(vs:List V)(Q:VK)(E:XK),Room k (A.deeper (NB qual (az st) s.1.1.size f (.ref c)))->sp vs H Q E ->
  ∃t,PSs (gv (CX1 P w) P w K mg base N qual (az st) f (.ref c) A outer s H E) (aW st) t/\t {nx:=λ_ H'=>Q .non H',rt:=Q} (start N vs) H):FnOk P w K mg base (CX1 P w) (k+1) f fd ps sp:=by
 obtain⟨oc,od,kV,doc,pm,an,uI,ct,xM,rfl,lk,vA⟩:=F.ex;have vQ:uI=.ref c:=hc;subst vQ;exact ny lk vA S len λA outer s H vs Q E hr vM=>uR A outer s H vs Q E hr vM
end L2
namespace BB
open PySem L2
theorem MInv.dn{o:Th}{done:List Th}{js:List Job}{k:Int}(h:MInv o done js k c):(done.length:Int)=k+c:=by
 have h1:=h.size;have h2:=h.kn;have h3:=h.cn;have h4:=i3 o;have h5:=gz (jos js);lia
structure MLim(o:Th)(done:List Th)(js:List Job)(k c:Int)(n:Nat):Prop where
 k:k<=400
 c:c<=200
 al:n<=1+3 * done.length
 tl:(∀j∈js,j.r+j.o.tall<=21)->o.tall<=20
theorem MLim.start{k o:Th}:MLim o [] [⟨p,k,1,o⟩] 0 0 [a].length:=⟨by decide,by decide,LC 1,λh=>by
 have:=h _ (List.mem_singleton_self _);have h2:1+o.tall<=21:=this;lia⟩
theorem MLim.dn{o:Th}{done:List Th}{js:List Job}{k:Int}(h:MLim o done js k c n)(J:MInv o done js k c):done.length<=600:=by
 have:=J.dn;have:=h.k;have:=h.c;lia
theorem jG{m:Nat}:∀{ts:List Th},(∀t∈ts,t.tall<=m)->aK ts<=m
 | [],_=>by rw[aK];exact MB _
 | t::ts,h=>by
   rw[aK];exact Nat.max_le.mpr ⟨h t (L5 ..),jG λu hu=>h u (LS _ hu)⟩
theorem MLim.next{o:Th}{done:List Th}{js vO:List Job}{j:Job}{k:Int}{n':Nat}(h:MLim o done (js++[j]) k c n)(J:MInv o done (js++[j]) k c)(hl:((j.r:Nat):Int)<=20/\k'<=400/\c'<=200)(hk:k'=if j.o.isCall=AG then k else k+1)(hc:c'=if j.o.isCall=AG then c+1 else c)(h2:jos vO=j.o.kids.reverse)(hr:∀i∈vO,i.r=j.r+1)(h3:j.o.kids.length<=3)(hn:n=(js++[j]).length)(zm:n'=(js++vO).length):MLim o (done++[j.o]) (js++vO) k' c' n':=by
 have e2:vO.length=j.o.kids.length:=by
  have:=Xa NU h2;unfold jos at this;rw[Lx,Mp]at this;exact this
 refine⟨hl.2.1,hl.2.2,?_,λha=>h.tl λi hi=>?_⟩
 .have:=h.al;rw[hn,LR]at this;rw[zm,LR,LR,e2];simp only[LP,List.length_nil]at this |-;lia
 .rcases Mw.mp hi with z|z
  .exact ha i (MC _ z)
  .rw[LM.mp z];have ht:=j.o.tall_eq
   have:aK j.o.kids<=20 - j.r:=jG λu hu=>by
    have wt:u∈jos vO:=by rw[h2];exact List.mem_reverse.mpr hu
    obtain⟨i2,Ew,e⟩:=MZ.mp wt;have a1:=ha i2 (LV _ Ew);have a2:=hr i2 Ew;rw[e,a2]at a1;lia
   have:=hl.1;lia
theorem MLim.small{o:Th}{done:List Th}{k:Int}(h:MLim o done [] k c n)(J:MInv o done [] k c):Small o:=by
 refine⟨h.tl (λj hj=>by cases hj),?_,?_⟩
 .have h1:=J.kn;have h2:=h.k;have:kns (jos [])=0:=rfl;lia
 .have h1:=J.cn;have h2:=h.c;have:aM (jos [])=0:=rfl;lia
theorem om(l:List Int):∀m:List Int,(aR m l).length<=m.length+l.length:=by
 induction l with
 |nil=>exactλm=>LC _
 | cons s l ih =>
   intro m;have h1:=ih (cq m s)
   have h2:(cq m s).length<=m.length+1:=by
    unfold cq;split
    .exact Nat.le_succ _
    .rw[LR];exact LC _
   rw[LP];exact Mr h1 (by lia)
structure JoinW(ins mid outs:List (LL×Int))(S1 S2:Int)(uB uA:Th)(rows1 f':List (List Th)):Prop where
 gm:dD mid
 go:dD outs
 le:ins.length<=8
 f1:jv ins mid S1 rows1
 f2:jv mid outs S2 f'
 h1:uB.FitS mid S1 1
 h2:uA.FitS outs S2 1
 s1:S1<=1000
structure ki(mid:List (LL×Int))(uB uA:Th)(rows1 f':List (List Th)):Prop where
 len:(aU (joR mid f' rows1) (joH mid f' uA uB)).length<=20
 smH:Small (joH mid f' uA uB)
 smR:∀s∈aU (joR mid f' rows1) (joH mid f' uA uB),∀t∈joR mid f' rows1 s,Small t
section
variable{mid:List (LL×Int)}{S2:Int}{uB uA:Th}{rows1 f':List (List Th)}
theorem JoinW.rows(J:JoinW ins mid outs S1 S2 uB uA rows1 f')(s:Int)(hs:PairOk S2 S1 s):∀x∈bE (joR mid f' rows1 s),PairOk S2 S1 x:=λx hx=>by
 obtain⟨t,ht,hx⟩:=List.mem_flatMap.mp hx;obtain⟨u,hu,rfl⟩:=MZ.mp ht;obtain⟨h0,h1,h2,h3⟩:=hs;obtain⟨row,_,e,_,hf⟩:=fG J.f1 h2 h3;rw[e]at hu;obtain⟨C,hC⟩:=hf u hu;exact jm J.gm J.f2 J.s1 _ (LC _) (Lead.sol (jZ h0 h1) hC) x hx
theorem JoinW.met(J:JoinW ins mid outs S1 S2 uB uA rows1 f'):∀x∈aU (joR mid f' rows1) (joH mid f' uA uB),PairOk S2 S1 x :=
 nU _ (PairOk S2 S1) (λs hs x hx=>J.rows s hs x hx) _ _ _ λx hx=>(dF.mp hx).elim (λz=>by cases z) (jm J.gm J.f2 J.s1 _ (LC _) (Lead.sol J.h2 J.h1) x)
theorem JoinW.row8(J:JoinW ins mid outs S1 S2 uB uA rows1 f'){s:Int}(h0:0<=s%1000)(h1:s%1000<S1):(joR mid f' rows1 s).length<=8:=by
 obtain⟨row,_,e,hl,_⟩:=fG J.f1 h0 h1;unfold joR;rw[Lx,e,hl];exact J.le
end
end BB
namespace L2
open PySem PySem.Spec PyProof.Rows PySem.W
end L2
namespace BB
open PySem L2
theorem jQ:∀{a b:List (LL×Int)},a.map kDv=b.map kDv->a=b
 | [],[],_=>rfl
 | [],_::_,h=>by simp at h
 |_::_,[],h=>by simp at h
 | x::a,y::b,h=>by
   rw[Mf,Mf]at h;obtain⟨h1,h2⟩:=NH h;rw[p7 h1,jQ h2]
@[elab_as_elim] theorem nwT {G:Hp->Prop} (h:H a=Ak) (k:∀ H',Sb H H'->H' a=A? o->G H'):G (upd H a o):=k _ (aj h _) af
def k3(n0 n1 n2:LL):List (LL×Int):=[(n0,0),(n1,1),(n2,2)]
structure N3(n0 n1 n2:LL):Prop where
 l0:Low n0/\n0.length<=8
 l1:Low n1/\n1.length<=8
 l2:Low n2/\n2.length<=8
 d01:n0≠n1
 d02:n0≠n2
 d12:n1≠n2
section
variable(nm:N3 n0 n1 n2)
include nm
theorem N3.good:dD (k3 n0 n1 n2):=by
 refine⟨(by show 1<=3;decide),(by show 3<=8;decide),λk hk=>?_,λk hk=>?_,⟨(n0,0),L5 ..,B?⟩,λi j k l hi hj e=>?_⟩
 .unfold k3 at hk;simp at hk;rcases hk with rfl|rfl|rfl
  .exact nm.l0
  .exact nm.l1
  .exact nm.l2
 .unfold k3 at hk;simp at hk;rcases hk with rfl|rfl|rfl <;> simp
 .have h1:=nm.d01;have h2:=nm.d02;have h3:=nm.d12;unfold k3 at hi hj
  match i,j,hi,hj with
  |0,0,_,_=>rfl
  |1,1,_,_=>rfl
  |2,2,_,_=>rfl
  |0,1,hi,hj=>cases hi;cases hj;exact Wa e h1
  |0,2,hi,hj=>cases hi;cases hj;exact Wa e h2
  |1,0,hi,hj=>cases hi;cases hj;exact Wa e.symm h1
  |1,2,hi,hj=>cases hi;cases hj;exact Wa e h3
  |2,0,hi,hj=>cases hi;cases hj;exact Wa e.symm h2
  |2,1,hi,hj=>cases hi;cases hj;exact Wa e.symm h3
  |i+3,_,hi,_=>simp at hi
  |0,j+3,_,hj=>simp at hj
  |1,j+3,_,hj=>simp at hj
  |2,j+3,_,hj=>simp at hj
theorem N3.q0:n0≠q:=nJ nm.l0.1
theorem N3.q1:n1≠q:=nJ nm.l1.1
theorem N3.q2:n2≠q:=nJ nm.l2.1
end
section
variable(n0 n1 n2:LL)
def cw:Nat->Int->Th
 |0,_=>.knot n0 []
 |f+1,m=>if m=1 then .knot n0 []else if m=2 then .knot n1 [.knot n0 []]else .knot n2 [cw f ((m - 1) / 2),cw f (m - 1 - (m - 1) / 2)]
def chn(n:LL):Nat->Th->Th
 |0,t=>t
 |m+1,t=>.knot n [chn n m t]
def abT(way many:Int)(p:Th):Th :=
 if way=0 then .knot n2 [p,p]else if way=1 then chn n1 (1+many%3).toNat p else .knot n2 [cw n0 n1 n2 6 (1+many%40),p]
def gr(way many:Int):Nat->Th
 |0=>.call 0 0
 |m+1=>abT n0 n1 n2 way many (gr way many m)
def pl(s:Int):List Th:=[.knot n0 [],.knot n1 [.call s 0],.knot n2 [.call s 0,.call s 1]]
end
theorem sH:∀ts:List Th,(ts.map λt=>((t.kn:Nat):Int)).sum=((kns ts:Nat):Int)
 | []=>rfl
 | t::ts=>by
   rw[Mf,List.sum_cons,sH ts,kns];lia
theorem qK:∀ts:List Th,(ts.map λt=>((cnT t:Nat):Int)).sum=((aM ts:Nat):Int)
 | []=>rfl
 | t::ts=>by
   rw[Mf,List.sum_cons,qK ts,aM];lia
theorem lm(S C:Int):(Xc n0 []).FitS (k3 n0 n1 n2) S C:=by
 rw[Zb,FitSs];exact⟨L5 ..,trivial⟩
theorem rF{C:Int}{t:Th}(h:t.FitS (k3 n0 n1 n2) S C):(Xc n1 [t]).FitS (k3 n0 n1 n2) S C:=by
 rw[Zb,FitSs,FitSs];exact⟨LS _ (L5 ..),h,trivial⟩
theorem kI{C:Int}{t u:Th}(h:t.FitS (k3 n0 n1 n2) S C)(g:u.FitS (k3 n0 n1 n2) S C):(Xc n2 [t,u]).FitS (k3 n0 n1 n2) S C:=by
 rw[Zb,FitSs,FitSs,FitSs];exact⟨LS _ (LS _ (L5 ..)),h,g,trivial⟩
theorem dL{ks:List (LL×Int)}{C s:Int}(h:0<=s/\s<S/\0<=c/\c<C):(Wc s c).FitS ks S C:=by
 rw[Zb];exact h
theorem cB:∀(f:Nat)(m:Int),(∀S C,(cw n0 n1 n2 f m).FitS (k3 n0 n1 n2) S C)/\cnT (cw n0 n1 n2 f m)=0/\(cw n0 n1 n2 f m).tall<=f+1/\(1<=m->m<(2 ^ f:Nat)->((cw n0 n1 n2 f m).kn:Int)=m)/\stT (cw n0 n1 n2 f m)=[]
 | 0,m=>by
   rw[cw];refine⟨lm,by rw[cnT,aM],by rw[Xb,aK];lia,λh1 h2=>?_,B?⟩;simp at h2;lia
 | f+1,m=>by
   obtain⟨a1,a2,a3,a4,a5⟩:=cB f ((m - 1) / 2);obtain⟨b1,b2,b3,b4,b5⟩:=cB f (m - 1 - (m - 1) / 2);rw[cw];by_cases h1:m=1
   .rw[Sa h1];refine⟨lm,by rw[cnT,aM],by rw[Xb,aK];lia,λ_ _=>by rw[Tc,kns,h1];rfl,B?⟩
   rw[Ra h1];by_cases h2:m=2
   .rw[Sa h2];refine⟨λS C=>rF (lm S C),by rw[cnT,aM,aM,cnT,aM],?_,λ_ h=>?_,B?⟩
    .rw[Xb,aK,aK,Xb,aK];lia
    .rw[Tc,kns,kns,Tc,kns,h2];rfl
   rw[Ra h2];refine⟨λS C=>kI (a1 S C) (b1 S C),by rw[cnT,aM,aM,aM,a2,b2],?_,λh3 h4=>?_,?_⟩
   .rw[Xb,aK,aK,aK];lia
   .rw[Nat.pow_succ]at h4;have:=a4 (by lia) (by lia);have:=b4 (by lia) (by lia);rw[Tc,kns,kns,kns];lia
   .rw[bJ];show stT _++(stT _++[])=[];rw[a5,b5];rfl
theorem fc(n:LL)(p:Th):∀m:Nat,cnT (chn n m p)=cnT p/\(chn n m p).tall=m+p.tall/\(chn n m p).kn=m+p.kn/\stT (chn n m p)=stT p
 |0=>⟨rfl,by rw[chn];lia,by rw[chn];lia,rfl⟩
 | m+1=>by
   obtain⟨h1,h2,h3,h4⟩:=fc n p m;rw[chn];refine⟨by rw[cnT,aM,aM,h1];rfl,by rw[Xb,aK,aK,h2];lia,by rw[Tc,kns,kns,h3];lia,?_⟩;rw[bJ];show stT _++[]=_;rw[h4,ME]
theorem eS{C:Int}(h:p.FitS (k3 n0 n1 n2) S C):∀m:Nat,(chn n1 m p).FitS (k3 n0 n1 n2) S C
 |0=>h
 |m+1=>rF (eS h m)
theorem pe{C:Int}(h:p.FitS (k3 n0 n1 n2) S C):(abT n0 n1 n2 way many p).FitS (k3 n0 n1 n2) S C:=by
 unfold abT;split
 .exact kI h h
 .split
  .exact eS h _
  .exact kI ((cB 6 _).1 S C) h
theorem nI:(abT n0 n1 n2 way many p).tall<=max 8 (p.tall+3)/\cnT p<=cnT (abT n0 n1 n2 way many p):=by
 have y1:=Md many (show(0:Int)<3 by decide);have y0:=Mx many (show(3:Int)≠0 by decide);unfold abT;split
 .rw[Xb,aK,aK,aK,cnT,aM,aM,aM];lia
 .split
  .obtain⟨h1,h2,_⟩:=fc n1 p (1+many%3).toNat;rw[h1,h2];lia
  .obtain⟨_,h2,h3,_⟩:=cB (n0:=n0) (n1:=n1) (n2:=n2) 6 (1+many%40);rw[Xb,aK,aK,aK,cnT,aM,aM,aM];lia
theorem i9(way many:Int):∀m:Nat,(gr n0 n1 n2 way many m).FitS (k3 n0 n1 n2) 1 1/\(gr n0 n1 n2 way many m).tall<=8+3 * m
 |0=>⟨dL (by decide),by rw[gr,Xb];lia⟩
 | m+1=>by
   obtain⟨h1,h2⟩:=i9 way many m;have:=(nI (n0:=n0) (n1:=n1) (n2:=n2) (way:=way) (many:=many) (p:=gr n0 n1 n2 way many m)).1;rw[gr];exact⟨pe h1,by lia⟩
theorem ml(way many:Int){i:Nat}:∀j:Nat,i<=j->cnT (gr n0 n1 n2 way many i)<=cnT (gr n0 n1 n2 way many j)
 |0,h=>by rw[Nat.le_zero.mp h];exact LC _
 | j+1,h=>by
   rcases Nat.lt_or_ge j i with z|z
   .rw[show i=j+1 by lia];exact LC _
   .exact Mr (ml way many j z) nI.2
def lQ:LL:=LI "abcdefghijklmnoprstuvwxyz"
def oP(x:LL):Bool:=(x.cps.toList.all λc=>decide (97<=c) && decide (c<=122)) && decide (x.length<=8)
theorem i0(h:oP x=AG):Low x/\x.length<=8:=by
 unfold oP at h;rw[N4]at h;refine⟨λc hc=>?_,Va h.2⟩;have:=Nx.mp h.1 c hc;simpa using this
def rH(a s:LL):Bool:=oP (a++s) && (oP (a++a++s) && (oP (dr a 3++s) && (decide (a++s≠a++a++s) && (decide (a++s≠dr a 3++s) && (decide (a++a++s≠dr a 3++s) && decide (dr a 3++s≠LI "q"))))))
theorem qo{a s:LL}(h:rH a s=AG):N3 (a++s) (a++a++s) (dr a 3++s)/\dr a 3++s≠LI "q":=by
 unfold rH at h;simp only[N4,decide_eq_true_eq]at h;obtain⟨h1,h2,h3,h4,h5,h6,h7⟩:=h;exact⟨⟨i0 h1,i0 h2,i0 h3,h4,h5,h6⟩,h7⟩
theorem nW:∀(l:Fin 25)(m:Fin 6),(match lQ.cps.toList[l.1]? with|some c=>rH ⟨#[c]⟩ (gu (LI "frond") Ak (A? ((m.1:Nat):Int)))|none=>AH)=true:=by decide +kernel
theorem qq{i k:Int}(h1:0<=i)(h2:i<25)(h3:0<=k)(h4:k<6):∃c,atI lQ.cps.toList i=A? c/\N3 (⟨#[c]⟩++gu (LI "frond") Ak (A? k)) (⟨#[c]⟩++⟨#[c]⟩++gu (LI "frond") Ak (A? k)) (dr ⟨#[c]⟩ 3++gu (LI "frond") Ak (A? k))/\dr ⟨#[c]⟩ 3++gu (LI "frond") Ak (A? k)≠LI "q":=by
 have h:=nW ⟨i.toNat,by lia⟩ ⟨k.toNat,by lia⟩;dsimp only at h;rw[show((k.toNat:Nat):Int)=k by lia]at h;cases e:lQ.cps.toList[i.toNat]? with
 |none=>rw[e]at h;cases h
 | some c =>
   rw[e]at h;refine⟨c,?_,qo h⟩;have:=bT e
   rwa [show((i.toNat:Nat):Int)=i by lia]at this
theorem fS:∀(prs acc:List (List Key×V)),(∀k v,bu acc k=A? v->∃a,v=Rb a)->(∀p∈prs,∃a,p.2=Rb a)->∀k v,bu (dS acc prs) k=A? v->∃a,v=Rb a
 | [],acc,h,_=>h
 | p::prs,acc,h,hp=>by
   refine fS prs _ (λk v hv=>?_) λx hx=>hp x (LS _ hx);rw[jK]at hv;split at hv
   .obtain⟨a,e⟩:=hp p (L5 ..);exact⟨a,by rw[<-Ma hv,e]⟩
   .exact h k v hv
theorem jX{k0 k1 k2:LL×Int}{as:List Ls}(h:KsAt H [k0,k1,k2] as):∃a b c,as=[a,b,c]/\KAt H k0 a/\KAt H k1 b/\KAt H k2 c:=by
 cases h with
 | cons h0 h =>
   cases h with
   | cons h1 h =>
     cases h with
     | cons h2 h =>
       cases h;exact⟨_,_,_,B?,h0,h1,h2⟩
theorem PrA.mono(k:KT H H'){pr:List Key×V}(h:PrA H pr a):PrA H' pr a:=by
 obtain⟨ka,h1,h2⟩:=h;exact⟨ka,k _ _ h1,k _ _ h2⟩
def kdK(k:LL×Int):List Key:=[.inr k.1,.inl k.2]
def kz(ks:List (LL×Int))(due:Option Int)(many S1 S2:Int)(uB uA:Th)(rows1 f':List (List Th)):Prop :=
 JoinW ks ks ks S1 S2 uB uA rows1 f' /\
  ((due=Ak/\ki ks uB uA rows1 f'/\((aU (joR ks f' rows1) (joH ks f' uA uB)).length:Int)=many) \/
   (due=A? 1/\(aU (joR ks f' rows1) (joH ks f' uA uB)).length<=20/\¬(Small (joH ks f' uA uB)/\∀s∈aU (joR ks f' rows1) (joH ks f' uA uB),∀t∈joR ks f' rows1 s,Small t)) \/
   (due=A? 2/\(Small (joH ks f' uA uB)/\∀s∈aU (joR ks f' rows1) (joH ks f' uA uB),∀t∈joR ks f' rows1 s,Small t)/\¬(aU (joR ks f' rows1) (joH ks f' uA uB)).length<=20))
theorem kG(n:LL)(f:Int->Int->Th)(p:Th):∀m,(chn n m p).fill f=chn n m (p.fill f)
 |0=>rfl
 | m+1=>by
   rw[chn,Yb,fills,fills,kG n f p m];rfl
theorem fI(f:Int->Int->Th):∀(g:Nat)(m:Int),(cw n0 n1 n2 g m).fill f=cw n0 n1 n2 g m
 |0,m=>by rw[cw,Yb,fills]
 | g+1,m=>by
   rw[cw];split
   .rw[Yb,fills]
   .split
    .rw[Yb,fills,fills,Yb,fills]
    .rw[Yb,fills,fills,fills,fI f g,fI f g]
theorem qp(f:Int->Int->Th):(abT n0 n1 n2 way many p).fill f=abT n0 n1 n2 way many (p.fill f):=by
 unfold abT;split
 .rw[Yb,fills,fills,fills]
 .split
  .exact kG _ _ _ _
  .rw[Yb,fills,fills,fills,fI]
def lh(n0 n1 n2:LL)(S:Int)(row:List Th):Prop:=∃a b c,row=[a,b,c]/\a.FitS (k3 n0 n1 n2) S 0/\b.FitS (k3 n0 n1 n2) S 1/\c.FitS (k3 n0 n1 n2) S 2
theorem i7{rows:List (List Th)}(hl:(rows.length:Int)=S)(h:∀row∈rows,lh n0 n1 n2 S row):jv (k3 n0 n1 n2) (k3 n0 n1 n2) S rows:=by
 refine⟨hl,λrow hr=>?_⟩;obtain⟨a,b,c,rfl,h1,h2,h3⟩:=h row hr;refine⟨B?,λj p k hp hk=>?_⟩;unfold k3 at hk
 match j,hp,hk with
 |0,hp,hk=>cases hp;cases hk;exact h1
 |1,hp,hk=>cases hp;cases hk;exact h2
 |2,hp,hk=>cases hp;cases hk;exact h3
 |j+3,hp,_=>simp at hp
theorem lF{s:Int}(h0:0<=s)(h1:s<S):lh n0 n1 n2 S (pl n0 n1 n2 s) :=
 ⟨_,_,_,rfl,lm _ _,rF (dL ⟨h0,h1,by decide,by decide⟩),kI (dL ⟨h0,h1,by decide,by decide⟩) (dL ⟨h0,h1,by decide,by decide⟩)⟩
theorem tq(nm:N3 n0 n1 n2){rows:List (List Th)}{s:Int}{a b c:Th}(hr:rows[s.toNat]?=A? [a,b,c]):aP (k3 n0 n1 n2) rows s n0=a/\aP (k3 n0 n1 n2) rows s n1=b/\aP (k3 n0 n1 n2) rows s n2=c :=
 ⟨eX nm.good hr (j:=0) rfl rfl,eX nm.good hr (j:=1) rfl rfl,eX nm.good hr (j:=2) rfl rfl⟩
theorem jy{rows:List (List Th)}{s:Int}(h:rows[s.toNat]?=A? row):rowOf rows s=row:=by
 unfold rowOf;rw[Pm,h];rfl
def bL(n0 n2:LL)(x:Th):List Th:=[.knot n0 [],x,.knot n2 [.call 0 0,.call 0 1]]
theorem jC{s:Int}(h:pat s n0=.knot n0 []):dX pat (.knot n0 []) s=.knot n0 []:=by
 rw[cS,h,cQ];rfl
theorem i4(h:pat 0 n1=abT n0 n1 n2 way many (.call 0 0)):∀m:Nat,dX pat (chn n1 m (.call 0 0)) 0=gr n0 n1 n2 way many m
 |0=>by rw[chn,bO];rfl
 | m+1=>by
   rw[chn,cS,h,gr];unfold made;rw[qp,Yb];show abT n0 n1 n2 way many (dX pat (chn n1 m (.call 0 0)) 0)=_;rw[i4 h m]
theorem lX{d l:Int}(h:pat c n2=.knot n2 [.call d 0,.call d 1]):dX pat (.knot n2 [.call l 0,.call l 1]) c=.knot n2 [.call (enc d l) 0,.call (enc d l) 1]:=by
 rw[cS,h];unfold made;rw[Yb,fills,fills,fills,Yb,Yb];show Xc n2 [dX pat (.call l 0) d,dX pat (.call l 1) d]=_;rw[bO,bO]
theorem pF{d l:Int}(h:pat c n1=.knot n1 [.call d 0]):dX pat (.knot n1 [.call l 0]) c=.knot n1 [.call (enc d l) 0]:=by
 rw[cS,h];unfold made;rw[Yb,fills,fills,Yb];show Xc n1 [dX pat (.call l 0) d]=_;rw[bO]
theorem fy:∀{l:List Int},(∀x∈l,x=0)->aR [0] l=[0]
 | [],_=>rfl
 | x::l,h=>by
   obtain rfl:=h x (L5 ..);show aR (cq [0] 0) l=[0];exact fy λy hy=>h y (LS _ hy)
theorem lN{l:List Int}(h:∀x∈l,x=0)(u6:l≠[]):aR [] l=[0]:=by
 cases l with
 |nil=>exact Wa rfl u6
 | cons x l =>
   obtain rfl:=h x (L5 ..);show aR (cq [] 0) l=[0];exact fy λy hy=>h y (LS _ hy)
theorem nB(way many:Int):∀m:Nat,(∀x∈stT (gr n0 n1 n2 way many m),x=0)/\stT (gr n0 n1 n2 way many m)≠[]
 | 0=>by
   rw[gr,dE];exact⟨λx hx=>LM.mp hx,by simp⟩
 | m+1=>by
   obtain⟨h1,h2⟩:=nB way many m;rw[gr];unfold abT;split
   .rw[bJ];show(∀x∈stT _++(stT _++[]),x=0)/\_;refine⟨λx hx=>?_,λz=>h2 (List.append_eq_nil_iff.mp z).1⟩;rw[ME]at hx;exact(Mw.mp hx).elim (h1 x) (h1 x)
   .split
    .rw[(fc n1 _ _).2.2.2];exact⟨h1,h2⟩
    .rw[bJ];show(∀x∈stT _++(stT _++[]),x=0)/\stT _++(stT _++[])≠[];rw[(cB 6 _).2.2.2.2,Px,ME];exact⟨h1,h2⟩
theorem m8(way many:Int):Small (gr n0 n1 n2 way many 0)/\Small (gr n0 n1 n2 way many 1):=by
 refine⟨⟨by rw[gr,Xb];decide,by rw[gr,Tc];decide,by rw[gr,cnT];decide⟩,?_⟩;have ht:=(i9 (n0:=n0) (n1:=n1) (n2:=n2) way many 1).2;have y0:=Mx many (show(3:Int)≠0 by decide);have y1:=Md many (show(0:Int)<3 by decide);have z0:=Mx many (show(40:Int)≠0 by decide);have z1:=Md many (show(0:Int)<40 by decide);refine⟨by lia,?_,?_⟩ <;> rw[gr,gr] <;> unfold abT
 .split
  .rw[Tc,kns,kns,kns,Tc];decide
  .split
   .rw[(fc n1 _ _).2.2.1,Tc];lia
   .have:=(cB (n0:=n0) (n1:=n1) (n2:=n2) 6 (1+many%40)).2.2.2.1 (by lia) (by show 1+many%40<((64:Nat):Int);lia);rw[Tc,kns,kns,kns,Tc];lia
 .split
  .rw[cnT,aM,aM,aM,cnT];decide
  .split
   .rw[(fc n1 _ _).1,cnT];decide
   .have:=(cB (n0:=n0) (n1:=n1) (n2:=n2) 6 (1+many%40)).2.1;rw[cnT,aM,aM,aM,cnT,this];decide
theorem cj(n:LL)(s:Int):Small (.knot n [])/\Small (.knot n [.call s 0])/\Small (.knot n [.call s 0,.call s 1]):=by
 refine⟨⟨?_,?_,?_⟩,⟨?_,?_,?_⟩,⟨?_,?_,?_⟩⟩
 .rw[Xb,aK];decide
 .rw[Tc,kns];decide
 .rw[cnT,aM];decide
 .rw[Xb,aK,aK,Xb];decide
 .rw[Tc,kns,kns,Tc];decide
 .rw[cnT,aM,aM,cnT];decide
 .rw[Xb,aK,aK,aK,Xb,Xb];decide
 .rw[Tc,kns,kns,kns,Tc,Tc];decide
 .rw[cnT,aM,aM,aM,cnT,cnT];decide
theorem lz(nm:N3 n0 n1 n2){rows1:List (List Th)}{m h:Nat}(hr:rows1[0]?=A? (bL n0 n2 (chn n1 m (.call 0 0)))) :
 joH (k3 n0 n1 n2) [bL n0 n2 (abT n0 n1 n2 way many (.call 0 0))] (.call 0 0) (chn n1 h (.call 0 0))=gr n0 n1 n2 way many h /\
 joR (k3 n0 n1 n2) [bL n0 n2 (abT n0 n1 n2 way many (.call 0 0))] rows1 0=[.knot n0 [],gr n0 n1 n2 way many m,.knot n2 [.call 0 0,.call 0 1]] /\
 aU (joR (k3 n0 n1 n2) [bL n0 n2 (abT n0 n1 n2 way many (.call 0 0))] rows1) (gr n0 n1 n2 way many h)=[0]:=by
 obtain⟨p0,p1,p2⟩:=tq nm (rows:=[bL n0 n2 (abT n0 n1 n2 way many (.call 0 0))]) (s:=0) (hr:=rfl)
 have e2:joR (k3 n0 n1 n2) [bL n0 n2 (abT n0 n1 n2 way many (.call 0 0))] rows1 0=[.knot n0 [],gr n0 n1 n2 way many m,.knot n2 [.call 0 0,.call 0 1]]:=by
  unfold joR;rw[show(0:Int)%1000=0 from rfl,show(0:Int) / 1000=0 from rfl,jy (s:=0) hr];show[made _ _ _,made _ _ _,made _ _ _]=_;rw[cm,cm,cm,jC p0,i4 p1,lX p2];rfl
 refine⟨?_,e2,?_⟩
 .unfold joH;rw[cm];exact i4 p1 h
 .unfold aU;obtain⟨s1,s2⟩:=nB (n0:=n0) (n1:=n1) (n2:=n2) way many h;rw[lN s1 s2,bfs];show bfs _ 20 (aR [0] (bE (joR _ _ rows1 0))) 1=[0];rw[e2,fy,lO _ _ _ _ (LC 1)];intro x hx;have uT:x∈stT (.knot n0 [])++(stT (gr n0 n1 n2 way many m)++(stT (.knot n2 [.call 0 0,.call 0 1])++[])):=hx;rcases Mw.mp uT with z|z
  .cases z
  .rcases Mw.mp z with z|z
   .exact(nB way many m).1 x z
   .have z':x∈[(0:Int),0]:=z;simp at z';exact z'
theorem lG(nm:N3 n0 n1 n2){r0 r1:List Th}{m h m0:Nat}{due:Option Int}(er:r0=bL n0 n2 (chn n1 m (.call 0 0)))(h0:lh n0 n1 n2 2 r0)(h1:lh n0 n1 n2 2 r1)
 (hs:(m=1/\h=0/\due=Ak)\/(((m=1/\h=m0)\/(m=m0/\h=0))/\(due=A? 1/\¬Small (gr n0 n1 n2 way many j)\/due=Ak/\Small (gr n0 n1 n2 way many j))/\j<=m0/\(j=m0\/300<cnT (gr n0 n1 n2 way many j)))) :
 kz (k3 n0 n1 n2) due 1 2 1 (chn n1 h (.call 0 0)) (.call 0 0) [r0,r1] [bL n0 n2 (abT n0 n1 n2 way many (.call 0 0))]:=by
 obtain⟨c1,c2,c3⟩:=lz nm (way:=way) (many:=many) (rows1:=[r0,r1]) (m:=m) (h:=h) (by rw[er];rfl);obtain⟨g0,g1⟩:=m8 (n0:=n0) (n1:=n1) (n2:=n2) way many;refine⟨⟨nm.good,nm.good,by show 3<=8;decide,i7 rfl λrow hr=>?_,i7 rfl λrow hr=>?_,eS (dL (by decide)) _,dL (by decide),by decide⟩,?_⟩
 .simp at hr;rcases hr with rfl|rfl
  .exact h0
  .exact h1
 .rw[LM.mp hr];exact⟨_,_,_,B?,lm _ _,pe (dL (by decide)),kI (dL (by decide)) (dL (by decide))⟩
 .have key:(Small (gr n0 n1 n2 way many h)/\∀s∈[(0:Int)],∀t∈joR (k3 n0 n1 n2) [bL n0 n2 (abT n0 n1 n2 way many (.call 0 0))] [r0,r1] s,Small t)↔Small (gr n0 n1 n2 way many h)/\Small (gr n0 n1 n2 way many m):=by
   constructor
   .rintro⟨a,b⟩;refine⟨a,b 0 (List.mem_singleton_self _) _ ?_⟩;rw[c2];simp
   .rintro⟨a,b⟩;refine⟨a,λs hs t ht=>?_⟩;rw[LM.mp hs,c2]at ht;simp at ht;rcases ht with rfl|rfl|rfl
    .exact(cj _ 0).1
    .exact b
    .exact(cj _ 0).2.2
  rw[c1,c3]
  have told:Small (gr n0 n1 n2 way many h)->Small (gr n0 n1 n2 way many m)->ki (k3 n0 n1 n2) (chn n1 h (.call 0 0)) (.call 0 0) [r0,r1] [bL n0 n2 (abT n0 n1 n2 way many (.call 0 0))]:=λa b=>by
   refine⟨by rw[c1,c3];decide,by rw[c1];exact a,λs hs t ht=>?_⟩;rw[c1,c3]at hs;exact(key.mpr ⟨a,b⟩).2 s hs t ht
  rcases hs with⟨rfl,rfl,rfl⟩|⟨hm,hd,hj,BC⟩
  .exact .inl ⟨rfl,told g0 g1,rfl⟩
  .have big:¬Small (gr n0 n1 n2 way many j)->¬Small (gr n0 n1 n2 way many m0):=λhn z=>by
    rcases BC with e|e
    .exact hn (by rw[e];exact z)
    .have:=ml (n0:=n0) (n1:=n1) (n2:=n2) way many m0 hj;have:=z.cn;lia
   have GK:Small (gr n0 n1 n2 way many j)->Small (gr n0 n1 n2 way many m0):=λz=>by
    rcases BC with e|e
    .rw[<-e];exact z
    .have:=z.cn;lia
   rcases hd with⟨rfl,hn⟩|⟨rfl,hn⟩
   .refine .inr (.inl ⟨rfl,by decide,λz=>?_⟩);obtain⟨a,b⟩:=key.mp z;rcases hm with⟨rfl,rfl⟩|⟨rfl,rfl⟩
    .exact big hn a
    .exact big hn b
   .refine .inl ⟨rfl,?_,rfl⟩;rcases hm with⟨rfl,rfl⟩|⟨rfl,rfl⟩
    .exact told (GK hn) g1
    .exact told g0 (GK hn)
def aZ(n0 n1 n2:LL)(sz:Nat):List (List Th):=(ML sz).map λk=>pl n0 n1 n2 (((k+1)%sz:Nat):Int)
def nxI(one two:Nat)(s:Int):Int:=enc ((s / 1000+1)%(two:Nat)) ((s%1000+1)%(one:Nat))
def kX(nx:Int->Int):Nat->List Int->Nat->List Int
 |0,m,_=>m
 | n+1,m,i=>match m[i]? with
   |none=>m
   |some s=>kX nx n (cq m (nx s)) (i+1)
def kQ(one two:Nat):Bool:=match(ML two).find? (λj=>one * (j+1)%two == 0)with
 |none=>AH
 |some j=>if one * (j+1)<=20 then(kX (nxI one two) 21 [0] 0).length == one * (j+1)else decide (20<(kX (nxI one two) 21 [0] 0).length)
theorem n5:((ML 20).all λone=>(ML 20).all λtwo=>kQ (one+1) (two+1))=true:=by decide +kernel
theorem qj{one:Nat}(h1:1<=one)(h2:one<=20)(h3:1<=two)(h4:two<=20):kQ one two=true:=by
 have h:=Nx.mp n5 (one - 1) (NT.mpr (by lia));have h':=Nx.mp h (two - 1) (NT.mpr (by lia))
 rwa [show one - 1+1=one by lia,show two - 1+1=two by lia]at h'
theorem jz{s:Int}(h:s∈m):cq m s=m:=Sa h
theorem lq(m:List Int)(s:Int):aR m [s,s,s]=cq m s:=by
 have hm:s∈cq m s:=g7.mpr (.inr rfl);show cq (cq (cq m s) s) s=cq m s;rw[jz hm,jz hm]
theorem qS{R:Int->List Th}{nx:Int->Int}{p:Int->Prop}(h:∀s,p s->bE (R s)=[nx s,nx s,nx s]/\p (nx s)):∀(n:Nat)(m:List Int)(i:Nat),(∀x∈m,p x)->bfs R n m i=kX nx n m i
 |0,m,i,_=>rfl
 | n+1,m,i,hm=>by
   rw[bfs,kX];cases e:m[i]? with
   |none=>rfl
   | some s =>
     have hs:=hm s (L9 e);obtain⟨h1,h2⟩:=h s hs;show bfs R n (aR m (bE (R s))) (i+1)=kX nx n (cq m (nx s)) (i+1);rw[h1,lq];refine qS h n _ _ λx hx=>?_;rcases g7.mp hx with z|rfl
     .exact hm x z
     .exact h2
theorem ju{sz l:Nat}(h:l<sz):(aZ n0 n1 n2 sz)[l]?=A? (pl n0 n1 n2 (((l+1)%sz:Nat):Int)):=by
 unfold aZ;rw[LZ,List.getElem?_range h];rfl
theorem sX(e:Int):bE (pl n0 n1 n2 e)=[e,e,e]:=by
 show stT _++(stT _++(stT _++[]))=_;rw[bJ,bJ,bJ];show[]++((stT (.call e 0)++[])++((stT (.call e 0)++(stT (.call e 1)++[]))++[]))=_;rw[dE,dE];rfl
theorem jT(nm:N3 n0 n1 n2){one:Nat}{s:Int}(h:PairOk (two:Nat) (one:Nat) s):joR (k3 n0 n1 n2) (aZ n0 n1 n2 two) (aZ n0 n1 n2 one) s=pl n0 n1 n2 (nxI one two s):=by
 obtain⟨a,b,c,d⟩:=h;have hl:=ju (n0:=n0) (n1:=n1) (n2:=n2) (sz:=one) (l:=(s%1000).toNat) (by lia);have hc:=ju (n0:=n0) (n1:=n1) (n2:=n2) (sz:=two) (l:=(s / 1000).toNat) (by lia);obtain⟨p0,p1,p2⟩:=tq nm (rows:=aZ n0 n1 n2 two) (s:=s / 1000) (hr:=hc);unfold joR;rw[jy hl];show[made _ _ _,made _ _ _,made _ _ _]=_;rw[cm,cm,cm,jC p0,pF p1,lX p2]
 have e1:((((s / 1000).toNat+1)%two:Nat):Int)=(s / 1000+1)%(two:Nat):=by
  rw[Pn];congr 1;lia
 have e2:((((s%1000).toNat+1)%one:Nat):Int)=(s%1000+1)%(one:Nat):=by
  rw[Pn];congr 1;lia
 rw[e1,e2];rfl
theorem nt(nm:N3 n0 n1 n2){one:Nat}(h1:1<=one)(h2:one<=20)(h3:1<=two)(h4:two<=20)(hj:j<two)(hz:one * (j+1)%two=0)(hf:∀i<j,one * (i+1)%two≠0) :
 kz (k3 n0 n1 n2) (if 20<one * (j+1)then A? 2 else Ak) (one * (j+1):Nat) (one:Nat) (two:Nat) (.call 0 0) (.call 0 0) (aZ n0 n1 n2 one) (aZ n0 n1 n2 two):=by
 have hlen:∀sz:Nat,(aZ n0 n1 n2 sz).length=sz:=λsz=>by unfold aZ;rw[Lx,NM]
 have vJ:∀sz:Nat,1<=sz->jv (k3 n0 n1 n2) (k3 n0 n1 n2) (sz:Nat) (aZ n0 n1 n2 sz):=λsz hs=>i7 (by rw[hlen]) λrow hr=>by
  obtain⟨k,_,rfl⟩:=MZ.mp hr;have:=Nat.mod_lt (k+1) (show 0<sz by lia);exact lF (by lia) (by lia)
 have J:JoinW (k3 n0 n1 n2) (k3 n0 n1 n2) (k3 n0 n1 n2) (one:Nat) (two:Nat) (.call 0 0) (.call 0 0) (aZ n0 n1 n2 one) (aZ n0 n1 n2 two) :=
  ⟨nm.good,nm.good,by show 3<=8;decide,vJ one h1,vJ two h3,dL ⟨by decide,by lia,by decide,by decide⟩,dL ⟨by decide,by lia,by decide,by decide⟩,by lia⟩
 have eH:joH (k3 n0 n1 n2) (aZ n0 n1 n2 two) (.call 0 0) (.call 0 0)=.call 0 0:=by
  unfold joH;rw[cm,bO];rfl
 have eM:aU (joR (k3 n0 n1 n2) (aZ n0 n1 n2 two) (aZ n0 n1 n2 one)) (.call 0 0)=kX (nxI one two) 21 [0] 0:=by
  unfold aU;refine(qS (p:=PairOk (two:Nat) (one:Nat)) (λs hs=>?_) 21 _ 0 ?_)
  .rw[jT nm hs,sX];refine⟨B?,?_⟩;have g1:=Mx (s / 1000+1) (show((two:Nat):Int)≠0 by lia);have g2:=Md (s / 1000+1) (show(0:Int)<(two:Nat)by lia);have g3:=Mx (s%1000+1) (show((one:Nat):Int)≠0 by lia);have g4:=Md (s%1000+1) (show(0:Int)<(one:Nat)by lia);exact PairOk.enc g1 g2 g3 g4 (by lia)
  .intro x hx;rw[dE]at hx;have uT:x∈[(0:Int)]:=hx;rw[LM.mp uT];exact⟨by decide,by show(0:Int)<(two:Nat);lia,by decide,by show(0:Int)<(one:Nat);lia⟩
 have xc:Small (joH (k3 n0 n1 n2) (aZ n0 n1 n2 two) (.call 0 0) (.call 0 0)):=by
  rw[eH];exact⟨by rw[Xb];decide,by rw[Tc];decide,by rw[cnT];decide⟩
 have uL:∀s∈aU (joR (k3 n0 n1 n2) (aZ n0 n1 n2 two) (aZ n0 n1 n2 one)) (joH (k3 n0 n1 n2) (aZ n0 n1 n2 two) (.call 0 0) (.call 0 0)),∀t∈joR (k3 n0 n1 n2) (aZ n0 n1 n2 two) (aZ n0 n1 n2 one) s,Small t:=λs hs t ht=>by
  rw[jT nm (J.met s hs)]at ht;unfold pl at ht;simp at ht;rcases ht with rfl|rfl|rfl
  .exact(cj _ 0).1
  .exact(cj _ _).2.1
  .exact(cj _ _).2.2
 have hk:=qj h1 h2 h3 h4
 have Jn:(ML two).find? (λj=>one * (j+1)%two == 0)=A? j:=by
  rw[List.find?_range_eq_some];refine⟨beq_iff_eq.mpr hz,NT.mpr hj,λi hi=>?_⟩;have:=hf i hi;simpa using this
 unfold kQ at hk;rw[Jn]at hk;refine⟨J,?_⟩;rw[eH,eM];rw[eH,eM]at uL;rw[eH]at xc;by_cases hm:20<one * (j+1)
 .rw[Sa hm];simp only[show¬one * (j+1)<=20 by lia,if_false]at hk;have:=Va hk;exact .inr (.inr ⟨rfl,⟨xc,uL⟩,by lia⟩)
 .rw[Ra hm];simp only[show one * (j+1)<=20 by lia,if_true]at hk;have hk:=beq_iff_eq.mp hk;exact .inl ⟨rfl,⟨by rw[eH,eM];lia,by rw[eH];exact xc,by rw[eH,eM];exact uL⟩,by rw[hk]⟩
end BB
namespace LAW
open PySem L2 BB
def top(i:Nat):NP:=PySem.Challenge.pw_boughbook_k43_joining_refused.main.body.getD i (.Pass ⟨0,0,0,0⟩)
theorem scm{P:List LL}(a:sc.kind=.function:=by rfl)(b:sc.isCoroutine=false:=by rfl)(c:sc.isGenerator=false:=by rfl)(d:N.Nodup:=by decide +kernel)(e:N.take P.length=P:=by rfl)(f:∀x∈P,sc.names.lookup x=A? .local\/sc.names.lookup x=A? .cell:=by decide +kernel)(g:∀y∈sc.names,y.2≠.free:=by decide +kernel):bX N P sc:=⟨a,b,c,d,e,f,g⟩
abbrev ND(l:List LL):Prop:=l.Nodup
abbrev sC(N:List LL)(k i:Nat):Prop:=bX N (N.take k) (az (top i))
theorem lg:sC ["thing"] 1 8:=scm
theorem dQ:sC ["thing","met","ahead","part"] 1 9:=scm
theorem fq:sC ["tops","done","top","many"] 1 10:=scm
theorem li:sC ["thing"] 1 12:=scm
theorem jq:sC ["call"] 1 13:=scm
theorem iZ:sC ["pattern"] 1 14:=scm
theorem iL:sC ["part","many"] 1 15:=scm
theorem fD:sC ["pattern","table","tops","part"] 2 16:=scm
theorem cH:sC ["pattern","names","table","state","kid"] 2 17:=scm
theorem gp:bX ["self"] ["self"] (az (inClass (top 23) 0)):=scm
theorem fz:bX ["self","part","row"] ["self","part","row"] (az (inClass (top 23) 1)):=scm
theorem mO:sC ["book"] 1 24:=scm
theorem kR:sC ["book"] 1 25:=scm
theorem lj:sC ["book"] 1 26:=scm
theorem kh:sC ["book"] 1 27:=scm
theorem jn:sC ["book"] 1 28:=scm
theorem ej:sC ["book","state","name","names"] 3 29:=scm
theorem eC:sC ["pattern","numbers","thing","kid"] 2 31:=scm
theorem cf:sC ["ins","outs","head","patterns_of","numbers","fresh_head","rules","thing"] 4 32:=scm
theorem pd:sC ["tree"] 1 34:=scm
theorem kU:sC ["state"] 1 35:=scm
theorem bv:sC ["second","part","knot","state","kid","lower","handed"] 3 37:=scm
theorem aX:sC ["second","head","pattern","tops","measure","ahead","part","knot","row"] 3 38:=scm
abbrev g8:NP:=top 39
theorem fP:sC ["first","second","patterns_of","head"] 2 39:=scm
theorem cY:sC ["cell","k","near"] 2 42:=scm
theorem ff:sC ["names","many","part"] 2 43:=scm
theorem cL:sC ["names","way","many","part","k"] 4 44:=scm
theorem cX:sC ["pattern","sizes","high"] 1 45:=scm
theorem b9:sC ["names","way","many","high","pattern","k"] 4 46:=scm
theorem eg:sC ["names","state","one"] 2 47:=scm
theorem ap:sC ["names","kinds","rest","high","way","many","spot","call","row","k","rules","head","first","own","second","due","size"] 3 48:=scm
theorem cZ:sC ["names","kinds","size","rules","k"] 3 49:=scm
theorem aY:sC ["names","kinds","rest","one","two","many","due"] 3 50:=scm
theorem cu:sC ["kinds","rest","way"] 2 51:=scm
theorem bH:sC ["second","kinds","other","rules","row","known"] 3 52:=scm
theorem bB:sC ["first","second","told","e"] 2 53:=scm
theorem aJ:sC ["names","cell","kinds","rest","first","second","due","many"] 2 54:=scm
theorem gN:sC ["script","cell","letter","stem","names"] 1 55:=scm
structure FX(K:Ly)(mg:LL->Option Lu)(n:LL)(i:Nat)(ps:List LL) where
 f:Ls
 d:M7
 F:Fun K n n (top i) f d
 b:Binds K d ps []
 m:mg n=A? (.ref f)
structure FT(K:Ly)(mg:LL->Option Lu)(n:LL)(i:Nat)(ps:List LL) extends FX K mg n i ps where
 tc:Ls
 tp:Ls
 th:d.code=.ref tc
 t:Oz K n=A? (tc,tp)
 u:K.lookup tp=Ak
structure FM(K:Ly)(e:Ls)(n q:LL)(s:NP)(ps:List LL) where
 f:Ls
 d:M7
 F:Fun K n q s f d
 b:Binds K d ps []
 me:Meth K e n f
section
open PySem.W
variable{K:Frag}{n q:LL}{e:Ls}{kV dc pm ct:Lu}{an:Option Ls}{sl:Array (Option Lu)}
abbrev HB(n q:LL)(st:NP)(ps:List LL):Prop:=∀(kV dc pm:Lu)(an:Option Ls)(cd ct:Lu)(us:List Lu),us.length=ps.length->Pd (fnOf n q (bw st) (aW st) (az st) .none kV dc pm an cd ct) ⟨us,[]⟩=pure (ps.zip us)
theorem hb1{p0:LL}(h:∀(kV dc pm:Lu)(an:Option Ls)(cd ct u0:Lu),Pd (fnOf n q (bw st) (aW st) (az st) .none kV dc pm an cd ct) ⟨[u0],[]⟩=pure [(p0,u0)]):HB n q st [p0]:=λa b c d e f us hl=>by obtain⟨u0,rfl⟩:=us1 hl;exact h a b c d e f u0
theorem hb2{p0:LL}(h:∀(kV dc pm:Lu)(an:Option Ls)(cd ct u0 u1:Lu),Pd (fnOf n q (bw st) (aW st) (az st) .none kV dc pm an cd ct) ⟨[u0,u1],[]⟩=pure [(p0,u0),(p1,u1)]):HB n q st [p0,p1]:=λa b c d e f us hl=>by obtain⟨u0,u1,rfl⟩:=us2 hl;exact h a b c d e f u0 u1
theorem hb3{p0 p2:LL}(h:∀(kV dc pm:Lu)(an:Option Ls)(cd ct u0 u1 u2:Lu),Pd (fnOf n q (bw st) (aW st) (az st) .none kV dc pm an cd ct) ⟨[u0,u1,u2],[]⟩=pure [(p0,u0),(p1,u1),(p2,u2)]):HB n q st [p0,p1,p2]:=λa b c d e f us hl=>by obtain⟨u0,u1,u2,rfl⟩:=us3 hl;exact h a b c d e f u0 u1 u2
theorem hb4{p0 p2 p3:LL}(h:∀(kV dc pm:Lu)(an:Option Ls)(cd ct u0 u1 u2 u3:Lu),Pd (fnOf n q (bw st) (aW st) (az st) .none kV dc pm an cd ct) ⟨[u0,u1,u2,u3],[]⟩=pure [(p0,u0),(p1,u1),(p2,u2),(p3,u3)]):HB n q st [p0,p1,p2,p3]:=λa b c d e f us hl=>by obtain⟨u0,u1,u2,u3,rfl⟩:=us4 hl;exact h a b c d e f u0 u1 u2 u3
noncomputable def fm(a:findIn K (.ref e) n=A? (A? (.ref f)):=by k_is)(i:isFn K (.ref f)=true:=by k_is)(l:K.lookup f=A? ⟨oc,od,.func (fnOf n q (bw st) (aW st) (az st) .none kV dc pm an cd ct),sl⟩:=by k_is)(c:codeIn K cd q=true:=by k_is)(k:keepIn K (.ref f)=true:=by k_is)(hb:HB n q (st) ps:=by first|exact LAW.hb1 λ_ _ _ _ _ _ _=>rfl|exact LAW.hb2 λ_ _ _ _ _ _ _ _=>rfl|exact LAW.hb3 λ_ _ _ _ _ _ _ _ _=>rfl|exact LAW.hb4 λ_ _ _ _ _ _ _ _ _ _=>rfl):FM K e n q st ps:=⟨f,_,gA l c k,(gA l c k).binds hb,⟨a,i,k⟩⟩
theorem na(a:findIn K (.ref e) n=A? none:=by k_is):NoAttr K e n:=a
variable(X:K.In h)(G:h.Ns My mg)
noncomputable def fx{i:Nat}(a:nsIn K My n=A? (A? (.ref f)):=by k_is)(l:K.lookup f=A? ⟨oc,od,.func (fnOf n n (bw (top i)) (aW (top i)) (az (top i)) .none kV dc pm an cd ct),sl⟩:=by k_is)(c:codeIn K cd n=true:=by k_is)(k:keepIn K (.ref f)=true:=by k_is)(hb:HB n n (top i) ps:=by first|exact LAW.hb1 λ_ _ _ _ _ _ _=>rfl|exact LAW.hb2 λ_ _ _ _ _ _ _ _=>rfl|exact LAW.hb3 λ_ _ _ _ _ _ _ _ _=>rfl|exact LAW.hb4 λ_ _ _ _ _ _ _ _ _ _=>rfl):FX K mg n i ps:=⟨f,_,gA l c k,(gA l c k).binds hb,mg_of X G a⟩
noncomputable def ft{i:Nat}{tc tp:Ls}{to:M4}(a:nsIn K My n=A? (A? (.ref f)):=by k_is)(l:K.lookup f=A? ⟨oc,od,.func (fnOf n n (bw (top i)) (aW (top i)) (az (top i)) .none kV dc pm an cd ct),sl⟩:=by k_is)(c:codeIn K cd n=true:=by k_is)(k:keepIn K (.ref f)=true:=by k_is)(hb:HB n n (top i) ps:=by first|exact LAW.hb1 λ_ _ _ _ _ _ _=>rfl|exact LAW.hb2 λ_ _ _ _ _ _ _ _=>rfl|exact LAW.hb3 λ_ _ _ _ _ _ _ _ _=>rfl|exact LAW.hb4 λ_ _ _ _ _ _ _ _ _ _=>rfl)(e:cd=.ref tc:=by rfl)(v:K.lookup tc=A? to:=by k_is)(x:tabAt to=A? tp:=by rfl)(u:K.lookup tp=none:=by kernel_rfl):FT K mg n i ps:=have t:=rg a l e v x;⟨fx X G a l c k hb,tc,tp,qr (gA l c k) a t,t,u⟩
include X G
theorem bn(a:nsIn K My n=A? none:=by k_is):mg n=none:=mg_none_of X G a
theorem gn(a:nsIn K My n=A? (A? (.ref f)):=by k_is):mg n=A? (.ref f):=mg_of X G a
theorem cs(a:nsIn K My n=A? (A? (.str x tk)):=by k_is):∃tk,mg n=A? (.str x tk):=⟨tk,mg_of X G a⟩
theorem ci{x:Int}(a:nsIn K My n=A? (A? (.int x tk)):=by k_is):∃tk,mg n=A? (.int x tk):=⟨tk,mg_of X G a⟩
end
theorem pcF{X:Cx}{kk k:Nat}{n:LL}{st:Nat}{t:TA}{p:Oi}(g:FX X.K X.mg n st ps)(F:FnOk X.prog X.w X.K X.mg X.base CX0 k g.f g.d ps sp)(hr:Room kk X.A)(ha:PA X (e::es) t)(hle:k<=kk:=by first|decide|lia)(hg:Gl X n:=by rfl)(wM:(n == ("__debug__":LL))=false:=by decide)(he:L7 (e::es) X.env=(AH,Nd e X.env)::L7 es X.env:=by rfl)(vL:(NG pos (L7 es X.env)).any (·.1)=false:=by rfl):PE X (.Call (.Name n p) (e::es) [] pos) (fW sp [] E0 t) :=
 b7 F (hr.mono hle) hg g.m g.F.kp g.b .nil gb ha wM he vL
structure TX(K:Ly)(mg:LL->Option Lu) where
 c_CALL_SIGN:∃tk,mg "CALL_SIGN"=A? (.str (LI "?") tk)
 c_MOST_STATES:∃tk,mg "MOST_STATES"=A? (.int (20) tk)
 c_MOST_ROWS:∃tk,mg "MOST_ROWS"=A? (.int (20) tk)
 c_MOST_KNOTS:∃tk,mg "MOST_KNOTS"=A? (.int (400) tk)
 c_MOST_CALLS:∃tk,mg "MOST_CALLS"=A? (.int (200) tk)
 e_BookError:Ls
 x_BookError:mg "BookError"=A? (.ref e_BookError)
 e_NoBook:Ls
 x_NoBook:mg "NoBook"=A? (.ref e_NoBook)
 e_NotOne:Ls
 x_NotOne:mg "NotOne"=A? (.ref e_NotOne)
 e_Great:Ls
 x_Great:mg "Great"=A? (.ref e_Great)
 e_Many:Ls
 x_Many:mg "Many"=A? (.ref e_Many)
 xe_Many:PySem.W.excIn K e_Many [.type "ValueError",.type "Exception",.type "BaseException",.type "object"] "ValueError.__new__"=AG
 xg_Many:Mo K (.ref e_Many) "__getattribute__"=A? (A? (.builtin "BaseException.__getattribute__"))
 xh_Many:Mo K (.ref e_Many) "__getattr__"=A? Ak
 xc_Many:Mo K (.ref e_Many) "__class__"=A? (A? (.builtin "object.__class__"))
 xo_Many:OA K e_Many (.type "object")=A? AG
 xb_Many:OA K e_Many (.type "BaseException")=A? AG
 hit_Many_BookError:PySem.W.exmOne K (.ref e_Many) (.ref e_BookError)=A? AG
 kit_Many_NotOne:MF K (.ref e_Many) (.ref e_NotOne)=A? AH
 kit_Many_Great:MF K (.ref e_Many) (.ref e_Great)=A? AH
 kit_Many_Many:MF K (.ref e_Many) (.ref e_Many)=A? AG
 kit_Many_NoBook:MF K (.ref e_Many) (.ref e_NoBook)=A? AH
 kit_Many_ValueError:MF K (.ref e_Many) (.type "ValueError")=A? AG
 xe_Great:PySem.W.excIn K e_Great [.type "ValueError",.type "Exception",.type "BaseException",.type "object"] "ValueError.__new__"=AG
 xg_Great:Mo K (.ref e_Great) "__getattribute__"=A? (A? (.builtin "BaseException.__getattribute__"))
 xh_Great:Mo K (.ref e_Great) "__getattr__"=A? Ak
 xc_Great:Mo K (.ref e_Great) "__class__"=A? (A? (.builtin "object.__class__"))
 xo_Great:OA K e_Great (.type "object")=A? AG
 xb_Great:OA K e_Great (.type "BaseException")=A? AG
 hit_Great_BookError:PySem.W.exmOne K (.ref e_Great) (.ref e_BookError)=A? AG
 kit_Great_NotOne:MF K (.ref e_Great) (.ref e_NotOne)=A? AH
 kit_Great_Great:MF K (.ref e_Great) (.ref e_Great)=A? AG
 kit_Great_Many:MF K (.ref e_Great) (.ref e_Many)=A? AH
 kit_Great_NoBook:MF K (.ref e_Great) (.ref e_NoBook)=A? AH
 kit_Great_ValueError:MF K (.ref e_Great) (.type "ValueError")=A? AG
 xe_NotOne:PySem.W.excIn K e_NotOne [.type "ValueError",.type "Exception",.type "BaseException",.type "object"] "ValueError.__new__"=AG
 xg_NotOne:Mo K (.ref e_NotOne) "__getattribute__"=A? (A? (.builtin "BaseException.__getattribute__"))
 xh_NotOne:Mo K (.ref e_NotOne) "__getattr__"=A? Ak
 xc_NotOne:Mo K (.ref e_NotOne) "__class__"=A? (A? (.builtin "object.__class__"))
 xo_NotOne:OA K e_NotOne (.type "object")=A? AG
 xb_NotOne:OA K e_NotOne (.type "BaseException")=A? AG
 hit_NotOne_BookError:PySem.W.exmOne K (.ref e_NotOne) (.ref e_BookError)=A? AG
 kit_NotOne_NotOne:MF K (.ref e_NotOne) (.ref e_NotOne)=A? AG
 kit_NotOne_Great:MF K (.ref e_NotOne) (.ref e_Great)=A? AH
 kit_NotOne_Many:MF K (.ref e_NotOne) (.ref e_Many)=A? AH
 kit_NotOne_NoBook:MF K (.ref e_NotOne) (.ref e_NoBook)=A? AH
 kit_NotOne_ValueError:MF K (.ref e_NotOne) (.type "ValueError")=A? AG
 g_0:FX K mg "kids_of" 8 ["thing"]
 g_1:FX K mg "walked" 9 ["thing"]
 g_2:FX K mg "built" 10 ["tops"]
 g_3:FX K mg "is_call" 12 ["thing"]
 g_4:FX K mg "called_by" 13 ["call"]
 g_5:FX K mg "called_in" 14 ["pattern"]
 g_6:FX K mg "top_of" 15 ["part"]
 g_7:FX K mg "filled" 16 ["pattern","table"]
 g_8:FX K mg "restated" 17 ["pattern","names"]
 g_11:FX K mg "ins_of" 24 ["book"]
 g_12:FX K mg "outs_of" 25 ["book"]
 g_13:FX K mg "head_of" 26 ["book"]
 g_14:FX K mg "rules_of" 27 ["book"]
 g_15:FX K mg "states_of" 28 ["book"]
 g_16:FX K mg "pattern_of" 29 ["book","state","name"]
 g_17:FX K mg "renamed" 31 ["pattern","numbers"]
 g_18:FX K mg "numbered" 32 ["ins","outs","head","patterns_of"]
 g_19:FX K mg "above" 34 ["tree"]
 g_20:FX K mg "call_of" 35 ["state"]
 g_21:FX K mg "led_over" 37 ["second","part","knot"]
 g_22:FX K mg "run_over" 38 ["second","head","pattern"]
 g_23:FT K mg "joined" 39 ["first","second"]
 g_24:FX K mg "_law_turn" 42 ["cell","k"]
 g_25:FX K mg "_law_bush" 43 ["names","many"]
 g_26:FX K mg "_law_above" 44 ["names","way","many","part"]
 g_27:FX K mg "_law_size" 45 ["pattern"]
 g_28:FX K mg "_law_grown" 46 ["names","way","many","high"]
 g_29:FX K mg "_law_plain" 47 ["names","state"]
 g_30:FX K mg "_law_great" 48 ["names","kinds","rest"]
 g_31:FX K mg "_law_ring" 49 ["names","kinds","size"]
 g_32:FX K mg "_law_rings" 50 ["names","kinds","rest"]
 g_33:FX K mg "_law_other_kinds" 51 ["kinds","rest"]
 g_34:FX K mg "_law_beside" 52 ["second","kinds","other"]
 g_35:FX K mg "_law_refusal" 53 ["first","second"]
 g_36:FX K mg "_law_one" 54 ["names","cell"]
 g_37:FX K mg "law" 55 ["script"]
 e_Measure:Ls
 x_Measure:mg "Measure"=A? (.ref e_Measure)
 cl_Measure:Cls K e_Measure
 g_9:FM K e_Measure "__init__" "Measure.__init__" (inClass (top 23) 0) ["self"]
 g_10:FM K e_Measure "takes" "Measure.takes" (inClass (top 23) 1) ["self","part","row"]
 mi_Measure:PySem.W.makesIn K e_Measure=AG/\Nw K (.ref e_Measure)=AG
 na_Measure_met_knots:NoAttr K e_Measure "met_knots"
 na_Measure_met_calls:NoAttr K e_Measure "met_calls"
 n_0:mg "ValueError"=Ak
 n_1:mg "dict"=Ak
 n_2:mg "isinstance"=Ak
 n_3:mg "len"=Ak
 n_4:mg "list"=Ak
 n_5:mg "max"=Ak
 n_6:mg "min"=Ak
 n_7:mg "range"=Ak
 n_8:mg "reversed"=Ak
 n_9:mg "sum"=Ak
 n_10:mg "tuple"=Ak
theorem TX.X_Many(T:TX K mg):eu K T.e_Many:=⟨T.xe_Many,T.xg_Many,T.xh_Many,T.xc_Many,T.xo_Many,T.xb_Many⟩
theorem TX.X_Great(T:TX K mg):eu K T.e_Great:=⟨T.xe_Great,T.xg_Great,T.xh_Great,T.xc_Great,T.xo_Great,T.xb_Great⟩
theorem TX.X_NotOne(T:TX K mg):eu K T.e_NotOne:=⟨T.xe_NotOne,T.xg_NotOne,T.xh_NotOne,T.xc_NotOne,T.xo_NotOne,T.xb_NotOne⟩
theorem ur:ND ["number","done"]:=by decide +kernel
theorem tK:ND ["part"]:=by decide +kernel
theorem uo:ND ["kind"]:=by decide +kernel
theorem um:ND ["kid","knot","row"]:=by decide +kernel
theorem t8:ND ["pattern","numbers"]:=by decide +kernel
theorem tT:ND ["pattern","second","state"]:=by decide +kernel
theorem rh:ND ["size"]:=by decide +kernel
theorem tX:ND ["patterns"]:=by decide +kernel
theorem t9:ND ["k","kinds","row"]:=by decide +kernel
theorem tQ:ND ["kind","known","kinds"]:=by decide +kernel
theorem sT:ND ["k","names"]:=by decide +kernel
section
variable(T:TX K mg)
namespace G
inductive gE(vs:List V)(H:Hp)(Q:VK)(_E:XK):Prop
 |mk (rp:Rep) (a:Ls) (t:Th):vs=[.ref a]->AtG rp H t a->(∀(r:Ls)(as:List Ls)(H':Hp),Sb H H'->H' r=A? (.tup (as.map Rb))->AtsG rp H' t.kids as->Q (.ref r) H')->gE  vs H Q _E
theorem eB:FnOk P w K mg base CX0 1 T.g_0.f T.g_0.d ["thing"] gE:=by
 refine T.g_0.F.okA lg λuI A outer s H vs Q E hr h=>?_;obtain⟨rp,a,t,rfl,hA,k⟩:=h
 refine⟨_,(ae (bj (aI bM (ay aA (pv 0) ad (λ_ _=>rfl)) (bz (v:=.str (LI "?")) rfl T.c_CALL_SIGN.choose_spec ⟨_,B?⟩) (aD _)) (ag (aq (av ac))) aQ)
  (ag (aq (dq kN (pv 0) (dP ad) eY)))),?_⟩
 try dsimp only[uU,uH]
 cases t with
 | knot n ks =>
   rw[AtG]at hA;refine hid λZZ kZ=>?_;obtain⟨hn,as,h1,h2⟩:=hA;refine kZ ?_;refine⟨_,B?,a,_,0,.str n,B?,B?,Ub h1,at0,B?,_,B?,?_⟩;refine bI (λc=>Wa (Va c) (λz=>hn (V.str.inj z))) (λ_=>?_);refine⟨_,B?,1,B?,a,_,B?,Ub h1,?_,λr hr=>?_⟩
   .intro z;have:=z.1;simp[Wb]at this
   .rw[j2];exact k r as _ (aj hr _) af (h2.mono (fF hr))
 | call sn kn =>
   rw[AtG]at hA;obtain⟨v,hA,uY⟩:=hA;refine⟨_,B?,a,_,0,.str q,B?,B?,Ub hA,at0,B?,_,B?,?_⟩;refine bI (λ_=>?_) (λc=>Wa (Ua rfl) c);refine⟨by show 0<=LK;decide,λr hr=>?_⟩;exact k r [] _ (aj hr _) af .nil
inductive eK(vs:List V)(H:Hp)(Q:VK)(_E:XK):Prop
 |mk (rp:Rep) (a:Ls) (t:Th):vs=[.ref a]->AtG rp H t a->Q (.bl t.isCall) H->eK  vs H Q _E
theorem cC:FnOk P w K mg base CX0 1 T.g_3.f T.g_3.d ["thing"] eK:=by
 refine T.g_3.F.okA li λuI A outer s H vs Q E hr h=>?_;obtain⟨rp,a,t,rfl,hA,k⟩:=h;refine⟨_,(ag (aq (bU bM (ay aA (pv 0) ad (λ_ _=>rfl)) (bz (v:=.str (LI "?")) rfl T.c_CALL_SIGN.choose_spec ⟨_,B?⟩) (aD _)))),?_⟩
 try dsimp only[uU,uH]
 cases t with
 | knot n ks =>
   rw[AtG]at hA;refine hid λZZ kZ=>?_;obtain⟨hn,as,h1,h2⟩:=hA;refine kZ ?_;refine⟨_,B?,a,_,0,.str n,B?,B?,Ub h1,at0,B?,?_⟩;have e:decide (V.str n=V.str (LI "?"))=false:=Ta (λz=>hn (V.str.inj z));rw[e];exact k
 | call sn kn =>
   rw[AtG]at hA;obtain⟨v,hA,uY⟩:=hA;refine⟨_,B?,a,_,0,.str q,B?,B?,Ub hA,at0,B?,?_⟩;have e:decide (V.str q=V.str (LI "?"))=true:=Ua rfl;rw[e];exact k
inductive da(vs:List V)(H:Hp)(Q:VK)(_E:XK):Prop
 |mk (rp:Rep) (a:Ls) (sn kn:Int):vs=[.ref a]->AtG rp H (.call sn kn) a->(∀p v,StV rp H sn v->H p=Ak->Q (.ref p) (upd H p (.tup [v,.int kn])))->da  vs H Q _E
theorem cA:FnOk P w K mg base CX0 1 T.g_4.f T.g_4.d ["call"] da:=by
 refine T.g_4.F.okA jq λuI A outer s H vs Q E hr h=>?_;obtain⟨rp,a,sn,kn,rfl,hA,k⟩:=h;refine⟨_,(ag (aq (av (aa (ay aA (pv 0) ad (λ_ _=>rfl)) (aa (ay aA (pv 0) ad (λ_ _=>rfl)) ac))))),?_⟩
 try dsimp only[uU,uH]
 rw[AtG]at hA;obtain⟨v,hA,uY⟩:=hA;exact⟨_,B?,a,_,1,_,B?,B?,Ub hA,at1,_,B?,a,_,2,_,B?,B?,Ub hA,at2,lnE rfl,λp hp=>k p v uY hp⟩
inductive iI(vs:List V)(H:Hp)(Q:VK)(_E:XK):Prop
 |mk (rp:Rep) (a:Ls) (t:Th):vs=[.ref a]->AtG rp H t a->t.size<=100000->(∀(r:Ls)(as:List Ls)(H':Hp),Sb H H'->H r=Ak->H' r=A? (.lst (as.map Rb))->AtsG rp H' t.walk as->Q (.ref r) H')->iI  vs H Q _E
theorem iz:FnOk P w K mg base CX0 2 T.g_1.f T.g_1.d ["thing"] iI:=by
 refine T.g_1.F.okA dQ λuI A outer s H vs Q E hr h=>?_;obtain⟨rp,a,t,rfl,hA,hsz,k⟩:=h
 refine⟨_,(ae (ak 1 dQ.nd (bf ac))
  (ae (ak 2 dQ.nd (bf (aa (pv 0) ac)))
  (ae (dH MP (bF (pv 2) (λ_=>rfl)) (ae (ak 3 dQ.nd (kJ LY PK PJ lL (pv 2)))
  (ae (bq (cG LY Mu Mt aV (pv 1) (aa (pv 3) ac)))
  (ag (bq (cG LY PySem.F.slot_list_extend PySem.F.type_list_extend lB (pv 2) (aa (pC rV (pcF T.g_0 (eB T) hr (aa (pv 3) ac))) ac)))))))
  (ag (aq (pv 1)))))),?_⟩
 try dsimp only[uU,uH]
 refine⟨by show 0<=LK;decide,λmt za=>?_⟩;refine⟨_,B?,by show 1<=LK;decide,λah yt=>?_⟩;have zT:H ah=none:=(aj za _).free yt;have u6:ah≠mt:=λz=>by rw[z,af]at yt;cases yt
 refine⟨λm Y H2=>Ex5 λ(ms as:List Ls)(Ms As:List Th)(p:Option V)=>An8 (Y=[A? (.ref a),A? (.ref mt),A? (.ref ah),p]) (Sb H H2) (H2 mt=A? (.lst (ms.map Rb))) (H2 ah=A? (.lst (as.map Rb))) (AtsG rp H2 Ms ms) (AtsG rp H2 As as) (Ms++walks As.reverse=t.walk) (m=aC As),⟨_,[],[a],[],[t],Ak,B?,?_,?_,?_,.nil,.cons (hA.mono ?_) .nil,?_,B?⟩,?_⟩
 .exact aF (aj za _) zT
 .rw[ai u6.symm,af];rfl
 .rw[af];rfl
 .exact Za (aF (aj za _) zT)
 .simp[walks]
 rintro m Y H2 ⟨ms,as,Ms,As,p,rfl,sm,e1,e2,a1,a2,hw,rfl⟩
 have hlen:ms.length+aC As<=100000:=by
  have h1:=Xa NU hw;rw[LR,dN,Yc,<-a1.length]at h1;have h2:=iX As;lia
 refine⟨_,B?,_,.inl ⟨_,Tb e2,B?⟩,?_⟩;refine bI (λc=>?_) (λc=>?_)
 ·-- a part is taken off
  refine⟨λuE H'=>∃m',m'<aC As/\Ex5 λ(ms as:List Ls)(Ms As:List Th)(p:Option V)=>An8 (uE=[A? (.ref a),A? (.ref mt),A? (.ref ah),p]) (Sb H H') (H' mt=A? (.lst (ms.map Rb))) (H' ah=A? (.lst (as.map Rb))) (AtsG rp H' Ms ms) (AtsG rp H' As as) (Ms++walks As.reverse=t.walk) (m'=aC As),λuE H' h=>h,?_⟩;have xX:as≠[]:=by intro z;subst z;simp at c
  obtain⟨vh,b,rfl⟩:∃vh b,as=vh++[b]:=⟨as.dropLast,as.getLast xX,(OH xX).symm⟩;obtain⟨Us,x,rfl,a3,a4⟩:=a2.snoc_inv;have hs:aC (Us++[x])=aC Us+x.size:=by rw[bg,aC,aC];lia
  have K3:=x.size_eq;rw[hs]at hlen;refine⟨_,B?,.inl ⟨B?,_,Tb e2⟩,ah,_,.ref b,B?,B?,e2,by simp,?_⟩;have d1:((vh++[b]).map Rb).dropLast=vh.map Rb:=by simp
  rw[d1];refine⟨_,B?,.inl ⟨B?,_,Tb (by rw[ai u6.symm];exact e1)⟩,_,B?,mt,_,.ref b,B?,B?,by rw[ai u6.symm];exact e1,lbE (by lia),?_⟩;have k1:KT H2 (upd (upd H2 ah (.lst (vh.map Rb))) mt (.lst (ms.map Rb++[.ref b]))):=(bd e2).trans (bd (xs:=ms.map Rb) (by rw[ai u6.symm];exact e1));refine⟨_,B?,.inl ⟨B?,_,Tb (by rw[ai u6,af])⟩,_,B?,rp,b,x,B?,a4.mono k1,λr ks H3 s3 e3 a5=>?_⟩;refine⟨r,_,B?,Ub e3,λl hl=>?_⟩;have l1:l≠ah:=λz=>by rw[z,s3 ah _ (by rw[ai u6,af])]at hl;cases hl
  have l2:l≠mt:=λz=>by rw[z,s3 mt _ af]at hl;cases hl
  refine⟨ah,l,_,_,B?,B?,by rw[ai l1.symm];exact s3 ah _ (by rw[ai u6,af]),Ub af,N0 (cD ?_),?_⟩
  .have q1:=a3.length;have q2:=a5.length;have q3:=dW Us;have q4:=dW x.kids;rw[Lx,Mp,Lx];lia
  .have k2:KT H2 (upd (upd H3 l (.tup (ks.map Rb).reverse)) ah (.lst (vh.map Rb++(ks.map Rb).reverse))) :=
    k1.trans ((Za s3).trans ((fF hl).trans (bd (xs:=vh.map Rb) (by rw[ai l1.symm];exact s3 ah _ (by rw[ai u6,af])))))
   have k3:KT H3 (upd (upd H3 l (.tup (ks.map Rb).reverse)) ah (.lst (vh.map Rb++(ks.map Rb).reverse))) :=
    (fF hl).trans (bd (xs:=vh.map Rb) (by rw[ai l1.symm];exact s3 ah _ (by rw[ai u6,af])))
   refine⟨aC (Us++x.kids.reverse),?_,ms++[b],vh++ks.reverse,Ms++[x],Us++x.kids.reverse,A? (.ref b),B?,?_,?_,?_,?_,?_,?_,B?⟩
   .rw[bg,iX,hs];lia
   .have s4:Sb H (upd (upd H2 ah (.lst (vh.map Rb))) mt (.lst (ms.map Rb++[.ref b]))):=aF (aF sm zT) za;have nl:H l=none:=s4.free (s3.free hl);exact aF (aF (s4.trans s3) nl) zT
   .rw[ai u6.symm,ai l2.symm,s3 mt _ af,L6];rfl
   .rw[af,L6,List.map_reverse]
   .exact(a1.mono k2).append (.cons (a4.mono k2) .nil)
   .exact(a3.mono k2).append (a5.mono k3).reverse
   .rw[<-hw,OZ,Nu,Nu,Np,di];show Ms++([x]++(walks x.kids++walks Us.reverse))=Ms++walks (x::Us.reverse);rw[walks,x.walk_eq];rfl
 .have hz:as=[]:=by
   cases as with
   |nil=>rfl
   |cons y ys=>simp at c
  subst hz;have Jo:As=[]:=Pk.mp a2.length.symm;subst Jo;refine⟨_,B?,k mt ms H2 sm za e1 ?_⟩;have CJ:Ms=t.walk:=by simpa[walks]using hw
  rw[<-CJ];exact a1
inductive ix(vs:List V)(H:Hp)(Q:VK)(_E:XK):Prop
 |mk (rp:Rep) (a:Ls) (t:Th):vs=[.ref a]->AtG rp H t a->(∀(r:Ls)(H':Hp),Sb H H'->TopAtG rp H' (ce Wc t) r->Q (.ref r) H')->ix  vs H Q _E
theorem iC:FnOk P w K mg base CX0 2 T.g_6.f T.g_6.d ["part"] ix:=by
 refine T.g_6.F.okA iL λuI A outer s H vs Q E hr h=>?_;obtain⟨rp,a,t,rfl,hA,k⟩:=h
 refine⟨_,(ae (ak 1 iL.nd (aN bK rfl T.n_3 Nv (aa (pcF T.g_0 (eB T) hr (aa (pv 0) ac)) ac)))
  (ag (aq (av (aa (dq pR (pv 0) eY (dP (aw jc (aN bK rfl T.n_3 Nv (aa (pv 0) ac)) (pv 1)))) (aa (pv 1) ac)))))),?_⟩
 try dsimp only[uU,uH]
 refine⟨_,B?,rp,a,t,B?,hA,λr as H1 s1 er Jp=>⟨r,_,B?,.inr (Ub er),?_⟩⟩;obtain⟨xs,ea⟩:∃xs,H a=A? (.tup xs):=⟨_,hA.tup.choose_spec.choose_spec⟩;refine⟨_,B?,_,B?,a,_,B?,.inr (Ub (s1 _ _ ea)),_,B?,_,_,B?,B?,_,B?,a,_,B?,s1 _ _ ea,λp H2 s2 e2=>?_⟩;have v5:as.length=t.kids.length:=Jp.length;refine⟨_,B?,lnE rfl,λl hl=>?_⟩;refine k l _ (s1.trans (s2.trans (aj hl _))) ?_
 try dsimp only at e2
 cases t with
 | knot n ks =>
   rw[AtG]at hA;refine hid λZZ kZ=>?_;obtain⟨hn,ka,zt,zU⟩:=hA;refine kZ ?_;rw[ea]at zt;cases zt;have zJ:ka.length=ks.length:=zU.length;have xY:as.length=ks.length:=v5
   have e1:((V.str n::ka.map Rb).length:Int) - ((as.map Rb).length:Int)=1:=by
    rw[LP,Lx,Lx,zJ,xY];lia
   rw[e1,pM]at e2;exact⟨p,by rw[af,Lx,xY],hn,aj hl _ _ _ e2⟩
 | call sn kn =>
   have xY:as.length=0:=v5;have GL:=hA;rw[AtG]at GL;obtain⟨v,zt,uY⟩:=GL;rw[ea]at zt;cases zt
   have e1:(([V.str q,v,Vb kn]).length:Int) - ((as.map Rb).length:Int)=((3:Nat):Int):=by
    rw[Lx,xY];rfl
   rw[e1,pT (show 3<=3 from LC _)]at e2;have Jq:=hA.mono (Za (s1.trans s2));have hp:AtG rp H2 (.call sn kn) p:=Jq.same ((s1.trans s2) _ _ ea) e2;refine⟨p,?_,hp.mono (fF hl)⟩;rw[af,Lx,xY];rfl
inductive j0(vs:List V)(H:Hp)(Q:VK)(_E:XK):Prop
 |mk (rp:Rep) (l:Ls) (as:List Ls) (tops:List Top) (u:Th):vs=[.ref l]->H l=A? (.lst (as.map Rb))->Mg (TopAtG rp H) tops as->tops.length<=100000->TopsOk tops->(∀t,Top.th t∈tops->t.size<=100000)->bl tops=[u]->(∀(r:Ls)(H':Hp),Sb H H'->AtG rp H' u r->Q (.ref r) H')->j0  vs H Q _E
theorem j5:FnOk P w K mg base CX0 1 T.g_2.f T.g_2.d ["tops"] j0:=by
 refine T.g_2.F.okA fq λuI A outer s H vs Q E hr h=>?_;obtain⟨rp,l,as,tops,u,rfl,el,hT,hlen,hok,Ex,hu,k⟩:=h
 refine⟨_,(ae (ak 1 fq.nd (bf ac))
  (ae (cO MP rfl (rj rfl T.n_8 (pv 0)) (cK rfl (aB (pgN 2 fq.nd) (aB (pgN 3 fq.nd) bW))) (ag (bj (aI fY (pv 3) ad (aD _)) (ag (bq (cG LY Mu Mt aV (pv 1) (aa (aw pk (pv 2) (aT aH rfl T.n_10 Mh (aa (bY (N:=["number","done"]) (js:=[Ak,A? 1]) (g:=(ax 0)) (tt:=bt) (te:=(se K "list" (sw) (bo 1))) rfl (cE rfl (by decide +kernel) (by decide +kernel) rfl rfl rfl) (bS rfl T.n_7 (aa (pv 3) ac)) (λ_ _ _ _ _ _=>(pgN 0 ur)) (br rfl) (λ_ _ _ _ _ _=>bx) (λ_ _ _ _ _ _=>(kJ LY PK PJ lL (pv 1)))) ac))) ac)))) (ag (bq (cG LY Mu Mt aV (pv 1) (aa (pv 2) ac)))))))
  (ag (aq (ay aS (pv 1) ad (λ_ _=>rfl)))))),?_⟩
 try dsimp only[uU,uH]
 have v5:tops.length=as.length:=L3 hT;refine⟨lnE rfl,λdn zV=>?_⟩;refine⟨_,B?,l,_,B?,Tb (aj zV _ _ _ el),?_⟩
 refine p9 (K:=K) (a:=l) (xs:=as.map Rb) (λi Y H2=>Ex3 λc2 c3 ds=>An4 (Y=[A? (.ref l),A? (.ref dn),c2,c3]) (Sb H H2) (H2 dn=A? (.lst (ds.map Rb))) (AtsG rp H2 (bl (tops.drop (tops.length - i))).reverse ds))
  ⟨Ak,Ak,[],rfl,aj zV _,af,by rw[Qo,List.drop_length];exact .nil⟩ (λi Y H2 _⟨_,_,_,_,s2,_,_⟩=>Tb (s2 _ _ el)) ?_ ?_
 .rintro i y Y H2 hi hy ⟨c2,c3,ds,rfl,s2,yH,vE⟩;rw[Lx,<-v5]at hi hy;obtain⟨pr,rfl,Ey⟩:=bh hy;obtain⟨x,hx,Ez⟩:=Sd hT Ey;have GN:=Ez.mono (Za s2);have hn:tops.length - 1 - i<tops.length:=by lia
  have CL:tops.drop (tops.length - 1 - i)=x::tops.drop (tops.length - i):=by
   rw[OX hn,show tops.length - 1 - i+1=tops.length - i by lia];congr 1;rw[LA hn]at hx;exact Ma hx
  have yI:=hok.drop (tops.length - 1 - i);rw[CL]at yI;have zb:tops.length - (i+1)=tops.length - 1 - i:=by lia
  have Jr:(bl (tops.drop (tops.length - i))).length<=100000:=by
   have:=kM (tops.drop (tops.length - i));rw[N2]at this;lia
  generalize tops.drop (tops.length - i)=S at CL vE yI Jr;refine hid λZZ kZ=>?_
  obtain⟨ta,m,xs,EA,eta,hm,EB,vT⟩:∃(ta:Ls)(m:Nat)(xs:List V),H2 pr=A? (.tup [.ref ta,.int (m:Nat)])/\H2 ta=A? (.tup xs)/\m<=(bl S).length/\xs.length<=200000/\∀(H':Hp)(p:Ls)(ks:List Ls),KT H2 H'->AtsG rp H' ((bl S).take m) ks->H' p=A? (.tup (xs++ks.map Rb))->∃u',bl (x::S)=u'::(bl S).drop m/\AtG rp H' u' p:=by
   cases x with
   | nm n m =>
     rw[TopsOk]at yI;obtain⟨ta,h1,h2,h3⟩:=GN;refine⟨ta,m,_,h1,h3,yI.1,(by show 1<=200000;decide),λH' p ks kt hk hp=>⟨_,by rw[bl],?_⟩⟩;rw[AtG];exact⟨h2,ks,hp,hk⟩
   | th t =>
     obtain⟨ta,h1,h2⟩:=GN;obtain⟨n',r',h3⟩:=h2.tup;have hw:=h2.width h3;have vK:=Ex t (L9 hx);refine⟨ta,0,_,h1,h3,MB _,by lia,λH' p ks kt hk hp=>⟨t,by rw[bl,Ni],?_⟩⟩;rw[Oo,AtsG]at hk;subst hk;rw[N1,ME]at hp;exact(h2.mono kt).same (kt _ _ h3) hp
  refine kZ ?_;refine⟨pr,_,B?,Ub EA,B?,_,_,B?,_,_,B?,B?,?_⟩;have EC:=vE.length;rw[Mp]at EC;refine fw (λb H'=>An2 (H'=H2) (b=decide ((0:Int)<(m:Int)))) (λkk wy=>?_) (λH' hb=>?_) (λH' hb=>?_)
  .exact⟨_,B?,_,_,B?,B?,_,B?,wy _ _ ⟨B?,B?⟩⟩
  rotate_left
  .obtain⟨rfl,hb⟩:=hb
   have CO:m=0:=by
    have:=of_decide_eq_false hb.symm;lia
   subst CO;obtain⟨u',wt,v7⟩:=vT H' ta [] (Za (.refl _)) (by rw[Oo];exact .nil) (by rw[N1,ME];exact eta);refine⟨_,B?,.inl ⟨B?,_,Tb yH⟩,_,B?,dn,_,_,B?,B?,yH,lbE (by lia),?_⟩;have k6:KT H' (upd H' dn (.lst (ds.map Rb++[.ref ta]))):=bd yH;refine⟨_,_,ds++[ta],B?,?_,uAE,?_⟩
   .intro b o e;rw[ai (am e zV)];exact s2 b o e
   .rw[zb,CL,wt,Mi];rw[Ni];exact(vE.mono k6).append (.cons (v7.mono k6) .nil)
  obtain⟨rfl,hb⟩:=hb;refine⟨_,B?,.inl ⟨B?,_,Tb yH⟩,_,B?,?_⟩;refine⟨_,B?,(m:Int),B?,by lia,by lia,λD hD=>?_⟩;have ED:D≠dn:=λz=>by rw[z,yH]at hD;cases hD
  have za:((m:Nat):Int).toNat=m:=M0 m
  refine⟨m,λj H3=>An3 (j<=m) ((∀b o,H' b=A? o->b≠dn->H3 b=A? o)) (Ex2 λ(yJ ks:List Ls)=>An4 (H3 dn=A? (.lst (yJ.map Rb))) (H3 D=A? (.lst (ks.map Rb))) (AtsG rp H3 ((bl S).drop j).reverse yJ) (AtsG rp H3 ((bl S).take j) ks)),
   ⟨MB _,λb o e hb=>?_,ds,[],?_,?_,?_,?_⟩,?_⟩
  .rw[ai (am e hD)];exact e
  .rw[ai ED.symm];exact yH
  .rw[af];rfl
  .rw[Ni];exact vE.mono (fF hD)
  .rw[Oo];exact .nil
  rintro j H3 ⟨hj,kp,yJ,ks,ed,eD,BD,hd2⟩;by_cases GO:j=m
  .left;refine⟨(by show((m:Nat):Int).toNat<=j;rw[za,GO];exact LC _),?_⟩;subst GO;have BE:KT H' H3:=λb K4 e=>kp b _ e (dG e yH (by intro z;cases z));refine⟨D,_,B?,.inl ⟨Tb eD,λtp wW=>?_⟩⟩;refine gU wW λH4 s4 e4=>?_;have zJ:=hd2.length;refine uh (s4 _ _ (BE _ _ eta)) e4 (by rw[Lx,zJ,Mj];lia) λp H5 s5 e5=>?_;have wY:=s4.trans s5;have GP:=wY _ _ ed;have EE:=BE.trans (Za wY);obtain⟨u',wt,v7⟩:=vT H5 p ks EE (hd2.mono (Za wY)) e5;have Ap:=BD.length;rw[Mp,N2]at Ap;refine⟨dn,_,_,B?,B?,GP,lbE (by lia),?_⟩;have k6:KT H5 (upd H5 dn (.lst (yJ.map Rb++[.ref p]))):=bd GP;refine⟨_,_,yJ++[p],B?,?_,uAE,?_⟩
   .intro b o e;have hb:b≠dn:=am e zV;rw[ai hb];exact wY _ _ (kp b o (s2 b o e) hb)
   .rw[zb,CL,wt,Mi];exact(BD.mono ((Za wY).trans k6)).append (.cons (v7.mono k6) .nil)
  .right;have xr:j<m:=by lia
   refine⟨xr,(by show j<((m:Nat):Int).toNat;rw[za];exact xr),?_⟩;rintro x' H4 ⟨e1,e2⟩;have Dq:H4=H3:=e1;subst Dq;have GQ:j<(bl S).length:=by lia
   have Js:(bl S).drop j=(bl S)[j]::(bl S).drop (j+1):=OX GQ;rw[Js,Mi]at BD
   have u6:yJ≠[]:=by
    intro z;subst z;have:=BD.length;rw[LR]at this;simp at this
   refine hid λZZ kZ=>?_;obtain⟨zW,b,rfl⟩:∃zW b,yJ=zW++[b]:=⟨yJ.dropLast,yJ.getLast u6,(OH u6).symm⟩;obtain⟨Us,x2,e3,hU,hb2⟩:=BD.snoc_inv;have e4:=List.append_inj' e3 rfl;obtain⟨e5,e6⟩:=e4;refine kZ ?_;cases e6;subst e5;refine⟨_,B?,.inl ⟨B?,_,Tb ed⟩,dn,_,.ref b,B?,B?,ed,by simp,?_⟩;have d1:((zW++[b]).map Rb).dropLast=zW.map Rb:=by simp
   rw[d1];have zX:(upd H4 dn (.lst (zW.map Rb))) D=A? (.lst (ks.map Rb)):=by rw[ai ED];exact eD
   have k5:KT H4 (upd (upd H4 dn (.lst (zW.map Rb))) D (.lst (ks.map Rb++[.ref b]))):=(bd ed).trans (bd zX);refine⟨_,zX,cD (by rw[Lx,hd2.length,Mj];lia),xr,λb' o e vK=>?_,zW,ks++[b],?_,?_,hU.mono k5,?_⟩
   .rw[ai (am e hD),ai vK];exact kp b' o e vK
   .rw[ai ED.symm,af]
   .rw[af,L6];rfl
   .rw[Nn,LA GQ];exact(hd2.mono k5).append (.cons (hb2.mono k5) .nil)
 .rintro Y H2 ⟨c2,c3,ds,rfl,s2,yH,vE⟩;rw[Lx,<-v5,Nat.sub_self,Ni,hu]at vE;have BF:AtsG rp H2 [u] ds:=vE;rw[AtsG]at BF;obtain⟨b,r,rfl,hb,K5⟩:=BF;exact⟨_,B?,dn,_,0,.ref b,B?,B?,Tb yH,at0,k b H2 s2 hb⟩
def CP(rp:Rep)(H:Hp)(c:Int×Int)(a:Ls):Prop:=∃v,H a=A? (.tup [v,.int c.2])/\StV rp H c.1 v
theorem CP.mono{rp:Rep}(k:KT H H'){c:Int×Int}(h:CP rp H c a):CP rp H' c a:=by
 obtain⟨v,h1,h2⟩:=h;exact⟨v,k _ _ h1,h2.mono k⟩
inductive eT(vs:List V)(H:Hp)(Q:VK)(_E:XK):Prop
 |mk (rp:Rep) (a:Ls) (t:Th):vs=[.ref a]->AtG rp H t a->t.size<=100000->(∀(r:Ls)(as:List Ls)(H':Hp),Sb H H'->H r=Ak->H' r=A? (.lst (as.map Rb))->Mg (CP rp H') (bN t) as->Q (.ref r) H')->eT  vs H Q _E
theorem eZ:FnOk P w K mg base CX0 3 T.g_5.f T.g_5.d ["pattern"] eT:=by
 refine T.g_5.F.okA iZ λuI A outer s H vs Q E hr h=>?_;obtain⟨rp,a,t,rfl,hA,hsz,k⟩:=h;refine⟨_,(ag (aq (bY (N:=["part"]) (js:=[Ak]) (g:=(ax 0)) (tt:=(λY H Q=>(fW eK [] E0 (aO (bo 0) cM)) Y H λx H1=>∃k,qZ K x H1 k/\Q k H1)) (te:=(fW da [] E0 (aO (bo 0) cM))) rfl (cE rfl (by decide +kernel) (by decide +kernel) rfl rfl rfl) (cz (pcF T.g_1 (iz T) hr (aa (pv 0) ac))) (λ_ _ _ _ _ _=>(pgN 0 tK)) (br rfl) (λ_ _ _ _ _ _=>pQ (bF (pcF T.g_3 (cC T) hr (aa (pv 0) ac)) (λ_=>rfl))) (λ_ _ _ _ _ _=>(pcF T.g_4 (cA T) hr (aa (pv 0) ac)))))),?_⟩
 try dsimp only[uU,uH]
 refine⟨_,B?,rp,a,t,B?,hA,hsz,λr as H1 s1 nr er yr=>⟨r,B?,⟨_,Tb er⟩,?_⟩⟩;have v5:as.length=t.walk.length:=yr.length;have vL:=Yc t;intro D hD;refine⟨as.length,λj H2=>An3 (j<=as.length) (Sb H1 H2) (Ex1 λ(bs:List Ls)=>An2 (H2 D=A? (.lst (bs.map Rb))) (Mg (CP rp H2) ((t.walk.take j).filterMap iT) bs)),⟨MB _,aj hD _,[],af,.nil⟩,?_⟩;rintro j H2 ⟨hj,s2,bs,eD,wz⟩;by_cases BG:j=as.length
 .left;refine⟨⟨_,Tb (s2 _ _ er),by rw[Lx,BG];exact LC _⟩,?_⟩;have uL:t.walk.take j=t.walk:=by rw[BG,v5,Ph]
  rw[uL]at wz;exact k D bs H2 (s1.trans s2) (s1.free hD) eD wz
 .right;have xr:j<as.length:=by lia
  refine⟨xr,⟨_,.ref as[j],Tb (s2 _ _ er),by rw[LZ,LA xr];rfl⟩,?_⟩;rintro y H3 ⟨rfl,hv⟩;have yn:=hv _ (Tb (s2 _ _ er));obtain⟨ta,rfl,Ey⟩:=bh yn;obtain⟨u,Jt,e3⟩:=(yr.mono (Za s2)).get Ey;have xu:t.walk.take (j+1)=t.walk.take j++[u]:=by rw[Nn,Jt];rfl
  have zN:bs.length<=j:=by
   have g1:=L3 wz;have g2:=O5 iT (t.walk.take j);rw[Mj]at g2;lia
  refine⟨_,B?,rp,ta,u,B?,e3,_,B?,?_⟩;cases u with
  | knot n ks =>
    refine mG ⟨xr,s2,bs,eD,?_⟩;rw[xu,Ow];show Mg (CP rp H3) ((t.walk.take j).filterMap iT++[]) bs;rw[ME];exact wz
  | call sn kn =>
    refine ol ?_;refine⟨_,B?,rp,ta,sn,kn,B?,e3,λca v uY wZ=>?_⟩;have s4:Sb H3 (upd H3 ca (.tup [v,.int kn])):=aj wZ _;have GR:=s4 _ _ eD;refine⟨_,GR,lbE (by lia),xr,aF (s2.trans s4) hD,bs++[ca],?_,?_⟩
    .rw[af,L6];rfl
    .have k5:KT (upd H3 ca (.tup [v,.int kn])) (upd (upd H3 ca (.tup [v,.int kn])) D (.lst (bs.map Rb++[.ref ca]))):=bd GR;rw[xu,Ow];refine Uc (Vc (λ_ _ e=>CP.mono ((Za s4).trans k5) e) wz) (.cons ⟨v,k5 _ _ af,uY.mono ((Za s4).trans k5)⟩ .nil)
def fU(x y k:Int):bp:=([MR x,MR y],MR k)
inductive iE(P:LF)(w:LQ)(vs:List V)(H:Hp)(Q:VK)(_E:XK):Prop
 |mk (a ta:Ls) (t:Th) (f:Int->Int->Th) (uC:List (bp×V)):vs=[.ref a,.ref ta]->AtG .p H t a->t.size<=100000->DN P w H ta uC->(∀x y k,Wc (enc x y) k∈t.walk->0<=y->y<1000->∃v,bu uC (fU x y k)=A? (.ref v)/\AtG .i H (f (enc x y) k) v/\(f (enc x y) k).size<=100000)->(∀(r:Ls)(H':Hp),Sb H H'->AtG .i H' (t.fill f) r->Q (.ref r) H')->iE P w vs H Q _E
theorem mB:FnOk P w K mg base CX0 3 T.g_7.f T.g_7.d ["pattern","table"] (iE P w):=by
 refine T.g_7.F.okA fD λuI A outer s H vs Q E hr h=>?_;obtain⟨a,ta,t,f,uC,rfl,hA,hsz,Ga,vx,k⟩:=h
 refine⟨_,(ae (ak 2 fD.nd (bf ac))
  (ae (cO MP rfl (cz (pcF T.g_1 (iz T) hr (aa (pv 0) ac))) (pgN 3 fD.nd) (ag (bj (bF (pcF T.g_3 (cC T) hr (aa (pv 3) ac)) (λ_=>rfl)) (ag (bq (cG LY Mu Mt aV (pv 2) (aa (av (aa (oV (lA hr) (pv 1) (pcF T.g_4 (cA T) hr (aa (pv 3) ac)) (λ_ _=>rfl)) (aa ad ac))) ac)))) (ag (bq (cG LY Mu Mt aV (pv 2) (aa (pcF T.g_6 (iC T) hr (aa (pv 3) ac)) ac)))))))
  (ag (aq (pcF T.g_2 (j5 T) hr (aa (pv 2) ac)))))),?_⟩
 try dsimp only[uU,uH]
 refine⟨lnE rfl,λtl yu=>?_⟩;refine⟨_,B?,.p,a,t,B?,hA.mono (fF yu),hsz,λwl as H1 s1 GS GU hw=>?_⟩;have yW:as.length=t.walk.length:=hw.length;have K6:=Yc t;have Ju:Sb H H1:=(aj yu _).trans s1;have Jv:wl≠tl:=λz=>by rw[z,af]at GS;cases GS
 refine⟨wl,B?,⟨_,Tb GU⟩,?_⟩
 refine eQ (K:=K) (a:=wl) (xs:=as.map Rb) (λi Y H2=>Ex2 λc bs=>An6 (Y=[A? (.ref a),A? (.ref ta),A? (.ref tl),c]) (Sb H H2) (H2 wl=A? (.lst (as.map Rb))) (AtsG .p H2 t.walk as) (H2 tl=A? (.lst (bs.map Rb))) (Mg (TopAtG .i H2) ((t.walk.take i).map (ce f)) bs))
  ⟨Ak,[],rfl,Ju,GU,hw,s1 _ _ af,.nil⟩ (λi Y H2 _⟨_,_,_,_,e,_,_,_⟩=>Tb e) ?_ ?_
 .rintro i x Y H2 hx ⟨c,bs,rfl,s2,BH,Aw,zY,wz⟩;obtain⟨xa,rfl,Ax⟩:=bh hx;obtain⟨tx,GV,EF⟩:=Aw.get Ax;have Jw:tx∈t.walk:=L9 GV;have xu:t.walk.take (i+1)=t.walk.take i++[tx]:=by rw[Nn,GV];rfl
  have zN:bs.length<=100000:=by
   have:=L3 wz;rw[Lx,Mj]at this;lia
  refine⟨_,B?,.p,xa,tx,B?,EF,_,B?,?_⟩
  have push:∀(H3:Hp)(p:Ls),Sb H2 H3->TopAtG .i H3 (ce f tx) p->Ex2 λc EG=>An6 (([A? (.ref a),A? (.ref ta),A? (.ref tl),A? (.ref xa)]:St)=[A? (.ref a),A? (.ref ta),A? (.ref tl),c]) (Sb H (upd H3 tl (.lst (bs.map Rb++[.ref p])))) ((upd H3 tl (.lst (bs.map Rb++[.ref p]))) wl=A? (.lst (as.map Rb))) (AtsG .p (upd H3 tl (.lst (bs.map Rb++[.ref p]))) t.walk as) ((upd H3 tl (.lst (bs.map Rb++[.ref p]))) tl=A? (.lst (EG.map Rb))) (Mg (TopAtG .i (upd H3 tl (.lst (bs.map Rb++[.ref p])))) ((t.walk.take (i+1)).map (ce f)) EG):=by
   intro H3 p s3 hp;have k3:KT H3 (upd H3 tl (.lst (bs.map Rb++[.ref p]))):=bd (s3 _ _ zY);refine⟨_,bs++[p],B?,aF (s2.trans s3) yu,by rw[ai Jv];exact s3 _ _ BH,Aw.mono ((Za s3).trans k3),uAE,?_⟩;rw[xu,L6];exact Uc (eN ((Za s3).trans k3) wz) (.cons (hp.mono k3) .nil)
  cases tx with
  | call sn kn =>
    refine ol ?_;refine⟨_,B?,.inl ⟨B?,_,Tb zY⟩,_,B?,_,B?,.p,xa,sn,kn,B?,EF,λcb sv uY Jx=>?_⟩;refine hid λZZ kZ=>?_;obtain⟨pa,x,y,rfl,xy,rfl,zE,xA,xB⟩:=uY;obtain⟨v,hv,Jy,_⟩:=vx x y kn Jw xA xB;refine kZ ?_;have s3:Sb H2 (upd H2 cb (.tup [.ref pa,.int kn])):=aj Jx _;have GW:NKAt (upd H2 cb (.tup [.ref pa,.int kn])) (fU x y kn) cb:=⟨pa,af,s3 _ _ xy⟩;generalize(upd H2 cb (.tup [.ref pa,.int kn]))=H3 at s3 GW |-;refine⟨ta,cb,_,uC,.ref v,B?,B?,Ga.mono (s2.trans s3),GW,hv,lnE rfl,λp hp=>?_⟩;have s4:=s3.trans (aj hp (.tup [.ref v,.int 0]));refine⟨tl,_,_,B?,B?,s4 _ _ zY,lbE (by lia),?_⟩;exact push _ p s4 ⟨v,af,Jy.mono (Za (s2.trans s4))⟩
  | knot nm us =>
    refine mG ?_;refine⟨_,B?,.inl ⟨B?,_,Tb zY⟩,_,B?,.p,xa,.knot nm us,B?,EF,λp H3 s3 hp=>?_⟩;refine⟨tl,_,_,B?,B?,s3 _ _ zY,lbE (by lia),?_⟩;exact push _ p s3 hp
 .rintro Y H2 ⟨c,bs,rfl,s2,BH,Aw,zY,wz⟩;rw[Lx,yW,Ph]at wz;obtain⟨b1,b2⟩:=lP f t;refine⟨_,B?,.i,tl,bs,_,t.fill f,B?,zY,wz,by rw[Lx];lia,b2,?_,b1,λr H3 s3 Ay=>k r H3 (s2.trans s3) Ay⟩;intro u hu;obtain⟨x,hx,e⟩:=MZ.mp hu;cases x with
  |knot nm us=>cases e
  | call sn kn =>
    cases e;refine hid λZZ kZ=>?_;obtain⟨xa,Ax,v7⟩:=Aw.at (NI.mp hx).choose_spec;rw[AtG]at v7;obtain⟨sv,_,pa,x,y,_,_,rfl,_,xA,xB⟩:=v7;obtain⟨v,_,_,hz⟩:=vx x y kn hx xA xB;refine kZ ?_;exact hz
theorem mP{t:Th}{s k:Int}(h:Wc s k∈t.walk):(s,k)∈bN t:=Of.mpr ⟨_,h,rfl⟩
theorem oh{t:Th}{c:Int×Int}(h:c∈bN t):c.1∈stT t:=MZ.mpr ⟨c,h,rfl⟩
inductive gg(P:LF)(w:LQ)(vs:List V)(H:Hp)(Q:VK)(_E:XK):Prop
 |mk (a nd:Ls) (t:Th) (g:Int->Int) (uC:List (List Key×V)):vs=[.ref a,.ref nd]->AtG .p H t a->t.size<=100000->H nd=A? (.dT uC)->(∀x y,enc x y∈stT t->0<=x->0<=y->y<1000->bu uC [MR x,MR y]=A? (.int (g (enc x y))))->(∀(r:Ls)(H':Hp),Sb H H'->AtG .i H' (ren g t) r->Q (.ref r) H')->gg P w vs H Q _E
theorem j4:FnOk P w K mg base CX0 4 T.g_8.f T.g_8.d ["pattern","names"] (gg P w):=by
 refine T.g_8.F.okA cH λuI A outer s H vs Q E hr h=>?_;obtain⟨a,nd,t,g,uC,rfl,hA,hsz,yK,zZ,k⟩:=h
 refine⟨_,(ae (ak 2 cH.nd oj)
  (ae (cO MP rfl (cz (pcF T.g_5 (eZ T) hr (aa (pv 0) ac))) (cK rfl (aB (pgN 3 cH.nd) (aB (pgN 4 cH.nd) bW))) (ag (o8 (lA hr) (pv 2) (av (aa (pv 3) (aa (pv 4) ac))) (av (aa (bz (v:=.str (LI "?")) rfl T.c_CALL_SIGN.choose_spec ⟨_,B?⟩) (aa (pf (oq hr) (pv 1) (pv 3) (λ_ _=>rfl)) (aa (pv 4) ac)))) rfl)))
  (ag (aq (pcF T.g_7 (mB T) hr (aa (pv 0) (aa (pv 2) ac))))))),?_⟩
 try dsimp only[uU,uH]
 intro td H1 Jz s1 e1;dsimp only[ax];refine⟨_,B?,.p,a,t,B?,hA.mono (Za s1),hsz,λr as H2 s2 nr er w8=>⟨r,B?,⟨_,Tb er⟩,?_⟩⟩;have vo:(bN t).length=as.length:=L3 w8
 have K7:(bN t).length<=100000:=by
  have h1:=O5 iT t.walk;have h2:=Yc t;unfold bN;lia
 have z6:r≠td:=λz=>by
  obtain⟨_,_,_,φ,e,_⟩:=e1;rw[z,e]at nr;cases nr
 refine eQ (K:=K) (a:=r) (xs:=as.map Rb) (λi Y H3=>Ex3 λ(c3 c4:Option V)(tk:List (bp×V))=>An7 (Y=[A? (.ref a),A? (.ref nd),A? (.ref td),c3,c4]) (Sb H H3) (H3 r=A? (.lst (as.map Rb))) (Mg (CP .p H3) (bN t) as) (DN P w H3 td tk) (tk.length<=i) (∀c∈(bN t).take i,∀x y,c.1=enc x y->0<=y->y<1000->∃v,bu tk (fU x y c.2)=A? (.ref v)/\AtG .i H3 (.call (g c.1) c.2) v))
  ⟨Ak,Ak,[],rfl,s1.trans s2,er,w8,e1.mono s2,LC _,λc hc=>by rw[Oo]at hc;cases hc⟩ (λi Y H3 _⟨_,_,_,_,_,e,_,_,_,_⟩=>Tb e) ?_ ?_
 .rintro i x Y H3 hx ⟨c3,c4,tk,rfl,s3,Az,wA,EH,hlen,uL⟩;refine hid λZZ kZ=>?_;obtain⟨ca,rfl,wZ⟩:=bh hx;obtain⟨⟨sn,kn⟩,hc,sv,BI,uY⟩:=Sd wA wZ;obtain⟨pa,x,y,rfl,xy,BJ,zE,xA,xB⟩:=uY;refine kZ ?_;dsimp only at BJ BI;subst BJ;have GX:i<100000:=by have:=(glE hc);lia
  have JA:=zZ x y (oh (L9 hc)) zE xA xB;refine⟨ca,_,B?,Ub BI,B?,_,_,B?,_,_,B?,B?,?_⟩;dsimp only[ax];have EI:=s3 _ _ yK;refine⟨_,B?,_,B?,nd,.int (g (enc x y)),B?,.inr ⟨uC,[.inl x,.inl y],pa,.inl EI,B?,xy,JA.symm⟩,_,B?,lnE rfl,λcv En=>?_⟩;have s4:Sb H3 (upd H3 cv (.tup [.str (LI "?"),.int (g (enc x y)),.int kn])):=aj En _;have e4:AtG .i (upd H3 cv (.tup [.str (LI "?"),.int (g (enc x y)),.int kn])) (.call (g (enc x y)) kn) cv:=by rw[AtG];exact⟨_,af,B?⟩
  generalize(upd H3 cv (.tup [.str (LI "?"),.int (g (enc x y)),.int kn]))=H4 at s4 e4 |-;refine⟨_,B?,_,B?,_,B?,lnE rfl,λkp EJ=>?_⟩;have s5:Sb H4 (upd H4 kp (.tup [.ref pa,.int kn])):=aj EJ _;have e5:NKAt (upd H4 kp (.tup [.ref pa,.int kn])) (fU x y kn) kp:=⟨pa,af,s5 _ _ (s4 _ _ xy)⟩;generalize(upd H4 kp (.tup [.ref pa,.int kn]))=H5 at s5 e5 |-;have wY:=s4.trans s5;have GY:=EH.mono wY;refine⟨td,kp,_,tk,B?,B?,GY,e5,cD (by lia),λH6 EK JB=>?_⟩
  have k6:KT H5 H6:=λb xs e=>EK b _ (λz=>by
   obtain⟨_,_,_,φ,e',_⟩:=GY;rw[z,e']at e;cases e) e
  have GZ:=(Za wY).trans k6;refine⟨_,_,_,B?,λb o e=>EK b o (am e Jz) ((s3.trans wY) b o e),EK _ _ z6 (wY _ _ Az),Vc (λ_ _ e=>CP.mono GZ e) wA,JB,?_,λc vQ x' y' yL BK BL=>?_⟩
  .have:=ck tk (fU x y kn) (.ref cv);lia
  .rw[jK];by_cases ym:fU x' y' c.2=fU x y kn
   .rw[Sa ym];unfold fU at ym;injection ym with h1 h2;injection h1 with h3 h4;injection h4 with h5 _;have e1:x'=x:=NS h3;have e2:y'=y:=NS h5;have e3:c.2=kn:=NS h2;exact⟨cv,B?,by rw[yL,e1,e2,e3];exact(e4.mono (Za s5)).mono k6⟩
   .rw[Ra ym];rw[take_snoc hc]at vQ;rcases Mw.mp vQ with h|h
    .obtain⟨v,h1,h2⟩:=uL c h x' y' yL BK BL;exact⟨v,h1,h2.mono GZ⟩
    .refine Wa ?_ ym;rw[LM.mp h]at yL |-;obtain⟨h1,h2⟩:=ph yL xA xB BK BL;rw[h1,h2]
 .rintro Y H3 ⟨c3,c4,tk,rfl,s3,Az,wA,EH,hlen,uL⟩;rw[MI (by rw[Lx];lia)]at uL;refine⟨_,B?,_,B?,a,td,t,λs k=>.call (g s) k,tk,B?,hA.mono (Za s3),hsz,EH,λx y k' vk xA xB=>?_,λr' H4 s4 h4=>k r' H4 (s3.trans s4) h4⟩;obtain⟨v,h1,h2⟩:=uL (enc x y,k') (mP vk) x y rfl xA xB;exact⟨v,h1,h2,by rw[Th.size];decide⟩
inductive iO(vs:List V)(H:Hp)(Q:VK)(_E:XK):Prop
 |mk (b:Ls) (v1 v2 v3 v4:V):vs=[.ref b]->H b=A? (.tup [v1,v2,v3,v4])->Q v1 H->iO  vs H Q _E
inductive du(vs:List V)(H:Hp)(Q:VK)(_E:XK):Prop
 |mk (b:Ls) (v1 v2 v3 v4:V):vs=[.ref b]->H b=A? (.tup [v1,v2,v3,v4])->Q v4 H->du  vs H Q _E
theorem fQ:FnOk P w K mg base CX0 1 T.g_11.f T.g_11.d ["book"] iO:=by
 refine T.g_11.F.okA mO λuI A outer s H vs Q E hr h=>?_;obtain⟨b,v1,v2,v3,v4,rfl,e,q⟩:=h;refine⟨_,(ag (aq (ay aA (pv 0) ad (λ_ _=>rfl)))),?_⟩
 try dsimp only[uU,uH]
 exact⟨_,B?,b,_,0,v1,B?,B?,Ub e,at0,q⟩
theorem cI:FnOk P w K mg base CX0 1 T.g_14.f T.g_14.d ["book"] du:=by
 refine T.g_14.F.okA kh λuI A outer s H vs Q E hr h=>?_;obtain⟨b,v1,v2,v3,v4,rfl,e,q⟩:=h;refine⟨_,(ag (aq (ay aA (pv 0) ad (λ_ _=>rfl)))),?_⟩
 try dsimp only[uU,uH]
 exact⟨_,B?,b,_,3,v4,B?,B?,Ub e,bT (j:=3) rfl,q⟩
inductive hV(vs:List V)(H:Hp)(Q:VK)(_E:XK):Prop
 |mk (b:Ls) (v1 v2 v3 v4:V):vs=[.ref b]->H b=A? (.tup [v1,v2,v3,v4])->Q v2 H->hV  vs H Q _E
theorem gy:FnOk P w K mg base CX0 1 T.g_12.f T.g_12.d ["book"] hV:=by
 refine T.g_12.F.okA kR λuI A outer s H vs Q E hr h=>?_;obtain⟨b,v1,v2,v3,v4,rfl,e,q⟩:=h;refine⟨_,(ag (aq (ay aA (pv 0) ad (λ_ _=>rfl)))),?_⟩
 try dsimp only[uU,uH]
 exact⟨_,B?,b,_,1,v2,B?,B?,Ub e,bT (j:=1) rfl,q⟩
inductive gD(vs:List V)(H:Hp)(Q:VK)(_E:XK):Prop
 |mk (b:Ls) (v1 v2 v3 v4:V):vs=[.ref b]->H b=A? (.tup [v1,v2,v3,v4])->Q v3 H->gD  vs H Q _E
inductive ko(vs:List V)(H:Hp)(Q:VK)(_E:XK):Prop
 |mk (v:V):vs=[v]->(∀p,H p=Ak->Q (.ref p) (upd H p (.tup [.str (LI ""),v])))->ko  vs H Q _E
inductive eA(vs:List V)(H:Hp)(Q:VK)(_E:XK):Prop
 |mk (s:Int):vs=[.int s]->(∀p,H p=Ak->Q (.ref p) (upd H p (.tup [.str q,.int s,.int 0])))->eA  vs H Q _E
theorem ib:FnOk P w K mg base CX0 1 T.g_13.f T.g_13.d ["book"] gD:=by
 refine T.g_13.F.okA lj λuI A outer s H vs Q E hr h=>?_;obtain⟨b,v1,v2,v3,v4,rfl,e,q⟩:=h;refine⟨_,(ag (aq (ay aA (pv 0) ad (λ_ _=>rfl)))),?_⟩
 try dsimp only[uU,uH]
 exact⟨_,B?,b,_,2,v3,B?,B?,Ub e,bT (j:=2) rfl,q⟩
theorem nO:FnOk P w K mg base CX0 1 T.g_19.f T.g_19.d ["tree"] ko:=by
 refine T.g_19.F.okA pd λuI A outer s H vs Q E hr h=>?_;obtain⟨v,rfl,q⟩:=h;refine⟨_,(ag (aq (av (aa bG (aa (pv 0) ac))))),?_⟩
 try dsimp only[uU,uH]
 exact⟨_,B?,lnE rfl,λp hp=>q p hp⟩
theorem kT:FnOk P w K mg base CX0 1 T.g_20.f T.g_20.d ["state"] eA:=by
 refine T.g_20.F.okA kU λuI A outer s H vs Q E hr h=>?_;obtain⟨v,rfl,q⟩:=h;refine⟨_,(ag (aq (av (aa (bz (v:=.str (LI "?")) rfl T.c_CALL_SIGN.choose_spec ⟨_,B?⟩) (aa (pv 0) (aa ad ac)))))),?_⟩
 try dsimp only[uU,uH]
 exact⟨_,B?,lnE rfl,λp hp=>q p hp⟩
inductive ei(vs:List V)(H:Hp)(Q:VK)(_E:XK):Prop
 |mk (b ia ra bL ta:Ls) (v2 v3:V) (wu vj xZ:List Ls) (ins:List (LL×Int)) (st:Int) (j:Nat) (k:LL×Int):vs=[.ref b,.int st,.str k.1]->H b=A? (.tup [.ref ia,v2,v3,.ref ra])->H ia=A? (.tup (wu.map Rb))->KsAt H ins wu->dD ins->H ra=A? (.tup (vj.map Rb))->0<=st->vj[st.toNat]?=A? bL->H bL=A? (.tup (xZ.map Rb))->ins[j]?=A? k->xZ[j]?=A? ta->(∀H',Sb H H'->Q (.ref ta) H')->ei  vs H Q _E
theorem ik:FnOk P w K mg base CX0 2 T.g_16.f T.g_16.d ["book","state","name"] ei:=by
 refine T.g_16.F.okA ej λuI A outer s H vs Q E hr h=>?_;obtain⟨b,ia,ra,bL,ta,v2,v3,wu,vj,xZ,ins,st,j,k,rfl,eb,G0,BM,g,era,uY,vg,ya,hj,xC,q⟩:=h
 refine⟨_,(ae (l7 (i:=3) (N:=["kind"]) (js:=[Ak]) (g:=(ax 0)) (tt:=bt) (te:=(tOp (jw K) (bo 0) (tC (.int 0)))) ej.nd rfl (Or.inl rfl) rfl (cE rfl (by decide +kernel) (by decide +kernel) rfl rfl rfl) (ie (pcF T.g_11 (fQ T) hr (aa (pv 0) ac))) (λ_ _ _ _ _ _=>(pgN 0 uo)) (br rfl) (λ_ _ _ _ _ _=>bx) (λ_ _ _ _ _ _=>(ay aA (pv 0) ad (λ_ _=>rfl))))
  (ag (aq (ay aA (ay aA (pcF T.g_14 (cI T) hr (aa (pv 0) ac)) (pv 1) (λ_ _=>rfl)) (cG LY PySem.F.slot_list_index PySem.F.type_list_index nk (pv 3) (aa (pv 2) ac)) (λ_ _=>rfl))))),?_⟩
 try dsimp only[uU,uH]
 have GX:ins.length=wu.length:=L3 BM;have K8:=g.le;refine⟨_,B?,b,_,_,_,_,B?,eb,ia,B?,⟨_,Ub G0⟩,jF ins (λk=>V.str k.1) (Ub G0) (by rw[Lx];exact GX) (by rw[Lx];lia) (λi x z H2 R W' hx hz s2 hR=>?_) (λD H1 hD s1 e1=>?_)⟩
 .obtain⟨ka,rfl,zU⟩:=bh hx;obtain⟨z',yZ,ez⟩:=Sd BM zU;rw[hz]at yZ;cases yZ;exact⟨_,B?,ka,_,0,.str z.1,B?,B?,Ub (s2 _ _ ez),at0,hR H2 (.refl _)⟩
 have en:ins.map (λk=>V.str k.1)=(ins.map (·.1)).map V.str:=by rw[Qq];rfl
 rw[en]at e1;refine⟨_,B?,b,_,_,_,_,B?,s1 _ _ eb,_,B?,ra,_,st,.ref bL,B?,B?,Ub (s1 _ _ era),at_nonneg uY (gmE vg),_,B?,.inl ⟨B?,_,Tb e1⟩,_,B?,?_⟩;refine⟨D,ins.map (·.1),k.1,j,B?,B?,Tb e1,by rw[LZ,hj];rfl,λi hi hz=>?_,by rw[Lx];lia,?_⟩
 .rw[LZ]at hz;obtain⟨k',vk,e⟩:=Nc.mp hz;have:=g.nd i j k' k vk hj e;lia
 .exact⟨bL,_,(j:Int),.ref ta,B?,B?,Ub (s1 _ _ ya),bT (gmE xC),q H1 s1⟩
def mf(k c:Int):List (LL×V):=[("met_knots",.int k),("met_calls",.int c)]
theorem mkc:¬(("met_knots":LL)="met_calls"):=by decide +kernel
theorem uy:¬(("met_calls":LL)="met_knots"):=by decide +kernel
theorem pw:cg "met_knots" (.int 0) []=[(("met_knots":LL),Vb 0)]:=rfl
theorem pU:cg "met_calls" (.int 0) [(("met_knots":LL),Vb 0)]=mf 0 0:=by
 unfold mf;rw[cg,Ra mkc,cg]
theorem pj(k c z:Int):cg "met_knots" (.int z) (mf k c)=mf z c:=by
 unfold mf;rw[cg,Sa rfl]
theorem pK(k c z:Int):cg "met_calls" (.int z) (mf k c)=mf k z:=by
 unfold mf;rw[cg,Ra mkc,cg,Sa rfl]
theorem tG(k c:Int):(mf k c).lookup ("met_knots":LL)=A? (Vb k):=by
 unfold mf;have hb:(("met_knots":LL) == "met_knots")=true:=beq_iff_eq.mpr rfl;simp only[Nq,hb]
theorem sW(k c:Int):(mf k c).lookup ("met_calls":LL)=A? (Vb c):=by
 unfold mf;have hb:(("met_calls":LL) == "met_calls")=true:=beq_iff_eq.mpr rfl;have hc:(("met_calls":LL) == "met_knots")=false:=beq_eq_false_iff_ne.mpr uy;simp only[Nq,hb,hc]
theorem sM{m:LL}(k c:Int)(h1:(m == ("met_knots":LL))=AH)(h2:(m == ("met_calls":LL))=AH):(mf k c).lookup m=none:=by
 unfold mf;simp only[Nq,h1,h2]
theorem pb(k c:Int):(mf k c).length<1000:=by show 2<1000;decide
inductive dm(C:Ls)(vs:List V)(H:Hp)(Q:VK)(_E:XK):Prop
 |mk (x dx:Ls):vs=[.ref x]->H x=A? (.ins C dx [])->(∀H':Hp,(∀b o,b≠x->H b=A? o->H' b=A? o)->H' x=A? (.ins C dx (mf 0 0))->Q .non H')->dm C vs H Q _E
theorem gj:FnOk P w K mg base CX0 1 T.g_9.f T.g_9.d ["self"] (dm T.e_Measure):=by
 refine T.g_9.F.okA gp λuI A outer s H vs Q E hr h=>?_;obtain⟨x,dx,rfl,ex,q⟩:=h
 refine⟨_,(ae (nV (pv 0) ad rfl)
  (ag (nV (pv 0) ad rfl))),?_⟩
 try dsimp only[uU,uH]
 refine⟨_,B?,x,T.e_Measure,dx,_,B?,ex,T.cl_Measure,T.na_Measure_met_knots,(by show 0<1000;decide),?_⟩;refine⟨_,B?,x,T.e_Measure,dx,_,B?,af,T.cl_Measure,T.na_Measure_met_calls,(by show 1<1000;decide),?_⟩;refine q _ (λb o hb e=>?_) ?_
 .rw[ai hb,ai hb];exact e
 .rw[af,pw,pU]
inductive cT(C:Ls)(vs:List V)(H:Hp)(Q:VK)(_E:XK):Prop
 |mk (x dx pa:Ls) (k c row:Int) (t:Th) (rp:Rep):vs=[.ref x,.ref pa,.int row]->H x=A? (.ins C dx (mf k c))->AtG rp H t pa->(∀(k' c':Int)(H':Hp),k'=(if t.isCall=AG then k else k+1)->c'=(if t.isCall=AG then c+1 else c)->(∀b o,b≠x->H b=A? o->H' b=A? o)->H' x=A? (.ins C dx (mf k' c'))->Q (.bl (decide (row<=20/\k'<=400/\c'<=200))) H')->cT C vs H Q _E
theorem fH:FnOk P w K mg base CX0 2 T.g_10.f T.g_10.d ["self","part","row"] (cT T.e_Measure):=by
 refine T.g_10.F.okA fz λuI A outer s H vs Q E hr h=>?_;obtain⟨x,dx,pa,k,c,row,t,rp,rfl,ex,hA,q⟩:=h
 refine⟨_,(ae (bj (bF (pcF T.g_3 (cC T) hr (aa (pv 1) ac)) (λ_=>rfl)) (ag (iQ (pv 0) ad nZ)) (ag (iQ (pv 0) ad nZ)))
  (ag (aq (lw (bU oS (pv 2) (bz (v:=.int (20)) rfl T.c_MOST_ROWS.choose_spec ⟨_,B?⟩) (aD _)) (lw (bU oS (oA (pv 0) rfl) (bz (v:=.int (400)) rfl T.c_MOST_KNOTS.choose_spec ⟨_,B?⟩) (aD _)) (nF (bU oS (oA (pv 0) rfl) (bz (v:=.int (200)) rfl T.c_MOST_CALLS.choose_spec ⟨_,B?⟩) (aD _)))))))),?_⟩
 try dsimp only[uU,uH]
 refine bQ (λuE H'=>Ex2 λ(k' c':Int)=>An5 (k'=(if t.isCall=AG then k else k+1)) (c'=(if t.isCall=AG then c+1 else c)) ((∀b o,b≠x->H b=A? o->H' b=A? o)) (H' x=A? (.ins T.e_Measure dx (mf k' c'))) (uE=[A? (.ref x),A? (.ref pa),A? (.int row)])) (λkk hk=>?_) ?_
 .refine fw (λb H'=>An2 (H=H') (b=t.isCall)) (λk2 yb=>?_) (λH' hb=>?_) (λH' hb=>?_)
  .exact⟨_,B?,rp,pa,t,B?,hA,_,B?,yb _ _ ⟨B?,B?⟩⟩
  .obtain⟨rfl,hb⟩:=hb;refine⟨_,B?,x,T.e_Measure,dx,_,_,B?,ex,T.cl_Measure,T.na_Measure_met_calls,sW k c,c,1,B?,B?,dx,_,ex,pb k c,?_⟩;exact hk _ _ ⟨k,c+1,by rw[Sa hb.symm],by rw[Sa hb.symm],λb o hb e=>by rw[ai hb];exact e,by rw[af,pK],rfl⟩
  .obtain⟨rfl,hb⟩:=hb;have vK:¬t.isCall=true:=λz=>by rw[<-hb]at z;cases z
   refine⟨_,B?,x,T.e_Measure,dx,_,_,B?,ex,T.cl_Measure,T.na_Measure_met_knots,tG k c,k,1,B?,B?,dx,_,ex,pb k c,?_⟩;exact hk _ _ ⟨k+1,c,by rw[Ra vK],by rw[Ra vK],λb o hb e=>by rw[ai hb];exact e,by rw[af,pj],rfl⟩
 rintro uE H' ⟨k',c',vk,vQ,hs,Ck,rfl⟩;have q':=q k' c' H' vk vQ hs Ck;clear q;refine⟨_,B?,_,_,B?,B?,?_⟩;refine⟨_,B?,?_⟩;by_cases c1:row<=20
 .rw[Sa (Ua c1)];refine⟨_,B?,x,T.e_Measure,dx,_,_,B?,Ck,T.cl_Measure,T.na_Measure_met_knots,tG k' c',_,_,B?,B?,_,B?,?_⟩;by_cases c2:k'<=400
  .rw[Sa (Ua c2)];refine⟨_,B?,x,T.e_Measure,dx,_,_,B?,Ck,T.cl_Measure,T.na_Measure_met_calls,sW k' c',_,_,B?,B?,?_⟩;have e:decide (row<=20/\k'<=400/\c'<=200)=decide (c'<=200):=by simp[c1,c2]
   rw[e]at q';exact q'
  .rw[Ra (λz=>c2 (Va z))];rw[Ta (λz=>c2 z.2.1)]at q';exact q'
 .rw[Ra (λz=>c1 (Va z))];rw[Ta (λz=>c1 z.1)]at q';exact q'
inductive fZ(vs:List V)(H:Hp)(Q:VK)(_E:XK):Prop
 |mk (b pa ka:Ls) (ins outs:List (LL×Int)) (S S1:Int) (head:Th) (rows:List (List Th)) (p:Th) (kn:LL) (xD:List Th):vs=[.ref b,.ref pa,.ref ka]->Bk H ins outs head rows b->dD ins->jv ins outs S rows->S1<=1000->AtG .i H p pa->AtG .i H (.knot kn xD) ka->Lead ins outs S S1 p (.knot kn xD)->(∀(r EL Ct:Ls)(H':Hp),Sb H H'->H' r=A? (.tup [.ref EL,.ref Ct])->((∃n ks n' z7,AtG .i H' (.knot n ks) EL/\AtG .i H' (.knot n' z7) Ct/\Lead ins outs S S1 (.knot n ks) (.knot n' z7)/\made (aP ins rows) p (.knot kn xD)=made (aP ins rows) (.knot n ks) (.knot n' z7))\/∃c h,AtG .p H' (.call c h) EL/\made (aP ins rows) p (.knot kn xD)=.call c h)->Q (.ref r) H')->fZ  vs H Q _E
theorem kF:FnOk P w K mg base CX0 3 T.g_21.f T.g_21.d ["second","part","knot"] fZ:=by
 refine T.g_21.F.okA bv λuI A outer s H vs Q E hr h=>?_;obtain⟨b,pa,ka,ins,outs,S,S1,head,rows,p,kn,xD,rfl,hb,g,hok,G1,hp,hk,hl,q⟩:=h
 refine⟨_,(ae (dH MP (bF (pcF T.g_3 (cC T) hr (aa (pv 1) ac)) (λ_=>rfl)) (ae (cJ (pcF T.g_4 (cA T) hr (aa (pv 1) ac)) (cK rfl (aB (pgN 3 bv.nd) (aB (pgN 4 bv.nd) bW))))
  (ae (ak 2 bv.nd (ay aA (pv 2) (aw bA (pv 4) ad) (λ_ _=>rfl)))
  (ae (bj (bF (pcF T.g_3 (cC T) hr (aa (pv 2) ac)) (λ_=>rfl)) (ae (cJ (pcF T.g_4 (cA T) hr (aa (pv 2) ac)) (cK rfl (aB (pgN 5 bv.nd) (aB (pgN 6 bv.nd) bW))))
  (ag (aq (av (aa (av (aa (bz (v:=.str (LI "?")) rfl T.c_CALL_SIGN.choose_spec ⟨_,B?⟩) (aa (av (aa (pv 3) (aa (pv 5) ac))) (aa (pv 6) ac)))) (aa (pv 2) ac)))))) aQ)
  (ag (ak 1 bv.nd (pcF T.g_16 (ik T) hr (aa (pv 0) (aa (pv 3) (aa (ay aA (pv 2) ad (λ_ _=>rfl)) ac))))))))))
  (ag (aq (av (aa (pv 1) (aa (pv 2) ac)))))),?_⟩
 try dsimp only[uU,uH]
 refine⟨λmz Y H2=>Ex7 λ(pa ka:Ls)(p2:Th)(n2:LL)(wB:List Th)(v3 v4:Option V)=>An7 (Y=[A? (.ref b),A? (.ref pa),A? (.ref ka),v3,v4,Ak,Ak]) (Sb H H2) (AtG .i H2 p2 pa) (AtG .i H2 (.knot n2 wB) ka) (Lead ins outs S S1 p2 (.knot n2 wB)) (made (aP ins rows) p (.knot kn xD)=made (aP ins rows) p2 (.knot n2 wB)) (mz=(Xc n2 wB).tall),⟨_,pa,ka,p,kn,xD,Ak,Ak,B?,.refl _,hp,hk,hl,B?,B?⟩,?_⟩;rintro mz Y H2 ⟨pa,ka,p2,n2,wB,v3,v4,rfl,s2,wq,yb,xl,hm,rfl⟩;refine⟨_,B?,.i,pa,p2,B?,wq,_,B?,?_⟩;cases p2 with
 | knot n ks =>
   refine mG ?_;refine⟨_,B?,_,B?,lnE rfl,λr uX=>?_⟩;have s3:=aj uX (.tup [.ref pa,.ref ka]);exact q r pa ka _ (s2.trans s3) af (.inl ⟨n,ks,n2,wB,wq.mono (Za s3),yb.mono (Za s3),xl,hm⟩)
 | call st kd =>
   refine ol ?_;refine⟨λuE H'=>∃m',m'<(Xc n2 wB).tall/\Ex7 λ(pa ka:Ls)(p2:Th)(n2:LL)(wB:List Th)(v3 v4:Option V)=>An7 (uE=[A? (.ref b),A? (.ref pa),A? (.ref ka),v3,v4,Ak,Ak]) (Sb H H') (AtG .i H' p2 pa) (AtG .i H' (.knot n2 wB) ka) (Lead ins outs S S1 p2 (.knot n2 wB)) (made (aP ins rows) p (.knot kn xD)=made (aP ins rows) p2 (.knot n2 wB)) (m'=(Xc n2 wB).tall),λuE H' h=>h,?_⟩;refine hid λZZ kZ=>?_;obtain⟨CQ,Cq,Gn,k',vk,EM⟩:=xl.call;have CK:(Xc n2 wB).kids=wB:=rfl;rw[CK]at vk EM;have yu:=dA EM;have BN:=yb;rw[AtG]at BN;obtain⟨AN,CS,DP,EN⟩:=BN;obtain⟨ua,yM,z8⟩:=EN.at vk;refine kZ ?_;refine⟨_,B?,.i,pa,st,kd,B?,wq,λc v uY hc=>⟨c,_,B?,Ub af,B?,_,_,B?,_,_,B?,B?,?_⟩⟩;obtain rfl:v=Vb st:=uY;refine gU hc λH3 s3 _=>?_;have xf:=s2.trans s3;have yN:=z8.mono (Za s3);refine⟨_,B?,_,B?,_,_,B?,B?,ka,_,_,.ref ua,B?,B?,Ub (s3 _ _ DP),at_nonneg (by lia) (by rw[show(kd+1).toNat=kd.toNat+1 by lia,List.getElem?_cons_succ,LZ,yM];rfl),?_⟩;refine⟨_,B?,.i,ua,k',B?,yN,_,B?,?_⟩;cases k' with
   | call l h =>
     refine ol ?_;refine⟨_,B?,.i,ua,l,h,B?,yN,λc2 v2 EO vN=>⟨c2,_,B?,Ub af,B?,_,_,B?,_,_,B?,B?,?_⟩⟩;obtain rfl:v2=Vb l:=EO;refine gU vN λH4 s4 _=>?_;refine⟨_,B?,_,B?,lnE rfl,λpp JC=>⟨_,B?,lnE rfl,λcp JD=>⟨_,B?,lnE rfl,λr uX=>?_⟩⟩⟩;have t1:=aj JC (.tup [.int st,.int l]);have t2:=aj JD (.tup [.str (LI "?"),.ref pp,.int h]);have t3:=aj uX (.tup [.ref cp,.ref ua]);obtain⟨C,hC⟩:=xl.kid _ EM;rw[Zb]at hC;refine q r cp ua _ (xf.trans (s4.trans (t1.trans (t2.trans t3)))) af (.inr ⟨enc st l,h,?_,?_⟩)
     .rw[AtG];exact⟨.ref pp,t3 _ _ af,pp,st,l,B?,(t2.trans t3) _ _ af,B?,CQ,hC.1,by lia⟩
     .rw[hm,dR (k:=.knot n2 wB) _ vk,bO]
   | knot n ts =>
     refine mG ?_;refine hid λZZ kZ=>?_;obtain⟨j,row,p3,hj,vg,JE,yC,JF,xV⟩:=Lead.next g hok xl vk;obtain⟨ia,oa,K9,ra,wu,vt,vj,bk⟩:=id (hb.mono (Za xf));obtain⟨bL,yc,xZ,ya,yO⟩:=P2.get bk.rw vg;obtain⟨ta,xC,v7⟩:=yO.at JE;have zc:=yN;rw[AtG]at zc;obtain⟨G2,bs,JG,wz⟩:=zc;refine kZ ?_;refine⟨_,B?,_,B?,_,B?,ua,_,0,.str n,B?,B?,Ub JG,at0,b,ia,ra,bL,ta,_,_,wu,vj,xZ,ins,st,j,(n,(ts.length:Int)),B?,bk.bk,bk.inE,bk.inK,g,bk.rl,CQ,yc,ya,hj,xC,λH4 s4=>?_⟩;refine⟨(Xc n ts).tall,by rw[show(Xc n2 wB).tall=aK wB+1 by rw[Xb]];lia,ta,ua,p3,n,ts,_,_,B?,xf.trans s4,(v7.g).mono (Za s4),yN.mono (Za s4),JF,by rw[hm,xV],B?⟩
end G
namespace G
theorem kx:LI ""≠q:=by decide +kernel
inductive c9(CG:Ls)(vs:List V)(H:Hp)(Q:VK)(E:XK):Prop
 |mk (b ha ta:Ls) (ins outs:List (LL×Int)) (S S1:Int) (head:Th) (rows:List (List Th)) (p t:Th):vs=[.ref b,.ref ha,.ref ta]->Bk H ins outs head rows b->dD ins->dD outs->jv ins outs S rows->S1<=1000->AtG .i H p ha->AtG .i H t ta->Lead ins outs S S1 p (.knot (LI "") [t])->(Small (made (aP ins rows) p (.knot (LI "") [t]))->∀(r:Ls)(H':Hp),Sb H H'->AtG .p H' (made (aP ins rows) p (.knot (LI "") [t])) r->Q (.ref r) H')->(¬Small (made (aP ins rows) p (.knot (LI "") [t]))->∀H',Sb H H'->E (.ref CG) Ak H')->c9 CG vs H Q E
def qE(C:Ls)(b ha ta tl mo dx ah:Ls)(ins outs:List (LL×Int))(S S1:Int)(rows:List (List Th))(o:Th)(H:Hp)(m:Nat)(Y:St)(H2:Hp):Prop :=
 Ex9 λ(wF as:List Ls)(done:List Th)(js:List Job)(k c:Int)(c6 c7 c8:Option V)=>sD (Y=[A? (.ref b),A? (.ref ha),A? (.ref ta),A? (.ref tl),A? (.ref mo),A? (.ref ah),c6,c7,c8]) (Sb H H2) (H2 tl=A? (.lst (wF.map Rb))) (H2 ah=A? (.lst (as.map Rb))) (H2 mo=A? (.ins C dx (mf k c))) (Mg (TopAtG .p H2) (done.map (ce Wc)) wF) (Mg (MJAt H2 ins outs S S1 (aP ins rows)) js as) (MInv o done js k c) (MLim o done js k c as.length) (m=aC (jos js))
theorem fb:FnOk P w K mg base (CX1 P w) 6 T.g_22.f T.g_22.d ["second","head","pattern"] (c9 T.e_Great):=by
 refine T.g_22.F.ok1 aX (λvs H Q E h=>?_) (λuI A outer s H vs Q E hr h=>?_)
 .obtain⟨b,ha,ta,ins,outs,S,S1,head,rows,p,t,rfl,_⟩:=h;rfl
 obtain⟨b,ha,ta,ins,outs,S,S1,head,rows,p,t,rfl,hb,gi,go,hok,G1,hp,ht,JH,q,qe⟩:=h
 refine⟨_,(ae (ak 3 aX.nd (bf ac))
  (ae (ak 4 aX.nd (nw ⟨T.mi_Measure.1,T.g_9.me.1,T.g_9.me.2,T.mi_Measure.2⟩ (gj T) (hr.mono (by first|decide|lia)) rfl T.x_Measure T.g_9.b .nil gb))
  (ae (ak 5 aX.nd (bf (aa (av (aa (pv 1) (aa (pcF T.g_19 (nO T) hr (aa (pv 2) ac)) (aa ad ac)))) ac)))
  (ae (dH PassesOwn.leaving (bF (pv 5) (λ_=>rfl)) (ae (cJ (kJ LY PK PJ lL (pv 5)) (cK rfl (aB (pgN 6 aX.nd) (aB (pgN 7 aX.nd) (aB (pgN 8 aX.nd) bW)))))
  (ae (cJ (pcF T.g_21 (kF T) hr (aa (pv 0) (aa (pv 6) (aa (pv 7) ac)))) (cK rfl (aB (pgN 6 aX.nd) (aB (pgN 7 aX.nd) bW))))
  (ae (bj (oi (bF (pL (pv 4) T.cl_Measure T.g_10.me (fH T) (hr.mono (by first|decide|lia)) T.g_10.b .nil gb (aa (pv 6) (aa (pv 8) ac))) (λ_=>rfl))) (ag (hG T.X_Great T.x_Great bG)) aQ)
  (ae (bq (cG LY Mu Mt aV (pv 3) (aa (pcF T.g_6 (iC T) hr (aa (pv 6) ac)) ac)))
  (ag (bq (cG LY PySem.F.slot_list_extend PySem.F.type_list_extend mI (pv 5) (aa (bY (N:=["kid","knot","row"]) (js:=[Ak,A? 7,A? 8]) (g:=(ax 0)) (tt:=bt) (te:=(nA (aO (bo 0) (aO (bo 1) (aO (tOp (rI0 λi j=>.int (i+j)) (bo 2) (tC (.int 1))) cM))))) rfl (cE rfl (by decide +kernel) (by decide +kernel) rfl rfl rfl) (qk rfl T.n_8 (pcF T.g_0 (eB T) hr (aa (pv 6) ac))) (λ_ _ _ _ _ _=>(pgN 0 um)) (br rfl) (λ_ _ _ _ _ _=>bx) (λ_ _ _ _ _ _=>(av (aa (pv 0) (aa (pv 1) (aa (aw bA (pv 2) ad) ac)))))) ac)))))))))
  (ag (aq (pcF T.g_2 (j5 T) hr (aa (pv 3) ac)))))))),?_⟩
 try dsimp only[uU,uH]
 generalize ho:made (aP ins rows) p (.knot (LI "") [t])=o at q qe;refine⟨lnE rfl,λtl yu=>?_⟩;refine gU yu λH1 s1 e1=>?_;have e1:H1 tl=A? (.lst (([]:List Ls).map Rb)):=e1;intro mo dx BO JI u6;refine⟨mo,dx,B?,af,λH2 k2 ER=>⟨B?,?_⟩⟩;have s2:Sb H1 H2:=λb o e=>k2 b o (am e BO) (by rw[ai (am e BO),ai (am e JI)];exact e);have BP:H mo=none:=s1.free BO;have G3:tl≠mo:=λz=>by rw[z]at e1;rw[e1]at BO;cases BO
 refine⟨_,B?,_,B?,.ref ta,B?,λab wV=>⟨lnE rfl,λtp wW=>⟨lnE rfl,λah yt=>?_⟩⟩⟩;have zT:H ah=none:=(s1.trans s2).free ((aj wV _).free ((aj wW _).free yt));have s3:Sb H2 (upd H2 ab (.tup [.str (LI ""),.ref ta])):=aj wV _;have e3:(upd H2 ab (.tup [.str (LI ""),.ref ta])) ab=A? (.tup [.str (LI ""),.ref ta]):=af;generalize(upd H2 ab (.tup [.str (LI ""),.ref ta]))=H3 at s3 e3 wW yt |-;have s4:Sb H3 (upd H3 tp (.tup [.ref ha,.ref ab,.int 1])):=aj wW _;have e4:(upd H3 tp (.tup [.ref ha,.ref ab,.int 1])) tp=A? (.tup [.ref ha,.ref ab,.int 1]):=af;generalize(upd H3 tp (.tup [.ref ha,.ref ab,.int 1]))=H4 at s4 e4 yt |-;refine gU yt λH5 s5 e5=>?_;have e5:H5 ah=A? (.lst ([tp].map Rb)):=e5;have z9:=s3.trans s4
 have xC:tl≠ah:=λz=>by
  have:=z9 _ _ (s2 _ _ e1);rw[z,yt]at this;cases this
 have ES:mo≠ah:=λz=>by
  have:=z9 _ _ ER;rw[z,yt]at this;cases this
 have CT:=z9.trans s5;have wG:=s1.trans (s2.trans CT);refine⟨qE T.e_Measure b ha ta tl mo dx ah ins outs S S1 rows o H,⟨_,[],[tp],[],[⟨p,.knot (LI "") [t],1,o⟩],0,0,Ak,Ak,Ak,B?,wG,CT _ _ (s2 _ _ e1),e5,CT _ _ ER,.nil,.cons ⟨ha,ab,_,_,s5 _ _ e4,hp.mono (Za wG),B?,?_,JH,ho.symm⟩ .nil,MInv.start,MLim.start,B?⟩,?_⟩
 .rw[AtG];exact⟨kx,[ta],(s4.trans s5) _ _ e3,.cons (ht.mono (Za wG)) .nil⟩
 clear wG CT z9 s5 e5 s4 e4 s3 e3 s2 k2 ER s1 e1;rintro m Y H2 ⟨wF,as,done,js,k,c,c6,c7,c8,rfl,sm,et,ea,em,hT,hJ,J,JL,rfl⟩;refine⟨_,B?,_,.inl ⟨_,Tb ea,B?⟩,?_⟩;refine bI (λcc=>?_) (λcc=>?_)
 .have xX:as≠[]:=by intro z;subst z;simp at cc
  refine hid λZZ kZ=>?_;obtain⟨vh,x,rfl⟩:∃vh x,as=vh++[x]:=⟨as.dropLast,as.getLast xX,(OH xX).symm⟩;obtain⟨zd,j,rfl,ET,hj⟩:=P2.snoc_inv hJ;obtain⟨jp,jk,jr,jo⟩:=j;obtain⟨pa,ka,kn,xD,ex,Am,G4,zU,ze,G5⟩:=hj;refine kZ ?_;dsimp only at ex Am G4 ze G5;subst G4;have JJ:zd.length=vh.length:=L3 ET;have zV:=JL.dn J;have v5:=JL.al;have K':=JL.k;have vN:=JL.c;rw[LR]at v5
  have Ap:done.length=wF.length:=by
   have:=L3 hT;rw[Lx]at this;exact this
  refine⟨λuE H'=>∃m',m'<aC (jos (zd++[⟨jp,.knot kn xD,jr,jo⟩]))/\qE T.e_Measure b ha ta tl mo dx ah ins outs S S1 rows o H m' uE H',λuE H' h=>h,?_⟩;refine⟨_,B?,.inl ⟨B?,_,Tb ea⟩,ah,_,.ref x,B?,B?,ea,by simp,?_⟩;have d1:((vh++[x]).map Rb).dropLast=vh.map Rb:=by simp
  rw[d1];have k3:KT H2 (upd H2 ah (.lst (vh.map Rb))):=bd ea;have s3:Sb H (upd H2 ah (.lst (vh.map Rb))):=aF sm zT;have e3:(upd H2 ah (.lst (vh.map Rb))) ah=A? (.lst (vh.map Rb)):=af;have t3:(upd H2 ah (.lst (vh.map Rb))) tl=A? (.lst (wF.map Rb)):=by rw[ai xC];exact et
  have m3:(upd H2 ah (.lst (vh.map Rb))) mo=A? (.ins T.e_Measure dx (mf k c)):=by rw[ai ES];exact em
  generalize(upd H2 ah (.lst (vh.map Rb)))=H3 at k3 s3 e3 t3 m3 |-;refine⟨x,_,B?,Ub (k3 _ _ ex),B?,_,_,B?,_,_,B?,_,_,B?,B?,?_⟩;refine⟨_,B?,_,B?,_,B?,b,pa,ka,ins,outs,S,S1,head,rows,jp,kn,xD,B?,hb.mono (Za s3),gi,hok,G1,Am.mono k3,zU.mono k3,ze,λr BQ CU H4 s4 er BR=>?_⟩;refine⟨r,_,B?,Ub er,B?,_,_,B?,_,_,B?,B?,?_⟩;have t4:=s4 _ _ t3;have a4:=s4 _ _ e3;have m4:=s4 _ _ m3;have vy:=s3.trans s4;have JK:=k3.trans (Za s4);rw[<-G5]at BR
  refine hid λZZ kZ=>?_
  obtain⟨rp,pt,EU,EV,BS,⟨zJ,Aq⟩,BU⟩:∃(rp:Rep)(pt:Th),AtG rp H4 pt BQ/\(∀(H':Hp)(a:Ls),TopAtG rp H' (ce Wc pt) a->TopAtG .p H' (ce Wc jo) a)/\pt.isCall=jo.isCall/\(pt.kids.length=jo.kids.length/\jo.kids.length<=3)/\(∀(i:Nat)(u ou:Th),pt.kids[i]?=A? u->jo.kids[i]?=A? ou->∀(H':Hp)(a ua:Ls),KT H4 H'->H' a=A? (.tup [.ref ua,.ref CU,.int ((jr+1:Nat):Int)])->AtG rp H' u ua->∃k',MJAt H' ins outs S S1 (aP ins rows) ⟨u,k',jr+1,ou⟩ a):=by
   rcases BR with⟨n,ks,n',z7,h1,h2,h3,h4⟩|⟨cc,hh,h1,h2⟩
   .refine⟨.i,.knot n ks,h1,?_,?_,?_,?_⟩
    .intro H' a h;rw[h4,cQ];obtain⟨ta,g1,g2,g3⟩:=h;exact⟨ta,by rw[g1,Lx],g2,g3⟩
    .rw[h4,cQ];rfl
    .rw[h4,cQ];have hf:=h3.fit;rw[Zb]at hf;have:=(go.num _ hf.1).2;have h2:((ks.length:Nat):Int)<=3:=this;show ks.length=(ks.map _).length/\(ks.map _).length<=3;rw[Lx];lia
    .intro i u ou hu EW H' a ua kt e yM;rw[h4,cQ]at EW;have BV:(ks.map λp=>made (aP ins rows) p (.knot n' z7))[i]?=A? ou:=EW;have wt:ks[i]?=A? u:=hu;rw[LZ,wt]at BV;cases BV;exact⟨.knot n' z7,ua,CU,n',z7,e,yM,B?,h2.mono kt,h3.kids u (L9 wt),B?⟩
   .refine⟨.p,.call cc hh,h1,?_,?_,?_,?_⟩
    .intro H' a h;rw[h2];exact h
    .rw[h2]
    .rw[h2];exact⟨B?,MB _⟩
    .intro i u ou hu EW;have:([]:List Th)[i]?=A? u:=hu;cases this
  refine kZ ?_;dsimp only[ax];refine bQ (λuE H6=>Ex2 λ(k' c':Int)=>An6 (k'=(if jo.isCall=AG then k else k+1)) (c'=(if jo.isCall=AG then c+1 else c)) ((∀b o,b≠mo->H4 b=A? o->H6 b=A? o)) (H6 mo=A? (.ins T.e_Measure dx (mf k' c'))) ((((jr:Nat):Int)<=20/\k'<=400/\c'<=200)) (uE=[A? (.ref b),A? (.ref ha),A? (.ref ta),A? (.ref tl),A? (.ref mo),A? (.ref ah),A? (.ref BQ),A? (.ref CU),A? (.int (jr:Nat))])) (λkk wy=>?_) ?_
  .refine fw (λbb H6=>Ex2 λ(k' c':Int)=>An5 (k'=(if jo.isCall=AG then k else k+1)) (c'=(if jo.isCall=AG then c+1 else c)) ((∀b o,b≠mo->H4 b=A? o->H6 b=A? o)) (H6 mo=A? (.ins T.e_Measure dx (mf k' c'))) (bb=!decide (((jr:Nat):Int)<=20/\k'<=400/\c'<=200))) (λk2 yb=>?_) (λH6 hb=>?_) (λH6 hb=>?_)
   .refine⟨_,B?,mo,dx,_,B?,m4,sM k c (by decide +kernel) (by decide +kernel),_,B?,_,B?,mo,dx,BQ,k,c,(jr:Nat),pt,rp,B?,m4,EU,λk' c' H6 h1 h2 h3 h4=>?_⟩;rw[BS]at h1 h2;exact⟨_,B?,yb _ _ ⟨k',c',h1,h2,h3,h4,B?⟩⟩
   .refine hid λZZ kZ=>?_;obtain⟨k',c',h1,h2,h3,h4,h5⟩:=hb;refine kZ ?_;refine qe (λxc=>?_) H6 λb o e=>h3 b o (am e BP) (vy b o e);rw[Ua (J.takes xc h1 h2)]at h5;cases h5
   .refine hid λZZ kZ=>?_;obtain⟨k',c',h1,h2,h3,h4,h5⟩:=hb;refine kZ ?_;by_cases CV:(((jr:Nat):Int)<=20/\k'<=400/\c'<=200)
    .exact wy _ _ ⟨k',c',h1,h2,h3,h4,CV,rfl⟩
    .rw[Ta CV]at h5;cases h5
  rintro uE H5 ⟨k',c',vk,vQ,h3,m5,CV,rfl⟩;have EX:KT H4 H5:=λb xs e=>h3 b _ (λz=>by rw[z,m4]at e;cases e) e;have wG:Sb H H5:=λb o e=>h3 b o (am e BP) (vy b o e);have t5:H5 tl=A? (.lst (wF.map Rb)):=h3 _ _ G3 t4;have a5:H5 ah=A? (.lst (vh.map Rb)):=h3 _ _ ES.symm a4;have JM:=JK.trans EX
  refine⟨_,B?,.inl ⟨B?,_,Tb t5⟩,_,B?,rp,BQ,pt,B?,EU.mono EX,λyP H6 s6 EY=>?_⟩;refine⟨tl,_,_,B?,B?,s6 _ _ t5,lbE (by lia),?_⟩;have k7:KT H6 (upd H6 tl (.lst (wF.map Rb++[.ref yP]))):=bd (s6 _ _ t5);have s7:Sb H (upd H6 tl (.lst (wF.map Rb++[.ref yP]))):=aF (wG.trans s6) yu;have t7:(upd H6 tl (.lst (wF.map Rb++[.ref yP]))) tl=A? (.lst ((wF++[yP]).map Rb)):=uAE;have a7:(upd H6 tl (.lst (wF.map Rb++[.ref yP]))) ah=A? (.lst (vh.map Rb)):=by rw[ai xC.symm];exact s6 _ _ a5
  have m7:(upd H6 tl (.lst (wF.map Rb++[.ref yP]))) mo=A? (.ins T.e_Measure dx (mf k' c')):=by rw[ai G3.symm];exact s6 _ _ m5
  generalize(upd H6 tl (.lst (wF.map Rb++[.ref yP])))=H7 at k7 s7 t7 a7 m7 |-;have G6:=(Za s6).trans k7;have G7:=JM.trans G6;have G8:=EX.trans G6
  have JN:Mg (TopAtG .p H7) ((done++[jo]).map (ce Wc)) (wF++[yP]):=by
   rw[L6];exact Uc (eN G7 hT) (.cons ((EV _ _ EY).mono k7) .nil)
  refine⟨_,B?,.inl ⟨B?,_,Tb a7⟩,_,B?,rp,BQ,pt,B?,EU.mono G8,λp3 uJ H8 s8 e8 BW=>?_⟩;have JO:=G8.trans (Za s8);have BX:uJ.length=jo.kids.length:=by rw[BW.length];exact zJ
  have Lb:=jo.size_eq
  have E1:aC (jos (zd++[⟨jp,.knot kn xD,jr,jo⟩]))=aC (jos zd)+jo.size:=by
   rw[eV,bg,aC,aC];rfl
  have EB:((uJ.map Rb).reverse).length=jo.kids.length:=by rw[Mp,Lx];exact BX
  refine⟨p3,_,B?,Ub e8,cW (F:=λH(j:Th×Th)a=>∃k',MJAt H ins outs S S1 (aP ins rows) ⟨j.1,k',jr+1,j.2⟩ a) (xs:=(uJ.map Rb).reverse) (pt.kids.zip jo.kids).reverse (λH1 H2 z p kt⟨k',h⟩=>⟨k',h.mono kt⟩) (by rw[Mp,List.length_zip,EB];lia) (by lia) (λi Hx sx hi=>⟨by rw[Mp]at hi;exact hi,_,Ub (sx _ _ e8),B?⟩) (λHx sx=>by rw[Mp];rfl) (λi Hx x Hy sx hi hy=>⟨hy.1,?_⟩) (λi x z Hx R W' hx uZ sx hR=>?_) (λD Hx CS hD sx eD wH=>?_)⟩
  .rw[Mp]at hi;rw[Ov hi];exact hy.2 _ (Ub (sx _ _ e8))
  .have Ew:i<jo.kids.length:=by
    have:=(glE hx);lia
   have E2:(pt.kids.zip jo.kids).length=jo.kids.length:=by rw[List.length_zip];lia
   rw[Ov (by lia),E2]at uZ;have BY:i<(uJ.map Rb).length:=by rw[Lx];lia
   rw[Ov BY,Lx,BX]at hx;refine hid λZZ kZ=>?_;obtain⟨xa,rfl,Ax⟩:=bh hx;obtain⟨u,hu,JP⟩:=BW.get Ax;obtain⟨G9,JQ⟩:=OW.mp uZ;refine kZ ?_;rw[hu]at G9;obtain rfl:=(Ma G9);refine⟨_,B?,_,B?,_,B?,_,_,B?,B?,lnE rfl,λp4 E3=>?_⟩;have s9:=aj E3 (.tup [.ref xa,.ref CU,.int ((jr:Nat)+1)]);have CW:=JO.trans (Za (sx.trans s9));exact hR _ p4 s9 (BU _ _ _ hu JQ _ p4 xa CW (by rw[af];rfl) (JP.mono (Za (sx.trans s9))))
  .have G':=L3 wH;rw[Mp,List.length_zip]at G'
   obtain⟨vO,yd,Ha⟩:∃vO:List Job,(jos vO=jo.kids.reverse/\∀i∈vO,i.r=jr+1)/\Mg (MJAt Hx ins outs S S1 (aP ins rows)) vO CS:=by
    have hz:((pt.kids.zip jo.kids).reverse).map (·.2)=jo.kids.reverse:=by
     rw[List.map_reverse,List.map_snd_zip (by lia)]
    rw[<-hz];generalize(pt.kids.zip jo.kids).reverse=zs at wH;clear G' hz eD sx hD;induction wH with
    |nil=>exact⟨[],⟨B?,λi hi=>by cases hi⟩,.nil⟩
    | cons h _ ih =>
      obtain⟨k',h⟩:=h;obtain⟨vO,⟨h1,h2⟩,h3⟩:=ih;exact⟨_::vO,⟨by show _::jos vO=_;rw[h1];rfl,λi hi=>(LW.mp hi).elim (λe=>by rw[e]) (h2 i)⟩,.cons h h3⟩
   refine⟨ah,D,_,_,B?,B?,sx _ _ (s8 _ _ a7),eD,N0 (cD (by rw[Lx,Lx];lia)),?_⟩;have a9:=sx _ _ (s8 _ _ a7);have k9:KT Hx (upd Hx ah (.lst (vh.map Rb++CS.map Rb))):=bd a9;have Hb:=(Za (s8.trans sx)).trans k9;refine⟨aC (jos (zd++vO)),?_,wF++[yP],vh++CS,done++[jo],zd++vO,k',c',_,_,_,B?,aF (s7.trans (s8.trans sx)) zT,by rw[ai xC];exact sx _ _ (s8 _ _ t7),by rw[af,L6],by rw[ai ES];exact sx _ _ (s8 _ _ m7),eN Hb JN,Uc (Vc (λ_ _ e=>e.mono (G7.trans Hb)) ET) (Vc (λ_ _ e=>e.mono k9) Ha),J.next vk vQ yd.1 yd.2,JL.next J CV vk vQ yd.1 yd.2 Aq (L3 hJ).symm (by rw[LR,LR,L3 ET,L3 Ha]),B?⟩;rw[E1];have:jos (zd++vO)=jos zd++jo.kids.reverse:=by rw[<-yd.1];unfold jos;rw[L6]
   rw[this,bg,gW];lia
 .have hz:as=[]:=by
   cases as with
   |nil=>rfl
   |cons y ys=>simp at cc
  subst hz;have JR:js=[]:=Pk.mp (L3 hJ);subst JR;have zV:=J.done;subst zV;have xc:=JL.small J;have JS:=xc.size;obtain⟨b1,b2⟩:=lP Wc o;rw[mh]at b1;have hsz:=Yc o;refine⟨_,B?,.p,tl,wF,_,o,B?,et,hT,by rw[Lx];lia,b2,?_,b1,λr H3 s3 Ay=>q xc r H3 (sm.trans s3) Ay⟩;intro u hu;obtain⟨x,hx,e⟩:=MZ.mp hu;cases x with
  |knot nm us=>cases e
  | call sn kn =>
    cases e;rw[Th.size];decide
end G
namespace G
def kP(s:Int):List Key:=[MR (s / 1000),MR (s%1000)]
theorem nL{x y:Int}(h0:0<=y)(h1:y<1000):kP (enc x y)=[MR x,MR y]:=by
 unfold kP enc;rw[show(1000 * x+y) / 1000=x by lia,show(1000 * x+y)%1000=y by lia]
theorem rk{a b:Int}(h:kP a=kP b):a=b:=by
 unfold kP at h;injection h with h1 h2;injection h2 with h2 _;have e1:=NS h1;have e2:=NS h2;lia
def cr(m:List Int):List (List Key×V):=m.zipIdx.map λp=>(kP p.1,Vb (p.2:Nat))
theorem gF(m:List Int):(cr m).length=m.length:=by unfold cr;rw[Lx,List.length_zipIdx]
theorem ni(m:List Int)(s:Int):cr (m++[s])=cr m++[(kP s,Vb (m.length:Nat))]:=by
 unfold cr;rw[List.zipIdx_append,L6];simp
theorem gH:∀(m:List Int)(s:Int)(n:Nat),bu ((m.zipIdx n).map λp=>(kP p.1,Vb (p.2:Nat))) (kP s)=if s∈m then A? (.int ((n+m.idxOf s:Nat):Int))else Ak
 | [],s,n=>rfl
 | x::m,s,n=>by
   rw[List.zipIdx_cons,Mf];by_cases h:x=s
   .subst h;rw[bc rfl,Sa (L5 ..),List.idxOf_cons_self];rfl
   .rw[be (λz=>h (rk z)),gH m s (n+1)];by_cases hm:s∈m
    .rw[Sa hm,Sa (LS _ hm),List.idxOf_cons,(beq_eq_false_iff_ne.mpr h:(x == s)=AH)];simp only[cond_false];have:n+1+m.idxOf s=n+(m.idxOf s+1):=by lia
     rw[this]
    .rw[Ra hm,Ra (λz=>(LW.mp z).elim (λy=>h y.symm) hm)]
theorem my{s:Int}(h:s∈m):bu (cr m) (kP s)=A? (.int (idx m s)):=by
 unfold cr;rw[gH,Sa h,Nat.zero_add];rfl
theorem oH{s:Int}(h:s∉m):bu (cr m) (kP s)=none:=by
 unfold cr;rw[gH,Ra h]
inductive dw(P:LF)(w:LQ)(CM:Ls)(vs:List V)(H:Hp)(Q:VK)(E:XK):Prop
 |mk (a nd:Ls) (t:Th) (m:List Int):vs=[.ref a,.ref nd]->AtG .p H t a->t.size<=100000->H nd=A? (.dT (cr m))->m.length<=20->((aR m (stT t)).length<=20->∀(r:Ls)(H':Hp),SameB nd H H'->H' nd=A? (.dT (cr (aR m (stT t))))->AtG .i H' (ren (idx (aR m (stT t))) t) r->Q (.ref r) H')->(¬(aR m (stT t)).length<=20->∀H',SameB nd H H'->E (.ref CM) Ak H')->dw P w CM vs H Q E
theorem gd:FnOk P w K mg base (CX1 P w) 5 T.g_17.f T.g_17.d ["pattern","numbers"] (dw P w T.e_Many):=by
 refine T.g_17.F.ok1 eC (λvs H Q E h=>?_) (λuI A outer s H vs Q E hr h=>?_)
 .obtain⟨a,nd,t,m,rfl,_⟩:=h;rfl
 obtain⟨a,nd,t,m,rfl,hA,hsz,yK,CY,k,ke⟩:=h
 refine⟨_,(ae (cO PassesOwn.leaving rfl (cz (pcF T.g_5 (eZ T) hr (aa (pv 0) ac))) (cK rfl (aB (pgN 2 eC.nd) (aB (pgN 3 eC.nd) bW))) (ag (bq (cG PySem.F.plainAttrs_dict PySem.F.slot_dict_setdefault PySem.F.type_dict_setdefault (ij (oq hr)) (pv 1) (aa (pv 2) (aa (aN fR rfl T.n_3 Nv (aa (pv 1) ac)) ac))))))
  (ae (bj (aI fY (aN fR rfl T.n_3 Nv (aa (pv 1) ac)) (bz (v:=.int (20)) rfl T.c_MOST_STATES.choose_spec ⟨_,B?⟩) (aD _)) (ag (hG T.X_Many T.x_Many bG)) aQ)
  (ag (aq (pcF T.g_8 (j4 T) hr (aa (pv 0) (aa (pv 1) ac))))))),?_⟩
 try dsimp only[uU,uH]
 refine⟨_,B?,.p,a,t,B?,hA,hsz,λr as H1 s1 nr er w8=>⟨r,B?,⟨_,Tb er⟩,?_⟩⟩;have vo:(bN t).length=as.length:=L3 w8;have Aa:r≠nd:=λz=>by rw[z,yK]at nr;cases nr
 refine eQ (K:=K) (a:=r) (xs:=as.map Rb) (λi Y H3=>Ex2 λc2 c3=>An6 (Y=[A? (.ref a),A? (.ref nd),c2,c3]) (SameB nd H H3) (KT H H3) (H3 r=A? (.lst (as.map Rb))) (Mg (CP .p H3) (bN t) as) (H3 nd=A? (.dT (cr (aR m ((stT t).take i))))))
  ⟨Ak,Ak,rfl,SameB.of s1,Za s1,er,w8,by rw[Oo];exact s1 _ _ yK⟩ (λi Y H3 _⟨_,_,_,_,_,e,_,_⟩=>Tb e) ?_ ?_
 .rintro i x Y H3 hx ⟨c2,c3,rfl,s3,k3,Az,wA,ye⟩;refine hid λZZ kZ=>?_;obtain⟨ca,rfl,wZ⟩:=bh hx;obtain⟨⟨sn,kn⟩,hc,sv,BI,E4⟩:=Sd wA wZ;obtain⟨pa,x,y,rfl,xy,BJ,zE,xA,xB⟩:=E4;refine kZ ?_;dsimp only at BJ BI;have EJ:[MR x,MR y]=kP sn:=by rw[BJ,nL xA xB]
  have uY:(stT t)[i]?=A? sn:=by unfold stT;rw[LZ,hc];rfl
  have xu:aR m ((stT t).take (i+1))=cq (aR m ((stT t).take i)) sn:=by
   rw[take_snoc uY,dI];rfl
  have E5:(aR m ((stT t).take i)).length<=200000:=by
   have h1:=om ((stT t).take i) m;have h2:(stT t).length=as.length:=by unfold stT;rw[Lx];lia
   have h3:(bN t).length<=t.size:=by
    rw[<-t.walk_len];exact O5 _ _
   rw[Mj]at h1;lia
  generalize aR m ((stT t).take i)=mi at ye xu E5 |-;have Lc:=(jO mi sn).length_le;refine⟨ca,_,B?,Ub BI,B?,_,_,B?,_,_,B?,B?,?_⟩;dsimp only[ax];have hl:=gF mi;refine⟨_,B?,.inr (.inr (.inl ⟨B?,.inr ⟨_,ye⟩⟩)),_,B?,_,B?,nd,_,B?,ye,nd,pa,.int ((cr mi).length:Nat),kP sn,cr mi,B?,B?,ye,by rw[<-EJ];exact xy,cD (by lia),λu hu=>?_,λhu=>?_⟩
  .have xx:sn∈mi:=by
    by_cases h:sn∈mi
    .exact h
    .rw[oH h]at hu;cases hu
   refine⟨_,_,B?,s3,k3,Az,wA,?_⟩;rw[xu];unfold cq;rw[Sa xx];exact ye
  .have xx:sn∉mi:=λh=>by rw[my h]at hu;cases hu
   have E6:putK (cr mi) (kP sn) (.int ((cr mi).length:Nat))=cr (cq mi sn):=by
    rw[jS _ hu];unfold cq;rw[Ra xx,ni,hl]
   rw[E6];have k4:KT H3 (upd H3 nd (.dT (cr (cq mi sn)))):=λb xs e=>by rw[ai (dG e ye (λz=>nomatch z))];exact e
   refine⟨_,_,B?,λb o hb e=>by rw[ai hb];exact s3 b o hb e,k3.trans k4,by rw[ai Aa];exact Az,Vc (λ_ _ e=>CP.mono k4 e) wA,by rw[af,xu]⟩
 .rintro Y H3 ⟨c2,c3,rfl,s3,k3,Az,wA,ye⟩;have Ge:(stT t).length=as.length:=by unfold stT;rw[Lx];lia
  rw[MI (by rw[Lx];lia)]at ye;have hl:=gF (aR m (stT t));dsimp only[lU];refine bQ (λuE H'=>An3 (H3=H') (uE=[A? (.ref a),A? (.ref nd),c2,c3]) ((aR m (stT t)).length<=20)) (λkk hk=>?_) ?_
  .refine⟨_,B?,nd,_,B?,ye,_,_,B?,B?,_,B?,?_⟩;refine bI (λc=>?_) (λc=>?_)
   .have:=Va c;exact ke (by lia) H3 s3
   .have:¬((20:Int)<((cr (aR m (stT t))).length:Nat)):=λz=>c (Ua z);exact hk _ _ ⟨rfl,rfl,by lia⟩
  rintro uE H' ⟨rfl,rfl,hle⟩;exact⟨_,B?,_,B?,a,nd,t,idx (aR m (stT t)),_,B?,hA.mono k3,hsz,ye,λx y hs _ xA xB=>by rw[<-nL xA xB];exact my (dF.mpr (.inr hs)),λr' H4 s4 h4=>k hle r' H4 (λb o hb e=>s4 _ _ (s3 b o hb e)) (s4 _ _ ye) h4⟩
end G
namespace G
inductive fe(P:LF)(w:LQ)(K:Ly)(mg:LL->Option Lu)(base:Ml)(CG CM:Ls)(vs:List V)(H:Hp)(Q:VK)(E:XK):Prop
 |mk (ia oa ha f:Ls) (head:Th) (R:Int->List Th) (BZ:Sp):vs=[.ref ia,.ref oa,.ref ha,.ref f]->AtG .p H head ha->head.size<=1000->pX P w K mg base (CX1 P w) 9 f BZ->(∀(H1:Hp)(s:Int)(pa:Ls)(Z:VK)(EZ:XK),Sb H H1->s∈aU R head->H1 pa=A? (.tup [.int (s / 1000),.int (s%1000)])->((R s).length<=8->(∀t∈R s,Small t)->∀(r:Ls)(as:List Ls)(H2:Hp),Sb H1 H2->H2 r=A? (.lst (as.map Rb))->AtsG .p H2 (R s) as->Z (.ref r) H2)->((¬∀t∈R s,Small t)->∀H2,Sb H1 H2->EZ (.ref CG) Ak H2)->BZ [.ref pa] H1 Z EZ)->((aU R head).length<=20->(∀s∈aU R head,∀t∈R s,Small t)->∀(r fh rl:Ls)(xv:List Ls)(H':Hp),Sb H H'->H' r=A? (.tup [.ref ia,.ref oa,.ref fh,.ref rl])->At H' (ren (idx (aU R head)) head) fh->H' rl=A? (.tup (xv.map Rb))->Mg (RowAt H') ((aU R head).map λs=>(R s).map (ren (idx (aU R head)))) xv->Q (.ref r) H')->((¬∀s∈aU R head,∀t∈R s,Small t)->∀H',Sb H H'->E (.ref CG) Ak H')->(¬(aU R head).length<=20->∀H',Sb H H'->E (.ref CM) Ak H')->fe P w K mg base CG CM vs H Q E
theorem fV(a b:List Th):bE (a++b)=bE a++bE b:=List.flatMap_append
theorem o7{i:Nat}{s:Int}(h:m[i]?=A? s):(cr m)[i]?=A? (kP s,Vb (i:Nat)):=by
 unfold cr;rw[LZ,List.getElem?_zipIdx,h];simp
theorem jb:FnOk P w K mg base (CX1 P w) 12 T.g_18.f T.g_18.d ["ins","outs","head","patterns_of"] (fe P w K mg base T.e_Great T.e_Many):=by
 refine T.g_18.F.ok1 cf (λvs H Q E h=>?_) (λuI A outer s H vs Q E hr h=>?_)
 .obtain⟨ia,oa,ha,f,head,R,BZ,rfl,_⟩:=h;rfl
 obtain⟨ia,oa,ha,f,head,R,BZ,rfl,hA,hsz,JT,E7,k,kg,km⟩:=h
 refine⟨_,(ae (ak 4 cf.nd oX)
  (ae (ak 5 cf.nd (b7 (gd T) (hr.mono (by first|decide|lia)) rfl T.g_17.m T.g_17.F.kp T.g_17.b .nil (lZ lv1) (aa (pv 2) (aa (pv 4) ac))))
  (ae (ak 6 cf.nd (bf ac))
  (ae (dH PassesOwn.leaving (aI sh (aN bK rfl T.n_3 Nv (aa (pv 6) ac)) (aN fR rfl T.n_3 Nv (aa (pv 4) ac)) (aD _)) (ae (ak 7 cf.nd (ay aS (aT (g9 rfl) rfl T.n_4 PyProof.Rows.boot_list (aa (pv 4) ac)) (aN bK rfl T.n_3 Nv (aa (pv 6) ac)) (λ_ _=>rfl)))
  (ag (bq (cG LY Mu Mt aV (pv 6) (aa (aT aH rfl T.n_10 Mh (aa (jW lv1 (N:=["pattern","numbers"]) (js:=[Ak,A? 4]) (g:=(ax 0)) (tt:=bt) (te:=(fW (dw P w T.e_Many) [] E (aO (bo 0) (aO (bo 1) cM)))) (cE rfl (by decide +kernel) (by decide +kernel) rfl rfl rfl) (rm (nN (CX:=CX1 P w) (k:=9) (i:=3) rfl (Or.inl rfl) (hr.mono (by first|decide|lia)) (lZ lv1) (aa (pv 7) ac))) (λ_ _ _ _ _ _=>(pgN 0 t8)) (br rfl) (λ_ _ _ _ _ _=>bx) (λ_ _ _ _ _ _=>(b7 (gd T) (hr.mono (by first|decide|lia)) rfl T.g_17.m T.g_17.F.kp T.g_17.b .nil qH (aa (pv 0) (aa (pv 1) ac))))) ac)) ac))))))
  (ag (aq (av (aa (pv 0) (aa (pv 1) (aa (pv 5) (aa (aT aH rfl T.n_10 Mh (aa (pv 6) ac)) ac))))))))))),?_⟩
 try dsimp only[uU,uH]
 have yf:aR [] (stT head) <+: aU R head:=i8 _ _ _ _;intro nd AA;dsimp only[ax];refine gU AA λH1 s1 e1=>?_;have e1:H1 nd=A? (.dT (cr [])):=e1;refine⟨_,B?,_,B?,ha,nd,head,[],B?,hA.mono (Za s1),by lia,e1,MB _,λE8 fh H2 Bh Hc h2=>?_,λGb H2 Bh=>km (λz=>Gb (Mr yf.length_le z)) H2 λb o e=>Bh b o (am e AA) (s1 b o e)⟩;dsimp only[ax];have E9:ren (idx (aR [] (stT head))) head=ren (idx (aU R head)) head:=lp head λx hx=>(lR yf (dF.mpr (.inr hx))).symm;rw[E9]at h2;have h2:=h2.i;have s2:Sb H H2:=λb o e=>Bh b o (am e AA) (s1 b o e);refine⟨lnE rfl,λrl xg=>?_⟩;have s3:Sb H2 (upd H2 rl (.lst [])):=aj xg _;have e3:(upd H2 rl (.lst [])) rl=A? (.lst []):=af;have Fb:H rl=none:=s2.free xg;have zf:nd≠rl:=λz=>by rw[<-z,Hc]at xg;cases xg
 generalize(upd H2 rl (.lst []))=H3 at s3 e3 |-
 refine⟨λmz Y H4=>Ex4 λ(i:Nat)(mm:List Int)(bs:List Ls)(tv:Option V)=>pH (Y=[A? (.ref ia),A? (.ref oa),A? (.ref ha),A? (.ref f),A? (.ref nd),A? (.ref fh),A? (.ref rl),tv]) (Sb H H4) (H4 nd=A? (.dT (cr mm))) (H4 rl=A? (.lst (bs.map Rb))) (Mg (RowAt H4) (((aU R head).take i).map λs=>(R s).map (ren (idx (aU R head)))) bs) (At H4 (ren (idx (aU R head)) head) fh) (mm <+: aU R head) (bfs R (21 - i) mm i=aU R head) (i<=mm.length) (mm.length<=20) ((∀(j:Nat)(s:Int),j<i->mm[j]?=A? s->∀t∈R s,Small t)) (mz=21 - i),
  ⟨_,0,aR [] (stT head),[],Ak,B?,s2.trans s3,s3 _ _ Hc,e3,.nil,h2.mono (Za s3),yf,B?,MB _,E8,λj s hj=>Wa hj (Nat.not_lt_zero _),B?⟩,?_⟩
 rintro mz Y H4 ⟨i,mm,bs,tv,rfl,s4,Fc,AB,wz,Hd,wO,yQ,hi,B0,B1,rfl⟩;have Ld:=wO.length_le
 have zN:bs.length=i:=by
  have:=L3 wz;rw[Lx,Mj]at this;lia
 have AD:=gF mm;refine⟨_,B?,rl,_,B?,.inl (Tb AB),_,B?,nd,_,B?,Fc,_,_,B?,B?,_,B?,?_⟩;refine bI (λcc=>?_) (λcc=>?_)
 .have uN:i<mm.length:=by
   have:=Va cc;rw[Lx]at this;lia
  refine⟨λuE H'=>∃m',m'<21 - i/\Ex4 λ(i:Nat)(mm:List Int)(bs:List Ls)(tv:Option V)=>pH (uE=[A? (.ref ia),A? (.ref oa),A? (.ref ha),A? (.ref f),A? (.ref nd),A? (.ref fh),A? (.ref rl),tv]) (Sb H H') (H' nd=A? (.dT (cr mm))) (H' rl=A? (.lst (bs.map Rb))) (Mg (RowAt H') (((aU R head).take i).map λs=>(R s).map (ren (idx (aU R head)))) bs) (At H' (ren (idx (aU R head)) head) fh) (mm <+: aU R head) (bfs R (21 - i) mm i=aU R head) (i<=mm.length) (mm.length<=20) ((∀(j:Nat)(s:Int),j<i->mm[j]?=A? s->∀t∈R s,Small t)) (m'=21 - i),λuE H' h=>h,?_⟩;obtain⟨sn,CZ⟩:∃sn,mm[i]?=A? sn:=⟨_,LA uN⟩
  have He:(aU R head)[i]?=A? sn:=by
   obtain⟨rr,Fd⟩:=wO;rw[<-Fd,M6 uN];exact CZ
  have Hf:sn∈aU R head:=L9 He;refine⟨_,B?,nd,_,B?,Fc,λl EG hl Fe=>?_⟩;obtain⟨pa,Am,Ff⟩:=P2.get Fe (o7 CZ);refine gU hl λH5 s5 e5=>?_;have Fg:=s5 _ _ AB;have JU:=s5 _ _ Fc;have JV:(bs.map Rb).length=i:=by rw[Lx];exact zN
  refine⟨_,B?,rl,_,B?,.inl (Tb Fg),l,_,_,.ref pa,B?,B?,Tb e5,at_nonneg (by lia) (by rw[JV,M0,LZ,Am];rfl),?_⟩;dsimp only[ax];refine⟨_,B?,.inl ⟨B?,_,Tb Fg⟩,f,BZ,B?,JT,_,B?,E7 H5 sn pa _ _ (s4.trans s5) Hf (s5 _ _ Ff) (λB2 yg r as H6 s6 C1 yh=>⟨r,B?,.inl ⟨⟨_,Tb C1⟩,?_⟩⟩) λxj H6 s6=>kg (λz=>xj (z sn Hf)) H6 (s4.trans (s5.trans s6))⟩;generalize vg:R sn=row at yh B2 yg;have v5:=yh.length
  have B3:bfs R (21 - i) mm i=bfs R (21 - (i+1)) (aR mm (bE row)) (i+1):=by
   rw[show 21 - i=(21 - (i+1))+1 by lia,bfs,CZ];show bfs R (21 - (i+1)) (aR mm (bE (R sn))) (i+1)=_;rw[vg]
  rw[B3]at yQ;have zg:aR mm (bE row) <+: aU R head:=by rw[<-yQ];exact i8 _ _ _ _
  have C2:=s6 _ _ JU;have B4:=s6 _ _ Fg;have AE:=s4.trans (s5.trans s6);have Fh:r≠nd:=λz=>by rw[z,C2]at C1;cases C1
  intro D hD;have Ab:D≠nd:=λz=>by rw[z,C2]at hD;cases hD
  have JW:D≠rl:=λz=>by rw[z,B4]at hD;cases hD
  have Hg:∀(H7:Hp),SameB nd H6 H7->KT H6 H7:=λH7 sb b xs e=>sb b _ (dG e C2 (λz=>nomatch z)) e
  refine⟨as.length,λj H7=>An5 (j<=as.length) ((aR mm (bE (row.take j))).length<=20) (SameB nd H6 H7) (H7 nd=A? (.dT (cr (aR mm (bE (row.take j)))))) (Ex1 λ(ds:List Ls)=>An2 (H7 D=A? (.lst (ds.map Rb))) (Ats H7 ((row.take j).map (ren (idx (aU R head)))) ds)),
   ⟨MB _,by rw[Oo];exact B0,SameB.of (aj hD _),by rw[ai Ab.symm];exact C2,[],af,.nil⟩,?_⟩
  rintro j H7 ⟨hj,Ac,Ad,C3,ds,eD,vE⟩;have Fi:H7 r=A? (.lst (as.map Rb)):=Ad _ _ Fh C1
  have Ap:ds.length=j:=by
   have:=vE.length;rw[Lx,Mj]at this;lia
  by_cases BG:j=as.length
  .left;refine⟨⟨_,Tb Fi,by rw[Lx,BG];exact LC _⟩,?_⟩;have uL:row.take j=row:=by rw[BG,v5,Ph]
   rw[uL]at vE C3 Ac;have Fj:Sb H H7:=λb o e=>Ad b o (am e AA) (AE b o e);have Fl:H7 rl=A? (.lst (bs.map Rb)):=Ad _ _ zf.symm B4;refine⟨D,_,B?,.inl ⟨Tb eD,λtp wW=>?_⟩⟩;refine gU wW λH8 s8 e8=>?_;have Hh:=s8 _ _ Fl;refine⟨rl,_,_,B?,B?,Hh,lbE (by lia),?_⟩;have k9:KT H8 (upd H8 rl (.lst (bs.map Rb++[.ref tp]))):=bd Hh;have CW:KT H4 (upd H8 rl (.lst (bs.map Rb++[.ref tp]))):=((Za (s5.trans s6)).trans (Hg H7 Ad)).trans ((Za s8).trans k9)
   have Fm:∀(j':Nat)(s':Int),j'<i+1->(aR mm (bE row))[j']?=A? s'->∀t∈R s',Small t:=λj' s' xr An=>by
    obtain⟨rr,Fd⟩:=fk (bE row) mm;rw[<-Fd,M6 (by lia)]at An;by_cases JX:j'=i
    .rw[JX,CZ]at An;cases An;rw[vg];exact yg
    .exact B1 j' s' (by lia) An
   refine⟨21 - (i+1),by lia,i+1,aR mm (bE row),bs++[tp],_,B?,aF (Fj.trans s8) Fb,by rw[ai zf];exact s8 _ _ C3,uAE,?_,Hd.mono CW,zg,yQ,Mr uN (fk _ _).length_le,Ac,Fm,B?⟩;rw[take_snoc He,L6];refine Uc (Vc (λ_ _ e=>Zc CW e) wz) (.cons ⟨ds,k9 _ _ e8,?_⟩ .nil);dsimp only;rw[vg];exact vE.mono ((Za s8).trans k9)
  .right;have xr:j<as.length:=by lia
   refine⟨xr,⟨_,.ref as[j],Tb Fi,by rw[LZ,LA xr];rfl⟩,?_⟩;rintro y H8 ⟨rfl,hv⟩;have yn:=hv _ (Tb Fi);obtain⟨ta,rfl,xC⟩:=bh yn;obtain⟨t,ht,v7⟩:=(yh.mono (Hg _ Ad)).get xC;have xu:row.take (j+1)=row.take j++[t]:=by rw[Nn,ht];rfl
   have Ae:aR mm (bE (row.take (j+1)))=aR (aR mm (bE (row.take j))) (stT t):=by
    rw[xu,fV,dI];show aR _ (stT t++[])=_;rw[ME]
   have Fn:aR mm (bE (row.take (j+1))) <+: aU R head:=by
    refine List.IsPrefix.trans ?_ zg;have:aR mm (bE row)=aR (aR mm (bE (row.take (j+1)))) (bE (row.drop (j+1))):=by rw[<-dI,<-fV,List.take_append_drop]
    rw[this];exact fk _ _
   rw[Ae]at Fn;have Le:=(yg t (L9 ht)).size;refine⟨_,B?,_,B?,ta,nd,t,_,B?,v7,by lia,C3,Ac,λFo r' H9 B5 JY h9=>?_,λJZ H9 B5=>km (λz=>JZ (Mr Fn.length_le z)) H9 λb o e=>B5 b o (am e AA) (Ad b o (am e AA) (AE b o e))⟩;have h9:=h9.i;have J0:ren (idx (aR (aR mm (bE (row.take j))) (stT t))) t=ren (idx (aU R head)) t:=lp t λx hx=>(lR Fn (dF.mpr (.inr hx))).symm;rw[J0]at h9;have Hi:=B5 _ _ Ab eD;have J1:KT H8 H9:=λb xs e=>B5 b _ (dG e C3 (λz=>nomatch z)) e;have kA:KT H9 (upd H9 D (.lst (ds.map Rb++[.ref r']))):=bd Hi;refine⟨_,Hi,lbE (by lia),xr,by rw[Ae];exact Fo,λb o hb e=>?_,?_,ds++[r'],?_,?_⟩
   .rw[ai (am e hD)];exact B5 b o hb (Ad b o hb e)
   .rw[ai Ab.symm,Ae];exact JY
   .rw[af,L6];rfl
   .rw[xu,L6];exact(vE.mono (J1.trans kA)).append (.cons (h9.mono kA) .nil)
 .have CB:i=mm.length:=by
   by_cases h:i<mm.length
   .exact Wa (Ua (by rw[Lx];lia)) cc
   .lia
  have Fp:aU R head=mm:=by rw[<-yQ,lO _ _ _ _ (by lia)]
  have xu:(aU R head).take i=aU R head:=by rw[MI (by rw[Fp];lia)]
  rw[xu]at wz;refine⟨_,B?,_,B?,_,B?,_,B?,rl,_,B?,.inl ⟨Tb AB,λrt z6=>⟨lnE rfl,λr uX=>?_⟩⟩⟩;have t1:=aj z6 (.tup (bs.map Rb));have t2:=aj uX (.tup [.ref ia,.ref oa,.ref fh,.ref rt]);have Fq:=t1.trans t2
  exact k (by rw[Fp];exact B0) (λs hs=>by
   rw[Fp]at hs;obtain⟨j,hj⟩:=NI.mp hs;exact B1 j s (by have:=(glE hj);lia) hj) r fh rt bs _ (s4.trans Fq) af (Hd.mono (Za Fq)) (t2 _ _ af) (Vc (λ_ _ e=>Zc (Za Fq) e) wz)
end G
namespace G
def nd_joined:NP:=match aW g8 with
 | [_,st,_,_]=>st
 |_=>.Pass ⟨0,0,0,0⟩
def ndP:NP->O9
 |.FunctionDef _ p _ _ _ _ _ _ _ _=>p
 |_=>bw g8
def ndB:NP->List NP
 |.FunctionDef _ _ b _ _ _ _ _ _ _=>b
 |_=>[]
def ndS:NP->MS
 |.FunctionDef _ _ _ _ _ _ s _ _ _=>s
 |_=>az g8
def ndPos:NP->Oi
 |.FunctionDef _ _ _ _ _ _ _ _ _ p=>p
 |_=>⟨0,0,0,0⟩
def ndQ:LL:="joined.<locals>."++"patterns_of"
inductive gL(CG f c' c1 c2:Ls)(vs:List V)(H:Hp)(Q:VK)(E:XK):Prop
 |mk (pa b1 b2:Ls) (st lo:Int) (ins mid outs:List (LL×Int)) (S1 S2:Int) (uB uA:Th) (rows1 f':List (List Th)):vs=[.ref pa]->NestAt H f c' "patterns_of" ndQ (ndP nd_joined) (ndB nd_joined) (ndS nd_joined) [("second",c2),("first",c1)]->CodeAt H c' ndQ->CellAt H c1 (.ref b1)->CellAt H c2 (.ref b2)->H pa=A? (.tup [.int st,.int lo])->Bk H ins mid uB rows1 b1->Bk H mid outs uA f' b2->JoinW ins mid outs S1 S2 uB uA rows1 f'->0<=st->st<S2->0<=lo->lo<S1->((∀t∈rowOf rows1 lo,Small (made (aP mid f') (.call st 0) (sol t)))->∀(r:Ls)(as:List Ls)(H':Hp),Sb H H'->H' r=A? (.lst (as.map Rb))->AtsG .p H' ((rowOf rows1 lo).map λt=>made (aP mid f') (.call st 0) (sol t)) as->Q (.ref r) H')->((¬∀t∈rowOf rows1 lo,Small (made (aP mid f') (.call st 0) (sol t)))->∀H',Sb H H'->E (.ref CG) Ak H')->gL CG f c' c1 c2 vs H Q E
theorem jd:(["pair","first","second","state","lower"]:List LL).Nodup:=by decide +kernel
theorem qh(c1 c2:Ls)(u6:c1≠c2):iH ["pair","first","second","state","lower"] ["pair"] ["first","second"] "state" [("second",c2),("first",c1)] (ndS nd_joined):=by
 refine⟨B?,B?,B?,jd,B?,by decide +kernel,by decide +kernel,λn=>rfl,λh=>rfl,λx h=>?_,λx h=>?_,λx y c h1 h2=>?_,by decide +kernel,λx h=>?_⟩
 .have hm:=Mn h;have uL:∀z∈(ndS nd_joined).names,z.2=.cell->z.1="state":=by decide +kernel
  exact uL _ hm rfl
 .have hm:=Mn h;have uL:∀z∈(ndS nd_joined).names,z.2=.free->z.1="first"\/z.1="second":=by decide +kernel
  rcases uL _ hm rfl with e|e
  .exact⟨c1,by rw[show x="first" from e];rfl⟩
  .exact⟨c2,by rw[show x="second" from e];rfl⟩
 .have e1:=Mn h1;have e2:=Mn h2;rcases LW.mp e1 with e1|e1 <;> rcases LW.mp e2 with e2|e2
  .exact(Xa Qn e1).trans (Xa Qn e2).symm
  .have e2:=LM.mp e2;exact Wa ((show c=c1 from Xa Prod.snd e2).symm.trans (show c=c2 from Xa Prod.snd e1)) u6
  .have e1:=LM.mp e1;exact Wa ((show c=c1 from Xa Prod.snd e1).symm.trans (show c=c2 from Xa Prod.snd e2)) u6
  .have e1:=LM.mp e1;have e2:=LM.mp e2;exact(Xa Qn e1).trans (Xa Qn e2).symm
 .have hm:=Mn h;have uL:∀z∈(ndS nd_joined).names,z.2=.free->(z.1 == ("state":LL))=false:=by decide +kernel
  exact uL _ hm rfl
include T in
theorem nC(f c' c1 c2:Ls)(u6:c1≠c2):pX P w K mg base (CX1 P w) 9 f (gL T.e_Great f c' c1 c2):=by
 refine n6 (k:=8) (c':=c') (name:="patterns_of") (qual:=ndQ) (params:=ndP nd_joined) (body:=ndB nd_joined) (qh c1 c2 u6) (λdoc pm xq us hl=>?_) (λvs H Q E h=>?_) λA outer s H vs Q E hr h=>?_
 .obtain⟨u,rfl⟩:=us1 hl;rfl
 .obtain⟨pa,b1,b2,st,lo,ins,mid,outs,S1,S2,uB,uA,rows1,f',rfl,hn,hc,h1,h2,_⟩:=h;refine⟨B?,hn,hc,λb hb=>?_,λx c hx=>?_⟩
  .rcases LW.mp hb with e|e
   .obtain⟨φ,z,_⟩:=h2;exact⟨φ,by rw[e];exact z⟩
   .obtain⟨φ,z,_⟩:=h1;exact⟨φ,by rw[LM.mp e];exact z⟩
  .have e1:=Mn hx;rcases LW.mp e1 with e|e
   .cases e;exact⟨_,h2⟩
   .cases LM.mp e;exact⟨_,h1⟩
 .obtain⟨pa,b1,b2,st,lo,ins,mid,outs,S1,S2,uB,uA,rows1,f',rfl,hn,hc,h1,h2,xy,uP,uQ,J,CQ,Cq,Co,J2,kq,ke⟩:=h
  have hx:Exts (([("second",c2),("first",c1)]:List (LL×Ls)).map (·.2)) H:=λb hb=>by
   rcases LW.mp hb with e|e
   .obtain⟨φ,z,_⟩:=h2;exact⟨φ,by rw[e];exact z⟩
   .obtain⟨φ,z,_⟩:=h1;exact⟨φ,by rw[LM.mp e];exact z⟩
  have kf:=rN hx
  refine⟨_,[.ref b1,.ref b2],.cons ⟨c1,B?,h1⟩ (.cons ⟨c2,B?,h2⟩ .nil),(ae (cJ (pv 0) (cK rfl (aB (pgN 3 jd) (aB (pgN 4 jd) bW))))
   (ag (aq (jW lvN (N:=["pattern","second","state"]) (js:=[Ak,A? 2,A? 3]) (g:=(ax 0)) (tt:=bt) (te:=(fW (c9 T.e_Great) [] (exN (([("second",c2),("first",c1)]:List (LL×Ls)).map (·.2)) H E) (aO (bo 1) (aO (fW eA [] E0 (aO (bo 2) cM)) (aO (bo 0) cM))))) (cE rfl (by decide +kernel) (by decide +kernel) rfl rfl rfl) (ie (ay aA (pcF T.g_14 (cI T) hr (aa (pv 1) ac)) (pv 4) (λ_ _=>rfl))) (λ_ _ _ _ _ _=>(pgN 0 tT)) (br rfl) (λ_ _ _ _ _ _=>bx) (λ_ _ _ _ _ _=>(b7 (fb T) (hr.mono (by first|decide|lia)) rfl T.g_22.m T.g_22.F.kp T.g_22.b .nil qH (aa (pv 1) (aa (pcF T.g_20 (kT T) hr (aa (pv 2) ac)) (aa (pv 0) ac))))))))),?_⟩
  generalize Hj:fgt (([("second",c2),("first",c1)]:List (LL×Ls)).map (·.2)) H=H0 at kf |-;have Fs:=uP.mono kf;have Ft:=uQ.mono kf;refine hid λZZ kZ=>?_;obtain⟨ia,oa,ha,ra,wu,vt,vj,bk⟩:=id Fs;obtain⟨row,vg,ya,hlen,vJ⟩:=fG J.f1 Co J2;obtain⟨bL,yc,xZ,yR,yO⟩:=P2.get bk.rw vg;refine kZ ?_;rw[ya]at kq ke;have yu:xZ.length=row.length:=yO.length;have hle:=J.le;refine⟨_,B?,pa,_,B?,Ub (kf _ _ xy),B?,_,_,B?,_,_,B?,B?,?_⟩;refine⟨_,B?,b1,_,_,_,_,B?,bk.bk,_,B?,ra,_,_,.ref bL,B?,B?,Ub bk.rl,at_nonneg Co (gmE yc),?_⟩;refine⟨bL,B?,⟨_,Ub yR⟩,cW (F:=λH z a=>AtG .p H z a/\Small z) (xs:=xZ.map Rb) (row.map λt=>made (aP mid f') (.call st 0) (sol t)) (λH1 H2 z p kt h=>⟨h.1.mono kt,h.2⟩) (by rw[Lx,Lx];lia) (by rw[Lx];lia) (λi Hx sx hi=>⟨_,_,Ub (sx _ _ yR),LA hi⟩) (λHx sx=>⟨_,Ub (sx _ _ yR),LC _⟩) (λi Hx x Hy sx hi hy=>⟨hy.1,hy.2 _ (Ub (sx _ _ yR))⟩) (λi y z Hx R W' hy uZ sx hR=>?_) (λD Hx as hD sx eD wH=>?_)⟩
  .obtain⟨ua,rfl,yM⟩:=bh hy;obtain⟨u,hu,z8⟩:=yO.get yM;rw[LZ,hu]at uZ;cases uZ;have B6:=L9 hu;obtain⟨C,hC⟩:=vJ u B6;refine⟨_,B?,_,B?,st,B?,λca wZ=>⟨_,B?,?_⟩⟩;refine gU wZ λH3 s3 e3=>?_;have k3:=Za (sx.trans s3);refine⟨b2,ca,ua,mid,outs,S2,S1,uA,f',.call st 0,u,B?,Ft.mono k3,J.gm,J.go,J.f2,J.s1,?_,(z8.g).mono k3,Lead.sol (jZ CQ Cq) hC,λxc r H4 s4 J3=>hR H4 r (s3.trans s4) ⟨J3,xc⟩,λvR H4 s4 _=>ke (λz=>vR (z u B6)) _ (jE (by rw[Hj];exact sx.trans (s3.trans s4)))⟩;rw[AtG];exact⟨_,e3,B?⟩
  .intro Av;subst Hj;have sR:=nX (H:=H) Av;refine kq (λt ht=>?_) D as _ (jE sx) (sR _ _ eD) ?_
   .refine hid λZZ kZ=>?_;obtain⟨j,hj⟩:=NI.mp ht;obtain⟨_,_,h1⟩:=P2.get wH (show(row.map λt=>made (aP mid f') (.call st 0) (sol t))[j]?=A? (made (aP mid f') (.call st 0) (sol t))by rw[LZ,hj];rfl);refine kZ ?_;exact h1.2
   .exact(show AtsG .p Hx _ as from gf (Vc (λ_ _ e=>e.1) wH)).mono (Za sR)
inductive sp_joinedX(CN CG CM tp:Ls)(vs:List V)(H:Hp)(Q:VK)(E:XK):Prop
 |mk (b1 b2 wI wJ wK:Ls) (v3 v4 w2 w3 w4:V) (u7 u9:List Ls) (uG vz:List (LL×Int)):vs=[.ref b1,.ref b2]->H b1=A? (.tup [.ref wI,.ref wJ,v3,v4])->H wJ=A? (.tup (u7.map Rb))->KsAt H uG u7->H b2=A? (.tup [.ref wK,w2,w3,w4])->H wK=A? (.tup (u9.map Rb))->KsAt H vz u9->TabSt H tp (ndPos nd_joined) ndQ->(uG≠vz->∀H',SameT tp H H'->TabSt H' tp (ndPos nd_joined) ndQ->E (.ref CN) Ak H')->(uG=vz->∃(xh vU v8 v9 wd:Ls)(vV vb vW vc:List Ls)(ins outs:List (LL×Int))(S1 S2:Int)(uB uA:Th)(rows1 f':List (List Th)),BookAt H ins uG uB rows1 b1 wI wJ vU v8 vV u7 vb/\BookAt H uG outs uA f' b2 wK xh v9 wd u9 vW vc/\JoinW ins uG outs S1 S2 uB uA rows1 f'/\(ki uG uB uA rows1 f'->∀(r fh rl:Ls)(xv:List Ls)(H':Hp),SameT tp H H'->TabSt H' tp (ndPos nd_joined) ndQ->H' r=A? (.tup [.ref wI,.ref xh,.ref fh,.ref rl])->H' rl=A? (.tup (xv.map Rb))->xv.length=(aU (joR uG f' rows1) (joH uG f' uA uB)).length->Q (.ref r) H')/\((¬(Small (joH uG f' uA uB)/\∀s∈aU (joR uG f' rows1) (joH uG f' uA uB),∀t∈joR uG f' rows1 s,Small t))->∀H',SameT tp H H'->TabSt H' tp (ndPos nd_joined) ndQ->E (.ref CG) Ak H')/\(¬(aU (joR uG f' rows1) (joH uG f' uA uB)).length<=20->∀H',SameT tp H H'->TabSt H' tp (ndPos nd_joined) ndQ->E (.ref CM) Ak H'))->sp_joinedX CN CG CM tp vs H Q E
theorem ok_joinedX(L:Lam mg base T.g_23.tc T.g_23.tp):FnOk P w K mg base (CX1 P w) 13 T.g_23.f T.g_23.d ["first","second"] (sp_joinedX T.e_NotOne T.e_Great T.e_Many T.g_23.tp):=by
 refine T.g_23.F.okTX T.g_23.th fP (λvs H Q E h=>?_) (λA outer s H vs Q E hr h=>?_)
 .obtain⟨b1,b2,wI,wJ,wK,v3,v4,w2,w3,w4,u7,u9,uG,vz,rfl,_⟩:=h;rfl
 obtain⟨b1,b2,wI,wJ,wK,v3,v4,w2,w3,w4,u7,u9,uG,vz,rfl,B7,Fu,Fv,B8,Fw,Fx,vx,qn,qs⟩:=h
 refine⟨_,(ae (bj (aI (rK (B:=150) (oE hr)) (pcF T.g_12 (gy T) hr (aa (pv 0) ac)) (pcF T.g_11 (fQ T) hr (aa (pv 1) ac)) (aD _)) (ag (hG T.X_NotOne T.x_NotOne bG)) aQ)
  (ae (p6 (i:=2) (name:="patterns_of") (pos:=ndPos nd_joined) (params:=ndP nd_joined) (body:=ndB nd_joined) (scope:=ndS nd_joined) (cl:=[("second",s.1.1.size+2),("first",s.1.1.size+1)]) L fP.nd rfl (Or.inl rfl) rfl rfl)
  (ae (ak 3 fP.nd (b7 (fb T) (hr.mono (by first|decide|lia)) rfl T.g_22.m T.g_22.F.kp T.g_22.b .nil (lZ lv1) (aa (pv 1) (aa (pcF T.g_13 (ib T) hr (aa (pv 1) ac)) (aa (pcF T.g_13 (ib T) hr (aa (pv 0) ac)) ac)))))
  (ag (aq (mH (cl:=[("second",s.1.1.size+2),("first",s.1.1.size+1)]) lv1 (jb T) (hr.mono (by decide)) rfl T.g_18.m T.g_18.F.kp T.g_18.b (ui rfl rfl rfl rfl rfl rfl) (aa (b7 (fQ T) (hr.mono (by decide)) rfl T.g_11.m T.g_11.F.kp T.g_11.b .nil gb (aa (pv 0) ac)) (aa (b7 (gy T) (hr.mono (by decide)) rfl T.g_12.m T.g_12.F.kp T.g_12.b .nil gb (aa (pv 1) ac)) (aa (pv 3) (aa (pv 2) ac)))))))))),?_⟩
 try dsimp only[uU,uH]
 refine⟨_,B?,b1,_,_,_,_,B?,B7,_,B?,b2,_,_,_,_,B?,B8,wJ,wK,_,_,_,_,B?,B?,Ub Fu,Ub Fw,oB Fv,oB Fx,?_,λbb Cw=>⟨_,B?,?_⟩⟩
 .exact Mr (jL _) (by decide)
 by_cases hm:uG=vz
 case neg =>
  have:bb=true:=Cw.mpr λz=>hm (jQ z);subst this;exact ol (qn hm H (.refl _ _) vx)
 subst hm;refine hid λZZ kZ=>?_;obtain⟨xh,vU,v8,v9,wd,vV,vb,vW,vc,ins,outs,S1,S2,uB,uA,rows1,f',uP,uQ,J,q,qg,qm⟩:=qs rfl;refine kZ ?_
 have:bb=false:=by
  cases bb with
  |false=>rfl
  |true=>exact Wa rfl (Cw.mp rfl)
 subst this;refine mG ?_;refine⟨vx,λf c' H1 s1 et vA B9 hf=>?_⟩;have AF:KT H H1:=vx.kt s1;refine⟨_,B?,_,B?,b2,_,_,_,_,B?,AF _ _ uQ.bk,_,B?,b1,_,_,_,_,B?,AF _ _ uP.bk,?_⟩;refine⟨b2,v9,vU,uG,outs,S2,S1,uA,f',uA,uB,B?,⟨_,_,_,_,_,_,_,uQ.mono AF⟩,J.gm,J.go,J.f2,J.s1,(uQ.hd.g).mono AF,(uP.hd.g).mono AF,Lead.sol J.h2 J.h1,λB' hd H2 s2 Fy=>?_,λvR H2 s2=>qg (λz=>vR z.1) H2 (s1.trans (s2.t _)) ((show TabSt H1 _ _ _ from .inr ⟨c',et,vA⟩).mono s2)⟩;have Fz:KT H H2:=AF.trans (Za s2);refine⟨_,B?,b1,_,_,_,_,B?,Fz _ _ uP.bk,_,B?,b2,_,_,_,_,B?,Fz _ _ uQ.bk,_,B?,_,B?,λH3 trk=>?_⟩;have FA:=trk.same;have J4:KT H H3:=Fz.trans (Za FA);have Hk:=s2.trans FA;have Af:CellAt H3 (s.1.1.size+1) (.ref b1):=trk.2.2.2 0 "first" (.ref b1) _ rfl rfl rfl;have Ag:CellAt H3 (s.1.1.size+2) (.ref b2):=trk.2.2.2 1 "second" (.ref b2) _ rfl rfl rfl;have J5:(joH uG f' uA uB).size<=1000:=Mr (show Small (joH uG f' uA uB)from B').size (by decide);refine⟨wI,xh,hd,f,joH uG f' uA uB,joR uG f' rows1,gL T.e_Great f c' (s.1.1.size+1) (s.1.1.size+2),B?,Fy.mono (Za FA),J5,nC T f c' _ _ (Mc (Pg _)),λH4 x pa Z EZ s4 hx xy hZ hE=>?_,λCY FC r fh rl xv H4 s4 e4 h4 J6 E3=>?_,λvR H4 s4=>?_,λAD H4 s4=>?_⟩
 .refine hid λZZ kZ=>?_;obtain⟨a1,a2,a3,a4⟩:=J.met x hx;refine kZ ?_;have k4:=J4.trans (Za s4);refine⟨pa,b1,b2,x / 1000,x%1000,ins,uG,outs,S1,S2,uB,uA,rows1,f',B?,(B9.mono Hk).mono s4,(vA.mono Hk).mono s4,Af.mono s4,Ag.mono s4,xy,⟨_,_,_,_,_,_,_,uP.mono k4⟩,⟨_,_,_,_,_,_,_,uQ.mono k4⟩,J,a1,a2,a3,a4,λxc r as H5 s5 er yh=>hZ (J.row8 a3 a4) (λt ht=>?_) r as H5 s5 er yh,λvR H5 s5=>hE (λz=>vR λu hu=>z _ (List.mem_map_of_mem hu)) H5 s5⟩;obtain⟨u,hu,rfl⟩:=MZ.mp ht;exact xc u hu
 .refine⟨λb' hb=>?_,q ⟨CY,B',FC⟩ r fh rl xv _ (s1.trans ((s2.trans (trk.back s4)).t _)) ((show TabSt H1 _ _ _ from .inr ⟨c',et,vA⟩).mono (s2.trans (trk.back s4))) (trk.kt s4 _ _ e4) (trk.kt s4 _ _ J6) (by have:=L3 E3;rw[Lx]at this;exact this.symm)⟩;obtain⟨φ,e⟩:=trk.2.2.1 b' hb;rw[e,s4 _ _ e]
 .refine⟨λb' hb=>?_,qg (λz=>vR z.2) _ (s1.trans ((s2.trans (trk.back s4)).t _)) ((show TabSt H1 _ _ _ from .inr ⟨c',et,vA⟩).mono (s2.trans (trk.back s4)))⟩;obtain⟨φ,e⟩:=trk.2.2.1 b' hb;rw[e,s4 _ _ e]
 .refine⟨λb' hb=>?_,qm AD _ (s1.trans ((s2.trans (trk.back s4)).t _)) ((show TabSt H1 _ _ _ from .inr ⟨c',et,vA⟩).mono (s2.trans (trk.back s4)))⟩;obtain⟨φ,e⟩:=trk.2.2.1 b' hb;rw[e,s4 _ _ e]
end G
open G (du cI)
inductive eO(vs:List V)(H:Hp)(Q:VK)(_E:XK):Prop
 |mk (b:Ls) (v1 v2 v3:V) (ra:Ls) (xs:List V):vs=[.ref b]->H b=A? (.tup [v1,v2,v3,.ref ra])->H ra=A? (.tup xs)->Q (.int xs.length) H->eO  vs H Q _E
theorem jj:FnOk P w K mg base CX0 2 T.g_15.f T.g_15.d ["book"] eO:=by
 refine T.g_15.F.okA jn λuI A outer s H vs Q E hr h=>?_;obtain⟨b,v1,v2,v3,ra,xs,rfl,e,e2,q⟩:=h;refine⟨_,(ag (aq (aN bK rfl T.n_3 Nv (aa (pcF T.g_14 (cI T) hr (aa (pv 0) ac)) ac)))),?_⟩
 try dsimp only[uU,uH]
 exact⟨_,B?,b,_,_,_,_,B?,e,ra,_,B?,.inr (Ub e2),q⟩
inductive fg(vs:List V)(H:Hp)(Q:VK)(_E:XK):Prop
 |mk (c k:Int):vs=[.int c,.int k]->0<=k->k<=100000->(∀r:Int,0<=r->r<2147483629->Q (.int r) H)->fg  vs H Q _E
theorem jf:FnOk P w K mg base CX0 1 T.g_24.f T.g_24.d ["cell","k"] fg:=by
 refine T.g_24.F.okA cY λuI A outer s H vs Q E hr h=>?_;obtain⟨c,k,rfl,h0,h1,q⟩:=h
 refine⟨_,(ae (ak 2 cY.nd (aw bi (aw bA (aw bA (aw bA (pv 0) (aw fJ (aw fJ ad (pv 1)) (pv 1))) (aw fJ ad (pv 1))) ad) ad))
  (ae (ak 2 cY.nd (aw bi (aw fJ (pv 2) (pv 2)) ad))
  (ag (aq (aw bi (aw fJ (aw bA (pv 2) (aw fJ ad (aw bA (pv 1) ad))) ad) ad))))),?_⟩
 try dsimp only[uU,uH]
 refine⟨_,B?,_,B?,_,_,B?,B?,.inl ⟨by decide,by decide⟩,_,B?,_,_,B?,B?,.inr ⟨by lia,by lia⟩,_,_,B?,B?,_,B?,_,_,B?,B?,.inl ⟨by decide,by decide⟩,_,_,B?,B?,_,_,B?,B?,_,_,B?,B?,(by show(0:Int)<2147483647;decide),?_⟩;have n0:=Mx (c+977 * k * k+31 * k+1) (show(2147483647:Int)≠0 by decide);have n1:=Md (c+977 * k * k+31 * k+1) (show(0:Int)<2147483647 by decide);dsimp only;generalize(c+977 * k * k+31 * k+1)%2147483647=near at n0 n1;refine⟨_,B?,_,B?,_,_,B?,B?,.inl ⟨by lia,by lia⟩,_,_,B?,B?,(by show(0:Int)<2147483647;decide),?_⟩;dsimp only;generalize near * near%2147483647=Lf;refine⟨_,B?,_,B?,_,_,B?,B?,_,_,B?,B?,.inl ⟨by decide,by decide⟩,_,_,B?,B?,_,_,B?,B?,.inr ⟨by decide,by decide⟩,_,_,B?,B?,(by show(0:Int)<2147483629;decide),q _ (Mx _ (by decide)) (Md _ (by decide))⟩
inductive fo(n:Nat)(vs:List V)(H:Hp)(Q:VK)(_E:XK):Prop
 |mk (na:Ls) (n0 n1 n2:LL) (many:Int):vs=[.ref na,.int many]->H na=A? (.lst [.str n0,.str n1,.str n2])->N3 n0 n1 n2->1<=many->many<(2 ^ n:Nat)->(∀(r:Ls)(H':Hp),Sb H H'->At H' (cw n0 n1 n2 n many) r->Q (.ref r) H')->fo n vs H Q _E
theorem eW:∀n:Nat,FnOk P w K mg base CX0 (n+1) T.g_25.f T.g_25.d ["names","many"] (fo n)
 |0=>⟨λ_ _ _ _ h=>by obtain⟨_,_,_,_,_,_,_,_,h1,h2,_⟩:=h;simp at h2;lia,λ_ _ _ _ _ _ _ _ _ _ _ _ _ h=>by obtain⟨_,_,_,_,_,_,_,_,h1,h2,_⟩:=h;simp at h2;lia⟩
 | n+1=>by
   have ih:=eW n;refine T.g_25.F.okA ff λuI A outer s H vs Q E hr h=>?_;obtain⟨na,n0,n1,n2,many,rfl,en,nm,m0,m1,q⟩:=h
   refine⟨_,(ae (bj (aI bM (pv 1) ad (aD _)) (ag (aq (av (aa (ay aS (pv 0) ad (λ_ _=>rfl)) ac)))) aQ)
    (ae (bj (aI bM (pv 1) ad (aD _)) (ag (aq (av (aa (ay aS (pv 0) ad (λ_ _=>rfl)) (aa (av (aa (ay aS (pv 0) ad (λ_ _=>rfl)) ac)) ac))))) aQ)
    (ae (ak 2 ff.nd (aw bC (aw jc (pv 1) ad) ad))
    (ag (aq (av (aa (ay aS (pv 0) ad (λ_ _=>rfl)) (aa (b7 (ih) (hr.mono (LC _)) rfl T.g_25.m T.g_25.F.kp T.g_25.b .nil gb (aa (pv 0) (aa (pv 2) ac))) (aa (b7 (ih) (hr.mono (LC _)) rfl T.g_25.m T.g_25.F.kp T.g_25.b .nil gb (aa (pv 0) (aa (aw jc (aw jc (pv 1) ad) (pv 2)) ac))) ac))))))))),?_⟩
   try dsimp only[uU,uH]
   rw[Nat.pow_succ]at m1;rw[cw]at q;refine⟨_,B?,B?,_,B?,?_⟩;refine bI (λc=>?_) (λc=>?_)
   .have c':many=1:=V.int.inj (Va c);rw[Sa c']at q;refine⟨_,B?,na,_,0,.str n0,B?,B?,Tb en,at0,lnE rfl,λp hp=>?_⟩;refine nwT hp λH1 s1 e1=>q p H1 s1 ?_;rw[At];exact⟨nm.q0,[],e1,.nil⟩
   have c1:many≠1:=λz=>c (Ua (Xa Vb z));rw[Ra c1]at q;refine⟨_,B?,B?,_,B?,?_⟩;refine bI (λc=>?_) (λc=>?_)
   .have c':many=2:=V.int.inj (Va c);rw[Sa c']at q;refine⟨_,B?,na,_,1,.str n1,B?,B?,Tb en,at1,_,B?,na,_,0,.str n0,B?,B?,Tb en,at0,lnE rfl,λp hp=>?_⟩;refine nwT hp λH1 s1 e1=>⟨lnE rfl,λp2 wq=>?_⟩;refine nwT wq λH2 s2 e2=>q p2 H2 (s1.trans s2) ?_;rw[At];refine⟨nm.q1,[p],e2,.cons ?_ .nil⟩;rw[At];exact⟨nm.q0,[],s2 _ _ e1,.nil⟩
   have c2:many≠2:=λz=>c (Ua (Xa Vb z));rw[Ra c2]at q;refine⟨_,B?,_,_,B?,B?,_,_,B?,B?,⟨by decide,by decide⟩,?_⟩;dsimp only[ax];refine⟨_,B?,na,_,2,.str n2,B?,B?,Tb en,at2,_,B?,_,B?,na,n0,n1,n2,(many - 1) / 2,B?,en,nm,by lia,by lia,λr1 H1 s1 a1=>?_⟩;refine⟨_,B?,_,B?,_,_,B?,B?,_,B?,_,_,B?,B?,na,n0,n1,n2,_,B?,s1 _ _ en,nm,by lia,by lia,λr2 H2 s2 a2=>?_⟩;refine⟨lnE rfl,λp Cp=>?_⟩;refine nwT Cp λH3 s3 e3=>q p H3 (s1.trans (s2.trans s3)) ?_;rw[At];exact⟨nm.q2,[r1,r2],e3,.cons (a1.mono (Za (s2.trans s3))) (.cons (a2.mono (Za s3)) .nil)⟩
inductive d3(vs:List V)(H:Hp)(Q:VK)(_E:XK):Prop
 |mk (na pa:Ls) (n0 n1 n2:LL) (way many:Int) (p:Th):vs=[.ref na,.int way,.int many,.ref pa]->H na=A? (.lst [.str n0,.str n1,.str n2])->N3 n0 n1 n2->At H p pa->(∀(r:Ls)(H':Hp),Sb H H'->At H' (abT n0 n1 n2 way many p) r->Q (.ref r) H')->d3  vs H Q _E
inductive eh(vs:List V)(H:Hp)(Q:VK)(_E:XK):Prop
 |mk (na:Ls) (n0 n1 n2:LL) (st:Int):vs=[.ref na,.int st]->H na=A? (.lst [.str n0,.str n1,.str n2])->N3 n0 n1 n2->(∀(r:Ls)(as:List Ls)(H':Hp),Sb H H'->H r=Ak->H' r=A? (.lst (as.map Rb))->Ats H' (pl n0 n1 n2 st) as->Q (.ref r) H')->eh  vs H Q _E
theorem d6:FnOk P w K mg base CX0 8 T.g_26.f T.g_26.d ["names","way","many","part"] d3:=by
 refine T.g_26.F.okA cL λuI A outer s H vs Q E hr h=>?_;obtain⟨na,pa,n0,n1,n2,way,many,p,rfl,en,nm,hA,q⟩:=h
 refine⟨_,(ae (bj (aI bM (pv 1) ad (aD _)) (ag (aq (av (aa (ay aS (pv 0) ad (λ_ _=>rfl)) (aa (pv 3) (aa (pv 3) ac)))))) aQ)
  (ae (bj (aI bM (pv 1) ad (aD _)) (ae (cO MP rfl (bS rfl T.n_7 (aa (aw bA ad (aw bi (pv 2) ad)) ac)) (pgN 4 cL.nd) (ag (ak 3 cL.nd (av (aa (ay aS (pv 0) ad (λ_ _=>rfl)) (aa (pv 3) ac))))))
  (ag (aq (pv 3)))) aQ)
  (ag (aq (av (aa (ay aS (pv 0) ad (λ_ _=>rfl)) (aa (pcF T.g_25 (eW T 6) hr (aa (pv 0) (aa (aw bA ad (aw bi (pv 2) ad)) ac))) (aa (pv 3) ac)))))))),?_⟩
 try dsimp only[uU,uH]
 unfold abT at q;refine⟨_,B?,B?,_,B?,?_⟩;refine bI (λc=>?_) (λc=>?_)
 .have c':way=0:=V.int.inj (Va c);rw[Sa c']at q;refine⟨_,B?,na,_,2,.str n2,B?,B?,Tb en,at2,_,B?,_,B?,lnE rfl,λr uX=>?_⟩;refine nwT uX λH1 s1 e1=>q r H1 s1 ?_;rw[At];exact⟨nm.q2,[pa,pa],e1,.cons (hA.mono (Za s1)) (.cons (hA.mono (Za s1)) .nil)⟩
 have c1:way≠0:=λz=>c (Ua (Xa Vb z));rw[Ra c1]at q;refine⟨_,B?,B?,_,B?,?_⟩;refine bI (λc=>?_) (λc=>?_)
 .have c':way=1:=V.int.inj (Va c);rw[Sa c']at q;have y0:=Mx many (show(3:Int)≠0 by decide);have y1:=Md many (show(0:Int)<3 by decide);refine⟨_,B?,_,_,B?,B?,(by show(0:Int)<3;decide),_,_,B?,B?,_,B?,by lia,by lia,?_⟩
  refine dO (n:=(1+many%3).toNat) (λi Y H2=>Ex2 λ(r:Ls)(kv:Option V)=>An3 (Y=[A? (.ref na),A? (.int way),A? (.int many),A? (.ref r),kv]) (Sb H H2) (At H2 (chn n1 i p) r))
   ⟨pa,Ak,rfl,.refl _,hA⟩ ?_ ?_
  .rintro i Y H2 hi ⟨r,kv,rfl,s2,v7⟩;refine⟨_,B?,na,_,1,.str n1,B?,B?,Tb (s2 _ _ en),at1,_,B?,lnE rfl,λp hp=>?_⟩;refine nwT hp λH3 s3 e3=>⟨p,_,rfl,s2.trans s3,?_⟩;rw[chn,At];exact⟨nm.q1,[r],e3,.cons (v7.mono (Za s3)) .nil⟩
  .rintro Y H2 ⟨r,kv,rfl,s2,v7⟩;exact⟨_,B?,q r H2 s2 v7⟩
 have c2:way≠1:=λz=>c (Ua (Xa Vb z));rw[Ra c2]at q;have y0:=Mx many (show(40:Int)≠0 by decide);have y1:=Md many (show(0:Int)<40 by decide);refine⟨_,B?,na,_,2,.str n2,B?,B?,Tb en,at2,_,B?,_,B?,_,_,B?,B?,(by show(0:Int)<40;decide),_,_,B?,B?,na,n0,n1,n2,_,B?,en,nm,by lia,by show 1+many%40<((2 ^ 6:Nat):Int);lia,λr1 H1 s1 a1=>?_⟩;refine⟨_,B?,lnE rfl,λr uX=>?_⟩;refine nwT uX λH2 s2 e2=>q r H2 (s1.trans s2) ?_;rw[At];exact⟨nm.q2,[r1,pa],e2,.cons (a1.mono (Za s2)) (.cons (hA.mono (Za (s1.trans s2))) .nil)⟩
theorem b8:FnOk P w K mg base CX0 1 T.g_29.f T.g_29.d ["names","state"] eh:=by
 refine T.g_29.F.okA eg λuI A outer s H vs Q E hr h=>?_;obtain⟨na,n0,n1,n2,st,rfl,en,nm,q⟩:=h
 refine⟨_,(ae (ak 2 eg.nd (av (aa bG (aa (pv 1) (aa ad ac)))))
  (ag (aq (bf (aa (av (aa (ay aS (pv 0) ad (λ_ _=>rfl)) ac)) (aa (av (aa (ay aS (pv 0) ad (λ_ _=>rfl)) (aa (pv 2) ac))) (aa (av (aa (ay aS (pv 0) ad (λ_ _=>rfl)) (aa (pv 2) (aa (av (aa bG (aa (pv 1) (aa ad ac)))) ac)))) ac))))))),?_⟩
 try dsimp only[uU,uH]
 refine⟨_,B?,lnE rfl,λca wZ=>?_⟩;dsimp only[ax];refine nwT wZ λH1 s1 e1=>?_;refine⟨_,B?,na,_,0,.str n0,B?,B?,Tb (s1 _ _ en),at0,lnE rfl,λp0 xE=>?_⟩;refine nwT xE λH2 s2 e2=>?_;have wg:=s1.trans s2;refine⟨_,B?,na,_,1,.str n1,B?,B?,Tb (wg _ _ en),at1,_,B?,lnE rfl,λp1 xF=>?_⟩;refine nwT xF λH3 s3 e3=>?_;have xf:=wg.trans s3;refine⟨_,B?,na,_,2,.str n2,B?,B?,Tb (xf _ _ en),at2,_,B?,_,B?,lnE rfl,λc2 vN=>?_⟩;refine nwT vN λH4 s4 e4=>⟨lnE rfl,λp2 wq=>?_⟩;refine nwT wq λH5 s5 e5=>⟨lnE rfl,λr uX=>?_⟩;refine nwT uX λH6 s6 e6=>?_;have FD:=s4.trans s5;have wY:=s3.trans FD;have Hl:=FD.trans s6;have yS:=wY.trans s6
 have c0:At H6 (.call st 0) ca:=by
  rw[At];exact(s2.trans yS) _ _ e1
 have c1:At H6 (.call st 1) c2:=by
  rw[At];exact(s5.trans s6) _ _ e4
 refine q r [p0,p1,p2] H6 (xf.trans Hl) ((xf.trans FD).free uX) e6 (.cons ?_ (.cons ?_ (.cons ?_ .nil)))
 .rw[At];exact⟨nm.q0,[],yS _ _ e2,.nil⟩
 .rw[At];exact⟨nm.q1,[ca],Hl _ _ e3,.cons c0 .nil⟩
 .rw[At];exact⟨nm.q2,[ca,c2],s6 _ _ e5,.cons c0 (.cons c1 .nil)⟩
theorem ly{M:Int}(h1:M∈(ts.map λt:Th=>((t.tall:Nat):Int))++[0])(h2:∀a∈(ts.map λt:Th=>((t.tall:Nat):Int))++[0],a<=M):M=((aK ts:Nat):Int):=by
 by_cases h:ts=[]
 .subst h;have:M=0:=by simpa using h1
  rw[this,aK];rfl
 .have h0:=h2 0 (by simp);obtain⟨t,ht,he⟩:=iK h;have h3:=h2 _ (MC _ (List.mem_map_of_mem (f:=λt:Th=>((t.tall:Nat):Int)) ht));rcases Mw.mp h1 with h1|h1
  .obtain⟨u,hu,e⟩:=MZ.mp h1;have:=dA hu;lia
  .have h4:M=0:=LM.mp h1;have h5:t.tall=0:=by lia
   cases t with
   |knot n ks=>rw[Xb]at h5;lia
   |call a b=>rw[Xb]at h5;lia
def kL(H:Hp)(t:Th)(r:Ls):Prop:=H r=A? (.tup [.int (t.kn:Nat),.int (cnT t:Nat),.int (t.tall:Nat)])
inductive db(n:Nat)(vs:List V)(H:Hp)(Q:VK)(_E:XK):Prop
 |mk (pa:Ls) (n0 n1 n2:LL) (S C:Int) (t:Th):vs=[.ref pa]->At H t pa->N3 n0 n1 n2->t.FitS (k3 n0 n1 n2) S C->t.tall<=n->(∀(r:Ls)(H':Hp),Sb H H'->kL H' t r->Q (.ref r) H')->db n vs H Q _E
theorem df:∀n:Nat,FnOk P w K mg base CX0 n T.g_27.f T.g_27.d ["pattern"] (db n)
 |0=>⟨λ_ _ _ _ h=>by obtain⟨_,_,_,_,_,_,t,_,_,_,_,h1,_⟩:=h;have:=t.tall_eq;lia,λ_ _ _ _ _ _ _ _ _ _ _ _ _ h=>by obtain⟨_,_,_,_,_,_,t,_,_,_,_,h1,_⟩:=h;have:=t.tall_eq;lia⟩
 | n+1=>by
   have ih:=df n;refine T.g_27.F.okA cX λuI A outer s H vs Q E hr h=>?_;obtain⟨pa,n0,n1,n2,S,C,t,rfl,hA,nm,vJ,yu,k⟩:=h
   refine⟨_,(ae (bj (aI bM (ay aA (pv 0) ad (λ_ _=>rfl)) bG (aD _)) (ag (aq (av (aa ad (aa ad (aa ad ac)))))) aQ)
    (ae (l7 (i:=1) (N:=["part"]) (js:=[Ak]) (g:=(ax 0)) (tt:=bt) (te:=(fW (db _) [] E0 (aO (bo 0) cM))) cX.nd rfl (Or.inl rfl) rfl (cE rfl (by decide +kernel) (by decide +kernel) rfl rfl rfl) (ie (dq kN (pv 0) (dP ad) eY)) (λ_ _ _ _ _ _=>(pgN 0 tK)) (br rfl) (λ_ _ _ _ _ _=>bx) (λ_ _ _ _ _ _=>(b7 (ih) (hr.mono (LC _)) rfl T.g_27.m T.g_27.F.kp T.g_27.b .nil gb (aa (pv 0) ac))))
    (ae (ak 2 cX.nd (aw bA ad (aN (mV rfl) rfl T.n_5 PyProof.Rows.boot_max (aa (aw qX (bY (N:=["size"]) (js:=[Ak]) (g:=(ax 0)) (tt:=bt) (te:=(tOp (jw K) (bo 0) (tC (.int 2)))) rfl (cE rfl (by decide +kernel) (by decide +kernel) rfl rfl rfl) (cz (pv 1)) (λ_ _ _ _ _ _=>(pgN 0 rh)) (br rfl) (λ_ _ _ _ _ _=>bx) (λ_ _ _ _ _ _=>(ay aA (pv 0) ad (λ_ _=>rfl)))) (bf (aa ad ac))) ac))))
    (ag (aq (av (aa (aw bA ad (aN (kj rfl) rfl T.n_9 PyProof.Rows.boot_sum (aa (bY (N:=["size"]) (js:=[Ak]) (g:=(ax 0)) (tt:=bt) (te:=(tOp (jw K) (bo 0) (tC (.int 0)))) rfl (cE rfl (by decide +kernel) (by decide +kernel) rfl rfl rfl) (cz (pv 1)) (λ_ _ _ _ _ _=>(pgN 0 rh)) (br rfl) (λ_ _ _ _ _ _=>bx) (λ_ _ _ _ _ _=>(ay aA (pv 0) ad (λ_ _=>rfl)))) ac))) (aa (aN (kj rfl) rfl T.n_9 PyProof.Rows.boot_sum (aa (bY (N:=["size"]) (js:=[Ak]) (g:=(ax 0)) (tt:=bt) (te:=(tOp (jw K) (bo 0) (tC (.int 1)))) rfl (cE rfl (by decide +kernel) (by decide +kernel) rfl rfl rfl) (cz (pv 1)) (λ_ _ _ _ _ _=>(pgN 0 rh)) (br rfl) (λ_ _ _ _ _ _=>bx) (λ_ _ _ _ _ _=>(ay aA (pv 0) ad (λ_ _=>rfl)))) ac)) (aa (pv 2) ac))))))))),?_⟩
   try dsimp only[uU,uH]
   unfold kL at k;cases t with
   | call sn cn =>
     rw[At]at hA;refine⟨_,B?,pa,_,0,.str q,B?,B?,Ub hA,at0,B?,_,B?,?_⟩;refine bI (λ_=>?_) (λc=>Wa (Ua rfl) c);refine⟨lnE rfl,λr uX=>?_⟩;exact nwT uX λH1 s1 e1=>k r H1 s1 (by rw[e1,Tc,cnT,Xb];rfl)
   | knot m ts =>
     rw[Xb]at yu;rw[Zb]at vJ
     have hw:ts.length<=3:=by
      have:=(nm.good.num _ vJ.1).2;have h2:((ts.length:Nat):Int)<=3:=this;lia
     rw[At]at hA;refine hid λZZ kZ=>?_;obtain⟨J7,xZ,ea,xC⟩:=hA;refine kZ ?_;have J8:xZ.length=ts.length:=xC.length;refine⟨_,B?,pa,_,0,.str m,B?,B?,Ub ea,at0,B?,_,B?,?_⟩;refine bI (λc=>Wa (Va c) (λz=>J7 (V.str.inj z))) (λ_=>?_);refine⟨_,B?,1,B?,pa,_,B?,Ub ea,?_,λp2 wq=>?_⟩
     .rintro⟨z,_⟩;rw[LP,show(1:Int)=((1:Nat):Int)by rfl,HT.sIx_nat]at z;lia
     dsimp only;rw[j2];refine nwT wq λH1 s1 e1=>?_;refine⟨p2,B?,⟨_,Ub e1⟩,cW (F:=kL) (xs:=xZ.map Rb) ts (λH1 H2 z p kt h=>kt _ _ h) (by rw[Lx];lia) (by rw[Lx];lia) (λi Hx sx hi=>⟨_,_,Ub (sx _ _ e1),LA hi⟩) (λHx sx=>⟨_,Ub (sx _ _ e1),LC _⟩) (λi Hx x Hy sx hi hy=>⟨hy.1,hy.2 _ (Ub (sx _ _ e1))⟩) (λi x z Hx R W' hx uZ sx hR=>?_) (λD H2 as hD s2 eD wH=>?_)⟩
     .obtain⟨ua,rfl,yM⟩:=bh hx;obtain⟨u,hu,z8⟩:=xC.get yM;obtain rfl:u=z:=Ma (hu.symm.trans uZ);have B6:u∈ts:=L9 hu;have Lg:=dA B6;have J':=s1.trans sx;exact⟨_,B?,ua,n0,n1,n2,S,C,u,B?,z8.mono (Za J'),nm,iM vJ.2 u B6,by lia,λr H3 s3 Ay=>hR H3 r s3 Ay⟩
     have v5:ts.length=as.length:=L3 wH;have wg:=s1.trans s2;dsimp only[ax];refine⟨_,B?,D,B?,⟨_,Tb eD⟩,dj ts (λo:Th=>Vb (o.tall:Nat)) (Tb eD) (by rw[Lx];exact v5) (by rw[Lx];lia) (λi x z Hx R W' hx hz sx hR=>?_) (λD4 H4 Lh s4 e4=>?_)⟩
     .obtain⟨e,rfl,he⟩:=bh hx;obtain⟨t,ht,h1⟩:=Sd wH he;rw[hz]at ht;cases ht;exact⟨_,B?,e,_,2,.int (z.tall:Nat),B?,B?,Ub (sx _ _ h1),at2,hR Hx (.refl _)⟩
     refine⟨lnE rfl,λzl E2=>?_⟩;refine nwT E2 λH5 s5 e5=>?_;refine⟨D4,zl,_,_,B?,B?,s5 _ _ e4,e5,bV (by rw[Lx];show ts.length+1<=1000000;lia),λcl vo=>?_⟩;refine nwT vo λH6 s6 e6=>?_
     have Ka:H6 cl=A? (.lst (((ts.map λt:Th=>((t.tall:Nat):Int))++[0]).map Vb)):=by
      rw[e6,L6,Qq];rfl
     refine⟨cl,(ts.map λt:Th=>((t.tall:Nat):Int))++[0],B?,Tb Ka,by simp,λM hM FE=>⟨_,_,B?,B?,?_⟩⟩;have Kb:=ly hM FE;subst Kb;dsimp only[ax];have yS:=s4.trans (s5.trans s6);have FG:=yS _ _ eD;have Ca:Mg (kL H6) ts as:=Vc (λ_ _ e=>yS _ _ e) wH;refine⟨_,B?,D,B?,⟨_,Tb FG⟩,dj ts (λo:Th=>Vb (o.kn:Nat)) (Tb FG) (by rw[Lx];exact v5) (by rw[Lx];lia) (λi x z Hx R W' hx hz sx hR=>?_) (λD2 H7 Kc s7 e7=>?_)⟩
     .obtain⟨e,rfl,he⟩:=bh hx;obtain⟨t,ht,h1⟩:=Sd Ca he;rw[hz]at ht;cases ht;exact⟨_,B?,e,_,0,.int (z.kn:Nat),B?,B?,Ub (sx _ _ h1),at0,hR Hx (.refl _)⟩
     refine⟨D2,ts.map (λo=>((o.kn:Nat):Int)),B?,Tb (by rw[<-ints_map];exact e7),⟨_,_,B?,B?,?_⟩⟩;rw[sH];have Hm:=s7 _ _ FG;have FH:Mg (kL H7) ts as:=Vc (λ_ _ e=>s7 _ _ e) Ca;refine⟨_,B?,D,B?,⟨_,Tb Hm⟩,dj ts (λo:Th=>Vb (cnT o:Nat)) (Tb Hm) (by rw[Lx];exact v5) (by rw[Lx];lia) (λi x z Hx R W' hx hz sx hR=>?_) (λD3 H8 Li s8 e8=>?_)⟩
     .obtain⟨e,rfl,he⟩:=bh hx;obtain⟨t,ht,h1⟩:=Sd FH he;rw[hz]at ht;cases ht;exact⟨_,B?,e,_,1,.int (cnT z:Nat),B?,B?,Ub (sx _ _ h1),at1,hR Hx (.refl _)⟩
     refine⟨D3,ts.map (λo=>((cnT o:Nat):Int)),B?,Tb (by rw[<-ints_map];exact e8),?_⟩;rw[qK];refine⟨_,B?,lnE rfl,λr uX=>?_⟩;refine nwT uX λH9 s9 e9=>k r H9 (wg.trans (yS.trans (s7.trans (s8.trans s9)))) ?_;rw[e9,Tc,cnT,Xb];congr 4
     .simp;lia
     .simp;lia
inductive dZ(vs:List V)(H:Hp)(Q:VK)(_E:XK):Prop
 |mk (na:Ls) (n0 n1 n2:LL) (way many high:Int):vs=[.ref na,.int way,.int many,.int high]->H na=A? (.lst [.str n0,.str n1,.str n2])->N3 n0 n1 n2->0<=high->high<=19->(∀(j:Nat)(r:Ls)(H':Hp),Sb H H'->At H' (gr n0 n1 n2 way many j) r->j<=high.toNat->(j=high.toNat\/300<cnT (gr n0 n1 n2 way many j))->Q (.ref r) H')->dZ  vs H Q _E
theorem ir:FnOk P w K mg base CX0 90 T.g_28.f T.g_28.d ["names","way","many","high"] dZ:=by
 refine T.g_28.F.okA b9 λuI A outer s H vs Q E hr h=>?_;obtain⟨na,n0,n1,n2,way,many,high,rfl,en,nm,h0,h1,q⟩:=h
 refine⟨_,(ae (ak 4 b9.nd (av (aa bG (aa ad (aa ad ac)))))
  (ae (cO MP rfl (bS rfl T.n_7 (aa (pv 3) ac)) (pgN 5 b9.nd) (ae (ak 4 b9.nd (pcF T.g_26 (d6 T) hr (aa (pv 0) (aa (pv 1) (aa (pv 2) (aa (pv 4) ac))))))
  (ag (bj (aI fY (ay aA (pcF T.g_27 (df T 80) hr (aa (pv 4) ac)) ad (λ_ _=>rfl)) ad (aD _)) (ag (aq (pv 4))) aQ))))
  (ag (aq (pv 4))))),?_⟩
 try dsimp only[uU,uH]
 refine⟨lnE rfl,λca wZ=>?_⟩;dsimp only[ax];refine nwT wZ λH1 s1 e1=>?_;refine⟨_,B?,high,B?,by lia,by lia,?_⟩
 refine dO (n:=high.toNat) (λi Y H2=>Ex2 λ(r:Ls)(kv:Option V)=>An3 (Y=[A? (.ref na),A? (.int way),A? (.int many),A? (.int high),A? (.ref r),kv]) (Sb H H2) (At H2 (gr n0 n1 n2 way many i) r))
  ⟨ca,Ak,rfl,s1,by rw[gr,At];exact e1⟩ ?_ ?_
 .rintro i Y H2 hi ⟨r,kv,rfl,s2,v7⟩;refine⟨_,B?,_,B?,_,B?,_,B?,na,r,n0,n1,n2,way,many,_,B?,s2 _ _ en,nm,v7,λr2 H3 s3 a3=>?_⟩;dsimp only[ax,lU,lK];obtain⟨g1,g2⟩:=i9 (n0:=n0) (n1:=n1) (n2:=n2) way many (i+1);have FI:At H3 (gr n0 n1 n2 way many (i+1)) r2:=a3;refine⟨_,B?,r2,n0,n1,n2,1,1,_,B?,FI,nm,g1,(by show(gr n0 n1 n2 way many (i+1)).tall<=80;lia),λsr H4 s4 h4=>?_⟩;unfold kL at h4;have z9:=s3.trans s4;refine⟨sr,_,1,_,B?,B?,Ub h4,at1,_,_,B?,B?,_,B?,?_⟩;refine bI (λc=>?_) (λc=>?_)
  .have:=Va c;exact⟨_,B?,q (i+1) r2 H4 (s2.trans z9) (FI.mono (Za s4)) (by lia) (.inr (by lia))⟩
  .exact⟨r2,_,B?,s2.trans z9,FI.mono (Za s4)⟩
 .rintro Y H2 ⟨r,kv,rfl,s2,v7⟩;exact⟨_,B?,q high.toNat r H2 s2 v7 (LC _) (.inl rfl)⟩
def BkK(H:Hp)(ks:List (LL×Int))(head:Th)(rows:List (List Th))(b ka:Ls)(uJ:List Ls):Prop:=∃ha ra vj,BookAt H ks ks head rows b ka ka ha ra uJ uJ vj
theorem BkK.mono(k:KT H H'){ks:List (LL×Int)}{rows:List (List Th)}{ka:Ls}{uJ:List Ls}(h:BkK H ks head rows b ka uJ):BkK H' ks head rows b ka uJ:=by
 obtain⟨ha,ra,vj,h⟩:=h;exact⟨ha,ra,vj,h.mono k⟩
def il:Option Int->V
 |none=>.non
 |some i=>.int i
theorem gG{t u v:Th}{c:Ls}(h:Ats H [t,u,v] [a,b,c]):At H t a/\At H u b/\At H v c:=by
 refine hid λZZ kZ=>?_;obtain⟨x,h1,h2⟩:=h.at (i:=0) rfl;obtain⟨y,g1,g2⟩:=h.at (i:=1) rfl;obtain⟨z,k1,k2⟩:=h.at (i:=2) rfl;refine kZ ?_;cases h1;cases g1;cases k1;exact⟨h2,g2,k2⟩
theorem ii{s:Int}{as:List Ls}(h:Ats H (pl n0 n1 n2 s) as):∃a b c,as=[a,b,c]:=by
 have hl:=h.length
 match as,hl with
 | [a,b,c],_=>exact⟨a,b,c,B?⟩
inductive d8(vs:List V)(H:Hp)(Q:VK)(_E:XK):Prop
 |mk (na ka:Ls) (uJ:List Ls) (n0 n1 n2:LL) (rest:Int):vs=[.ref na,.ref ka,.int rest]->H na=A? (.lst [.str n0,.str n1,.str n2])->N3 n0 n1 n2->H ka=A? (.tup (uJ.map Rb))->KsAt H (k3 n0 n1 n2) uJ->0<=rest->(∀(r b1 b2:Ls)(H':Hp)(due:Option Int)(many S1 S2:Int)(uB uA:Th)(rows1 f':List (List Th)),Sb H H'->H' r=A? (.tup [.ref b1,.ref b2,il due,.int many])->BkK H' (k3 n0 n1 n2) uB rows1 b1 ka uJ->BkK H' (k3 n0 n1 n2) uA f' b2 ka uJ->kz (k3 n0 n1 n2) due many S1 S2 uB uA rows1 f'->f'.length<=20->Q (.ref r) H')->d8  vs H Q _E
theorem im:FnOk P w K mg base CX0 100 T.g_30.f T.g_30.d ["names","kinds","rest"] d8:=by
 refine T.g_30.F.okA ap λuI A outer s H vs Q E hr h=>?_;obtain⟨na,ka,uJ,n0,n1,n2,rest,rfl,en,nm,ek,hk,Kd,q⟩:=h
 refine⟨_,(ae (ak 3 ap.nd (aw bA ad (aw bi (pv 2) ad)))
  (ae (ak 4 ap.nd (ay aS (bf (aa ad (aa ad (aa ad (aa ad (aa ad (aa ad (aa ad ac bD) bD) bD) bD) bD) bD) bD)) (aw bi (aw bC (pv 2) ad) ad) (λ_ _=>rfl)))
  (ae (ak 5 ap.nd (aw bC (pv 2) ad))
  (ae (ak 6 ap.nd (aw bi (aw bC (pv 2) ad) ad))
  (ae (ak 7 ap.nd (av (aa bG (aa ad (aa ad ac)))))
  (ae (ak 8 ap.nd (pv 7))
  (ae (cO MP rfl (bS rfl T.n_7 (aa (aN (iD rfl) rfl T.n_6 PyProof.Rows.boot_min (aa (pv 3) (aa ad ac))) ac)) (pgN 9 ap.nd) (ag (ak 8 ap.nd (av (aa (ay aS (pv 0) ad (λ_ _=>rfl)) (aa (pv 8) ac))))))
  (ae (ak 10 ap.nd (bf (aa (pcF T.g_29 (b8 T) hr (aa (pv 0) (aa ad ac))) (aa (pcF T.g_29 (b8 T) hr (aa (pv 0) (aa ad ac))) ac))))
  (ae (ak 11 ap.nd (pv 7))
  (ae (bj (aI bM (pv 6) ad (aD _)) (ag (ak 11 ap.nd (pv 8))) (ag (bj (aI bM (pv 6) ad (aD _)) (ag (cJ (pv 8) (lJ (ay aS (pv 10) ad (λ_ _=>rfl)) ad set_list))) (ag (cJ (pv 8) (lJ (ay aS (pv 10) ad (λ_ _=>rfl)) ad set_list))))))
  (ae (ak 12 ap.nd (av (aa (pv 1) (aa (pv 1) (aa (pv 11) (aa (aT aH rfl T.n_10 Mh (aa (bY (N:=["patterns"]) (js:=[Ak]) (g:=(ax 0)) (tt:=bt) (te:=(tCB (λxs H Q=>∃p ys,xs=[.ref p]/\((SqL K H p ys/\∀l,H l=Ak->Q (.ref l) (upd H l (.tup ys)))\/(SqT K H p ys/\Q (.ref p) H))) (aO (bo 0) cM))) rfl (cE rfl (by decide +kernel) (by decide +kernel) rfl rfl rfl) (cz (pv 10)) (λ_ _ _ _ _ _=>(pgN 0 tX)) (br rfl) (λ_ _ _ _ _ _=>bx) (λ_ _ _ _ _ _=>(aT aH rfl T.n_10 Mh (aa (pv 0) ac)))) ac)) ac))))))
  (ae (ak 13 ap.nd (pcF T.g_29 (b8 T) hr (aa (pv 0) (aa ad ac))))
  (ae (cJ (pcF T.g_26 (d6 T) hr (aa (pv 0) (aa (pv 4) (aa (pv 5) (aa (pv 7) ac))))) (lJ (pv 13) ad set_list))
  (ae (ak 14 ap.nd (av (aa (pv 1) (aa (pv 1) (aa (pv 7) (aa (av (aa (aT aH rfl T.n_10 Mh (aa (pv 13) ac)) ac)) ac))))))
  (ae (ak 15 ap.nd gZ)
  (ae (ak 16 ap.nd (pcF T.g_27 (df T 80) hr (aa (pcF T.g_28 (ir T) hr (aa (pv 0) (aa (pv 4) (aa (pv 5) (aa (aN (iD rfl) rfl T.n_6 PyProof.Rows.boot_min (aa (pv 3) (aa ad ac))) ac))))) ac)))
  (ae (bj (PW.pt (rT (aI tE (pv 6) ad (aD _)) (p5 (PW.pt (qO (aI fY (ay aA (pv 16) ad (λ_ _=>rfl)) ad (aD _)) (qO (aI fY (ay aA (pv 16) ad (λ_ _=>rfl)) ad (aD _)) (rJ (aI fY (ay aA (pv 16) ad (λ_ _=>rfl)) ad (aD _))))))))) (ag (ak 15 ap.nd ad)) aQ)
  (ag (aq (av (aa (pv 12) (aa (pv 14) (aa (pv 15) (aa ad ac)))))))))))))))))))))))),?_⟩
 try dsimp only[uU,uH]
 have y0:=Mx rest (show(20:Int)≠0 by decide);have y1:=Md rest (show(0:Int)<20 by decide);refine⟨_,B?,_,_,B?,B?,(by show(0:Int)<20;decide),_,_,B?,B?,?_⟩;dsimp only[ax];obtain⟨high,Cb⟩:∃high,high=1+rest%20:=⟨_,rfl⟩;rw[<-Cb];refine⟨lnE rfl,λwl yW=>?_⟩;refine nwT yW λH1 s1 e1=>?_
 obtain⟨wv,Ke⟩:∃wv:Int,atI [Vb 1,.int 0,.int 2,.int 2,.int 1,.int 2,.int 2] (rest / 20%7)=A? (.int wv):=by
  have z0:=Mx (rest / 20) (show(7:Int)≠0 by decide);have z1:=Md (rest / 20) (show(0:Int)<7 by decide);rcases(by lia:rest / 20%7=0\/rest / 20%7=1\/rest / 20%7=2\/rest / 20%7=3\/rest / 20%7=4\/rest / 20%7=5\/rest / 20%7=6)with z|z|z|z|z|z|z <;> rw[z] <;> exact⟨_,B?⟩
 refine⟨_,B?,_,_,B?,B?,⟨by decide,by decide⟩,_,_,B?,B?,(by show(0:Int)<7;decide),wl,_,_,.int wv,B?,B?,Tb e1,Ke,?_⟩;dsimp only[ax];refine⟨_,B?,_,_,B?,B?,⟨by decide,by decide⟩,?_⟩;dsimp only[ax];generalize rest / 140=many;refine⟨_,B?,_,_,B?,B?,⟨by decide,by decide⟩,_,_,B?,B?,(by show(0:Int)<4;decide),?_⟩;dsimp only[ax];generalize rest / 5%4=spot;refine⟨lnE rfl,λca wZ=>?_⟩;refine nwT wZ λH2 s2 e2=>?_;dsimp only[ax]
 have vN:At H2 (.call 0 0) ca:=by
  rw[At];exact e2
 have wg:=s1.trans s2;refine⟨_,B?,_,B?,_,_,B?,?_⟩;refine hid λZZ kZ=>?_
 obtain⟨m0,CO,Lj,Lk⟩:∃m0:Nat,(if(19:Int)<high then(19:Int)else high)=(m0:Int)/\1<=m0/\m0<=19:=by
  by_cases h:(19:Int)<high
  .rw[Sa h];exact⟨19,B?,by decide,by decide⟩
  .rw[Ra h];exact⟨high.toNat,by lia,by lia,by lia⟩
 refine kZ ?_;rw[CO];refine⟨(m0:Int),B?,by lia,by lia,?_⟩
 refine dO (n:=(m0:Int).toNat) (λi Y H3=>Ex2 λ(r:Ls)(kv:Option V)=>An3 (Y=[A? (.ref na),A? (.ref ka),A? (.int rest),A? (.int high),A? (.int wv),A? (.int many),A? (.int spot),A? (.ref ca),A? (.ref r),kv,Ak,Ak,Ak,Ak,Ak,Ak,Ak]) (Sb H2 H3) (At H3 (chn n1 i (.call 0 0)) r))
  ⟨ca,Ak,rfl,.refl _,vN⟩ ?_ ?_
 .rintro i Y H3 hi ⟨r,kv,rfl,s3,v7⟩;refine⟨_,B?,na,_,1,.str n1,B?,B?,Tb ((wg.trans s3) _ _ en),at1,_,B?,lnE rfl,λp hp=>?_⟩;refine nwT hp λH4 s4 e4=>⟨p,_,rfl,s3.trans s4,?_⟩;rw[chn,At];exact⟨nm.q1,[r],e4,.cons (v7.mono (Za s4)) .nil⟩
 rintro Y H3 ⟨row,kv,rfl,s3,vg⟩;rw[M0]at vg;have xf:=wg.trans s3;have Kf:=vN.mono (Za s3);refine⟨_,B?,na,n0,n1,n2,0,B?,xf _ _ en,nm,λr0 Ll H4 s4 Kg yv xE=>?_⟩;have vy:=xf.trans s4;refine⟨_,B?,na,n0,n1,n2,1,B?,vy _ _ en,nm,λr1 Lm H5 s5 FJ yw xF=>⟨lnE rfl,λrl xg=>?_⟩⟩;refine nwT xg λH6 s6 vP=>?_;dsimp only[ax];have Cc:=s5.trans s6;have AE:=vy.trans Cc;have FK:H r0=none:=xf.free Kg;have FL:H r1=none:=vy.free FJ;have Cd:r0≠r1:=λz=>by rw[<-z,yv]at FJ;cases FJ
 have FN:r0≠rl:=λz=>by have:=s5 _ _ yv;rw[z,xg]at this;cases this
 have FO:r1≠rl:=λz=>by rw[z,xg]at yw;cases yw
 obtain⟨a0,x0,z0,rfl⟩:=ii xE;obtain⟨a1,x1,z1,rfl⟩:=ii xF;have yv:=Cc _ _ yv;have yw:=s6 _ _ yw;have xE:=xE.mono (Za Cc);have xF:=xF.mono (Za s6);have yi:=vg.mono (Za (s4.trans Cc));have FP:=Kf.mono (Za (s4.trans Cc));refine⟨_,B?,?_⟩;dsimp only[ax];refine bQ (λuE H7=>Ex6 λ(hd FQ FR:Ls)(h m:Nat)(yj:List Th)=>pH (uE=[A? (.ref na),A? (.ref ka),A? (.int rest),A? (.int high),A? (.int wv),A? (.int many),A? (.int spot),A? (.ref ca),A? (.ref row),kv,A? (.ref rl),A? (.ref hd),Ak,Ak,Ak,Ak,Ak]) (Sb H H7) (KT H6 H7) (At H7 (chn n1 h (.call 0 0)) hd) (H7 r0=A? (.lst ([a0,FQ,z0].map Rb))) (H7 r1=A? (.lst ([a1,FR,z1].map Rb))) (H7 rl=A? (.lst ([r0,r1].map Rb))) (Ats H7 (bL n0 n2 (chn n1 m (.call 0 0))) [a0,FQ,z0]) (lh n0 n1 n2 2 (bL n0 n2 (chn n1 m (.call 0 0)))) (Ats H7 yj [a1,FR,z1]) (lh n0 n1 n2 2 yj) (((spot=1/\m=1/\h=0)\/(spot≠1/\((m=1/\h=m0)\/(m=m0/\h=0)))))) (λkk wy=>?_) ?_
 .have fA:∀m:Nat,lh n0 n1 n2 2 (bL n0 n2 (chn n1 m (.call 0 0))):=λm=>⟨_,_,_,rfl,lm _ _,eS (dL (by decide)) m,kI (dL (by decide)) (dL (by decide))⟩;refine⟨_,B?,B?,_,B?,?_⟩;refine bI (λc=>?_) (λc=>?_)
  .have c':spot=0:=V.int.inj (Va c);exact⟨_,B?,wy _ _ ⟨row,x0,x1,m0,1,pl n0 n1 n2 1,B?,AE,λ_ _ e=>e,yi,yv,yw,vP,xE,fA 1,xF,lF (by decide) (by decide),.inr ⟨by lia,.inl ⟨B?,B?⟩⟩⟩⟩
  have c0:spot≠0:=λz=>c (Ua (Xa Vb z));refine⟨_,B?,B?,_,B?,?_⟩;refine bI (λc=>?_) (λc=>?_)
  .have c':spot=1:=V.int.inj (Va c);refine⟨_,B?,_,B?,rl,_,1,.ref r1,B?,B?,Tb vP,at1,r1,_,1,1,B?,B?,yw,B?,?_⟩;have k7:KT H6 (upd H6 r1 (.lst (([a1,x1,z1].map Rb).set 1 (.ref row)))):=bd yw;obtain⟨g1,g3,g4⟩:=gG (xF.mono k7);refine wy _ _ ⟨ca,x0,row,0,1,[.knot n0 [],chn n1 m0 (.call 0 0),.knot n2 [.call 1 0,.call 1 1]],rfl,aF AE FL,k7,FP.mono k7,by rw[ai Cd];exact yv,af,by rw[ai FO.symm];exact vP,xE.mono k7,fA 1,.cons g1 (.cons (yi.mono k7) (.cons g4 .nil)),⟨_,_,_,rfl,lm _ _,eS (dL (by decide)) m0,kI (dL (by decide)) (dL (by decide))⟩,.inl ⟨c',rfl,rfl⟩⟩
  .have c1:spot≠1:=λz=>c (Ua (Xa Vb z));refine⟨_,B?,_,B?,rl,_,0,.ref r0,B?,B?,Tb vP,at0,r0,_,1,1,B?,B?,yv,B?,?_⟩;have k7:KT H6 (upd H6 r0 (.lst (([a0,x0,z0].map Rb).set 1 (.ref row)))):=bd yv;obtain⟨g1,g3,g4⟩:=gG (xE.mono k7);refine wy _ _ ⟨ca,row,x1,0,m0,pl n0 n1 n2 1,rfl,aF AE FK,k7,FP.mono k7,af,by rw[ai Cd.symm];exact yw,by rw[ai FN.symm];exact vP,.cons g1 (.cons (yi.mono k7) (.cons g4 .nil)),fA m0,xF.mono k7,lF (by decide) (by decide),.inr ⟨c1,.inr ⟨rfl,rfl⟩⟩⟩
 rintro uE H7 ⟨hd,FQ,FR,h,m,yj,rfl,Fj,Kh,Fy,yv,yw,vP,xE,Ki,xF,Kj,Ce⟩;dsimp only[ax,lK];refine⟨_,B?,_,B?,_,B?,_,B?,rl,B?,⟨_,Tb vP⟩,cW (F:=RowAt) (xs:=[r0,r1].map Rb) [bL n0 n2 (chn n1 m (.call 0 0)),yj] (λH1 H2 z p kt h=>Zc kt h) rfl (by show 2<=1000000;decide) (λi Hx sx hi=>⟨_,_,Tb (sx _ _ vP),LA hi⟩) (λHx sx=>⟨_,Tb (sx _ _ vP),LC _⟩) (λi Hx x Hy sx hi hy=>⟨hy.1,hy.2 _ (Tb (sx _ _ vP))⟩) (λi x z Hx R W' hx uZ sx hR=>?_) (λD H8 as hD s8 eD wH=>?_)⟩
 .match i,hx,uZ with
  | 0,hx,uZ =>
    cases hx;cases uZ;exact⟨_,B?,r0,_,B?,.inl ⟨Tb (sx _ _ yv),λl hl=>hR _ l (aj hl _) ⟨_,af,xE.mono (Za (sx.trans (aj hl _)))⟩⟩⟩
  | 1,hx,uZ =>
    cases hx;cases uZ;exact⟨_,B?,r1,_,B?,.inl ⟨Tb (sx _ _ yw),λl hl=>hR _ l (aj hl _) ⟨_,af,xF.mono (Za (sx.trans (aj hl _)))⟩⟩⟩
  |i+2,hx,_=>simp at hx
 refine⟨D,_,B?,.inl ⟨Tb eD,λra C4=>?_⟩⟩;refine nwT C4 λH9 s9 era=>⟨lnE rfl,λb1 hb1=>?_⟩;refine nwT hb1 λHA sA B7=>?_;dsimp only[ax];have FU:=s8.trans (s9.trans sA);have Cf:=Fj.trans FU;have Hn:=FP.mono (Kh.trans (Za FU));have Ho:KsAt HA (k3 n0 n1 n2) uJ:=hk.mono (Za Cf);have Hq:=Cf _ _ ek;have uP:BkK HA (k3 n0 n1 n2) (chn n1 h (.call 0 0)) [bL n0 n2 (chn n1 m (.call 0 0)),yj] b1 ka uJ:=⟨hd,ra,as,B7,Hq,Ho,Hq,Ho,Fy.mono (Za FU),sA _ _ era,Vc (λ_ _ e=>Zc (Za (s9.trans sA)) e) wH⟩;refine⟨_,B?,na,n0,n1,n2,0,B?,Cf _ _ en,nm,λow Ln HB sB now C5 how=>?_⟩;dsimp only[ax];have Hr:=Cf.trans sB;have FV:H ow=none:=Cf.free now;refine⟨_,B?,_,B?,_,B?,_,B?,na,ca,n0,n1,n2,wv,many,.call 0 0,B?,Hr _ _ en,nm,Hn.mono (Za sB),λar HC sC Kk=>?_⟩;have Kl:=Hr.trans sC;refine hid λZZ kZ=>?_;obtain⟨ao,xo,zo,rfl⟩:=ii how;have C5:=sC _ _ C5;obtain⟨g1,g2,g3⟩:=gG (how.mono (Za sC));refine kZ ?_;refine⟨_,B?,ow,_,1,1,B?,B?,C5,B?,?_⟩;have kD:KT HC (upd HC ow (.lst (([ao,xo,zo].map Rb).set 1 (.ref ar)))):=bd C5;have Hs:Sb H (upd HC ow (.lst (([ao,xo,zo].map Rb).set 1 (.ref ar)))):=aF Kl FV;have zX:(upd HC ow (.lst (([ao,xo,zo].map Rb).set 1 (.ref ar)))) ow=A? (.lst ([ao,ar,zo].map Rb)):=af;generalize(upd HC ow (.lst (([ao,xo,zo].map Rb).set 1 (.ref ar))))=HD at kD Hs zX |-;have Dj:=(Hn.mono (Za (sB.trans sC))).mono kD;have FW:=uP.mono ((Za (sB.trans sC)).trans kD);have Km:Ats HD (bL n0 n2 (abT n0 n1 n2 wv many (.call 0 0))) [ao,ar,zo]:=.cons (g1.mono kD) (.cons (Kk.mono kD) (.cons (g3.mono kD) .nil));dsimp only[lU,lK];refine⟨_,B?,_,B?,_,B?,_,B?,ow,_,B?,.inl ⟨Tb zX,λro Cz=>?_⟩⟩;refine nwT Cz λHE sE Kn=>⟨lnE rfl,λrs Ko=>?_⟩;refine nwT Ko λHF sF Kp=>⟨lnE rfl,λb2 hb2=>?_⟩;refine nwT hb2 λHG sG B8=>?_;dsimp only[ax];have C6:=sE.trans (sF.trans sG);have C7:=Hs.trans C6;have Ht:KsAt HG (k3 n0 n1 n2) uJ:=hk.mono (Za C7);have Hu:=C7 _ _ ek;have FY:=FW.mono (Za C6);have uQ:BkK HG (k3 n0 n1 n2) (.call 0 0) [bL n0 n2 (abT n0 n1 n2 wv many (.call 0 0))] b2 ka uJ:=⟨ca,rs,[ro],B8,Hu,Ht,Hu,Ht,Dj.mono (Za C6),sG _ _ Kp,.cons ⟨_,(sF.trans sG) _ _ Kn,Km.mono (Za C6)⟩ .nil⟩;refine⟨_,B?,_,B?,_,B?,_,B?,_,_,B?,?_⟩;rw[CO];refine⟨na,n0,n1,n2,wv,many,(m0:Int),B?,C7 _ _ en,nm,by lia,by lia,λj Kq HI sI Kr hj BC=>?_⟩;rw[M0]at hj BC;obtain⟨f1,f2⟩:=i9 (n0:=n0) (n1:=n1) (n2:=n2) wv many j;refine⟨Kq,n0,n1,n2,1,1,_,B?,Kr,nm,f1,(by show(gr n0 n1 n2 wv many j).tall<=80;lia),λsr HJ sJ C8=>?_⟩;dsimp only[ax];unfold kL at C8;have FZ:=sI.trans sJ;refine bQ (λuE HK=>Ex1 λ(due:Option Int)=>An3 (HJ=HK) (uE=[A? (.ref na),A? (.ref ka),A? (.int rest),A? (.int high),A? (.int wv),A? (.int many),A? (.int spot),A? (.ref ca),A? (.ref row),kv,A? (.ref rl),A? (.ref hd),A? (.ref b1),A? (.ref ow),A? (.ref b2),A? (il due),A? (.ref sr)]) (((spot=1/\due=Ak)\/(spot≠1/\(due=A? 1/\¬Small (gr n0 n1 n2 wv many j)\/due=Ak/\Small (gr n0 n1 n2 wv many j)))))) (λkk wy=>?_) ?_
 .refine fw (λbb H'=>An2 (HJ=H') ((bb=AG↔spot≠1/\¬Small (gr n0 n1 n2 wv many j)))) (λk2 yb=>?_) (λH' hb=>?_) (λH' hb=>?_)
  .refine⟨_,B?,B?,_,B?,?_⟩;refine bI (λc=>?_) (λc=>?_)
   .have c1:spot≠1:=λz=>by rw[z]at c;simp at c
    refine⟨_,B?,sr,_,0,_,B?,B?,Ub C8,at0,_,_,B?,B?,_,B?,?_⟩;refine bI (λd=>?_) (λd=>?_)
    .have:=Va d;exact yb _ _ ⟨rfl,λ_=>⟨c1,λz=>by have:=z.kn;lia⟩,λ_=>rfl⟩
    have d0:¬(400:Int)<((gr n0 n1 n2 wv many j).kn:Nat):=λz=>d (Ua z);refine⟨_,B?,sr,_,1,_,B?,B?,Ub C8,at1,_,_,B?,B?,_,B?,?_⟩;refine bI (λd=>?_) (λd=>?_)
    .have:=Va d;exact yb _ _ ⟨rfl,λ_=>⟨c1,λz=>by have:=z.cn;lia⟩,λ_=>rfl⟩
    have d1:¬(200:Int)<(cnT (gr n0 n1 n2 wv many j):Nat):=λz=>d (Ua z);refine⟨_,B?,sr,_,2,_,B?,B?,Ub C8,at2,_,_,B?,B?,_,B?,yb _ _ ⟨B?,λz=>⟨c1,λy=>?_⟩,λz=>Ua ?_⟩⟩
    .have:=Va z;have:=y.tall;lia
    .refine Decidable.byContradiction λy=>z.2 ⟨?_,?_,?_⟩ <;> lia
   .refine yb _ _ ⟨rfl,λz=>(by cases z),λz=>Wa ?_ c⟩;rw[Ta (show¬Vb spot=Vb 1 fromλy=>z.1 (V.int.inj y))];rfl
  .obtain⟨rfl,hb⟩:=hb;obtain⟨zF,xb⟩:=hb.mp rfl;exact wy _ _ ⟨A? 1,rfl,rfl,.inr ⟨zF,.inl ⟨rfl,xb⟩⟩⟩
  .obtain⟨rfl,hb⟩:=hb;by_cases vM:spot=1
   .exact wy _ _ ⟨Ak,rfl,rfl,.inl ⟨vM,rfl⟩⟩
   .refine wy _ _ ⟨Ak,rfl,rfl,.inr ⟨vM,.inr ⟨rfl,Classical.byContradiction λy=>?_⟩⟩⟩;have:=hb.mpr ⟨vM,y⟩;cases this
 rintro uE HK ⟨due,rfl,rfl,Cg⟩;refine⟨_,B?,_,B?,_,B?,lnE rfl,λr uX=>?_⟩;refine nwT uX λHL sL eL=>?_;refine q r b1 b2 HL due 1 2 1 _ _ _ _ (C7.trans (FZ.trans sL)) eL (FY.mono (Za (FZ.trans sL))) (uQ.mono (Za (FZ.trans sL))) (lG nm rfl Ki Kj (m0:=m0) (j:=j) ?_) (by show 1<=20;decide);rcases Ce with⟨c1,c2,c3⟩|⟨c1,c2⟩
 .refine .inl ⟨c2,c3,?_⟩;rcases Cg with⟨_,d⟩|⟨d,_⟩
  .exact d
  .exact Wa c1 d
 .refine .inr ⟨c2,?_,hj,BC⟩;rcases Cg with⟨d,_⟩|⟨_,d⟩
  .exact Wa d c1
  .exact d
inductive eU(vs:List V)(H:Hp)(Q:VK)(_E:XK):Prop
 |mk (na ka:Ls) (uJ:List Ls) (n0 n1 n2:LL) (sz:Nat):vs=[.ref na,.ref ka,.int (sz:Nat)]->H na=A? (.lst [.str n0,.str n1,.str n2])->N3 n0 n1 n2->H ka=A? (.tup (uJ.map Rb))->KsAt H (k3 n0 n1 n2) uJ->1<=sz->sz<=20->(∀(r:Ls)(H':Hp),Sb H H'->BkK H' (k3 n0 n1 n2) (.call 0 0) (aZ n0 n1 n2 sz) r ka uJ->Q (.ref r) H')->eU  vs H Q _E
inductive d4(vs:List V)(H:Hp)(Q:VK)(_E:XK):Prop
 |mk (na ka:Ls) (uJ:List Ls) (n0 n1 n2:LL) (rest:Int):vs=[.ref na,.ref ka,.int rest]->H na=A? (.lst [.str n0,.str n1,.str n2])->N3 n0 n1 n2->H ka=A? (.tup (uJ.map Rb))->KsAt H (k3 n0 n1 n2) uJ->0<=rest->(∀(r b1 b2:Ls)(H':Hp)(due:Option Int)(many S1 S2:Int)(uB uA:Th)(rows1 f':List (List Th)),Sb H H'->H' r=A? (.tup [.ref b1,.ref b2,il due,.int many])->BkK H' (k3 n0 n1 n2) uB rows1 b1 ka uJ->BkK H' (k3 n0 n1 n2) uA f' b2 ka uJ->kz (k3 n0 n1 n2) due many S1 S2 uB uA rows1 f'->f'.length<=20->Q (.ref r) H')->d4  vs H Q _E
theorem fu:FnOk P w K mg base CX0 3 T.g_31.f T.g_31.d ["names","kinds","size"] eU:=by
 refine T.g_31.F.okA cZ λuI A outer s H vs Q E hr h=>?_;obtain⟨na,ka,uJ,n0,n1,n2,sz,rfl,en,nm,ek,hk,h1,h2,q⟩:=h
 refine⟨_,(ae (ak 3 cZ.nd (bf ac))
  (ae (cO MP rfl (bS rfl T.n_7 (aa (pv 2) ac)) (pgN 4 cZ.nd) (ag (bq (cG LY Mu Mt aV (pv 3) (aa (aT aH rfl T.n_10 Mh (aa (pcF T.g_29 (b8 T) hr (aa (pv 0) (aa (aw bi (aw bA (pv 4) ad) (pv 2)) ac))) ac)) ac)))))
  (ag (aq (av (aa (pv 1) (aa (pv 1) (aa (av (aa bG (aa ad (aa ad ac)))) (aa (aT aH rfl T.n_10 Mh (aa (pv 3) ac)) ac))))))))),?_⟩
 try dsimp only[uU,uH]
 refine⟨lnE rfl,λrl xg=>?_⟩;dsimp only[ax];refine nwT xg λH1 s1 e1=>?_;refine⟨_,B?,(sz:Int),B?,by lia,by lia,?_⟩
 refine dO (n:=(sz:Int).toNat) (λi Y H2=>Ex2 λ(kv:Option V)(as:List Ls)=>An4 (Y=[A? (.ref na),A? (.ref ka),A? (.int (sz:Nat)),A? (.ref rl),kv]) (Sb H H2) (H2 rl=A? (.lst (as.map Rb))) (Mg (RowAt H2) ((aZ n0 n1 n2 sz).take i) as))
  ⟨Ak,[],rfl,s1,e1,.nil⟩ ?_ ?_
 .rintro i Y H2 hi ⟨kv,as,rfl,s2,vP,has⟩;rw[M0]at hi;have v5:=L3 has;have F0:(aZ n0 n1 n2 sz).length=sz:=by unfold aZ;rw[Lx,NM]
  rw[Mj,F0]at v5;refine⟨_,B?,.inl ⟨B?,_,Tb vP⟩,_,B?,_,B?,_,_,B?,B?,_,B?,_,_,B?,B?,by lia,na,n0,n1,n2,_,B?,s2 _ _ en,nm,λpr F1 H3 s3 Lo EA vL=>?_⟩;refine⟨pr,_,B?,.inl ⟨Tb EA,λtp wW=>?_⟩⟩;refine nwT wW λH4 s4 e4=>?_;have AB:=(s3.trans s4) _ _ vP;refine⟨rl,_,_,B?,B?,AB,lbE (by lia),?_⟩;have k5:KT H4 (upd H4 rl (.lst (as.map Rb++[.ref tp]))):=bd AB;refine⟨_,as++[tp],B?,aF ((s2.trans s3).trans s4) xg,by rw[af,L6];exact rfl,?_⟩;rw[take_snoc (ju (n0:=n0) (n1:=n1) (n2:=n2) hi)];refine Uc (Vc (λ_ _ e=>Zc ((Za (s3.trans s4)).trans k5) e) has) (.cons ⟨F1,k5 _ _ e4,?_⟩ .nil)
  have e:(((i+1)%sz:Nat):Int)=(0+(i:Int)+1)%(sz:Nat):=by
   rw[Pn];congr 1;lia
  rw[e];exact vL.mono ((Za s4).trans k5)
 .rintro Y H2 ⟨kv,as,rfl,s2,vP,has⟩;rw[M0,MI (by unfold aZ;rw[Lx,NM];exact LC _)]at has;refine⟨_,B?,_,B?,lnE rfl,λca wZ=>?_⟩;refine nwT wZ λH3 s3 e3=>?_;refine⟨_,B?,rl,_,B?,.inl ⟨Tb (s3 _ _ vP),λrt z6=>?_⟩⟩;refine nwT z6 λH4 s4 e4=>⟨lnE rfl,λr uX=>?_⟩;refine nwT uX λH5 s5 e5=>?_;have wY:=s3.trans (s4.trans s5);have wG:=s2.trans wY;have Hv:KsAt H5 (k3 n0 n1 n2) uJ:=hk.mono (Za wG);refine q r H5 wG ⟨ca,rt,as,e5,wG _ _ ek,Hv,wG _ _ ek,Hv,?_,s5 _ _ e4,Vc (λ_ _ e=>Zc (Za wY) e) has⟩;rw[At];exact(s4.trans s5) _ _ e3
theorem iu:FnOk P w K mg base CX0 4 T.g_32.f T.g_32.d ["names","kinds","rest"] d4:=by
 refine T.g_32.F.okA aY λuI A outer s H vs Q E hr h=>?_;obtain⟨na,ka,uJ,n0,n1,n2,rest,rfl,en,nm,ek,hk,Kd,q⟩:=h
 refine⟨_,(ae (ak 3 aY.nd (aw bA ad (aw bi (pv 2) (ay aS (bf (aa ad (aa ad ac))) (aw bi (aw bC (pv 2) ad) ad) (λ_ _=>rfl)))))
  (ae (ak 4 aY.nd (aw bA ad (aw bi (aw bC (pv 2) ad) (ay aS (bf (aa ad (aa ad ac))) (aw bi (aw bC (pv 2) ad) ad) (λ_ _=>rfl)))))
  (ae (ak 5 aY.nd (pv 3))
  (ae (dH MP (aI fY (aw bi (pv 5) (pv 4)) ad (aD _)) (ag (ak 5 aY.nd (aw bA (pv 5) (pv 3)))))
  (ae (ak 6 aY.nd gZ)
  (ae (bj (aI fY (pv 5) ad (aD _)) (ag (ak 6 aY.nd ad)) aQ)
  (ag (aq (av (aa (pcF T.g_31 (fu T) hr (aa (pv 0) (aa (pv 1) (aa (pv 3) ac)))) (aa (pcF T.g_31 (fu T) hr (aa (pv 0) (aa (pv 1) (aa (pv 4) ac)))) (aa (pv 6) (aa (pv 5) ac))))))))))))),?_⟩
 try dsimp only[uU,uH]
 have Ks:∃v:Int,atI [Vb 20,.int 6] (rest / 20%2)=A? (.int v)/\0<v/\v<=20:=by
  have z0:=Mx (rest / 20) (show(2:Int)≠0 by decide);have z1:=Md (rest / 20) (show(0:Int)<2 by decide);rcases(by lia:rest / 20%2=0\/rest / 20%2=1)with z|z <;> rw[z]
  .exact⟨20,B?,by decide,by decide⟩
  .exact⟨6,B?,by decide,by decide⟩
 refine hid λZZ kZ=>?_;obtain⟨v,hv,v0,v1⟩:=Ks;refine kZ ?_;refine⟨_,B?,lnE rfl,λw1 Kt=>?_⟩;refine nwT Kt λH1 s1 e1=>?_;refine⟨_,B?,_,_,B?,B?,⟨by decide,by decide⟩,_,_,B?,B?,(by show(0:Int)<2;decide),w1,_,_,.int v,B?,B?,Tb e1,hv,_,_,B?,B?,v0,_,_,B?,B?,?_⟩;dsimp only[ax];have o0:=Mx rest (show v≠0 by lia);have o1:=Md rest v0;refine hid λZZ kZ=>?_;obtain⟨one,ho,oa,ob⟩:∃one:Nat,1+rest%v=(one:Int)/\1<=one/\one<=20:=⟨(1+rest%v).toNat,by lia,by lia,by lia⟩;refine kZ ?_;rw[ho];refine⟨_,B?,_,_,B?,B?,⟨by decide,by decide⟩,lnE rfl,λw2 Aw=>?_⟩;refine nwT Aw λH2 s2 e2=>?_;refine⟨_,B?,_,_,B?,B?,⟨by decide,by decide⟩,_,_,B?,B?,(by show(0:Int)<2;decide),w2,_,_,.int v,B?,B?,Tb e2,hv,_,_,B?,B?,v0,_,_,B?,B?,?_⟩;dsimp only[ax];have t0:=Mx (rest / 40) (show v≠0 by lia);have t1:=Md (rest / 40) v0;refine hid λZZ kZ=>?_;obtain⟨two,ht,ta,tb⟩:∃two:Nat,1+rest / 40%v=(two:Int)/\1<=two/\two<=20:=⟨(1+rest / 40%v).toNat,by lia,by lia,by lia⟩;refine kZ ?_;rw[ht];have wg:=s1.trans s2;refine⟨_,B?,?_⟩;dsimp only[ax]
 refine⟨λmz Y H3=>Ex1 λ(j:Nat)=>An5 (Y=[A? (.ref na),A? (.ref ka),A? (.int rest),A? (.int (one:Nat)),A? (.int (two:Nat)),A? (.int ((one * (j+1):Nat):Int)),Ak]) (Sb H H3) (j<two) ((∀i<j,one * (i+1)%two≠0)) (mz=two - j),
  ⟨_,0,by rw[Nat.mul_one];rfl,wg,by lia,λi hi=>Wa hi (Nat.not_lt_zero _),B?⟩,?_⟩
 rintro mz Y H3 ⟨j,rfl,s3,hj,hf,rfl⟩;refine⟨_,B?,_,B?,_,_,B?,B?,by lia,_,_,B?,B?,_,B?,?_⟩;have em:((one * (j+1):Nat):Int)%((two:Nat):Int)=((one * (j+1)%two:Nat):Int):=(Pn _ _).symm;rw[em];refine bI (λc=>?_) (λc=>?_)
 .have c':=Va c;refine⟨λuE H'=>∃m',m'<two - j/\Ex1 λ(j:Nat)=>An5 (uE=[A? (.ref na),A? (.ref ka),A? (.int rest),A? (.int (one:Nat)),A? (.int (two:Nat)),A? (.int ((one * (j+1):Nat):Int)),Ak]) (Sb H H') (j<two) ((∀i<j,one * (i+1)%two≠0)) (m'=two - j),λuE H' h=>h,?_⟩
  have Ku:j+1<two:=by
   rcases Nat.lt_or_ge (j+1) two with z|z
   .exact z
   .have:j+1=two:=by lia
    rw[this,Nat.mul_mod_left]at c';lia
  refine⟨_,B?,_,B?,_,_,B?,B?,two - (j+1),by lia,j+1,?_,s3,Ku,λi hi=>?_,B?⟩
  .have:((one * (j+1):Nat):Int)+(one:Nat)=((one * (j+1+1):Nat):Int):=by
    rw[Nat.mul_succ one (j+1)];lia
   rw[this];rfl
  .rcases Nat.lt_or_ge i j with z|z
   .exact hf i z
   .rw[show i=j by lia];lia
 .have c':one * (j+1)%two=0:=by
   have:¬(0:Int)<((one * (j+1)%two:Nat):Int):=λz=>c (Ua z);lia
  have hp:=nt nm oa ob ta tb hj c' hf;generalize hM:one * (j+1)=M at hp |-;refine⟨_,B?,_,_,B?,B?,_,B?,?_⟩;refine bI (λc=>?_) (λc=>?_)
  .have:=Va c;rw[Sa (by lia)]at hp;refine⟨_,B?,_,B?,_,B?,na,ka,uJ,n0,n1,n2,one,B?,s3 _ _ en,nm,s3 _ _ ek,hk.mono (Za s3),oa,ob,λb1 H4 s4 uP=>?_⟩;have vy:=s3.trans s4;refine⟨_,B?,_,B?,_,B?,na,ka,uJ,n0,n1,n2,two,B?,vy _ _ en,nm,vy _ _ ek,hk.mono (Za vy),ta,tb,λb2 H5 s5 uQ=>?_⟩;refine⟨_,B?,_,B?,lnE rfl,λr uX=>?_⟩;refine nwT uX λH6 s6 e6=>?_;exact q r b1 b2 H6 (A? 2) _ _ _ _ _ _ _ (vy.trans (s5.trans s6)) e6 (uP.mono (Za (s5.trans s6))) (uQ.mono (Za s6)) hp (by unfold aZ;rw[Lx,NM];exact tb)
  .have:¬(20:Int)<((M:Nat):Int):=λz=>c (Ua z);rw[Ra (by lia)]at hp;refine⟨_,B?,_,B?,_,B?,na,ka,uJ,n0,n1,n2,one,B?,s3 _ _ en,nm,s3 _ _ ek,hk.mono (Za s3),oa,ob,λb1 H4 s4 uP=>?_⟩;have vy:=s3.trans s4;refine⟨_,B?,_,B?,_,B?,na,ka,uJ,n0,n1,n2,two,B?,vy _ _ en,nm,vy _ _ ek,hk.mono (Za vy),ta,tb,λb2 H5 s5 uQ=>?_⟩;refine⟨_,B?,_,B?,lnE rfl,λr uX=>?_⟩;refine nwT uX λH6 s6 e6=>?_;exact q r b1 b2 H6 Ak _ _ _ _ _ _ _ (vy.trans (s5.trans s6)) e6 (uP.mono (Za (s5.trans s6))) (uQ.mono (Za s6)) hp (by unfold aZ;rw[Lx,NM];exact tb)
namespace G
inductive iU(tp:Ls)(vs:List V)(H:Hp)(Q:VK)(_E:XK):Prop
 |mk (b1 b2 wI wJ vU v8 wK xh v9 wd:Ls) (vV u7 vb u9 vW vc:List Ls) (ins mid outs:List (LL×Int)) (S1 S2:Int) (uB uA:Th) (rows1 f':List (List Th)):vs=[.ref b1,.ref b2]->BookAt H ins mid uB rows1 b1 wI wJ vU v8 vV u7 vb->BookAt H mid outs uA f' b2 wK xh v9 wd u9 vW vc->JoinW ins mid outs S1 S2 uB uA rows1 f'->ki mid uB uA rows1 f'->TabSt H tp (ndPos nd_joined) ndQ->(∀(r fh rl:Ls)(xv:List Ls)(H':Hp),SameT tp H H'->TabSt H' tp (ndPos nd_joined) ndQ->H' r=A? (.tup [.ref wI,.ref xh,.ref fh,.ref rl])->H' rl=A? (.tup (xv.map Rb))->xv.length=(aU (joR mid f' rows1) (joH mid f' uA uB)).length->Q (.ref r) H')->iU tp vs H Q _E
theorem ok_joined(L:Lam mg base T.g_23.tc T.g_23.tp):FnOk P w K mg base CX0 13 T.g_23.f T.g_23.d ["first","second"] (iU T.g_23.tp) :=
 (ok_joinedX T L).x0 λvs H Q E h=>by
  obtain⟨b1,b2,wI,wJ,vU,v8,wK,xh,v9,wd,vV,u7,vb,u9,vW,vc,ins,mid,outs,S1,S2,uB,uA,rows1,f',rfl,uP,uQ,J,jt,vx,q⟩:=h;exact⟨b1,b2,wI,wJ,wK,.ref vU,.ref v8,.ref xh,.ref v9,.ref wd,u7,u9,mid,mid,B?,uP.bk,uP.outE,uP.outK,uQ.bk,uQ.inE,uQ.inK,vx,λz=>Wa rfl z,λ_=>⟨xh,vU,v8,v9,wd,vV,vb,vW,vc,ins,outs,S1,S2,uB,uA,rows1,f',uP,uQ,J,λ_=>q,λz=>Wa ⟨jt.2,jt.3⟩ z,λz=>Wa jt.1 z⟩⟩
end G
inductive cy(vs:List V)(H:Hp)(Q:VK)(_E:XK):Prop
 |mk (ka:Ls) (uJ:List Ls) (n0 n1 n2:LL) (rest:Int):vs=[.ref ka,.int rest]->H ka=A? (.tup (uJ.map Rb))->KsAt H (k3 n0 n1 n2) uJ->N3 n0 n1 n2->n2≠LI "q"->(∀(r:Ls)(ks:List (LL×Int))(as:List Ls)(H':Hp),Sb H H'->H' r=A? (.tup (as.map Rb))->KsAt H' ks as->ks≠k3 n0 n1 n2->ks.length<=4->Q (.ref r) H')->cy  vs H Q _E
theorem dY:FnOk P w K mg base CX0 2 T.g_33.f T.g_33.d ["kinds","rest"] cy:=by
 refine T.g_33.F.okA cu λuI A outer s H vs Q E hr h=>?_;obtain⟨ka,uJ,n0,n1,n2,rest,rfl,ek,hk,nm,hq,q⟩:=h
 refine⟨_,(ae (ak 2 cu.nd (aw bi (pv 1) ad))
  (ae (bj (aI bM (pv 2) ad (aD _)) (ag (aq (av (aa (ay aA (pv 0) ad (λ_ _=>rfl)) (aa (ay aA (pv 0) ad (λ_ _=>rfl)) (aa (ay aA (pv 0) ad (λ_ _=>rfl)) ac)))))) aQ)
  (ae (bj (aI bM (pv 2) ad (aD _)) (ag (aq (av (aa (ay aA (pv 0) ad (λ_ _=>rfl)) (aa (ay aA (pv 0) ad (λ_ _=>rfl)) (aa (av (aa bG (aa ad ac))) ac)))))) aQ)
  (ae (bj (aI bM (pv 2) ad (aD _)) (ag (aq (av (aa (ay aA (pv 0) ad (λ_ _=>rfl)) (aa (ay aA (pv 0) ad (λ_ _=>rfl)) (aa (av (aa (ay aA (ay aA (pv 0) ad (λ_ _=>rfl)) ad (λ_ _=>rfl)) (aa ad ac))) ac)))))) aQ)
  (ag (aq (aw lV (pv 0) (av (aa (av (aa bG (aa ad ac))) ac))))))))),?_⟩
 try dsimp only[uU,uH]
 refine hid λZZ kZ=>?_;obtain⟨a,b,c,rfl,h0,h1,h2⟩:=jX hk;refine kZ ?_;refine⟨_,B?,_,_,B?,B?,(by show(0:Int)<4;decide),?_⟩;dsimp only[ax];generalize rest%4=way;refine⟨_,B?,B?,_,B?,?_⟩;refine bI (λc0=>?_) (λc0=>?_)
 .refine⟨_,B?,ka,_,1,.ref b,B?,B?,Ub ek,at1,_,B?,ka,_,0,.ref a,B?,B?,Ub ek,at0,_,B?,ka,_,2,.ref c,B?,B?,Ub ek,at2,lnE rfl,λr uX=>?_⟩;refine nwT uX λH1 s1 e1=>q r [(n1,1),(n0,0),(n2,2)] [b,a,c] H1 s1 e1 (.cons (s1 _ _ h1) (.cons (s1 _ _ h0) (.cons (s1 _ _ h2) .nil))) (λz=>?_) (by show 3<=4;decide);exact nm.d01 (P0 (NH z).1).1.symm
 refine⟨_,B?,B?,_,B?,?_⟩;refine bI (λc1=>?_) (λc1=>?_)
 .refine⟨_,B?,ka,_,0,.ref a,B?,B?,Ub ek,at0,_,B?,ka,_,1,.ref b,B?,B?,Ub ek,at1,lnE rfl,λp hp=>?_⟩;refine nwT hp λH1 s1 e1=>⟨lnE rfl,λr uX=>?_⟩;refine nwT uX λH2 s2 e2=>q r [(n0,0),(n1,1),(LI "q",2)] [a,b,p] H2 (s1.trans s2) e2 (.cons ((s1.trans s2) _ _ h0) (.cons ((s1.trans s2) _ _ h1) (.cons (s2 _ _ e1) .nil))) (λz=>?_) (by show 3<=4;decide);have z2:=(NH (NH (NH z).2).2).1;exact hq (P0 z2).1.symm
 refine⟨_,B?,B?,_,B?,?_⟩;refine bI (λc2=>?_) (λc2=>?_)
 .refine⟨_,B?,ka,_,0,.ref a,B?,B?,Ub ek,at0,_,B?,ka,_,1,.ref b,B?,B?,Ub ek,at1,_,B?,ka,_,2,.ref c,B?,B?,Ub ek,at2,c,_,0,.str n2,B?,B?,Ub h2,at0,lnE rfl,λp hp=>?_⟩;refine nwT hp λH1 s1 e1=>⟨lnE rfl,λr uX=>?_⟩;refine nwT uX λH2 s2 e2=>q r [(n0,0),(n1,1),(n2,3)] [a,b,p] H2 (s1.trans s2) e2 (.cons ((s1.trans s2) _ _ h0) (.cons ((s1.trans s2) _ _ h1) (.cons (s2 _ _ e1) .nil))) (λz=>?_) (by show 3<=4;decide);have z2:=(NH (NH (NH z).2).2).1;exact Wa (P0 z2).2 (by decide)
 .refine⟨_,B?,lnE rfl,λp hp=>?_⟩;refine nwT hp λH1 s1 e1=>⟨lnE rfl,λp2 wq=>?_⟩;refine nwT wq λH2 s2 e2=>?_;refine⟨ka,p2,_,_,B?,B?,Ub ((s1.trans s2) _ _ ek),Ub e2,λz=>(nomatch z),lnE rfl,λz=>(nomatch z),λ_ r uX=>?_⟩;have wg:=s1.trans s2;refine nwT uX λH3 s3 e3=>q r [(n0,0),(n1,1),(n2,2),(LI "q",0)] [a,b,c,p] H3 (wg.trans s3) e3 (.cons ((wg.trans s3) _ _ h0) (.cons ((wg.trans s3) _ _ h1) (.cons ((wg.trans s3) _ _ h2) (.cons ((s2.trans s3) _ _ e1) .nil)))) (λz=>?_) (by show 4<=4;decide);have:=Xa NU z;cases this
inductive dM(vs:List V)(H:Hp)(Q:VK)(_E:XK):Prop
 |mk (b ka oa ha ra:Ls) (uJ vt vj:List Ls) (n0 n1 n2:LL) (ks:List (LL×Int)) (head:Th) (rows:List (List Th)):vs=[.ref b,.ref ka,.ref oa]->BookAt H (k3 n0 n1 n2) (k3 n0 n1 n2) head rows b ka ka ha ra uJ uJ vj->(∀row∈rows,row.length=3)->rows.length<=1000->H oa=A? (.tup (vt.map Rb))->KsAt H ks vt->ks.length<=4->(∀(r:Ls)(w2 w3 w4:V)(H':Hp),Sb H H'->H' r=A? (.tup [.ref oa,w2,w3,w4])->Q (.ref r) H')->dM  vs H Q _E
theorem gR:FnOk P w K mg base CX0 20 T.g_34.f T.g_34.d ["second","kinds","other"] dM:=by
 refine T.g_34.F.okA bH λuI A outer s H vs Q E hr h=>?_;obtain⟨b,ka,oa,ha,ra,uJ,vt,vj,n0,n1,n2,ks,head,rows,rfl,bk,h3,hn,eo,ho,Lp,q⟩:=h
 refine⟨_,(ae (ak 3 bH.nd (bf ac))
  (ae (cO MP rfl (ie (ay aA (pv 0) ad (λ_ _=>rfl))) (pgN 4 bH.nd) (ae (ak 5 bH.nd (aT (gY (pE hr) rfl) rfl T.n_1 PyProof.Rows.boot_dict (aa (bY (N:=["k","kinds","row"]) (js:=[Ak,A? 1,A? 4]) (g:=(ax 0)) (tt:=bt) (te:=(nA (aO (tOp (jw K) (bo 1) (bo 0)) (aO (tOp (jw K) (bo 2) (bo 0)) cM)))) rfl (cE rfl (by decide +kernel) (by decide +kernel) rfl rfl rfl) (bS rfl T.n_7 (aa ad ac)) (λ_ _ _ _ _ _=>(pgN 0 t9)) (br rfl) (λ_ _ _ _ _ _=>bx) (λ_ _ _ _ _ _=>(av (aa (ay aA (pv 1) (pv 0) (λ_ _=>rfl)) (aa (ay aA (pv 2) (pv 0) (λ_ _=>rfl)) ac))))) ac)))
  (ag (bq (cG LY Mu Mt aV (pv 3) (aa (aT aH rfl T.n_10 Mh (aa (bY (N:=["kind","known","kinds"]) (js:=[Ak,A? 5,A? 1]) (g:=(ax 0)) (tt:=bt) (te:=(oO (bo 1) (bo 0) (nA (aO (tOp (jw K) (tOp (jw K) (bo 2) (tC (.int 0))) (tC (.int 0))) cM)))) rfl (cE rfl (by decide +kernel) (by decide +kernel) rfl rfl rfl) (ie (pv 2)) (λ_ _ _ _ _ _=>(pgN 0 tQ)) (br rfl) (λ_ _ _ _ _ _=>bx) (λ_ _ _ _ _ _=>(n4 (oq hr) (pv 1) (pv 0) (av (aa (ay aA (ay aA (pv 2) ad (λ_ _=>rfl)) ad (λ_ _=>rfl)) ac)) ⟨B?,B?,B?,B?⟩))) ac)) ac))))))
  (ag (aq (av (aa (pv 2) (aa (ay aA (pv 0) ad (λ_ _=>rfl)) (aa (ay aA (pv 0) ad (λ_ _=>rfl)) (aa (aT aH rfl T.n_10 Mh (aa (pv 3) ac)) ac))))))))),?_⟩
 try dsimp only[uU,uH]
 refine hid λZZ kZ=>?_;obtain⟨a,b1,c,rfl,k0,k1,k2⟩:=jX bk.inK;refine kZ ?_;have ek:=bk.inE;have xg:rows.length=vj.length:=L3 bk.rw;have Kv:ks.length=vt.length:=L3 ho;refine⟨lnE rfl,λrl Ci=>?_⟩;dsimp only[ax];refine nwT Ci λH1 s1 e1=>?_;refine⟨_,B?,b,_,3,.ref ra,B?,B?,Ub (s1 _ _ bk.bk),bT (j:=3) rfl,ra,B?,⟨_,Ub (s1 _ _ bk.rl)⟩,?_⟩
 refine pS (K:=K) (a:=ra) (xs:=vj.map Rb) (λi Y H2=>Ex3 λ(c4 c5:Option V)(as:List Ls)=>An4 (Y=[A? (.ref b),A? (.ref ka),A? (.ref oa),A? (.ref rl),c4,c5]) (Sb H H2) (H2 rl=A? (.lst (as.map Rb))) (as.length=i))
  ⟨Ak,Ak,[],rfl,s1,e1,rfl⟩ (λi Y H2 _⟨_,_,_,_,s2,_,_⟩=>Ub (s2 _ _ bk.rl)) ?_ ?_
 .rintro i x Y H2 hx ⟨c4,c5,as,rfl,s2,vP,has⟩;refine hid λZZ kZ=>?_;obtain⟨rwa,rfl,C4⟩:=bh hx;obtain⟨row,vg,C9,Kw,Ax⟩:=Sd bk.rw C4;have Kx:row∈rows:=L9 vg
  have hi:i<1000:=by
   have:=(glE C4);lia
  have EB:row.length=C9.length:=Ax.length.symm;have Ay:=h3 row Kx
  obtain⟨x0,x1,x2,rfl⟩:∃x0 x1 x2,C9=[x0,x1,x2]:=by
   match C9,(show C9.length=3 by lia)with
   | [x0,x1,x2],_=>exact⟨x0,x1,x2,B?⟩
  refine kZ ?_;dsimp only[ax];refine⟨3,B?,by decide,by decide,cW (F:=λH(z:List Key×V)p=>PrA H z p) (xs:=[Vb 0,Vb 1,Vb 2]) [(kdK (n0,0),.ref x0),(kdK (n1,1),.ref x1),(kdK (n2,2),.ref x2)] (λH1 H2 z p kt h=>PrA.mono kt h) rfl (by decide) (λi Hx sx hi=>hi) (λHx sx=>LC _) (λi Hx x Hy sx hi hy=>⟨hy.1,?_⟩) (λi y z Hx R W' hy uZ sx hR=>?_) (λD H3 F1 hD s3 eD wH=>?_)⟩
  .rw[hy.2];have BY:i<3:=hi
   match i,BY with
   |0,_=>rfl
   |1,_=>rfl
   |2,_=>rfl
  .have yT:=s2.trans sx;have F2:=yT _ _ ek;have hex:=yT _ _ Kw
   match i,hy,uZ with
   | 0,hy,uZ =>
     cases hy;cases uZ;refine⟨_,B?,_,B?,ka,_,_,.ref a,B?,B?,Ub F2,at0,_,B?,_,B?,rwa,_,_,.ref x0,B?,B?,Ub hex,at0,lnE rfl,λp hp=>hR _ p (aj hp _) ⟨a,af,(yT.trans (aj hp _)) _ _ k0⟩⟩
   | 1,hy,uZ =>
     cases hy;cases uZ;refine⟨_,B?,_,B?,ka,_,_,.ref b1,B?,B?,Ub F2,at1,_,B?,_,B?,rwa,_,_,.ref x1,B?,B?,Ub hex,at1,lnE rfl,λp hp=>hR _ p (aj hp _) ⟨b1,af,(yT.trans (aj hp _)) _ _ k1⟩⟩
   | 2,hy,uZ =>
     cases hy;cases uZ;refine⟨_,B?,_,B?,ka,_,_,.ref c,B?,B?,Ub F2,at2,_,B?,_,B?,rwa,_,_,.ref x2,B?,B?,Ub hex,at2,lnE rfl,λp hp=>hR _ p (aj hp _) ⟨c,af,(yT.trans (aj hp _)) _ _ k2⟩⟩
   |j+3,hy,uZ=>simp at hy
  refine⟨D,F1,_,B?,eD,wH,by show 3<=10000;decide,λkn Ky=>?_⟩;refine nwT Ky λH4 s4 e4=>?_
  have zZ:=fS [(kdK (n0,0),Rb x0),(kdK (n1,1),Rb x1),(kdK (n2,2),Rb x2)] [] (λk v hv=>by cases hv) (λp hp=>by
   simp at hp;rcases hp with rfl|rfl|rfl <;> exact⟨_,B?⟩)
  have vy:=s2.trans (s3.trans s4);dsimp only[ax];refine⟨_,B?,.inl ⟨B?,_,Tb ((s3.trans s4) _ _ vP)⟩,_,B?,oa,B?,⟨_,Ub (vy _ _ eo)⟩,cW (F:=λ_ _ _=>True) (xs:=vt.map Rb) ks (λH1 H2 z p kt h=>trivial) (by rw[Lx];exact Kv) (by rw[Lx];lia) (λi Hx sx hi=>⟨_,_,Ub (sx _ _ (vy _ _ eo)),LA hi⟩) (λHx sx=>⟨_,Ub (sx _ _ (vy _ _ eo)),LC _⟩) (λi Hx x Hy sx hi hy=>⟨hy.1,hy.2 _ (Ub (sx _ _ (vy _ _ eo)))⟩) (λi x z Hx R W' hx uZ sx hR=>?_) (λD2 H5 Lq Kc s5 zX Kz=>?_)⟩
  .obtain⟨ua,rfl,yM⟩:=bh hx;obtain⟨u,hu,z8⟩:=Sd ho yM;have yT:=vy.trans sx;refine⟨_,B?,kn,B?,.inr ⟨_,.inl (sx _ _ e4)⟩,_,B?,_,B?,ka,_,0,.ref a,B?,B?,Ub (yT _ _ ek),at0,a,_,0,.str n0,B?,B?,Ub (yT _ _ k0),at0,lnE rfl,λp hp=>?_⟩;have sp:=aj hp (.tup [.str n0]);refine⟨_,.inr ⟨_,kdK u,ua,.inl ((sx.trans sp) _ _ e4),B?,(yT.trans sp) _ _ z8,B?⟩,?_⟩;cases e:bu (dS [] [(kdK (n0,0),Rb x0),(kdK (n1,1),Rb x1),(kdK (n2,2),Rb x2)]) (kdK u)with
   |none=>exact hR _ p sp trivial
   | some v =>
     obtain⟨va,rfl⟩:=zZ _ _ e;exact hR _ va sp trivial
  refine⟨D2,_,B?,.inl ⟨Tb zX,λtp wW=>?_⟩⟩;refine nwT wW λH6 s6 e6=>?_;have yS:=(s3.trans s4).trans (s5.trans s6);have F3:=yS _ _ vP;refine⟨rl,_,_,B?,B?,F3,lbE (by lia),?_⟩;refine⟨_,_,as++[tp],B?,aF (s2.trans yS) Ci,by rw[af,L6];exact rfl,by rw[LR,has];rfl⟩
 .rintro Y H2 ⟨c4,c5,as,rfl,s2,vP,has⟩;refine⟨_,B?,_,B?,b,_,1,.ref ka,B?,B?,Ub (s2 _ _ bk.bk),at1,_,B?,b,_,2,.ref ha,B?,B?,Ub (s2 _ _ bk.bk),at2,_,B?,rl,_,B?,.inl ⟨Tb vP,λrt z6=>?_⟩⟩;refine nwT z6 λH3 s3 e3=>⟨lnE rfl,λr uX=>?_⟩;exact nwT uX λH4 s4 e4=>q r _ _ _ H4 (s2.trans (s3.trans s4)) e4
inductive dk(tp:Ls)(vs:List V)(H:Hp)(Q:VK)(_E:XK):Prop
 |mk (b1 b2 wI wJ wK:Ls) (v3 v4 w2 w3 w4:V) (u7 u9:List Ls) (uG vz:List (LL×Int)):vs=[.ref b1,.ref b2]->H b1=A? (.tup [.ref wI,.ref wJ,v3,v4])->H wJ=A? (.tup (u7.map Rb))->KsAt H uG u7->H b2=A? (.tup [.ref wK,w2,w3,w4])->H wK=A? (.tup (u9.map Rb))->KsAt H vz u9->TabSt H tp (G.ndPos G.nd_joined) G.ndQ->(uG≠vz->∀(l:Ls)(H':Hp),SameT tp H H'->TabSt H' tp (G.ndPos G.nd_joined) G.ndQ->H' l=A? (.lst ([AG,AH,AH,AH,AG].map V.bl))->Q (.ref l) H')->(uG=vz->∃(xh vU v8 v9 wd:Ls)(vV vb vW vc:List Ls)(ins outs:List (LL×Int))(S1 S2:Int)(uB uA:Th)(rows1 f':List (List Th)),BookAt H ins uG uB rows1 b1 wI wJ vU v8 vV u7 vb/\BookAt H uG outs uA f' b2 wK xh v9 wd u9 vW vc/\JoinW ins uG outs S1 S2 uB uA rows1 f'/\(ki uG uB uA rows1 f'->∀H',SameT tp H H'->TabSt H' tp (G.ndPos G.nd_joined) G.ndQ->Q .non H')/\((¬(Small (joH uG f' uA uB)/\∀s∈aU (joR uG f' rows1) (joH uG f' uA uB),∀t∈joR uG f' rows1 s,Small t))->∀(l:Ls)(H':Hp),SameT tp H H'->TabSt H' tp (G.ndPos G.nd_joined) G.ndQ->H' l=A? (.lst ([AH,AG,AH,AH,AG].map V.bl))->Q (.ref l) H')/\(¬(aU (joR uG f' rows1) (joH uG f' uA uB)).length<=20->∀(l:Ls)(H':Hp),SameT tp H H'->TabSt H' tp (G.ndPos G.nd_joined) G.ndQ->H' l=A? (.lst ([AH,AH,AG,AH,AG].map V.bl))->Q (.ref l) H'))->dk tp vs H Q _E
theorem dl(L:Lam mg base T.g_23.tc T.g_23.tp):FnOk P w K mg base CX0 14 T.g_35.f T.g_35.d ["first","second"] (dk T.g_23.tp):=by
 refine T.g_35.F.okA bB λuI A outer s H vs Q E hr h=>?_;obtain⟨b1,b2,wI,wJ,wK,v3,v4,w2,w3,w4,u7,u9,uG,vz,rfl,B7,Fu,Fv,B8,Fw,Fx,vx,qn,qs⟩:=h
 refine⟨_,(ae (ak 2 bB.nd gZ)
  (ae (m9 (Ch:=T.e_BookError) (i:=3) (tb:=λR=>(nQ (oK (G.sp_joinedX T.e_NotOne T.e_Great T.e_Many T.g_23.tp) [] R (aO (bo 0) (aO (bo 1) cM))))) (ts:=λea C=>(lK (mM (sj (aO (tCB (nu K ea C) (aO (bo 3) (aO (tC (.ref T.e_NotOne)) cM))) (aO (tCB (nu K ea C) (aO (bo 3) (aO (tC (.ref T.e_Great)) cM))) (aO (tCB (nu K ea C) (aO (bo 3) (aO (tC (.ref T.e_Many)) cM))) (aO (tCB (nu K ea C) (aO (bo 3) (aO (tC (.ref T.e_NoBook)) cM))) cM))))) (ax 2)) (nQ (tBM K "list" (mw) (bo 2) (aO (tCB (nu K ea C) (aO (bo 3) (aO (tC (.ty "ValueError")) cM))) cM))))) (λZ R=>(ag (bq (oY (G.ok_joinedX T L) (hr.mono (by first|decide|lia)) rfl T.g_23.m T.g_23.F.kp T.g_23.b .nil (aa (pv 0) (aa (pv 1) ac)))))) (λea oe C yl hX=>(ae (ak 2 bB.nd (bf (aa (aN (dz cU yl hX) rfl T.n_2 Na (aa (pv 3) (aa (bz (v:=.ref T.e_NotOne) rfl T.x_NotOne rfl) ac))) (aa (aN (dz cU yl hX) rfl T.n_2 Na (aa (pv 3) (aa (bz (v:=.ref T.e_Great) rfl T.x_Great rfl) ac))) (aa (aN (dz cU yl hX) rfl T.n_2 Na (aa (pv 3) (aa (bz (v:=.ref T.e_Many) rfl T.x_Many rfl) ac))) (aa (aN (dz cU yl hX) rfl T.n_2 Na (aa (pv 3) (aa (bz (v:=.ref T.e_NoBook) rfl T.x_NoBook rfl) ac))) ac))))))
  (ag (bq (cG LY Mu Mt aV (pv 2) (aa (aN (dz cU yl hX) rfl T.n_2 Na (aa (pv 3) (aa (ql (v:=.ty "ValueError") rfl T.n_0 PyProof.Rows.Boot.«ValueError» rfl) ac))) ac)))))) bB.nd rfl rfl rfl rfl rfl T.x_BookError)
  (ag (aq (pv 2))))),?_⟩
 try dsimp only[uU,uH]
 dsimp only[mM,tC,ax,lK];refine nb (λuS c H2=>An2 (uS=[A? (.ref b1),A? (.ref b2),A? .non,Ak]) (Ex1 λ(bs:List Bool)=>An2 ((∀(l:Ls)(H':Hp),Sb H2 H'->H' l=A? (.lst (bs.map V.bl))->Q (.ref l) H')) (((c=.ref T.e_NotOne/\bs=[AG,AH,AH,AH,AG])\/(c=.ref T.e_Great/\bs=[AH,AG,AH,AH,AG])\/(c=.ref T.e_Many/\bs=[AH,AH,AG,AH,AG]))))) (λR' hR=>?_) ?_
 .refine⟨_,B?,_,B?,b1,b2,wI,wJ,wK,v3,v4,w2,w3,w4,u7,u9,uG,vz,B?,B7,Fu,Fv,B8,Fw,Fx,vx,λhm H2 s2 t2=>?_,λhm=>?_⟩
  .exact hR _ _ _ ⟨rfl,_,λl H' s3 el=>qn hm l H' (s2.trans (s3.t _)) (t2.mono s3) el,.inl ⟨rfl,rfl⟩⟩
  .refine hid λZZ kZ=>?_;obtain⟨xh,vU,v8,v9,wd,vV,vb,vW,vc,ins,outs,S1,S2,uB,uA,rows1,f',uP,uQ,J,q,qg,qm⟩:=qs hm;refine kZ ?_;refine⟨xh,vU,v8,v9,wd,vV,vb,vW,vc,ins,outs,S1,S2,uB,uA,rows1,f',uP,uQ,J,λjt r fh rl xv H2 s2 t2 _ _ _=>⟨_,B?,q jt H2 s2 t2⟩,λhz H2 s2 t2=>?_,λhz H2 s2 t2=>?_⟩
   .exact hR _ _ _ ⟨rfl,_,λl H' s3 el=>qg hz l H' (s2.trans (s3.t _)) (t2.mono s3) el,.inr (.inl ⟨rfl,rfl⟩)⟩
   .exact hR _ _ _ ⟨rfl,_,λl H' s3 el=>qm hz l H' (s2.trans (s3.t _)) (t2.mono s3) el,.inr (.inr ⟨rfl,rfl⟩)⟩
 .rintro uS c H2 ⟨rfl,bs,hq,hc⟩;rcases hc with⟨rfl,rfl⟩|⟨rfl,rfl⟩|⟨rfl,rfl⟩
  .refine⟨_,B?,⟨T.X_NotOne,T.hit_NotOne_BookError⟩,λea Hw=>?_⟩;refine⟨_,B?,_,_,B?,T.kit_NotOne_NotOne,_,B?,_,_,B?,T.kit_NotOne_Great,_,B?,_,_,B?,T.kit_NotOne_Many,_,B?,_,_,B?,T.kit_NotOne_NoBook,lnE rfl,λla zh=>?_⟩;refine nwT zh λH3 s3 e3=>?_;refine⟨_,B?,.inl ⟨B?,_,Tb e3⟩,_,B?,_,_,B?,T.kit_NotOne_ValueError,la,_,_,B?,B?,e3,lnE rfl,?_⟩;exact⟨_,B?,hq la _ (aF s3 zh) af⟩
  .refine⟨_,B?,⟨T.X_Great,T.hit_Great_BookError⟩,λea Hw=>?_⟩;refine⟨_,B?,_,_,B?,T.kit_Great_NotOne,_,B?,_,_,B?,T.kit_Great_Great,_,B?,_,_,B?,T.kit_Great_Many,_,B?,_,_,B?,T.kit_Great_NoBook,lnE rfl,λla zh=>?_⟩;refine nwT zh λH3 s3 e3=>?_;refine⟨_,B?,.inl ⟨B?,_,Tb e3⟩,_,B?,_,_,B?,T.kit_Great_ValueError,la,_,_,B?,B?,e3,lnE rfl,?_⟩;exact⟨_,B?,hq la _ (aF s3 zh) af⟩
  .refine⟨_,B?,⟨T.X_Many,T.hit_Many_BookError⟩,λea Hw=>?_⟩;refine⟨_,B?,_,_,B?,T.kit_Many_NotOne,_,B?,_,_,B?,T.kit_Many_Great,_,B?,_,_,B?,T.kit_Many_Many,_,B?,_,_,B?,T.kit_Many_NoBook,lnE rfl,λla zh=>?_⟩;refine nwT zh λH3 s3 e3=>?_;refine⟨_,B?,.inl ⟨B?,_,Tb e3⟩,_,B?,_,_,B?,T.kit_Many_ValueError,la,_,_,B?,B?,e3,lnE rfl,?_⟩;exact⟨_,B?,hq la _ (aF s3 zh) af⟩
inductive f8(tp:Ls)(vs:List V)(H:Hp)(Q:VK)(_E:XK):Prop
 |mk (na:Ls) (n0 n1 n2:LL) (cell:Int):vs=[.ref na,.int cell]->H na=A? (.lst [.str n0,.str n1,.str n2])->N3 n0 n1 n2->n2≠LI "q"->TabSt H tp (G.ndPos G.nd_joined) G.ndQ->(∀H',SameT tp H H'->TabSt H' tp (G.ndPos G.nd_joined) G.ndQ->Q (.bl AG) H')->f8 tp vs H Q _E
theorem jV(L:Lam mg base T.g_23.tc T.g_23.tp):FnOk P w K mg base CX0 104 T.g_36.f T.g_36.d ["names","cell"] (f8 T.g_23.tp):=by
 refine T.g_36.F.okA aJ λuI A outer s H vs Q E hr h=>?_;obtain⟨na,n0,n1,n2,cell,rfl,en,nm,G2,vx,q⟩:=h
 refine⟨_,(ae (ak 2 aJ.nd (aT aH rfl T.n_10 Mh (aa (bY (N:=["k","names"]) (js:=[Ak,A? 0]) (g:=(ax 0)) (tt:=bt) (te:=(nA (aO (tOp (sP K) (bo 1) (bo 0)) (aO (bo 0) cM)))) rfl (cE rfl (by decide +kernel) (by decide +kernel) rfl rfl rfl) (bS rfl T.n_7 (aa ad ac)) (λ_ _ _ _ _ _=>(pgN 0 sT)) (br rfl) (λ_ _ _ _ _ _=>bx) (λ_ _ _ _ _ _=>(av (aa (ay aS (pv 1) (pv 0) (λ_ _=>rfl)) (aa (pv 0) ac))))) ac)))
  (ae (ak 3 aJ.nd (pcF T.g_24 (jf T) hr (aa (pv 1) (aa ad ac))))
  (ae (cJ (pcF T.g_30 (im T) hr (aa (pv 0) (aa (pv 2) (aa (aw bC (pv 3) ad) ac)))) (cK rfl (aB (pgN 4 aJ.nd) (aB (pgN 5 aJ.nd) (aB (pgN 6 aJ.nd) (aB (pgN 7 aJ.nd) bW))))))
  (ae (bj (aI bM (aw bi (pv 3) ad) ad (aD _)) (ag (cJ (pcF T.g_32 (iu T) hr (aa (pv 0) (aa (pv 2) (aa (aw bC (pv 3) ad) ac)))) (cK rfl (aB (pgN 4 aJ.nd) (aB (pgN 5 aJ.nd) (aB (pgN 6 aJ.nd) (aB (pgN 7 aJ.nd) bW))))))) aQ)
  (ae (bj (aI bM (aw bi (aw bC (pv 3) ad) ad) ad (aD _)) (ae (ak 5 aJ.nd (pcF T.g_34 (gR T) hr (aa (pv 5) (aa (pv 2) (aa (pcF T.g_33 (dY T) hr (aa (pv 2) (aa (aw bC (pv 3) ad) ac))) ac)))))
  (ag (ak 6 aJ.nd ad))) aQ)
  (ae (bj (aI pq (pv 6) gZ (aD _)) (ag (aq (bU (pA (lA hr)) (pcF T.g_35 (dl T L) hr (aa (pv 4) (aa (pv 5) ac))) (bf (aa (bU bM (pv 6) ad (aD _)) (aa (bU bM (pv 6) ad (aD _)) (aa (bU bM (pv 6) ad (aD _)) (aa l5 (aa l5 ac)))))) (aD _)))) aQ)
  (ag (aq (lw (bU rW (pcF T.g_35 (dl T L) hr (aa (pv 4) (aa (pv 5) ac))) gZ (aD _)) (nF (bU bM (pcF T.g_15 (jj T) hr (aa (pcF T.g_23.1 (G.ok_joined T L) hr (aa (pv 4) (aa (pv 5) ac))) ac)) (pv 7) (aD _)))))))))))),?_⟩
 try dsimp only[uU,uH]
 refine⟨3,B?,by decide,by decide,cW (F:=λH(z:LL×Int)p=>KAt H z p) (xs:=[Vb 0,Vb 1,Vb 2]) (k3 n0 n1 n2) (λH1 H2 z p kt h=>kt _ _ h) rfl (by decide) (λi Hx sx hi=>hi) (λHx sx=>LC _) (λi Hx x Hy sx hi hy=>⟨hy.1,?_⟩) (λi y z Hx R W' hy uZ sx hR=>?_) (λD H1 uJ hD s1 eD wH=>?_)⟩
 .rw[hy.2];have BY:i<3:=hi
  match i,BY with
  |0,_=>rfl
  |1,_=>rfl
  |2,_=>rfl
 .have yD:=sx _ _ en
  match i,hy,uZ with
  | 0,hy,uZ =>
    cases hy;cases uZ;exact⟨_,B?,_,B?,na,_,_,.str n0,B?,B?,Tb yD,at0,_,B?,lnE rfl,λp hp=>hR _ p (aj hp _) af⟩
  | 1,hy,uZ =>
    cases hy;cases uZ;exact⟨_,B?,_,B?,na,_,_,.str n1,B?,B?,Tb yD,at1,_,B?,lnE rfl,λp hp=>hR _ p (aj hp _) af⟩
  | 2,hy,uZ =>
    cases hy;cases uZ;exact⟨_,B?,_,B?,na,_,_,.str n2,B?,B?,Tb yD,at2,_,B?,lnE rfl,λp hp=>hR _ p (aj hp _) af⟩
  |j+3,hy,uZ=>simp at hy
 refine⟨D,_,B?,.inl ⟨Tb eD,λka zU=>?_⟩⟩;dsimp only[ax];refine nwT zU λH2 s2 ek=>?_;have hk:KsAt H2 (k3 n0 n1 n2) uJ:=Vc (λ_ _ e=>s2 _ _ e) wH;have wg:=s1.trans s2;refine⟨_,B?,cell,3,B?,by decide,by decide,λrest r0 r1=>?_⟩;dsimp only[ax];refine⟨_,B?,_,B?,_,B?,_,_,B?,B?,⟨by decide,by decide⟩,na,ka,uJ,n0,n1,n2,rest / 21,B?,wg _ _ en,nm,ek,hk,by lia,λr b1 b2 H3 due many S1 S2 uB uA rows1 f' s3 er uP uQ hp Aa=>?_⟩;refine⟨r,_,B?,Ub er,B?,_,_,B?,_,_,B?,_,_,B?,_,_,B?,B?,?_⟩;dsimp only[ax];have xf:=wg.trans s3;refine bQ (λuE H4=>tD λ(b1 b2:Ls)(due:Option Int)(many S1 S2:Int)(uB uA:Th)(rows1 f':List (List Th))=>An6 (uE=[A? (.ref na),A? (.int cell),A? (.ref ka),A? (.int rest),A? (.ref b1),A? (.ref b2),A? (il due),A? (.int many)]) (Sb H2 H4) (BkK H4 (k3 n0 n1 n2) uB rows1 b1 ka uJ) (BkK H4 (k3 n0 n1 n2) uA f' b2 ka uJ) (kz (k3 n0 n1 n2) due many S1 S2 uB uA rows1 f') (f'.length<=20)) (λkk wy=>?_) ?_
 .refine⟨_,B?,_,_,B?,B?,(by show(0:Int)<3;decide),B?,_,B?,?_⟩;refine bI (λc=>?_) (λc=>wy _ _ ⟨b1,b2,due,many,S1,S2,uB,uA,rows1,f',rfl,s3,uP,uQ,hp,Aa⟩);refine⟨_,B?,_,B?,_,B?,_,_,B?,B?,⟨by decide,by decide⟩,na,ka,uJ,n0,n1,n2,rest / 21,B?,xf _ _ en,nm,s3 _ _ ek,hk.mono (Za s3),by lia,λr b1 b2 H4 due many S1 S2 uB uA rows1 f' s4 er uP uQ hp Aa=>?_⟩;exact⟨r,_,B?,Ub er,B?,_,_,B?,_,_,B?,_,_,B?,_,_,B?,B?,wy _ _ ⟨b1,b2,due,many,S1,S2,uB,uA,rows1,f',B?,s3.trans s4,uP,uQ,hp,Aa⟩⟩
 clear hp uP uQ Aa er xf s3;rintro uE H4 ⟨b1,b2,due,many,S1,S2,uB,uA,rows1,f',rfl,s4,uP,uQ,hp,Aa⟩;have vy:=wg.trans s4;refine bQ (λuE H5=>Ex2 λ(xb:Ls)(dv:V)=>An3 (uE=[A? (.ref na),A? (.int cell),A? (.ref ka),A? (.int rest),A? (.ref b1),A? (.ref xb),A? dv,A? (.int many)]) (Sb H4 H5) (((dv=il due/\xb=b2)\/(dv=.int 0/\∃(oa:Ls)(w2 w3 w4:V)(vt:List Ls)(ks:List (LL×Int)),H5 xb=A? (.tup [.ref oa,w2,w3,w4])/\H5 oa=A? (.tup (vt.map Rb))/\KsAt H5 ks vt/\ks≠k3 n0 n1 n2)))) (λkk wy=>?_) ?_
 .refine⟨_,B?,_,_,B?,B?,⟨by decide,by decide⟩,_,_,B?,B?,(by show(0:Int)<7;decide),B?,_,B?,?_⟩;refine bI (λc=>?_) (λc=>wy _ _ ⟨b2,_,rfl,.refl _,.inl ⟨rfl,rfl⟩⟩);refine hid λZZ kZ=>?_;obtain⟨ha,ra,vj,bk⟩:=uQ;refine kZ ?_;refine⟨_,B?,_,B?,_,B?,_,B?,_,_,B?,B?,⟨by decide,by decide⟩,ka,uJ,n0,n1,n2,rest / 21,B?,s4 _ _ ek,hk.mono (Za s4),nm,G2,λoa ks vt H5 s5 eo ho u6 KA=>?_⟩;refine⟨b2,ka,oa,ha,ra,uJ,vt,vj,n0,n1,n2,ks,uA,f',B?,bk.mono (Za s5),λrow hr=>(hp.1.f2.row row hr).1,by lia,eo,ho,KA,λr w2 w3 w4 H6 s6 er=>?_⟩;exact wy _ _ ⟨r,_,rfl,s5.trans s6,.inr ⟨rfl,oa,w2,w3,w4,vt,ks,er,s6 _ _ eo,ho.mono (Za s6),u6⟩⟩
 rintro uE H5 ⟨xb,dv,rfl,s5,hc⟩;refine hid λZZ kZ=>?_;obtain⟨vU,v8,vb,uP⟩:=uP;refine kZ ?_;have uP:=uP.mono (Za s5);have t5:=vx.mono (vy.trans s5);have wG:=vy.trans s5;rcases hc with⟨rfl,rfl⟩|⟨rfl,oa,w2,w3,w4,vt,ks,eb,eo,ho,u6⟩
 rotate_left
 .refine⟨_,B?,B?,_,B?,?_⟩;refine bI (λ_=>?_) (λc=>Wa (by simp) c);refine⟨_,B?,_,B?,b1,xb,ka,ka,oa,.ref vU,.ref v8,w2,w3,w4,uJ,vt,k3 n0 n1 n2,ks,B?,uP.bk,uP.outE,uP.outK,eb,eo,ho,t5,λ_ l H6 s6 t6 el=>?_,λz=>Wa z.symm u6⟩;refine⟨_,B?,B?,_,B?,B?,_,B?,B?,lnE rfl,λl2 xl=>?_⟩;refine nwT xl λH7 s7 e7=>?_;exact⟨l,l2,_,[AG,AH,AH,AH,AG],B?,B?,Tb (s7 _ _ el),Tb (by rw[e7];simp),q H7 ((wG.t _).trans (s6.trans (s7.t _))) (t6.mono s7)⟩
 refine hid λZZ kZ=>?_;obtain⟨v9,wd,vc,uQ⟩:=uQ;have uQ:=uQ.mono (Za s5);obtain⟨J,hp⟩:=hp;refine kZ ?_;rcases hp with⟨rfl,jt,hm⟩|⟨rfl,CY,vR⟩|⟨rfl,xc,AD⟩
 .refine⟨_,B?,B?,_,B?,?_⟩;refine bI (λc=>Wa c (by simp[il])) (λ_=>?_);refine⟨_,B?,_,B?,b1,xb,ka,ka,ka,.ref vU,.ref v8,.ref ka,.ref v9,.ref wd,uJ,uJ,k3 n0 n1 n2,k3 n0 n1 n2,B?,uP.bk,uP.outE,uP.outK,uQ.bk,uQ.inE,uQ.inK,t5,λz=>Wa rfl z,λ_=>⟨ka,vU,v8,v9,wd,uJ,vb,uJ,vc,k3 n0 n1 n2,k3 n0 n1 n2,S1,S2,uB,uA,rows1,f',uP,uQ,J,λ_ H6 s6 t6=>?_,λz=>Wa ⟨jt.2,jt.3⟩ z,λz=>Wa jt.1 z⟩⟩;have Hz:=t5.kt s6;refine⟨B?,?_⟩;refine⟨AG,B?,?_⟩;refine⟨_,B?,_,B?,b1,xb,ka,ka,vU,v8,ka,ka,v9,wd,uJ,uJ,vb,uJ,uJ,vc,_,_,_,S1,S2,uB,uA,rows1,f',B?,uP.mono Hz,uQ.mono Hz,J,jt,t6,λr fh rl xv H7 s7 t7 er vP xg=>?_⟩;refine⟨r,_,_,_,rl,_,B?,er,vP,_,B?,B?,?_⟩;have:decide (Vb ((xv.map Rb).length:Nat)=Vb many)=true:=Ua (by rw[Lx,xg,hm]);rw[this];exact q H7 ((wG.t _).trans (s6.trans s7)) t7
 .refine⟨_,B?,B?,_,B?,?_⟩;refine bI (λ_=>?_) (λc=>Wa (by simp[il]) c);refine⟨_,B?,_,B?,b1,xb,ka,ka,ka,.ref vU,.ref v8,.ref ka,.ref v9,.ref wd,uJ,uJ,k3 n0 n1 n2,k3 n0 n1 n2,B?,uP.bk,uP.outE,uP.outK,uQ.bk,uQ.inE,uQ.inK,t5,λz=>Wa rfl z,λ_=>⟨ka,vU,v8,v9,wd,uJ,vb,uJ,vc,k3 n0 n1 n2,k3 n0 n1 n2,S1,S2,uB,uA,rows1,f',uP,uQ,J,λjt=>Wa ⟨jt.2,jt.3⟩ vR,λ_ l H6 s6 t6 el=>?_,λz=>Wa CY z⟩⟩;refine⟨_,B?,B?,_,B?,B?,_,B?,B?,lnE rfl,λl2 xl=>?_⟩;refine nwT xl λH7 s7 e7=>?_;exact⟨l,l2,_,[AH,AG,AH,AH,AG],B?,B?,Tb (s7 _ _ el),Tb (by rw[e7];simp[il]),q H7 ((wG.t _).trans (s6.trans (s7.t _))) (t6.mono s7)⟩
 .refine⟨_,B?,B?,_,B?,?_⟩;refine bI (λ_=>?_) (λc=>Wa (by simp[il]) c);refine⟨_,B?,_,B?,b1,xb,ka,ka,ka,.ref vU,.ref v8,.ref ka,.ref v9,.ref wd,uJ,uJ,k3 n0 n1 n2,k3 n0 n1 n2,B?,uP.bk,uP.outE,uP.outK,uQ.bk,uQ.inE,uQ.inK,t5,λz=>Wa rfl z,λ_=>⟨ka,vU,v8,v9,wd,uJ,vb,uJ,vc,k3 n0 n1 n2,k3 n0 n1 n2,S1,S2,uB,uA,rows1,f',uP,uQ,J,λjt=>Wa jt.1 AD,λz=>Wa xc z,λ_ l H6 s6 t6 el=>?_⟩⟩;refine⟨_,B?,B?,_,B?,B?,_,B?,B?,lnE rfl,λl2 xl=>?_⟩;refine nwT xl λH7 s7 e7=>?_;exact⟨l,l2,_,[AH,AH,AG,AH,AG],B?,B?,Tb (s7 _ _ el),Tb (by rw[e7];simp[il]),q H7 ((wG.t _).trans (s6.trans (s7.t _))) (t6.mono s7)⟩
theorem pD(h:v∈dg xs lo hi):v∈xs:=by
 unfold dg at h;exact List.mem_of_mem_drop (List.mem_of_mem_take h)
inductive lD(K:Ly)(tp:Ls)(vs:List V)(H:Hp)(Q:VK)(_E:XK):Prop
 |mk (a:Ls) (ns:List Int):vs=[.ref a]->SqL K H a (ns.map Vb)->ns.length<=63->H tp=A? (.tbl #[])->(∀H',Q (.bl AG) H')->lD K tp vs H Q _E
theorem rn(L:Lam mg base T.g_23.tc T.g_23.tp):FnOk P w K mg base CX0 110 T.g_37.f T.g_37.d ["script"] (lD K T.g_23.tp):=by
 refine T.g_37.F.okA gN λuI A outer s H vs Q E hr h=>?_;obtain⟨a,ns,rfl,hS,vR,wW,k⟩:=h
 refine⟨_,(ae (cO MP rfl (cz (dq qd (aw p8 (bf (aa ad ac)) (pv 0)) eY (dP ad))) (pgN 1 gN.nd) (ae (ak 2 gN.nd (ay rO bG (aw bi (pv 1) ad) (λ_ _=>rfl)))
  (ae (ak 3 gN.nd (dq re bG eY (dP (aw bi (aw bC (pv 1) ad) ad))))
  (ae (ak 4 gN.nd (bf (aa (aw dh (pv 2) (pv 3)) (aa (aw dh (aw dh (pv 2) (pv 2)) (pv 3)) (aa (aw dh (aw pi (pv 2) ad) (pv 3)) ac)))))
  (ag (bj (oi (bF (pcF T.g_36 (jV T L) hr (aa (pv 4) (aa (pv 1) ac))) (λ_=>rfl))) (ag (aq l5)) aQ))))))
  (ag (aq l5))),?_⟩
 try dsimp only[uU,uH]
 refine⟨lnE rfl,λp0 xE=>?_⟩;refine nwT xE λH1 s1 e1=>?_;refine⟨_,B?,p0,a,_,_,B?,B?,Tb e1,s1.seq hS,bV (by rw[Lx];show 1+ns.length<=1000000;lia),λp1 xF=>?_⟩;refine nwT xF λH2 s2 e2=>?_;refine⟨16,B?,p1,_,B?,Tb e2,λp2 wq=>?_⟩
 have uL:∀v∈dg ([Vb 0]++ns.map Vb) Ak (A? 16),∃z,v=Vb z:=λv hv=>by
  rcases Mw.mp (pD hv)with h|h
  .exact⟨0,LM.mp h⟩
  .obtain⟨z,_,rfl⟩:=MZ.mp h;exact⟨z,B?⟩
 generalize dg ([Vb 0]++ns.map Vb) Ak (A? 16)=xs at uL |-;refine nwT wq λH3 s3 e3=>?_;have t3:TabSt H3 T.g_23.tp (G.ndPos G.nd_joined) G.ndQ:=.inl ((s1.trans (s2.trans s3)) _ _ wW);refine⟨p2,B?,⟨_,Tb e3⟩,?_⟩;refine eQ (K:=K) (a:=p2) (xs:=xs) (λi Y H4=>Ex4 λc1 c2 c3 c4=>An3 (Y=[A? (.ref a),c1,c2,c3,c4]) (H4 p2=A? (.lst xs)) (TabSt H4 T.g_23.tp (G.ndPos G.nd_joined) G.ndQ)) ⟨Ak,Ak,Ak,Ak,rfl,e3,t3⟩ (λi Y H4 _⟨_,_,_,_,_,e4,_⟩=>Tb e4) ?_ (λY H4 _=>k H4);rintro i x Y H4 hx ⟨c1,c2,c3,c4,rfl,e4,t4⟩;obtain⟨cell,rfl⟩:=uL x (L9 hx);have h1:=Mx cell (by decide:(25:Int)≠0);have h2:=Md cell (by decide:(0:Int)<25);have h3:=Mx (cell / 25) (by decide:(6:Int)≠0);have h4:=Md (cell / 25) (by decide:(0:Int)<6);obtain⟨c,hc,nm,nq⟩:=qq h1 h2 h3 h4;refine⟨_,B?,_,_,B?,B?,(by show(0:Int)<25;decide),lQ,_,_,B?,B?,bV (by decide +kernel),hc,?_⟩;refine⟨_,B?,_,_,B?,B?,⟨by decide,by decide⟩,_,_,B?,B?,(by show(0:Int)<6;decide),_,B?,LI "frond",B?,bV (by decide +kernel),?_⟩;dsimp only[ax];generalize gu (LI "frond") Ak (A? (cell / 25%6))=S at nm nq |-;have l1:=nm.l0.2;have l2:=nm.l1.2;have l3:=nm.l2.2;rw[strLen_append]at l1 l3;rw[strLen_append,strLen_append]at l2;refine⟨_,B?,_,B?,⟨#[c]⟩,S,B?,B?,bV (by lia),_,B?,_,B?,⟨#[c]⟩,⟨#[c]⟩,B?,B?,bV (by lia),_,B?,_,_,B?,B?,bV (by rw[strLen_append];lia),_,B?,c,3,B?,B?,by decide,by decide,_,B?,_,_,B?,B?,bV (by show(dr ⟨#[c]⟩ 3).length+S.length<=1000000;lia),lnE rfl,λnl AD=>?_⟩;have s5:=aj AD (.lst [.str (⟨#[c]⟩++S),.str (⟨#[c]⟩++⟨#[c]⟩++S),.str (dr ⟨#[c]⟩ 3++S)]);refine⟨_,B?,_,B?,nl,_,_,_,cell,B?,af,nm,nq,t4.mono s5,λH5 s6 t5=>⟨_,B?,?_⟩⟩;refine mG ?_;refine⟨_,_,_,_,B?,s6 _ _ (λz=>?_) (s5 _ _ e4),t5⟩;rcases t4 with h|⟨_,h,_⟩ <;> rw[<-z,e4]at h <;> cases h
end
theorem walk{l:PySem.W.OpenLaw}{q:LF}{d dt:DefRec}{K:Params->Ly}(hn:l.most=A? 63)(AU:d.params.defaults=[])(hd:d.name="law")(hq:(PyProof.Rows.recsOf q).find? (λe=>e.name == ("joined":LL))=A? dt)(hY:∀(w:LQ)(h:Ml),YP w h->(K w.params).In h)
 (F:∀(w:LQ)(mg:LL->Option Lu)(h:Ml),(K w.params).In h->h.Ns My mg->TX (K w.params) mg):PySem.W.WalkO q loose XP YP l.row.toRowW d [] (λf vs=>PySem.call f vs) :=
 L2.nE (n:=63) (k:=110) (x:="script") (tn:="joined") (CX:=λ_=>CX0) (sp:=λw T=>lD (K w.params) T) hn (by decide) AU ⟨rfl,by decide,by decide⟩ hq hY (λw mg fa h KX G hm=>by
  have T:=F w mg h KX G;obtain⟨_,_,_,_,_,_,_,_,_,e,_⟩:=T.g_37.F.ex;rw[hd]at hm;have e2:T.g_37.f=fa:=(Value.ref.inj (Ma (hm.symm.trans T.g_37.m))).symm;subst e2;exact⟨_,_,_,λs v=>by rw[e];exact .of_eq rfl,T.g_23.t,T.g_23.u,λbase _ _ L=>rn T L⟩) (λ_ _ _ a ns hl hS hT=>⟨a,ns,rfl,hS,hl,hT,λ_=>rfl⟩) λ_ _ _ _ _ z=>z
end LAW
open PySem PySem.W PyProof.Rows
set_option maxRecDepth 100000 in
theorem PySem.Challenge.cw_boughbook_k43_joining_refused_holds : PySem.Challenge.rw_boughbook_k43_joining_refused.Holds := by
 w_on;(refine holds_law LAW.ws λKC=>?_);(refine holds_open (q:=LAW.vw) (N:=90000) (loose:=[]) (XP:=XL LAW.vw []) (Yf:=Hook.obs (kHook LAW.d0.heap_1 LAW.ks LAW.ke)) (Ya:=Hook.val (kHook LAW.d0.heap_1 LAW.ks LAW.ke)) (YP:=Hook.says (kHook LAW.d0.heap_1 LAW.ks LAW.ke)) (Xt:=LAW.xt) (HD.nj (by kernel_rfl) (by kernel_rfl) (λ_=>by kernel_rfl) LAW.lk0 LAW.lk1 LAW.lk2 LAW.lk3 LAW.lk4 LAW.lk5 (HD.Pc.k LAW.kp)) (Hook.of (kHook LAW.d0.heap_1 LAW.ks LAW.ke)) (Hook.keeps (kHook LAW.d0.heap_1 LAW.ks LAW.ke)) (λs e=>xl_of s (P1.mp e).1) XL.keeps (by rfl) (by rfl) (by rfl) (λs e=>recFacts_of (P1.mp e).2) (by rfl) (by assumption) (by decide +kernel) ⟨rfl,rfl,rfl,rfl,rfl,by decide +kernel⟩ ?_ ?_);w_witness2
 k_fill
 exact LAW.walk (l:=PySem.Challenge.rw_boughbook_k43_joining_refused) rfl rfl rfl (by rfl) (λw h Y=>PySem.W.kIn_of Y) λw mg h x g=>by constructor <;> first|exact LAW.fx x g|exact by k_is|exact by kit_is|exact LAW.bn x g|exact LAW.gn x g|exact LAW.ci x g|k_exc|kts_exm|exact LAW.fm|exact LAW.na|exact LAW.cs x g|exact LAW.ft x g|exact⟨by k_is,by k_is,by k_is,by k_is⟩|exact⟨by k_is,by k_is⟩
