import Derived.Conc.CompanyDraw
import Derived.Conc.Own4
import Derived.RowKit
import Derived.Conc.WgGenN3
import Derived.Conc.CrowdRun
import Derived.Conc.CrowdComm
import Derived.Conc.WgArith
import Derived.Laws.MakeOwn
import Derived.Laws.Tables
import Derived.Laws.AppendOwn
import Derived.Test.YtcfhleenecfghaaGreatDoorK1
set_option linter.all false
set_option maxHeartbeats 4000000
set_option maxRecDepth 100000
open Array renaming append_assoc->aDQ,append_empty->Tw,ext'->qq,ext_getElem?->eL,getD_eq_getD_getElem?->QP,getElem?_eq_getElem->G8,getElem?_eq_none->Ml,getElem?_eq_some_iff->aV,getElem?_push->eN,getElem?_push_lt->KF,getElem?_push_size->kW,getElem?_setIfInBounds_ne->Mm,isEmpty_iff->aDT,mem_append->aW,mem_of_getElem?->Xk,mem_singleton->a'x,mem_toList_iff->a'y,replicate->OG,size_ofFn->aDU,size_push->kZ,toList_inj->Sa
open Bool renaming and_eq_true->aY,and_eq_true_iff->Cp,false->A9,false_eq_true->Ev,not_eq_true'->kk,not_false->Xm,not_true->Xn,or_false->aDY,true->A5
open ByteArray renaming empty->B7
open Classical renaming byContradiction->eV,choose->kl
open Decidable renaming decide->BK
open Eq renaming mpr->a07
open Go renaming Act->HL,Addr->An,Calls->Ab,Code->DK,CommShape->a0H,Deferred->Vp,Event->C5,Frame->Ah,Func->JL,FuncId->Sh,Goroutine->AY,Item->Cd,Machine->lJ,Next->JM,Obj->Cq,Oper->B8,Operand->BP,Program->Ao,Trace->DT,TypeId->BL,TypeInfo->Nc,Value->A3,World->A1,callFunc->MA,choose->Sq,deafBehind->Nd,doReturn->a1X,execOp->AM,exitTo->Sr,goexitEntry->aFq,info_parts->FJ,invoke->Ra,mayWake->a1a,plainCell->W3,resolve->KQ,results->D5,runN->EK,runNT->EE,runT->Ng,run_convert_to_unsafe->sg,seen->Fc,stepG->B9,stepT->si,stuck->UB,undef->AN,unwind->I3,yielded->I4
open Go.Act renaming eval->FG,put->IP
open Go.Builtin renaming close_->aDi
open Go.CallKind renaming early->Jk,normal->EI
open Go.Callee renaming builtin->Fw,value->NU
open Go.Code renaming block->ky,cond->kz,loop->ed,region->HY,seq->Hu,skip->l0
open Go.CommShape renaming recv->l1,send->l2
open Go.Conc renaming Aside->l3,Deaf->Sd,Deaf_other->OL,Deaf_own->rH,Goes->Xx,QuitsD->rJ,again_running->aDu,aside_setCell->ai,awake->aDv,awake_of->rK,base->Vi,baseD->Jm,born->l5,crowd->ER,crowd_pick->Vj,dcall->OM,deafBehind_still->l6,deaf_old->aa',events_convert_to_unsafe->rL,g?_old->ef,getElem?_append_cases->Vk,getElem?_stand->aDw,goes_oper_k->rM,heap_setChan->aDx,listed->eg,lt_of_act?->aDy,mem_listed->rN,mem_ofEvents->KG,mem_seen->Vl,ofEvents_eq->eh,offersAt->aa2,offersAt_of_not_blocked->rP,partners_nil->aDz,ph->aE',rcase->QT,runT_crowd_go->QU,runT_solo_go->aE0,scase->rQ,seen_none->Vm,semEvents->Xy,solo->Df,stepG_add_atomic->aE1,stepG_comm->aE2,stepG_load_atomic->a0I,stepG_mark0->rR,stepG_markAt->rS,stepG_oper->Se,stepG_region_draw->aE3,stepG_unwind_entry->aE4,stepT_solo->a0J,touch_mute->rU,touch_of->aj,woken->Sf,woken_quitsD->Xz
open Go.Conc.Aside renaming refl->M5
open Go.Conc.Goes renaming cases->Kp,rely->RS,running->ah,step->ee,stop->Jl
open Go.Conc.Lib renaming WgLib->rI,WgLink->l4
open Go.Conc.QuitsD renaming ctl->aDt
open Go.ConcN renaming CTag->PI,Deaf_absent->a0K,Deaf_still->Vn,Mode->Kq,OpenSt->a0M,Ssum->ek,WgLive->IQ,bk_cell->a0N,bk_dis->r_,bk_rd->ra,cell_of_block->aa3,cnt->FP,get_map_set->Y',get_map_set_same->en,le_sumTo->ep,norel_of->a0O,pend->Kr,phi->HZ,st_flag->aE7,st_waiters->aE8,sumTo->Ir,sumTo_le->aa4,sumTo_upd->Y0,sumTo_upd_out->a0P,upd->CG,upd_ne->GB,upd_same->FH
open Go.ConcN.CTag renaming blk->U2,sp->Jn
open Go.ConcN.Gen.WgLive renaming cell0->rV,cell1->rW
open Go.ConcN.Mode renaming fin->rX,last->rY,opn->rZ,reg->a0L,retag->aE5
open Go.ConcN.RW renaming refl->M6
open Go.ConcR renaming Payload->Bg,WgAt->Jo,mk->ON,ofEvent_loc_mark->aET,ofEvent_mk->aa5,smA->Vo,stA->Dx,wgBlock->NV
open Go.ConcR.Gen renaming body_wait->a0Q,dc0_none->rb,x_acquire_b->aE9,x_acquire_f->aEA,x_acquire_n->aEB,x_acquire_x->aEC,x_addU64_b->aED,x_addU64_f->aEE,x_addU64_n->aEF,x_addU64_x->aEG,x_casU64_b->aEH,x_casU64_f->aEI,x_casU64_n->aEJ,x_casU64_x->aEK,x_disable_b->aEL,x_disable_f->aEM,x_disable_n->aEN,x_disable_x->aEO,x_enable_b->re,x_enable_f->rf,x_enable_n->rh,x_enable_x->ri,x_loadU64_b->a0R,x_loadU64_f->a0S,x_loadU64_n->a0T,x_loadU64_x->a0U,x_semacquire_b->aEP,x_semacquire_f->aEQ,x_semacquire_n->aER,x_semacquire_x->aES
open Go.Deferred renaming ofValue->U3
open Go.Departure renaming mixedOrders->l8
open Go.Ending renaming returned->AV
open Go.Exit renaming normal->Vq
open Go.Extern renaming find->ak,findNext->al
open Go.Extern.AbiNoEscape renaming same->rj
open Go.Extern.BytealgCompare renaming compare->a0Z
open Go.Extern.BytealgCount renaming count->a0_
open Go.Extern.BytealgIndex renaming index->a0a
open Go.Extern.BytealgIndexByte renaming indexByte->a0b
open Go.Extern.BytealgMakeNoZero renaming makeNoZero->rk
open Go.Extern.Race renaming none_->aEZ
open Go.Fn renaming func->Bo,yield->U4
open Go.Frame renaming enter->Fa,finish->an,finish_at->Vr,oper?->l9
open Go.FrameMode renaming returning->Mp,run->LZ
open Go.GStep renaming after->KH,comm->et,ended->ao,go->Bl
open Go.GoStatus renaming blocked->lB,running->CZ
open Go.Goroutine renaming finishComm->aa7
open Go.Goroutine.mk renaming injEq->U5
open Go.Instr renaming makeChan->aEe,sureAddr->s3
open Go.IntKind renaming i32->aEj,i64->AJ,u32->ew,u64->Da,wrap_i32->aEk,wrap_i64->RU,wrap_u64->a0h
open Go.Item renaming code->Aw,inBlock->Ks,inLoop->NW,inRegion->Ak
open Go.Loc renaming cell->KJ,mark->NX,obj->FI
open Go.LoopState renaming busy->s8,exhausted->a0n,ready->M7
open Go.Made renaming infoAt->s9,reckon->sA,reckonStruct->sB
open Go.Mark renaming acquire->ay,disable->b0,enable->fB,release->PL
open Go.MemAct renaming low_mono->aEr,mark->RV,ofEvent->L_,touch?->fC
open Go.MemOp renaming ofEvents->KL
open Go.Next renaming comm->sC,enter->NY,skip->JN,value->BB
open Go.Obj renaming cells->A7,chan->Is,deferred->PM
open Go.Op renaming binOp->KM,call->Em,defer->b3,load->ED,makeFunc->b4,makeSlice->lN,operands->DN,store->La
open Go.Operand renaming const->KN,func->It,global->sG,tmp->Aa
open Go.Proofs.Tryz renaming f198->a1',f267->aFE,f328->aFF,f351->a11,f407->a14,f409->a15,f422->sL,func198->aFK,func199->aFL,func200->sM,func351->a18,func407->a19,func409->a1A,prog->A6,underlying130->lU
open Go.Question renaming order->Vx
open Go.Region renaming ready->Sl,schedule->aFV,wanted->Gd
open Go.Region.Mode renaming any->b6
open Go.Region.linearise renaming go->a1H
open Go.Result renaming ok->AP
open Go.Sem renaming bind->Dl,events->a1K,getObj->Sn,runT->D4,setObj->Vy
open Go.Stepped renaming next->DY
open Go.Stepped.next renaming injEq->RZ
open Go.Target renaming collected->b8
open Go.Trace renaming act?->a1M,g?->lY
open Go.Value renaming agg->AH,bool->Ag,chan->EJ,func->Br,int->AB,nilIface->CN,pointer->B2,slice->A0,string->A4,tuple->Aj
open Go.World renaming cell?->Cr,frozen?->fM,setCell->QW,setChan->bA
open Go.stepG renaming apply->Iu,exec->BY,oper->bF
open Iff renaming rfl->Sy
open Inhabited renaming default->DU
open List renaming all_eq_true->Ha,cons_append->UJ,getElem?_eq_getElem->En,map_cons->Ee,map_nil->Iw,map_toArray->JO,mem_append->E8,mem_cons->DO,mem_cons_of_mem->G1,mem_cons_self->Le,mem_map->Bt,mem_range->Pb,mem_singleton->ES,mem_toArray->a2c,nil_append->gB,not_mem_nil->IX,range->Lf
open List.cons renaming inj->PZ
open Nat renaming beq->aHo,ble->aHp,blt->gH,eq_zero_or_pos->T5,le_of_not_lt->UM,le_refl->Ad,le_trans->Dn,lt_of_lt_of_le->Hw,lt_or_ge->JR,lt_succ_self->Qd,lt_wfRel->aHu,not_lt->a2j,sub_self->aHx,sub_zero->aHy,zero_add->My
open Ne renaming symm->Gy
open Option renaming bind_eq_bind->OX,bind_eq_some_iff->IY,bind_some->a2m,getD_some->MJ,isSome_iff_exists->aI2,map_eq_some_iff->Qf,map_some->Qg,none->J,some->Z
open Option.some renaming inj->CP,injEq->bd
open Or renaming inl->AA,inr->AF
open Prod renaming Lex->aI3,ext->Ro,lex->aI4
open Prod.Lex renaming left->u1,right->a2p
open Prod.mk renaming inj->a2q,injEq->mn
open Pure renaming pure->Ex
namespace Go.Proofs.YtcfhleenecfghaaGreatDoor.Twin
section
open Go.Conc(G solo)
variable{d8:Ah}{es:Array C5}
section
variable{P:Ao}{CH:Nat->Bool}
def aAN(P:Ao)(CH:Nat->Bool)(o:B8):Bool:=aAL P o.op||match o.op with|Em {callee:=NU (It f),..}=>CH f|_=>A9
def gp(P:Ao)(CH:Nat->Bool):DK->Bool|l0|.exit _|.label _|.ret|.refuse _=>A5|HY _ ops _=>ops.toList.all (aAN P CH)|Hu a b|kz _ a b=>gp P CH a&&gp P CH b|ky _ b|ed b|.scope b=>gp P CH b|_=>A9
def V8(P:Ao)(CH:Nat->Bool):Cd->Bool|Aw c|NW c|.inScope c=>gp P CH c|Ks _=>A5|Ak ops _=>ops.toList.all (aAN P CH)|_=>A9
def mW(P:Ao)(CH:Nat->Bool):Prop:=∀f,CH f=A5->∃fn c,P.funcs[f]?=Z fn/\(fn.name== "runtime.NumGoroutine")=A9/\fn.body=Z c/\gp P CH c=A5
structure N3(P:Ao)(CH:Nat->Bool)(d8:Ah):Prop where
 ok:∀i∈d8.todo,V8 P CH i=A5
 defers:d8.defers=[]
 kind:d8.kind=EI
 round:d8.roundOf=J
 has:∃fn,P.funcs[d8.fn]?=Z fn
def N3.to(h:N3 P CH d8){l}(hl:∀i∈l,V8 P CH i=A5):N3 P CH {d8 with todo:=l}:=⟨hl,h.defers,h.kind,h.round,h.has⟩
theorem N3.finish{d8}(h:N3 P CH d8)(v):N3 P CH (d8.finish v):=by
 unfold an;split
 .rename_i ops j rest l e;refine⟨λi hi=>?_,h.defers,h.kind,h.round,h.has⟩;let I:=h.ok;rw[e]at I;rcases DO.1 hi with rfl|hi;.exact I (Ak ops (j::rest)) (Le ..)
  grind
 all_goals first|(rename_i e;have I:=h.ok;simp_all[e,V8])
theorem nb(d8:Ah)(v):(d8.finish v).mode=d8.mode:=by grind[an]
def N3.enter(hL:mW P CH){f}(hf:CH f=A5)(args):N3 P CH (Fa P f args EI):=by let⟨fn,c,h1,_,h2,h3⟩:=hL f hf;unfold Fa;refine⟨λi hi=>?_,rfl,rfl,rfl,⟨fn,h1⟩⟩;simp only[h1,h2,a2m,ES]at hi;subst hi;exact h3
theorem vR{id}:∀{l l'},Sr id l=Z l'->∀i∈l',i∈l
 |[],_,h=>by trivial
 |i::l,l',h=>by
  unfold Sr at h;split at h
  .rename_i I;obtain⟨rfl,rfl⟩:=PZ I;split at h;.cases h;exact λj hj=>G1 _ hj
   exact λj hj=>G1 _ (vR h j hj)
  .rename_i I;obtain⟨rfl,rfl⟩:=PZ I;exact λj hj=>G1 _ (vR h j hj)
  grind
inductive WR(P:Ao)(CH:Nat->Bool)(d8:Ah)(w:A1)(s:List Ah->GStep):Prop|here{fr':Ah}{w':A1}{es:Array C5}:(∀cs,s cs=Bl (G fr' cs) w' es)->N3 P CH fr'->fr'.mode=LZ∨fr'.mode=.returning->E' w w' #[] es->WR P CH d8 w s|call{f:Nat}{args:zw}{es:Array C5}:(∀cs,s cs=Bl (G (Fa P f args EI) (d8::cs)) w es)->N3 P CH (Fa P f args EI)->E' w w #[] es->WR P CH d8 w s|raise{ch:List PanicEntry}{w':A1}{es:Array C5}:(∀cs,s cs=Bl (G (d8.raise ch) cs) w' es)->WR P CH d8 w s|ends:(∀cs,∃o w' es,s cs=ao o w' es)->WR P CH d8 w s
def E'.seen{w w':A1}{es:Array C5}(h:E' w w' #[] es)(fn):E' w w' #[] (seen P fn es):=⟨h.size,h.os,h.output,h.tape,λe he=>h.evs e (Vl he)⟩
def aJ0(hR:∀g,P.stepOf g=J)(h:N3 P CH d8)(hm:d8.mode=LZ){s}(hs:BH P je s)(w):WR P CH d8 w λcs=>Iu P A5 d8 cs J s w:=by
 let hk:(d8.kind==Jk)=A9:=Af h.kind;let hr:=hs.runs w #[];let he:=hs.ends w #[];cases hrun:s.runT P w #[]with
 |mk r es=>
  rw[hrun]at hr he;cases r with
  |ok N I=>
   have hr:=hr;have he:=he;cases N with
   |value v=>exact .here (λcs=>H0 hk hrun rfl) (h.finish v) (As nb (AA hm)) (hr.seen _)
   |skip=>exact .here (λcs=>H0 hk hrun rfl) (h.finish AN) (As nb (AA hm)) (hr.seen _)
   |_=>exact he.elim
  |halt x I=>
   have hr:=hr;have he:=he;rcases he with he|⟨g,c,t,rfl,hg⟩
   .cases x with
    |panic v=>refine .raise (ch:=[{v,recovered:=A9}]) (w':=I) (es:=Fc P d8.fn es) λcs=>?_;unfold Iu;simp only[↓reduceIte,hrun,hk,Ev,KH,Tw,G]
    |stuck m=>refine .ends λcs=>?_;unfold Iu;simp only[↓reduceIte,hrun,hk,Ev,KH];exact⟨_,_,_,rfl⟩
    |unsupported u=>
     refine .ends λcs=>?_;unfold Iu;cases u with
     |initOrder g=>exact absurd rfl (he g)
     |_=>simp only[↓reduceIte,hrun,hk,Ev,KH];exact⟨_,_,_,rfl⟩
    |_=>exact he.elim
   by_cases hf:P.follows .staticDataAhead=A5;.refine .ends λcs=>?_;unfold Iu;simp only[↓reduceIte,hrun,hk,Ev];unfold early;simp only[hf,hR,Xn,Ev,↓reduceIte,KH];exact⟨_,_,_,rfl⟩
   refine .here (w':={I with heap:=I.heap.setIfInBounds g (A7 c t)}) (es:=Fc P d8.fn #[]) (λcs=>?_) h (AA hm) ?_;.unfold Iu;simp only[↓reduceIte,hrun,hk,Ev];unfold early;simp only[hf,hg,Xm,↓reduceIte,KH,Tw,G]
   let hh:E' w {I with heap:=I.heap.setIfInBounds g (A7 c t)} #[] #[]:=⟨by have:=hr.size;simpa[pt]using this,hr.os,hr.output,hr.tape,λe he=>AA he⟩;exact hh.seen _
def aLa(hR:∀g,P.stepOf g=J)(hL:mW P CH)(h:N3 P CH d8)(hm:d8.mode=LZ)(w):WR P CH d8 w λcs=>BY P A5 A5 d8 cs J w:=by
 let C:=h.ok;let A:=h.round;let U:∀(l:List Cd),(∀i∈l,V8 P CH i=A5)->(∀cs,BY P A5 A5 d8 cs J w=Bl (G {d8 with todo:=l} cs) w #[])->WR P CH d8 w λcs=>BY P A5 A5 d8 cs J w:=λl hl e=>.here e (h.to hl) (AA hm) (E'.refl w #[]);let K:(∀cs,BY P A5 A5 d8 cs J w=Bl (G {d8 with mode:=Mp} cs) w #[])->WR P CH d8 w λcs=>BY P A5 A5 d8 cs J w:=λe=>.here e ⟨h.ok,h.defers,h.kind,h.round,h.has⟩ (AF rfl) (E'.refl w #[]);cases I:d8.todo with
 |nil=>refine K λcs=>?_;unfold BY;simp only[I,A,↓reduceIte,G]
 |cons i l=>
  rw[I]at C;let hi:=C i AD;let hl:∀j∈l,V8 P CH j=A5:=λj hj=>C j (by simp[hj]);let two:∀(a b:Cd),V8 P CH a=A5->V8 P CH b=A5->∀j∈a::b::l,V8 P CH j=A5:=by
   intro a b ha hb j hj;rcases DO.1 hj with rfl|hj;.exact ha
   rcases DO.1 hj with rfl|hj;.exact hb
   exact hl j hj
  cases i with
  |inBlock b=>refine U l hl λcs=>?_;unfold BY;simp only[I,G]
  |inScope b=>refine U l hl λcs=>?_;unfold BY;simp only[I,G]
  |inLoop b=>refine U _ (two (Aw b) (NW b) hi hi) λcs=>?_;unfold BY;simp only[I,G]
  |code c=>
   cases c with
   |skip=>refine U l hl λcs=>?_;unfold BY;simp only[I,G]
   |label n=>refine U l hl λcs=>?_;unfold BY;simp only[I,G]
   |ret=>refine K λcs=>?_;unfold BY;simp only[I,A,↓reduceIte,G]
   |seq a b=>obtain⟨N,h2⟩:=Cp.1 hi;refine U _ (two (Aw a) (Aw b) N h2) λcs=>?_;unfold BY;simp only[I,G]
   |cond c a b=>
    obtain⟨N,h2⟩:=Cp.1 hi;cases hv:d8.eval c with
    |bool v=>
     refine U (Aw (if v then a else b)::l) (λj hj=>?_) λcs=>?_
     .rcases DO.1 hj with rfl|hj
      .cases v;.exact h2
       exact N
      exact hl j hj
     unfold BY;simp only[I,hv,G]
    |_=>refine .ends λcs=>?_;unfold BY;simp only[I,hv];exact⟨_,_,_,rfl⟩
   |block n b=>refine U _ (two (Aw b) (Ks n) hi rfl) λcs=>?_;unfold BY;simp only[I,G]
   |loop b=>refine U _ (two (Aw b) (NW b) hi hi) λcs=>?_;unfold BY;simp only[I,G]
   |scope b=>refine U _ (two (Aw b) (.inScope b) hi hi) λcs=>?_;unfold BY;simp only[I,G]
   |exit n=>cases e:Sr n l with|none=>refine .ends λcs=>?_;unfold BY;simp only[I,A,e,Option.elim_none,Ev,↓reduceIte];exact⟨_,_,_,rfl⟩|some l'=>refine U l' (λj hj=>hl j (vR e j hj)) λcs=>?_;unfold BY;simp only[I,e,Option.elim_some,G]
   |goto n=>cases hi
   |rangeFunc f a b c=>cases hi
   |refuse y=>refine .ends λcs=>?_;unfold BY;simp only[I];exact⟨_,_,_,rfl⟩
   |region n ops draw=>
    let M:∀(t:List Nat),∀j∈Ak ops t::l,V8 P CH j=A5:=by
     intro t j hj;rcases DO.1 hj with rfl|hj;.exact hi
     exact hl j hj
    cases draw with|false=>refine U _ (M (Lf ops.size)) λcs=>?_;unfold BY;simp only[I,Xm,↓reduceIte,G]|true=>let hc:BH P any (Sq (Vx d8.fn n)):=a98 _;let N:=hc.runs w #[];let h2:=hc.ends w #[];let h3:=X_ (P:=P) (Sq (Vx d8.fn n)) w #[];cases hrun:(Sq (Vx d8.fn n)).run P w with|ok t w2=>rw[h3,hrun]at N;let N:E' w w2 #[] _:=N;refine .here (fr':={d8 with todo:=Ak ops (aFV (P.follows l8) ops t)::l}) (λcs=>?_) (h.to (M _)) (AA hm) ⟨N.size,N.os,N.output,N.tape,λe he=>AA he⟩;unfold BY;simp only[I,hrun,Xn,Ev,↓reduceIte,G]|halt x w2=>refine .ends λcs=>?_;unfold BY;simp only[I,hrun,Xn,Ev,↓reduceIte];exact⟨_,_,_,rfl⟩
  |inRegion ops todo=>
   cases todo with
   |nil=>refine U l hl λcs=>?_;unfold BY;simp only[I,G]
   |cons j rest=>
    let eo:d8.oper?=ops[j]?:=by unfold l9;rw[I]
    by_cases B:(ops[j]?.map (Gd · (I4 ops d8.tmps))).getD A9=A5
    .cases e:ops[j]? with
     |none=>rw[e]at B;cases B
     |some o=>
      have ho:=Ha.1 hi o (by obtain⟨hlt,rfl⟩:=aV.1 e;simp);let e1:∀cs,BY P A5 A5 d8 cs J w=Iu P A5 d8 cs J (AM d8.eval o) w:=by intro cs;unfold BY;simp only[I,B,↓reduceIte];unfold bF;rw[eo,e];simp only[A]
      rcases Bool.or_eq_true_iff.1 ho with ho|ho;.have:=aJ0 hR h hm (aRo (ρ:=d8.eval) ho) w;simpa only[e1]using this
      cases H:o.op with
      |call c=>
       rw[H]at ho;obtain⟨callee,args,ts⟩:=c;cases callee with
       |value x=>
        cases x with
        |func f=>
         have hf:=ho;obtain⟨fn,c,N,hn,h2,h3⟩:=hL f hf;have Y:=Ai hn;let gx:d8.eval (It f)=Br (Bo f) #[] #[]:=rfl;let hr:(AM d8.eval o).runT P w #[]=(AP (NY f (args.map d8.eval)) w,#[]):=by unfold AM;rw[H];show(Dl ..).runT P w #[]=_;simp[U3,gx,MA,N,Y,h2,KQ,Ra,Ex,Dl]
         let hk:(d8.kind==Jk)=A9:=Af h.kind;refine .call (args:=args.map d8.eval) (es:=Fc P d8.fn #[]) (λcs=>?_) (N3.enter hL hf _) ((E'.refl w #[]).seen _);rw[e1,H0 hk hr rfl];simp only[I,G]
        |_=>cases ho
       |_=>cases ho
      |_=>rw[H]at ho;cases ho
    refine .here (λcs=>?_) (h.finish AN) (As nb (AA hm)) (E'.refl w #[]);unfold BY;simp only[I,B,Ev,↓reduceIte,G]
  |_=>cases hi
end
section
variable{P:Ao}{CH:Nat->Bool}
def aRT(v):BH P any (asAddr v):=by unfold asAddr;repeat' first|(with_reducible exact BH.ret _)|(with_reducible exact a9I _)|(with_reducible exact a9F ..)|split
def a9E(fn)(T):BH P any (D5 fn T):=by refine BH.Oe (a95 (λx=>?_) _) λ_=>trivial;cases x with|tmp t=>trivial|cell a t=>exact BH.Oe (aRT _) λ_=>a9C ..
theorem E'.gt{w w':A1}(h:E' w w' #[] es):F8 (λ_=>False) (Du (λ_=>False) w) w w' es (Du (λ_=>False) w'):=by
 refine⟨h.size,λb hb hn=>absurd ⟨hb,λx=>x⟩ hn,h.os,h.output,h.tape,λb=>⟨λx=>?_,λx=>?_⟩,λe he=>?_⟩
 .by_cases hb:b<w;.exact AA ⟨hb,λx=>x⟩
  exact AF ⟨A',x.1⟩
 .rcases x with x|x;.exact⟨RB x.1 h.size,λx=>x⟩
  exact⟨x.2,λx=>x⟩
 rcases h.evs e he with x|x;.grind
 cases x with|cell w s x=>exact .cell w s (x.imp (λy=>⟨y,λz=>z⟩) id)|obj w s x=>exact .obj w s (x.imp (λy=>⟨y,λz=>z⟩) id)|extern f=>exact .extern f|noRoom=>exact .noRoom
theorem kA{a a' w w' t q}(hs:a.status=CZ)(hst:B9 P A5 a w=Bl a' w' es)(h:E' w w' #[] es)(hc:Cx P (λ_=>False) #[a] w t q a):si P (Df a w)=(DY (Df a' w'),KL 0 a.frame.fn a.frame.place es)/\Cx P (λ_=>False) #[a'] w' (t++KL 0 a.frame.fn a.frame.place es) q a':=by refine⟨(a0J hs).trans (aE0 hst),?_⟩;let I:=(Cx.own hc (a':=a') (AF trivial) h.gt a.frame.fn a.frame.place).2;grind
def a3F(P:Ao)(CH:Nat->Bool)(l:List Ah):Prop:=∀c∈l,N3 P CH c/\c.mode=.run
def aD4:∀{l},a3F P CH l->Passes (l++[bot])|[],_=>.bot|c::l,h=>.cons (h c AD).1.defers (aD4 λx hx=>h x BA)
theorem aZ0(hR:∀g,P.stepOf g=J)(hL:mW P CH):∀(N:Nat){d8 B:Ah}{l base:List Ah}{w w1:A1}{t:DT}{q:Nat->Nat},N3 P CH d8->d8.mode=LZ∨d8.mode=.returning->a3F P CH l->EK P N (Df (G d8 (l++[bot])) w)=DY (Df (G B [bot]) w1)->B.mode=Mp->Cx P (λ_=>False) #[G d8 (l++base)] w t q (G d8 (l++base))->∃A,EE P N (Df (G d8 (l++base)) w) t=(DY (Df (G B base) w1),A)/\Cx P (λ_=>False) #[G B base] w1 A q (G B base):=by
 intro N;induction N with
 |zero=>
  intro d8 B l base w w1 t q hfr C hl hrun hf1 hc;simp only[EK,RZ]at hrun;obtain⟨h1,rfl⟩:=RI hrun;simp only[G,U5]at h1;obtain⟨rfl,h2,_⟩:=h1;have:l=[]:=by cases l with|nil=>rfl|cons c l=>simp_all
  subst this;exact⟨t,rfl,hc⟩
 |succ N ih=>
  intro d8 B l base w w1 t q hfr C hl hrun hf1 hc;unfold EK at hrun;rcases C with hm|hm
  .let hg:∀cs,B9 P A5 (G d8 cs) w=BY P A5 A5 d8 cs J w:=λcs=>dw rfl hm;rcases aLa hR hL hfr hm w with⟨hs,h2,h3,h4⟩|⟨hs,h2,h4⟩|⟨hs⟩|⟨hs⟩;.rw[QG rfl ((hg _).trans (hs _))]at hrun;let⟨e1,c1⟩:=kA rfl ((hg _).trans (hs (l++base))) h4 hc;let⟨A,e2,c2⟩:=ih h2 h3 hl hrun hf1 c1;exact⟨A,by rwa[EE,e1],c2⟩
   .rw[QG rfl ((hg _).trans (hs _))]at hrun;let⟨e1,c1⟩:=kA rfl ((hg _).trans (hs (l++base))) h4 hc;obtain⟨A,e2,c2⟩:=ih h2 (AA rfl) (λc hc=>by
     rcases DO.1 hc with rfl|hc;.exact⟨hfr,hm⟩
     exact hl c hc) hrun hf1 c1;exact⟨A,by rwa[EE,e1],c2⟩
   .rename_i ch w2 es;exfalso;rw[QG rfl ((hg _).trans (hs _))]at hrun;let⟨ch2,h3,h4⟩:=raised d8 ch;let⟨ch3,h5⟩:=vB (aD4 hl) h3 (h4.trans hfr.defers) hrun;simp only[G]at h5;rw[hf1]at h5;cases h5
   let⟨o,w2,es,he⟩:=hs (l++[bot]);rw[Tq rfl ((hg _).trans he)]at hrun;cases hrun
  let hg:∀cs,B9 P A5 (G d8 cs) w=I3 P A5 d8 cs J w:=λcs=>SX rfl hm;cases I:P.funcs[d8.fn]? with
  |none=>let⟨fn,h⟩:=hfr.has;rw[I]at h;cases h
  |some fn=>
   let H:=a9E (P:=P) fn d8.tmps;let hr:=H.runs w #[];let he:=H.ends w #[];cases U:(D5 fn d8.tmps).runT P w #[]with
   |mk r es=>
    rw[U]at hr he;cases r with
    |halt x w2=>
     have:∃o w3 K,I3 P A5 d8 (l++[bot]) J w=ao o w3 K:=by unfold I3;simp only[hfr.defers,hm,I,U];cases x<;>exact⟨_,_,_,rfl⟩
     let⟨o,w3,K,h3⟩:=this;rw[Tq rfl ((hg _).trans h3)]at hrun;cases hrun
    |ok v w2=>cases l with|nil=>rw[gB,QG rfl ((hg _).trans (SZ hfr.defers hm hfr.kind I U))]at hrun;have:=a4h hrun;subst this;simp only[EK,RZ]at hrun;have:=(RI hrun).1;simp[G]at this|cons c l=>let h3:∀cs,I3 P A5 d8 (c::cs) J w=Bl (G (c.finish v) cs) w2 (Fc P d8.fn es):=λcs=>SZ hfr.defers hm hfr.kind I U;rw[UJ,QG rfl ((hg _).trans (h3 _))]at hrun;let⟨e1,c1⟩:=kA rfl ((hg _).trans (h3 (l++base))) ((hr).seen _) hc;let M:=hl c AD;let⟨A,e2,c2⟩:=ih (M.1.finish v) (As nb (AA M.2)) (λx hx=>hl x (by simp[hx])) hrun hf1 c1;exact⟨A,by rwa[EE,UJ,e1],c2⟩
end
end
section
open Go.Conc(G solo stepG_region_draw stepG_oper)
variable{b:Ah}{ops:Array B8}{a:HL}{cs:List Ah}{q:List Cd}
section
variable{P:Ao}{main:Bool}{AG S:zy}{Stop:zv}{F:zy}{kb:Nat->Bool}{fd:Gz}{k:Nat}{RO:zy}
def F8.idle(AG S)(w):F8 AG S w w #[] S:=⟨Ad _,λ_ _ _=>rfl,rfl,rfl,rfl,λb=>⟨AA,λx=>x.elim id λy=>A'⟩,AD⟩
def Way.ctl{g g' w}(hs:g.status=CZ)(h:∀w,B9 P main g w=Bl g' w #[])(q:Way P main AG Stop S g' w):Way P main AG Stop S g w:=.step hs λI hr=>⟨g',I,#[],S,h I,F8.idle ..,q.rely hr⟩
def Way.mono{A g w}(h:Way P main AG Stop S g w)(k:∀S g w,Stop S g w->A S g w):Way P main AG A S g w:=by induction h with|stop h=>exact .stop λU hr=>k _ _ _ (h U hr)|go N hs h _ I=>exact .go N hs h I
structure Kept(AG S:zy)(w:A1)(S':zy)(w':A1):Prop where
 same:∀b,AG b->w'.heap[b]?=w.heap[b]?
 apart:∀b,AG b->¬S' b/\b<w'
 grow:∀b,S b->S' b
theorem Way.keeps{g:AY}{w:A1}(h:Way P main AG Stop S g w)(hd:∀b,AG b->¬S b/\b<w):Way P main AG (λS' N w'=>Stop S' N w'/\Kept AG S w S' w') S g w:=by
 induction h with
 |stop h=>exact .stop λI hr=>⟨h I hr,λb hb=>hr.same b (AF hb),λb hb=>⟨(hd b hb).1,Hw (hd b hb).2 hr.size⟩,λ_ x=>x⟩
 |go A hs h _ U=>
  refine .go A hs h λI hr=>?_;let hgt:=(h I hr).2;have hlt:=λb hb=>Hw (hd b hb).2 hr.size;refine(U I hr λb hb=>⟨λx=>?_,Hw (hlt b hb) hgt.size⟩).mono λS' N w' hst=>⟨hst.1,λb hb=>?_,hst.2.apart,λb hb=>hst.2.grow b ((hgt.grow b).2 (AA hb))⟩
  .rcases(hgt.grow b).1 x with y|y;.exact(hd b hb).1 y
   grind
  rw[hst.2.same b hb,hgt.same b (hlt b hb) (hd b hb).1,hr.same b (AF hb)]
def SN(h:Region.Mode)(ops:Array B8):Nat->Array Bool->List (List Nat)|0,_=>[[]]|n+1,listed=>if(Sl h ops listed).isEmpty then[[]]else(Sl h ops listed).flatMap λi=>(SN h ops n (listed.setIfInBounds i A5)).map (i::·)
theorem yb(I)(ops):∀(n t)(h),a1H I ops n t h []∈SN I ops n h
 |0,t,h=>by simp[a1H,SN]
 |n+1,t,h=>by
  simp only[SN];change(match(Sl I ops h)[t%(Sl I ops h).length]? with|Z i=>a1H I ops n (t/(Sl I ops h).length) (h.setIfInBounds i A5) [i]|J=>[].reverse)∈_;cases hi:(Sl I ops h)[t%(Sl I ops h).length]? with
  |none=>
   have N:Sl I ops h=[]:=by cases hr:Sl I ops h with|nil=>rfl|cons x xs=>rw[hr]at hi;let hlt:t%(x::xs).length<x::xs:=Nat.mod_lt _ AD;simp at hi;simp at hlt;omega
   grind
  |some i=>
   let hm:=List.mem_of_getElem? hi;let hne:(Sl I ops h).isEmpty=A9:=by cases hr:Sl I ops h with|nil=>rw[hr]at hm;cases hm|cons x xs=>rfl
   simp only[hne,↓reduceIte];rw[linearise_go_acc,List.reverse_singleton,List.singleton_append];refine List.mem_flatMap.2 ⟨i,hm,Bt.2 ⟨_,yb I ops n ..,rfl⟩⟩
def Way.draw{id:Nat}{w:A1}(hm:P.follows l8=A5)(h:∀o∈SN b6 ops ops (OG ops A9),Way P main AG Stop S (G (b.at a (Ak ops o::q)) cs) w):Way P main AG Stop S (G (b.at a (Aw (HY id ops A5)::q)) cs) w:=.step rfl λI hr=>by refine⟨_,_,#[],S,aE3,⟨Ad _,λ_ _ _=>rfl,rfl,rfl,rfl,λb=>⟨AA,λx=>x.elim (λz=>z) λy=>BA⟩,AD⟩,?_⟩;let hs:aFV (P.follows l8) ops (I.tape I.drawn (Vx b.fn id))∈SN b6 ops ops (OG ops A9):=As hm (yb ..);exact(h _ hs).rely (hr.trans ⟨Ad _,λ_ _=>rfl,rfl,rfl⟩)
def aI'(F:zy)(so:D3)(RO AG:zy)(E:AZ)(b:Ah)(a:HL)(dst:Option Tmp)(ops:Array B8)(rest:List Nat)(q:List Cd)(cs:List Ah)(Q:A3->A1->Prop)(S:zy)(g:AY)(w':A1):Prop:=∃E1 v v' h,g=G (b.at (a.put dst v') (Ak ops rest::q)) cs/\AK F E1 v v'/\Q v h/\E.le E1/\BC F so RO E1 h w'/\JK RO AG S E1
def aD5(X:Static P F kb fd k){i:Nat}{rest:List Nat}{o:B8}{ow:List Nat}{ρ:BP->A3}{E:AZ}{BX w':A1}{Q:A3->A1->Prop}(ho:ops[i]?=o)(B:Gd o (I4 ops a.tmps)=A5)(C:b.kind≠Jk)(H:To P kb fd.own ow k o.op=A5)(K:Ts P o=A5)(M:P8 o.op=A9)(hc:∀v,ρ (KN v)=v)(hf:∀f,ρ (It f)=Br (Bo f) #[] #[])(Y:∀x∈opsOf o.op,AK F E (ρ x) (a.eval x))(dF:∀x,setOf o.op=Z x->∀b,Mh (ρ x)=Z b->fd.ob b)(hg:∀b,b<CX->E.rel b b)(hw:BC F (Am fd A5) RO E BX w')(U:JK RO AG S E)(H8:∀T,∃v I es,(AM ρ o).runT P (on BX T) #[]=(AP (BB v) I,es)/\Q v I):Way P main AG (aI' F (Am fd A5) RO AG E b a o.dst ops rest q cs Q) S (G (b.at a (Ak ops (i::rest)::q)) cs) w':=by
 let⟨T0,hw⟩:=hw;refine .step rfl λN hr=>?_;let h:=hw.rely U hr T0;let⟨v,I,es,hrun,hq⟩:=H8 (join T0 BX.drawn N.tape N.drawn);have hs:=by have:=jl X.fit X.Ca (X.calm (P8 o.op)) hg hc hf (λf=>rfl) o k (j_ X.sub H) (kH K) Y dF;rwa[M]at this
 let⟨E1,nx',w1',es',r1,r2,r3,r4,r5⟩:=AQ.runs X.fit.Ip (λ_ x=>x) (λx=>by cases x) hs (⟨h.heap,h.tape,h.kept,h.low,h.even⟩) .nil hrun;cases r2 with
 |value hv=>
  rename_i v';obtain⟨v9,hgt,A⟩:=Wj U (λb hb=>(h.kept b hb).1) r4 r5;let D1:B9 P main (G (b.at a (Ak ops (i::rest)::q)) cs) N=Bl (G (b.at (a.put o.dst v') (Ak ops rest::q)) cs) w1' (Fc P b.fn es'):=by
   let DZ:(b.at a (Ak ops (i::rest)::q)).finish v'=b.at (a.put o.dst v') (Ak ops rest::q):=by rw[Vr,ho];rfl
   rw[Se ho B,H0 (by simpa[Frame.at]using C) r1 rfl,DZ];rfl
  refine⟨_,w1',_,v9,D1,hgt,.stop λE7 Dv=>?_⟩;let hh:BC F (Am fd A5) RO E1 I w1':=⟨I.tape,⟨r3.heap,r3.tape,r3.kept,r3.low,r3.even⟩⟩;exact⟨E1,v,v',I,rfl,hv,hq,r4.le,hh.rely A Dv,A⟩
def aYR{i:Nat}{rest:List Nat}{o:B8}{f:Sh}{fn:JL}{c:DK}{az:Array BP}{ats:Array BL}{w:A1}(ho:ops[i]?=o)(A:Gd o (I4 ops a.tmps)=A5)(N:b.kind≠Jk)(B:o.op=Em {callee:=NU (It f),args:=az,argTypes:=ats})(I:P.funcs[f]?=fn)(U:(fn.name== "runtime.NumGoroutine")=A9)(hb:fn.body=c):B9 P main (G (b.at a (Ak ops (i::rest)::q)) cs) w=Bl (G (Fa P f (az.map a.eval) EI) (b.at a (Ak ops (i::rest)::q)::cs)) w #[]:=by
 let h:a.eval (It f)=Br (Bo f) #[] #[]:=rfl;let hr:(AM a.eval o).runT P w #[]=(AP (NY f (az.map a.eval)) w,#[]):=by unfold AM;rw[B];show(Dl ..).runT P w #[]=_;simp[U3,h,MA,I,Ai U,hb,KQ,Ra,Ex,Dl]
 rw[Se ho A,H0 (by simpa[Frame.at]using N) hr rfl,Vm];rfl
end
end
section
open Go.Conc
variable{w:A1}{b:Ah}{ops:Array B8}{es:Array C5}{x:BP}{a:HL}{cs:List Ah}{q:List Cd}{r:Nat}{α:Type}
section
variable{P:Ao}{F:zy}{kb:Nat->Bool}{fd:Gz}{k:Nat}{Wb R:zy}
def aI0(F:zy)(Wb R:zy)(N:Nat)(b:Ah)(a:HL)(dst:Option Tmp)(ops:Array B8)(rest:List Nat)(q:List Cd)(cs:List Ah)(Q:A3->A1->Prop)(g:AY)(w':A1):Prop:=∃h v I,g=G (b.at (a.put dst v) (Ak ops rest::q)) cs/\AK F (C7 h) v v/\Q v I/\(∀b,R b->h b)/\w'.heap=I.heap/\Closed F Wb h w'/\(∀b,Wb b->b<w')/\∀b,h b->R b∨N<=b
def Sb(h:JM)(v:A3):Prop:=h=BB v∨h=JN/\v=AN
def adO(X:Static P F kb fd k)(Q0:∀b,fd.ob b){A:Ah}{i:Nat}{rest:List Nat}{o:B8}{ow:List Nat}{Q:A3->A1->Prop}(ho:ops[i]?=Z o)(M:Gd o (I4 ops a.tmps)=A5)(J_:A.kind≠Jk)(v1:To P kb fd.own ow k o.op=A5)(G3:Ts P o=A5)(Z_:P8 o.op=A9)(md:∀x∈opsOf o.op,AK F (C7 R) (a.eval x) (a.eval x))(hR:Closed F Wb R w)(Y:∀b,Wb b->b<w)(H8:∀T,∃H v N es,(AM a.eval o).runT P (on w T) #[]=(AP H N,es)/\Sb H v/\Q v N):Cy P Wb (aI0 F Wb R w A a o.dst ops rest q cs Q) (G (A.at a (Ak ops (i::rest)::q)) cs) w:=by
 refine .step rfl λd=>?_;let hwr:=hR.wr (Am fd A5) w.tape;let Q1:UO Wb (C7 R):=λb U x=>As x.1 (hR.off b x.2);let FT:JK (λ_=>False) (λ_=>False) (Du Wb (AR w)) (C7 R):=λb U x=>AF ⟨λy=>y,(hwr.lt x).2,Q1 b U x⟩;have hr:=Bc.at (λ_=>False) (Du Wb (AR w)) w d;have h:(w.at d).heap=w.heap:=rfl;generalize xZ:w.at d=B at hr h;let I:=hwr.rely FT hr (join w.tape w.drawn w.tape w.drawn);let⟨H,v,N,es,hrun,hgv,hq⟩:=H8 (join (join w.tape w.drawn w.tape w.drawn) w.drawn B.tape B.drawn);let hg:∀b,b<CX->(C7 R).rel b b:=λb hb=>⟨rfl,hR.Ca b hb⟩;have hs:=by have:=jl X.fit X.Ca (X.calm (P8 o.op)) hg (λv=>rfl) (λf=>rfl) (λf=>rfl) o k (j_ X.sub v1) (kH G3) md λx _ b _=>Q0 b;rwa[Z_]at this
 let⟨E1,nx',w1',es',r1,r2,r3,r4,r5⟩:=AQ.runs X.fit.Ip (λ_ x=>x) (λx=>by cases x) hs (⟨I.heap,I.tape,I.kept,I.low,I.even⟩) .nil hrun;let C:=r4.V4 ⟨xf R,h⟩;obtain⟨K,hgt,Pt⟩:=Wj FT (λb hb=>hb.elim) r4 r5;let Uy:∀b,Wb b->b<w1':=λb hb=>by have:=Y b hb;let h5:=hgt.size;rw[h]at h5;omega
 let ZQ:UO Wb E1:=λb U x=>by
  let Uv:F8 (λ_=>False) (Du Wb B) B w1' (Fc P A.fn es') K:=Ar h;rcases Pt b U x with⟨y,_⟩|⟨_,y⟩;.exact y.elim
  rw[jL (λb hb=>As h (Y b hb)) Uv]at y;exact y.2
 let hk':((A.at a (Ak ops (i::rest)::q)).kind==Jk)=A9:=by simpa[Frame.at]using J_
 let DZ:∀v',(A.at a (Ak ops (i::rest)::q)).finish v'=A.at (a.put o.dst v') (Ak ops rest::q):=λv'=>by rw[Vr,ho];rfl
 obtain⟨ip,rfl,Er⟩:=gn r3 C ZQ λb hb=>r4.le _ _ (hg b hb);have hle:=λb hb=>(r4.le b b ⟨rfl,hb⟩).2;have E9:=λb hb=>(r4.fresh b b ⟨rfl,hb⟩).imp (·.2) (·.1);rcases hgv with rfl|⟨rfl,rfl⟩;.cases r2 with|value hv=>rename_i v';obtain rfl:=hv.same C.1;refine⟨_,w1',_,K,?_,hgt,.stop λd2=>⟨ip,v',N,rfl,hv,hq,hle,C.2,Er.same λ_ _=>rfl,Uy,E9⟩⟩;rw[Se ho M,H0 hk' r1 rfl,DZ];rfl
 cases r2;refine⟨_,w1',_,K,?_,hgt,.stop λd2=>⟨ip,AN,N,rfl,.tuple .nil,hq,hle,C.2,Er.same λ_ _=>rfl,Uy,E9⟩⟩;rw[Se ho M,H0 hk' r1 rfl,DZ];rfl
def Cy.ctl{Stop g g'}(hs:g.status=CZ)(h:∀w,B9 P A5 g w=Bl g' w #[])(k:Cy P Wb Stop g' w):Cy P Wb Stop g w:=by refine .step hs λd=>⟨g',w.at d,#[],Du Wb (AR w),h _,⟨Ad _,λ_ _ _=>rfl,rfl,rfl,rfl,λb=>⟨λx=>AA x,λx=>x.elim id λy=>absurd y.2 (a2j.2 y.1)⟩,λe he=>BA⟩,k.at d⟩
def Cy.oper{Stop:AY->A1->Prop}{i:Nat}{rest:List Nat}{o:B8}{w2:A1}{v:A3}(ho:ops[i]?=Z o)(A:Gd o (I4 ops a.tmps)=A5)(B:b.kind≠Jk)(h:∀d,(AM a.eval o).runT P (w.at d) #[]=(AP (BB v) (w2.at d),es))(C:w2.heap.size=w)(hsame:∀x,¬Du Wb w x->w2.heap[x]?=w.heap[x]?)(I:w2.os=w.os/\w2.output=w.output/\w2.tape=w.tape)(N:∀e∈es,Ko (λ_=>False) (Du Wb w) e)(k:Cy P Wb Stop (G (b.at (a.put o.dst v) (Ak ops rest::q)) cs) w2):Cy P Wb Stop (G (b.at a (Ak ops (i::rest)::q)) cs) w:=by
 let U:(b.at a (Ak ops (i::rest)::q)).finish v=b.at (a.put o.dst v) (Ak ops rest::q):=by rw[Vr,ho];rfl
 refine .step rfl λd=>⟨G (b.at (a.put o.dst v) (Ak ops rest::q)) cs,w2.at d,Fc P b.fn es,Du Wb (AR w),?_,⟨?_,λx _ hn=>hsame x hn,I.1,I.2.1,I.2.2,λx=>⟨λy=>AA y,λy=>y.elim id λz=>?_⟩,λe he=>N e (Vl he)⟩,k.at d⟩;.rw[Se ho A,H0 (by simpa[Frame.at]using B) (h d) rfl,U];rfl
 .show w.heap.size<=w2;omega
 let z1:w<=x:=z.1;let z2:x<w2:=z.2;omega
def Cy.pure{Stop i rest o}(v)(ho:ops[i]?=Z o)(N:Gd o (I4 ops a.tmps)=A5)(I:b.kind≠Jk)(h:∀w,(AM a.eval o).runT P w #[]=(AP (BB v) w,#[]))(k:Cy P Wb Stop (G (b.at (a.put o.dst v) (Ak ops rest::q)) cs) w):Cy P Wb Stop (G (b.at a (Ak ops (i::rest)::q)) cs) w:=.oper ho N I (λd=>h _) rfl (λ_ _=>rfl) ⟨rfl,rfl,rfl⟩ (λe he=>BA) k
end
section
variable{P:Ao}{main:Bool}
def BE(l:Nat)(d8:Ah):Ah:={d8 with roundOf:=l}
def FV(s:LoopState)(fn:Sh)(T:zw)(ps:Array Tmp)(az Gj:DK)(r:Nat):Cq:=.loop {state:=s,pending:=J,fn,tmps:=T,params:=ps,assign:=az,body:=Gj,defers:=r}
def aYX{T:zw}{ps:Array Tmp}{az Gj:DK}{k:List Cd}{cap:zw}{f:Nat}{fn:JL}{c:DK}(hk:(b.kind==Jk)=A9)(hx:FG ⟨T,[]⟩ x=Br (Bo f) #[] cap)(U:P.funcs[f]?=fn)(A:(fn.name== "runtime.NumGoroutine")=A9)(hb:fn.body=c)(w:A1):B9 P main (G (b.at ⟨T,[]⟩ (Aw (.rangeFunc x ps az Gj)::k)) cs) w=Bl (G (Fa P f (#[Br (U4 (w+1)) #[] #[]]++cap) EI) (b.at ⟨T,[⟨b8 w,#[]⟩]⟩ (.inRangeFunc (w+1)::k)::cs)) ((w.alloc (PM (Z []))).alloc (FV M7 b.fn T ps az Gj w)) #[]:=by
 let N:¬fn.name= "runtime.NumGoroutine":=Ai A;let e1:(Instr.enterLoop b.fn T ps az Gj J).runT P w #[]=(AP (AR w+1,[⟨b8 (AR w),#[]⟩]) ((w.alloc (PM (Z []))).alloc (FV M7 b.fn T ps az Gj (AR w))),#[]):=by show(AP ((w.heap.push (PM (Z []))).size,_) _,_)=_;rw[kZ];rfl
 let he:∀(h:List Cd)(ds:List Vp)(z:BP),Frame.eval {fn:=b.fn,tmps:=T,todo:=h,defers:=ds,mode:=LZ,kind:=b.kind} z=FG ⟨T,[]⟩ z:=λh ds z=>by cases z<;>rfl
 simp only[G,B9,BY,Frame.at,e1];generalize(w.alloc (PM (Z []))).alloc (FV M7 b.fn T ps az Gj (AR w))=W;let e2:∀d8:Ah,(∀z,d8.eval z=FG ⟨T,[]⟩ z)->(do let d<-KQ d8.eval {callee:=NU x,args:=#[KN (Br (U4 (AR w+1)) #[] #[])],argTypes:=#[]} 0;Ra d.target d.args:Sem JM).runT P W #[]=(AP (NY f (#[Br (U4 (AR w+1)) #[] #[]]++cap)) W,#[]):=λd8 hf=>by let I:∀v,FG ⟨T,[]⟩ (KN v)=v:=λ_=>rfl;show(Dl _ _).runT P W #[]=_;simp[U3,hf,hx,I,MA,U,N,hb,KQ,Ra,Ex,Dl]
 simp only[Iu,e2 _ (he _ _),Vm,KH,hk];rfl
def NL(w:A1)(b:Nat)(o:Cq):A1:={w with heap:=w.heap.setIfInBounds b o}
def gK(o:Cq):Prop:=(∃x,o=.loop x)∨∃x,o=PM x
def jx{k:Cq->Sem α}{o:Cq}(h:w.heap[r]?=o)(ho:gK o):(Sn r k).runT P w es=(k o).runT P w (es.push ⟨FI r,A9,A9⟩):=by rw[D4,h];rcases ho with⟨x,rfl⟩|⟨x,rfl⟩<;>rfl
def q9{k:Sem α}{o o':Cq}(h:w.heap[r]?=o)(ho:gK o)(I:gK o'):(Vy r o' k).runT P w es=k.runT P (NL w r o') (es.push ⟨FI r,A5,A9⟩):=by show(match w.heap[r]? with|Z (A7 ..)=>_|Z _=>_|J=>_)=_;rw[h];rcases ho with⟨x,rfl⟩|⟨x,rfl⟩<;>rcases I with⟨y,rfl⟩|⟨y,rfl⟩<;>rfl
section
variable{b:Ah}{a:HL}{l r:Nat}{k:List Cd}{cs:List Ah}{w:A1}{s:LoopState}{fn:Sh}{T:zw}{ps:Array Tmp}{az Gj:DK}
def QB:gK (FV s fn T ps az Gj r):=AA ⟨_,rfl⟩
def aYQ(hk:(b.kind==Jk)=A9)(hl:w.heap[l]?=Z (FV M7 fn T ps az Gj r)):B9 P main (G (BE l (b.at a (.beginRound::k))) cs) w=Bl (G (BE l (b.at a k)) cs) (NL w l (FV s8 fn T ps az Gj r)) (Fc P b.fn #[⟨FI l,A9,A9⟩,⟨FI l,A5,A9⟩]):=by
 let e:(do(Z l).elim (UB "beginRound: no round") Instr.beginRound;Ex JN:Sem JM).runT P w #[]=(AP JN (NL w l (FV s8 fn T ps az Gj r)),#[⟨FI l,A9,A9⟩,⟨FI l,A5,A9⟩]):=by show(Sn l _).runT P w #[]=_;rw[jx hl QB];show(Vy l (FV s8 fn T ps az Gj r) _).runT P w _=_;rw[q9 hl QB QB];rfl
 simp only[G,B9,BY,BE,Frame.at];simp only[Iu,e,KH,hk];rfl
def aYW{c}(hk:b.kind=EI)(hl:w.heap[l]?=Z (FV s8 fn T ps az Gj r)):B9 P main (G (BE l (b.at a [])) (c::cs)) w=Bl (G (c.finish (Ag A5)) cs) (NL w l (FV M7 fn T ps az Gj r)) (Fc P b.fn #[⟨FI l,A9,A9⟩,⟨FI l,A5,A9⟩]):=by
 let e:(Instr.endRound l J).runT P w #[]=(AP (Ag A5) (NL w l (FV M7 fn T ps az Gj r)),#[⟨FI l,A9,A9⟩,⟨FI l,A5,A9⟩]):=by show(Sn l _).runT P w #[]=_;rw[jx hl QB];show(Vy l (FV M7 fn T ps az Gj r) _).runT P w _=_;rw[q9 hl QB QB];rfl
 simp only[G,B9,BY,BE,Frame.at,e];simp only[a1X,KH,hk];rfl
def aYV(hl:w.heap[l]?=Z (FV M7 fn T ps az Gj r)):B9 P main (G (b.at a (.endRangeFunc l::k)) cs) w=Bl (G (b.at a k) cs) (NL w l (FV a0n fn T ps az Gj r)) (Fc P b.fn #[⟨FI l,A9,A9⟩,⟨FI l,A5,A9⟩]):=by
 let e:(Instr.endLoop l).runT P w #[]=(AP J (NL w l (FV a0n fn T ps az Gj r)),#[⟨FI l,A9,A9⟩,⟨FI l,A5,A9⟩]):=by show(Sn l _).runT P w #[]=_;rw[jx hl QB];show(Vy l (FV a0n fn T ps az Gj r) _).runT P w _=_;rw[q9 hl QB QB];rfl
 simp only[G,B9,BY,Frame.at,e];simp only[KH];rfl
def rt(d8:Ah):Ah:={d8 with mode:=Mp}
def aYT{T}(hr:w.heap[r]?=Z (PM (Z []))):B9 P main (G (rt (b.at ⟨T,[⟨b8 r,#[]⟩]⟩ k)) cs) w=Bl (G (rt (b.at ⟨T,[]⟩ k)) cs) (NL w r (PM J)) (Fc P b.fn #[⟨FI r,A9,A9⟩,⟨FI r,A5,A9⟩]):=by
 let e:(Instr.takeDeferred r).runT P w #[]=(AP [] (NL w r (PM J)),#[⟨FI r,A9,A9⟩,⟨FI r,A5,A9⟩]):=by show(Sn r _).runT P w #[]=_;rw[jx hr (AF ⟨_,rfl⟩)];show(Vy r (PM J) _).runT P w _=_;rw[q9 hr (AF ⟨_,rfl⟩) (AF ⟨_,rfl⟩)];rfl
 simp only[G,B9,rt,Frame.at,I3,e];simp only[KH];rfl
def aYa{ops:Array B8}{i:Nat}{rest:List Nat}{q:List Cd}{o:B8}{y:BP}{ats:Array BL}{t:Tmp}(ho:ops[i]?=o)(hw:Gd o (I4 ops a.tmps)=A5)(hk:(b.kind==Jk)=A9)(I:o.op=Em {callee:=NU x,args:=#[y],argTypes:=ats})(hx:a.eval x=Br (U4 l) #[] #[])(hl:w.heap[l]?=Z (FV s fn T #[t] az Gj r)):B9 P main (G (b.at a (Ak ops (i::rest)::q)) cs) w=Bl (G (Frame.round l fn (T.setIfInBounds t (a.eval y)) az Gj EI) (b.at a (Ak ops (i::rest)::q)::cs)) w (Fc P b.fn #[⟨FI l,A9,A9⟩]):=by
 let e:(AM a.eval o).runT P w #[]=(AP (.round l fn (T.setIfInBounds t (a.eval y)) az Gj) w,#[⟨FI l,A9,A9⟩]):=by unfold AM;rw[I];let h:#[]++Array.map a.eval #[y]=#[a.eval y]:=AD;simp only[KQ,U3,hx,h];show(Sn l _).runT P w #[]=_;rw[jx hl QB];simp[FV,Dl,Ex,D4]
 rw[Se ho hw];let hk':((b.at a (Ak ops (i::rest)::q)).kind==Jk)=A9:=hk;simp only[Iu,e,KH,hk'];rfl
def aYY{ops:Array B8}{i:Nat}{rest:List Nat}{o:B8}(ho:ops[i]?=o)(hw:Gd o (I4 ops a.tmps)=A5)(hd:∀c,o.op≠b3 c):B9 P main (G (BE l (b.at a (Ak ops (i::rest)::k))) cs) w=Iu P A5 (BE l (b.at a (Ak ops (i::rest)::k))) cs J (AM a.eval o) w:=by
 let he:(BE l (b.at a (Ak ops (i::rest)::k))).eval=a.eval:=by funext z;cases z<;>rfl
 simp only[BE,Frame.at]at he;simp only[G,B9,BY,Frame.at,BE,ho,Qg,MJ,hw,if_true,bF,l9,he];split;.next h=>exact absurd h (hd _)
 rfl
end
end
end
section
open Go.Proofs.YtcfhleenecfghaaGreatDoor
def Yj:List Nat:=[200,45,58,218,289,125,92,93,94,95,174,178,177,179,180,100,246,118,251,252,253,248,249,247,250,196,254,255,339,340,341,194,342,343,275,86,123,405,406,273,354,172,43,434,350,352,353,411,85,410,168,87,169,170,171,242,173,176,243,244,245]
def SP:Nat->List Nat|93=>[3,8,37]|251=>[14]|405=>[4]|172=>[3,9,13,14]|_=>[]
def reads(f:Nat):Prop:=f∈Yj/\SP f=[]∨f=407∨f=351∨f=409
theorem aAZ{f}(h:SP f≠[]):f∈Yj:=by
 unfold SP at h;split at h;.decide
 .decide
 .decide
 .decide
 grind
def nH(P:Ao)(f:Nat):Bool:=match P.funcs[f]? with|Z fn=>!fn.name== "runtime.NumGoroutine"&&fn.body.isSome|J=>A9
def aJR:Yj.all (nH A6)=A5:=A8
def a4w:ak a14=Z a0_:=A8
def a4v:ak a11=Z a0a:=A8
def a4x:ak a15=Z a0b:=A8
def aA6:(al a14).isNone=A5:=A8
def aA5:(al a11).isNone=A5:=A8
def aA7:(al a15).isNone=A5:=A8
section
variable{P:Ao}{F:zy}{so:D3}{E:AZ}
def VQ{f:Nat}{fn row}(N:P.funcs[f]?=Z fn)(hn:(fn.name== "runtime.NumGoroutine")=A9)(hb:fn.body.isNone=A5)(hx:(al fn).isNone=A5)(hr:ak fn=Z row){a a'}(h:∀I,E.le I->AQ P F so (Bp F) I (row a) (row a')):AQ P F so (O_ P F so.own) E (MA f a) (MA f a'):=by refine .prog ?_;rw[N];simp only[hn,hb,↓reduceIte];refine .mark (.extern f) ?_;simp only[Ai hx,hr];exact Fs (h E (AZ.le_refl _))
theorem aD{row:zw->Sem Value}(h2:∀{x x' y y':Value},AK F E x x'->AK F E y y'->AQ P F so (Bp F) E (row #[x,y]) (row #[x',y'])){a a':zw}(h:Al F E a.toList a'.toList)(h0:∀l:List Value,l.length≠2->∃m,row ⟨l⟩=Go.stuck m:=by exact λl hl=>match l,hl with|[],_=>⟨_,rfl⟩|[_],_=>⟨_,rfl⟩|[_,_],h=>absurd rfl h|_::_::_::_,_=>⟨_,rfl⟩):AQ P F so (Bp F) E (row a) (row a'):=by
 let⟨l⟩:=a;let⟨l'⟩:=a';by_cases hl:l.length=2;.match l,l',hl,h with|[x,y],[x',y'],_,.cons hx (.cons hy .nil)=>grind
 let⟨m,e⟩:=h0 l hl;rw[e];exact .stuck
end
theorem calm{fd}(ho:fd.own=SP)(z):Calm A6 reads (Am fd z):=by
 let U:(Am fd z).own=SP:=ho;refine⟨λf hf=>?_,λf hf E hg a a' A h=>?_⟩
 .rw[U];rcases hf with hf|rfl|rfl|rfl;.grind
  .rfl
  .rfl
  rfl
 let hf1:f∈Yj∨f=407∨f=351∨f=409:=by
  rcases hf with(hf|hf)|hf;.grind
  .grind
  rw[U]at hf;exact AA (aAZ hf.1)
 rcases hf1 with I|rfl|rfl|rfl;.let hb:=Ha.1 aJR f I;unfold nH at hb;cases e:A6.funcs[f]? with|none=>grind|some fn=>rw[e]at hb;simp only[aY,kk]at hb;exact aB0 hf e hb.1 (As Option.isNone_eq_false_iff hb.2) A h
 .exact VQ a19 (rfl) (rfl) aA6 a4w λN hE=>aD (λhx hy=>aB1 hx hy) (h.mono hE)
 .exact VQ a18 (rfl) (rfl) aA5 a4v λN hE=>aD (λhx hy=>aB6 (rfl) (λb hb=>hE _ _ (hg b hb)) hx hy) (h.mono hE)
 exact VQ a1A (rfl) (rfl) aA7 a4x λN hE=>aD (λhx hy=>aB5 hx hy) (h.mono hE)
abbrev LN:l4:={add:=197,done:=199,wait:=201,relMerge:=276,disable:=277,enable:=278,inBubble:=279,associate:=280,fatal:=281,uOr:=282,uAdd:=283,raceRead:=284,uLoad:=285,uStore:=286,disassociate:=287,semrelease:=288,acquire:=290,isAssociated:=291,uCas:=292,raceWrite:=293,semacquire:=294,orU64:=355,addU64:=356,loadU64:=357,storeU64:=358,casU64:=359,tWgP:=398,tUP:=390,tAssoc:=400,tWg:=325,tAU:=322,tU64:=242,tUint:=305,tU32:=323,tPU32:=403,tPAU:=460,tPU64:=462,tNoCopy:=318,tANoCopy:=319,tAlign64:=320}
def qe:rI A6 LN:=⟨Tryz.func197,aFL,Tryz.func201,Tryz.func276,Tryz.func277,Tryz.func278,Tryz.func279,Tryz.func280,Tryz.func281,Tryz.func282,Tryz.func283,Tryz.func284,Tryz.func285,Tryz.func286,Tryz.func287,Tryz.func288,Tryz.func290,Tryz.func291,Tryz.func292,Tryz.func293,Tryz.func294,Tryz.func355,Tryz.func356,Tryz.func357,Tryz.func358,Tryz.func359,Tryz.underlying398,Tryz.runUnderlying398,Tryz.sizeOf398,Tryz.isAgg398,Tryz.zeroValue398,Tryz.underlying390,Tryz.runUnderlying390,Tryz.sizeOf390,Tryz.isAgg390,Tryz.zeroValue390,Tryz.underlying400,Tryz.runUnderlying400,Tryz.sizeOf400,Tryz.isAgg400,Tryz.zeroValue400,Tryz.underlying325,Tryz.runUnderlying325,Tryz.sizeOf325,Tryz.isAgg325,Tryz.zeroValue325,Tryz.underlying322,Tryz.runUnderlying322,Tryz.sizeOf322,Tryz.isAgg322,Tryz.zeroValue322,Tryz.underlying242,Tryz.runUnderlying242,Tryz.sizeOf242,Tryz.isAgg242,Tryz.zeroValue242,Tryz.underlying305,Tryz.runUnderlying305,Tryz.sizeOf305,Tryz.isAgg305,Tryz.zeroValue305,Tryz.underlying323,Tryz.runUnderlying323,Tryz.sizeOf323,Tryz.isAgg323,Tryz.zeroValue323,Tryz.underlying403,Tryz.runUnderlying403,Tryz.sizeOf403,Tryz.isAgg403,Tryz.zeroValue403,Tryz.underlying460,Tryz.runUnderlying460,Tryz.sizeOf460,Tryz.isAgg460,Tryz.zeroValue460,Tryz.underlying462,Tryz.runUnderlying462,Tryz.sizeOf462,Tryz.isAgg462,Tryz.zeroValue462,Tryz.underlying0,Tryz.runUnderlying0,Tryz.sizeOf0,Tryz.isAgg0,Tryz.zeroValue0,Tryz.underlying3,Tryz.runUnderlying3,Tryz.sizeOf3,Tryz.isAgg3,Tryz.zeroValue3,Tryz.underlying4,Tryz.runUnderlying4,Tryz.sizeOf4,Tryz.isAgg4,Tryz.zeroValue4,Tryz.underlying9,Tryz.runUnderlying9,Tryz.sizeOf9,Tryz.isAgg9,Tryz.zeroValue9,Tryz.underlying20,Tryz.runUnderlying20,Tryz.sizeOf20,Tryz.isAgg20,Tryz.zeroValue20,Tryz.underlying21,Tryz.runUnderlying21,Tryz.sizeOf21,Tryz.isAgg21,Tryz.zeroValue21,rfl,rfl⟩
end
def ju(f:Nat):Bool:=Yj.contains f&&(SP f).isEmpty||f==407||f==351||f==409
def aVv(f)(h:ju f=A5):reads f:=by
 unfold ju at h;simp at h;rcases h with((h|h)|h)|h;.exact AA h
 .exact AF (AA h)
 .exact AF (AF (AA h))
 exact AF (AF (AF h))
def a4M(P:Ao)(f:Nat):Bool:=match P.funcs[f]? with
 |Z fn=>match fn.body with
  |Z c=>J2 P ju SP (SP f) 8 c
  |J=>A9
 |J=>A9
def aKN:Yj.all (a4M A6)=A5:=A8
theorem laid{fd}(ho:fd.own=SP):Laid A6 reads ju fd 8:=by
 intro f fn c hf I hb;rw[ho]at hf⊢;let hf1:f∈Yj∨f=407∨f=351∨f=409:=by
  rcases hf with(hf|hf)|hf;.grind
  .grind
  exact AA (aAZ hf.1)
 rcases hf1 with hf|rfl|rfl|rfl
 .let h:=Ha.1 aKN f hf;unfold a4M at h;refine⟨by simpa only[I,hb]using h,?_⟩;unfold SP;repeat' split
  all_goals rfl
 .cases CP (I.symm.trans a19);exact absurd hb (by rw[show a14.body=J from rfl];simp)
 .cases CP (I.symm.trans a18);exact absurd hb (by rw[show a11.body=J from rfl];simp)
 cases CP (I.symm.trans a1A);exact absurd hb (by rw[show a15.body=J from rfl];simp)
def aDM(i:Nc):Bool:=match i.zero with|Z z=>jd 20 z|J=>A5
def a_l:A6.types.toList.all aDM=A5:=by rfl
def a_j(F){t:Nat}{i z}(h:A6.types[t]?=Z i)(hz:i.zero=Z z)(E):AK F E z z:=by
 let hm:i∈A6.types.toList:=by obtain⟨hlt,rfl⟩:=aV.1 h;simp
 have:=Ha.1 a_l i hm;unfold aDM at this;rw[hz]at this;exact jf 20 this
section
variable{F:zy}
def Y_(F:zy)(i:Nc):Prop:=∀z,i.zero=Z z->∀E,AK F E z z
theorem aAR{α lc:Type}{I:lc->Prop}{f:α->lc->Option (ForInStep lc)}(hf:∀x b r,I b->f x b=Z r->I (match r with|.done b=>b|.yield b=>b)):∀(l:List α){b b'},I b->ForIn.forIn l b f=Z b'->I b'|[],b,b',hb,h=>by grind|x::l,b,b',hb,h=>by simp only[List.forIn_cons,OX,IY]at h;let⟨r,h1,h2⟩:=h;have:=hf x b r hb h1;cases r with|done c=>grind|yield c=>exact aAR hf l this h2
def aYj{A}(hi:∀t i,A t=Z i->Y_ F i){fs i}(h:sB A fs=Z i):Y_ F i:=by
 unfold sB at h;simp only[OX,IY]at h;let⟨st,hl,hp⟩:=h;rw[<-Array.forIn_toList]at hl;let hI:=aAR (I:=λs:Array Field×Nat×Nat×Nat×Nat×Bool×Bool×Option (zw)×String=>∀a,s.2.2.2.2.2.2.2.1=Z a->∀E,Al F E a.toList a.toList) (λf s r hs hr=>by
  simp only[IY]at hr;let⟨i,hi1,hr⟩:=hr;let N:∀(c:Prop)[Decidable c](a:zw),(if c then J else s.2.2.2.2.2.2.2.1.bind λx=>i.zero.bind λy=>Ex (x++y.cells))=Z a->∀E,Al F E a.toList a.toList:=by
   intro c _ a ha E;split at ha;.cases ha
   simp only[IY]at ha;let⟨x,hx,y,hy,e⟩:=ha;cases e;simpa using(hs x hx E).append (hi _ _ hi1 y hy E).cells
  by_cases e1:i.str.isEmpty=A5;.simp[e1]at hr
  by_cases e2:f.embedded=A5;.simp[e2]at hr
  simp only[e1,e2,Ev,↓reduceIte]at hr;split at hr
  .simp only[IY]at hr;let⟨tag,_,hr⟩:=hr;split at hr;.cases hr;exact N _
   cases hr;exact N _
  simp only[IY]at hr;let⟨tag,_,hr⟩:=hr;split at hr;.cases hr;exact N _
  cases hr;exact N _) fs.toList (by intro a ha E;cases ha;exact .nil) hl;intro z hz E;have hz2:=by split at hp<;>(cases hp;exact hz)
 cases e:st.2.2.2.2.2.2.2.1 with|none=>rw[e]at hz2;cases hz2|some a=>rw[e]at hz2;cases hz2;exact .agg (hI a e E)
end
section
variable{F:zy}
theorem Al.each{E l}(h:Al F E l l):∀v∈l,AK F E v v:=by intro v hv;obtain⟨n,hn,rfl⟩:=List.getElem_of_mem hv;let⟨v',e,hv'⟩:=h.get n (En hn);grind
def aVx{A}(hi:∀t i,A t=Z i->Y_ F i){d i}(h:sA A d=Z i):Y_ F i:=by
 unfold sA at h;cases d with
 |pointer e=>
  simp only[OX,IY]at h;let⟨j,hj,h⟩:=h;split at h;.cases h
  .split at h;.cases h
   simp only[IY]at h;let⟨s,_,h⟩:=h;cases h;intro z hz E;cases hz;exact .GR
  simp only[IY]at h;let⟨s,_,h⟩:=h;cases h;intro z hz E;cases hz;exact .GR
 |slice e=>simp only[OX,IY]at h;let⟨j,_,s,_,h⟩:=h;cases h;intro z hz E;cases hz;exact .FZ ..
 |map a b=>simp only[OX,IY]at h;let⟨j,_,s,_,j2,_,s2,_,h⟩:=h;cases h;intro z hz E;cases hz;exact .R7
 |chan a b=>simp only[OX,IY]at h;let⟨j,_,s,_,h⟩:=h;cases h;intro z hz E;cases hz;exact .WZ
 |func a b c=>simp only[OX,IY]at h;let⟨s,_,h⟩:=h;cases h;intro z hz E;cases hz;exact .nilFunc
 |array n e=>
  simp only[OX,IY]at h;let⟨j,hj,s,_,h⟩:=h;cases h;intro z hz E;split at hz;.cases hz
  split at hz;.cases hz;exact .agg .nil
  cases e2:j.zero with|none=>rw[e2]at hz;cases hz|some y=>rw[e2]at hz;cases hz;refine .agg (Al.XR λv hv=>?_);refine(hi _ _ hj y e2 E).cells.each v ?_;simp only[a'y,Array.mem_flatten,Array.mem_replicate]at hv⊢;obtain⟨x,⟨_,rfl⟩,hx⟩:=hv;exact hx
 |struct fs=>exact aYj hi h
 |_=>cases h
theorem a8G{T}(hT:∀(t:Nat)(i:Nc),T.types[t]?=Z i->Y_ F i):∀(I t:Nat)(i),s9 T I t=Z i->Y_ F i
 |0,_,_,h=>by cases h
 |f+1,t,i,h=>by
  unfold s9 at h;split at h;.grind
  simp only[IY]at h;let⟨d,_,h⟩:=h;exact aVx (λt i h=>a8G hT f t i h) h
theorem aUG{p}{t:Nat}{q}(h:p.underlying t=Z (.int q)):∀d I v,W3 p d t I=Z v->∃k n,v=AB k n|0,_,_,e=>by cases e|d+1,I,v,e=>by unfold W3 at e;grind
def uR(p:Ao)(t:Nat):Bool:=match p.underlying t with|Z (.pointer _)|Z (.slice _)=>A5|_=>A9
theorem aUH{p t}(h:uR p t=A5):∀d I,W3 p d t I=J|0,_=>rfl|d+1,I=>by unfold W3;unfold uR at h;grind
def a3N(p:Ao)(t:Nat):Bool:=match p.underlying t with|Z (.struct fs)=>fs.toList.all λf=>uR p f.type|_=>A9
def aUF{p t}(h:a3N p t=A5):∀d I,W3 p d t I=J|0,_=>rfl|d+1,I=>by unfold W3;unfold a3N at h;cases e:p.underlying t with|none=>rfl|some u=>rw[e]at h;cases u with|struct fs=>rw[Array.findSome?_eq_none_iff];intro f hf;rw[aUH (Ha.1 h f (by simpa using hf))];exact ite_self _|_=>cases h
theorem Ip:Qk A6:=by
 rintro t(rfl|rfl)h v e;.rw[aUF (rfl)]at e;grind
 exact aUG (q:=.u8) (rfl) _ h v e
def fit(F):Fit A6 F:=by
 refine⟨λt i z h hz E=>?_,Ip⟩;let hT:∀(t:Nat)(i:Nc),A6.types[t]?=Z i->Y_ F i:=λt i h z hz E=>a_j F h hz E;unfold Tables.info? at h;split at h;.exact hT t i h z hz E
 exact a8G hT _ t i h z hz E
end
def ow(RO:zy):Gz:=⟨SP,λb=>¬RO b,λh=>absurd rfl h,False,λh=>absurd rfl h⟩
def static(RO):Static A6 reads ju (ow RO) 8:=⟨fit _,rfl,calm rfl,aVv,laid rfl⟩
section
open Go.Proofs.YtcfhleenecfghaaGreatDoor
def gg:List Nat:=[13,14,15,16,17,19,20,21,22,27,28,29,31,32,33,38,43,44,45,46,49,50,51,57,58,59,60,62,63,64,65,66,67,68,69,70,71,85,86,87,88,89,90,91,92,93,94,95,96,97,98,99,100,101,102,103,105,118,119,120,121,122,123,124,125,127,128,129,130,131,132,133,134,135,136,137,138,139,140,141,142,143,145,146,147,148,149,150,151,152,153,154,155,168,169,170,171,172,173,174,175,176,177,178,179,180,181,182,183,184,194,195,196,200,202,203,204,205,206,207,208,209,210,211,212,213,214,215,216,217,218,219,221,222,223,224,225,226,227,228,242,243,244,245,246,247,248,249,250,251,252,253,254,255,256,257,258,259,260,261,262,263,264,265,266,273,274,275,289,295,296,297,298,299,300,301,302,303,304,305,306,307,308,309,310,311,312,313,314,315,316,317,320,321,322,323,324,325,326,327,329,339,340,341,342,343,344,345,346,347,348,350,352,353,354,360,361,362,363,364,365,366,367,368,369,370,371,372,373,374,375,376,377,378,379,380,381,382,319,384,385,386,387,388,405,406,408,410,411,412,413,414,415,416,417,418,419,420,421,424,425,434,435,436,437,438,439,440,441,442,443,444,445,446,450,451,452,455,472,474,475,476]
def jP:List Nat:=[267,328,351,407,409,422]
def CK(f:Nat):Prop:=f∈gg∨f∈jP
def Hh(f:Nat):Bool:=gg.contains f||jP.contains f
theorem TG(f)(h:Hh f=A5):CK f:=by grind[Hh,CK]
def FM:Nat->List Nat:=λf=>if f=4294967296 then[0]else if f=10 then[1000007,1000009]else[]
def SO:Gz:=⟨FM,λ_=>True,λ_ _=>trivial,True,λ_=>trivial⟩
def aJQ:gg.all (nH A6)=A5:=A8
def aXk:(gg++jP).all (λf=>BK (f<4294967296))=A5:=rfl
def pN:Hh 10=A9:=rfl
theorem yd{f}(h:CK f):FM f=[]:=by
 have:=Ha.1 aXk f (E8.2 h);have hne:f≠10:=λe=>by
  subst e;have h7:=pN;unfold Hh at h7;rcases h with h|h;.simp[h]at h7
  simp[h]at h7
 unfold FM;grind
def aAW{f}(h:ba (FM f)):f=4294967296:=by
 have I:=h.1;unfold FM at I;split at I;.assumption
 split at I;.rename_i e;subst e;exact absurd h.2 Ac
 exact absurd rfl I
def aLx:ak aFE=Z rj:=A8
def aLy:ak aFF=Z a0Z:=A8
def aLz:ak sL=Z (rk sL.params sL.resultTypes):=rfl
def aTF:(al aFE).isNone=A5:=A8
def aTG:(al aFF).isNone=A5:=A8
def aTH:(al sL).isNone=A5:=A8
section
variable{P:Ao}{F:zy}{so:D3}{E:AZ}
theorem aVR{row:zw->Sem A3}(h0:∀l:List A3,l.length≠1->∃m,row ⟨l⟩=UB m)(I:∀{x x':A3},AK F E x x'->AQ P F so (Bp F) E (row #[x]) (row #[x'])){a a'}(h:Al F E a.toList a'.toList):AQ P F so (Bp F) E (row a) (row a'):=by
 let⟨l⟩:=a;let⟨l'⟩:=a';by_cases hl:l.length=1;.match l,l',hl,h with|[x],[x'],_,.cons hx .nil=>grind
 let⟨m,e⟩:=h0 l hl;rw[e];exact .stuck
end
theorem aJg(z):Calm A6 CK (Am SO z):=by
 refine⟨λf hf=>yd hf,λf hf E hg a a' N h=>?_⟩;rcases hf with(hf|hf)|hf;.let hb:=Ha.1 aJQ f hf;unfold nH at hb;cases e:A6.funcs[f]? with|none=>grind|some fn=>rw[e]at hb;simp only[aY,kk]at hb;exact aB0 (AA (AA hf)) e hb.1 (by simp_all) N h
 .simp only[jP,DO,IX,or_false]at hf;rcases hf with rfl|rfl|rfl|rfl|rfl|rfl;.exact VQ Tryz.func267 (rfl) (rfl) aTF aLx λI hE=>aVQ (h.mono hE)
  .exact VQ Tryz.func328 (rfl) (rfl) aTG aLy λI hE=>aD (λhx hy=>aUu hx hy) (h.mono hE)
  .exact VQ a18 (rfl) (rfl) aA5 a4v λI hE=>aD (λhx hy=>aB6 (rfl) (λb hb=>hE _ _ (hg b hb)) hx hy) (h.mono hE)
  .exact VQ a19 (rfl) (rfl) aA6 a4w λI hE=>aD (λhx hy=>aB1 hx hy) (h.mono hE)
  .exact VQ a1A (rfl) (rfl) aA7 a4x λI hE=>aD (λhx hy=>aB5 hx hy) (h.mono hE)
  exact VQ Tryz.func422 (rfl) (rfl) aTH aLz λI hE=>aVR (λl hl=>match l,hl with|[],_=>⟨_,rfl⟩|[_],h=>absurd rfl h|_::_::_,_=>⟨_,rfl⟩) (λhx=>aVG _ _ hx) (h.mono hE)
 obtain rfl:=aAW hf;exact .prog .stuck
def a4L(P:Ao)(f:Nat):Bool:=match P.funcs[f]? with
 |Z fn=>match fn.body with
  |Z c=>J2 P Hh FM (FM f) 8 c
  |J=>A9
 |J=>A9
def aKM:gg.all (a4L A6)=A5:=A8
def aS7:jP.all (λf=>match A6.funcs[f]? with|Z fn=>fn.body.isNone|J=>A5)=A5:=by rfl
def jI:Laid A6 CK Hh SO 8:=by
 intro f fn c hf I hb;rcases hf with(hf|hf)|hf;.let h:=Ha.1 aKM f hf;unfold a4L at h;simp only[I,hb]at h;exact⟨h,by show IE (FM f)=[];rw[yd (AA hf)];rfl⟩
 .let h:=Ha.1 aS7 f hf;rw[I]at h;simp only[hb]at h;cases h
 obtain rfl:=aAW hf;cases I
def kC:Static A6 CK Hh SO 8:=⟨fit _,rfl,aJg,TG,jI⟩
open Go.Conc Go.RowKit
variable{w:A1}{Q:A3->A1->Prop}{E:AZ}{c' d8:Ah}{P:Ao}{T:zw}{x:BP}{c:DK}{a:HL}{fn:JL}{cs cs':List Ah}{f n:Nat}{v:Nat->A3}{Wb:zy}
def Ce(Wb:zy)(g:AY)(w:A1)(Post:zv):Prop:=∀(Wc U:zy),Wb=(λb=>Wc b∨U b)->(∀b,U b->¬Wc b/\b<w)->∀(gs:Array AY)(sl:Option (Nat×Nat))(t:DT)(q:Nat->Nat),Cx A6 Wc gs w t q g->∃(N:Nat)(A:Array AY)(I:AY)(w':A1)(sl':Option (Nat×Nat))(B:DT)(q':Nat->Nat)(h:zy),EE A6 N (ER gs w sl) t=(DY (ER A w' sl'),B)/\Cx A6 h A w' B q' I/\(∀b,U b->¬h b)/\KU U w w'/\Post (λb=>h b∨U b) I w'
def Tp{P}:∀{N1 N2:Nat}{m m1:lJ}{t t1:DT}{r:Stepped×DT},EE P N1 m t=(DY m1,t1)->EE P N2 m1 t1=r->EE P (N1+N2) m t=r|0,N2,m,m1,t,t1,r,h1,h2=>by simp only[EE,mn,RZ]at h1;obtain⟨rfl,rfl⟩:=h1;simpa using h2|N1+1,N2,m,m1,t,t1,r,h1,h2=>by rw[show N1+1+N2=N1+N2+1 by omega];simp only[EE]at h1⊢;cases hs:si P m with|mk s es=>rw[hs]at h1;cases s with|next h=>exact Tp h1 h2|ended e w=>simp only[mn]at h1;exact absurd h1.1 AD
def Ce.bind{g Post A}(h:Ce Wb g w Post)(k:∀I g' w',Post I g' w'->Ce I g' w' A):Ce Wb g w A:=by intro Wc U C B gs sl t q hc;obtain⟨N,H,g1,w1,K,t1,q1,M,r1,c1,Y,k1,p1⟩:=h Wc U C B gs sl t q hc;obtain⟨N2,S1,g2,w2,VU,t2,q2,Li,r2,c2,JH,k2,p2⟩:=k _ g1 w1 p1 M U rfl (λb hb=>⟨Y b hb,Hw (B b hb).2 k1.size⟩) H K t1 q1 c1;exact⟨N+N2,S1,g2,w2,VU,t2,q2,Li,Tp r1 r2,c2,JH,k1.trans k2,p2⟩
def Ce.here{g Post}(h:Post Wb g w):Ce Wb g w Post:=λI U A N gs sl t q hc=>⟨0,gs,g,w,sl,t,q,I,rfl,hc,λb hb=>(N b hb).1,KU.refl _ _,A▸h⟩
def Ce.Km{g Stop Post}(h:Cy A6 Wb Stop g w)(k:∀g' w',Stop g' w'->Ce Wb g' w' Post):Ce Wb g w Post:=by intro Wc U B A gs sl t q hc;subst B;obtain⟨N,C,g1,w1,H,t1,q1,r1,_,c1,p1,I⟩:=(h.keep.wide (Wc:=Wc) λb=>AA).beside gs sl t q hc;let I:KU U w w1:=⟨I.os,I.output,I.size,λb hb hl=>I.same b (AF hb) hl⟩;obtain⟨N2,K,g2,w2,M,t2,q2,Y,r2,c2,JH,k2,p2⟩:=k g1 w1 p1 Wc U rfl (λb hb=>⟨(A b hb).1,Hw (A b hb).2 I.size⟩) C H t1 q1 c1;exact⟨N+N2,K,g2,w2,M,t2,q2,Y,Tp r1 r2,c2,JH,I.trans k2,p2⟩
def Ce.ctl{Wb g g' w Post}(hs:g.status=CZ)(h:∀w,B9 A6 A5 g w=Bl g' w #[])(k:∀d,Ce Wb g' (w.at d) Post):Ce Wb g w Post:=.Km (Stop:=λg1 I=>g1=g'/\∃d,I=w.at d) (.ctl hs h (.stop λd=>⟨rfl,d,rfl⟩)) λg1 I⟨e,d,e2⟩=>by subst e e2;exact k d
structure CC(Wb R:zy)(w:A1):Prop where
 closed:Closed CK Wb R w
 low:∀b,Wb b->b<w
def CC.heap{Wb R w w'}(h:CC Wb R w)(e:w'.heap=w.heap):CC Wb R w':=⟨h.closed.same λb _=>by rw[e],λb hb=>As e (h.low b hb)⟩
theorem CC.at{Wb R w}(h:CC Wb R w)(d):CC Wb R (w.at d):=h.heap rfl
abbrev Ey(R:zy)(T:zw):Prop:=Al CK (C7 R) T.toList T.toList
def aDX(R:zy)(c':Ah)(cs':List Ah)(Q:A3->A1->Prop)(h:zy)(g':AY)(w':A1):Prop:=∃R' v,g'=G (c'.finish v) cs'/\AK CK (C7 R') v v/\Q v w'/\(∀b,R b->R' b)/\CC h R' w'
def CallsC(f:Nat)(args:zw)(w:A1)(Q:A3->A1->Prop):Prop:=∀(Wb R:zy)(c':Ah)(cs':List Ah),CC Wb R w->Ey R args->Ce Wb (G (Fa A6 f args EI) (c'::cs')) w (aDX R c' cs' Q)
def CallsC.mono{args A}(h:CallsC f args w Q)(k:∀v w',Q v w'->A v w'):CallsC f args w A:=λWb R c' cs' I h2=>(h Wb R c' cs' I h2).bind λN U w'⟨R',v,a,b,c,d,e⟩=>.here ⟨R',v,a,b,k v w' c,d,e⟩
def CallsC.lone{args:zw}(hf:CK f)(U:A6.funcs[f]?=fn)(hb:fn.body.isSome=A5)(h:∀T,Ab A6 f args (on w T) λe I=>∃v,e=AV v/\Q v I):CallsC f args w λv w'=>∃I,w'.heap=I.heap/\Q v I:=by
 intro Wb R c' cs' A B;obtain⟨code,N⟩:=aI2.1 hb;refine .Km (Og kC (λ_=>trivial) (Wb:=Wb) (R:=R) (c':=c') (cs':=cs') (Q:=Q) U N (jI f _ _ (AA hf) U N).1 (jI f _ _ (AA hf) U N).2 (λt ht=>?_) B A.closed A.low h) ?_;.let e:FM f=[]:=yd hf;let ht:t∈FM f:=ht;rw[e]at ht;cases ht
 rintro g w2⟨C,v,I,rfl,hv,hq,hle,hh,H,K,_⟩;exact .here ⟨C,v,rfl,hv,⟨I,hh,hq⟩,hle,H,K⟩
noncomputable def B5(f:Nat):Ah:={(DU:Ah)with fn:=f,kind:=EI}
def aLE{args:zw}(hf:A6.funcs[f]?=fn)(hb:fn.body=c):Fa A6 f args EI=(B5 f).at ⟨args++OG (fn.ntmps-args) AN,[]⟩ [Aw c]:=by simp[Fa,Frame.at,hf,hb,B5]
theorem aAl{r:List Cd}{R:zy}{Q:zw->A1->Prop}(CR:A6.funcs[f]?=fn)(hr:aH (IE (FM f)) fn=A5)(hc:J2 A6 Hh FM (FM f) 8 c=A5)(hT:Ey R (GP (IE (FM f)) T))(K:CC Wb R w)(h:∀T0,c.wp A6 (λe a' w'=>e=Vq/\a'.defers=[]/\Q a'.tmps w') ⟨T,[]⟩ (on w T0)):Cy A6 Wb (λg w'=>∃U M T2 w1,g=G ((B5 f).at ⟨M,[]⟩ r) cs/\Q T2 w1/\GP (IE (FM f)) M=GP (IE (FM f)) T2/\w'.heap=w1.heap/\Ey U (GP (IE (FM f)) M)/\(∀b,R b->U b)/\CC Wb U w') (G ((B5 f).at ⟨T,[]⟩ (Aw c::r)) cs) w:=by
 let hfr:EZ A6 CK Hh SO 8 (C7 R) r ((B5 f).at ⟨T,[]⟩ [Aw c]) ((B5 f).at ⟨T,[]⟩ (Aw c::r)):=by refine⟨rfl,⟨_,CR,hr⟩,rfl,λi hi=>?_,⟨rfl,rfl⟩,rfl,⟨rfl,rfl⟩,⟨rfl,rfl⟩,hT,λt ht=>λ_ _=>trivial⟩;obtain rfl:=ES.1 hi;exact hc
 let H8:∀T0,∃N C w1,EK A6 N (Df (G ((B5 f).at ⟨T,[]⟩ [Aw c]) [bot]) (on w T0))=DY (Df (G C [bot]) w1)/\ID A9 C/\C.fn=f/\Q C.tmps w1:=by intro T0;obtain⟨e,a',w',⟨rfl,hd,hq⟩,hst⟩:=h T0 (B5 f) [] [bot];let⟨N,hN⟩:=hst;exact⟨N,_,w',hN,⟨rfl,rfl⟩,rfl,hq⟩
 refine(zL kC (λ_=>trivial) A9 (λh=>by cases h) hfr rfl K.closed K.low H8).mono ?_;rintro g w'⟨E,d8,fr',BX,rfl,I,H,⟨A,hq⟩,hE,hwr,Y,Q1,EW,_⟩;obtain⟨U,rfl,Er⟩:=gn hwr Y Q1 λb hb=>hE _ _ ⟨rfl,K.closed.Ca b hb⟩;let B:=I.tmps;rw[show IE (SO.own d8.fn)=IE (FM f)by rw[A];rfl]at B;have ht:=Sa.1 (B.same Y.1);have H:=H;refine⟨U,fr'.tmps,d8.tmps,BX,?_,hq,ht,Y.2,?_,λb hb=>(hE b b ⟨rfl,hb⟩).2,Er,EW⟩;.let h1:=I.fn;let h2:=I.todo;have h3:=I.defers.2;let h4:=I.mode;have h5:=I.kind.2;have h6:=I.round.2;rw[H.2,gB]at h2;rw[H.1]at h4;rw[A]at h1;let⟨a1,a2,a3,a4,a5,a6,a7⟩:=fr';subst h1 h2 h3 h4 h5 h6;rfl
 grind
section
variable{Wb R:zy}{f0:Nat}{ops:Array B8}{i:Nat}{rest:List Nat}{q:List Cd}{cs:List Ah}{o:B8}{T:zw}{w:A1}{d:Nat}{Post:zv}
def Ce.piece{f:Nat}{r:List Cd}{Q:zw->A1->Prop}(A:A6.funcs[f]?=fn)(U:FM f=[])(hc:J2 A6 Hh FM [] 8 c=A5)(hT:Ey R T)(B:CC Wb R w)(h:∀T0,c.wp A6 (λe a' w'=>e=Vq/\a'.defers=[]/\Q a'.tmps w') ⟨T,[]⟩ (on w T0))(k:∀N I w1 w',Q I w1->w'.heap=w1.heap->Ey N I->(∀b,R b->N b)->CC Wb N w'->Ce Wb (G ((B5 f).at ⟨I,[]⟩ r) cs) w' Post):Ce Wb (G ((B5 f).at ⟨T,[]⟩ (Aw c::r)) cs) w Post:=by have p:=aAl (r:=r) (cs:=cs) (Q:=Q) A (by rw[U];exact zD fn) (by rwa[U]) (by rw[U];show Ey R (GP [] T);rwa[xX]) B h;rw[U]at p;refine .Km p λg w'⟨N,I,T2,w1,e,a,b,c,d,x,y⟩=>?_;change GP [] I=GP [] T2 at b;change Ey N (GP [] I)at d;rw[xX]at b d;rw[xX]at b;subst e b;exact k N I w1 w' a c d x y
end
def yZ{o:B8}{R:zy}(hst:∀w,B9 A6 A5 (G d8 cs) w=Iu A6 A5 d8 cs J (AM a.eval o) w)(K:(d8.kind==Jk)=A9)(v1:To A6 Hh FM [] 8 o.op=A5)(G3:Ts A6 o=A5)(Z_:P8 o.op=A9)(md:∀x∈opsOf o.op,AK CK (C7 R) (a.eval x) (a.eval x))(M:CC Wb R w)(H8:∀T,∃C v I es,(AM a.eval o).runT A6 (on w T) #[]=(AP C I,es)/\Sb C v/\Q v I):Cy A6 Wb (λg w'=>∃h v I,g=G (d8.finish v) cs/\AK CK (C7 h) v v/\Q v I/\(∀b,R b->h b)/\w'.heap=I.heap/\CC Wb h w'/\∀b,h b->R b∨w<=b) (G d8 cs) w:=by
 let X:=kC;let Q0:∀b,SO.ob b:=λ_=>trivial;let hR:=M.closed;let Y:=M.low;refine .step rfl λd=>?_;let hwr:=hR.wr (Am SO A5) w.tape;let Q1:UO Wb (C7 R):=λb b' x=>As x.1 (hR.off b x.2);let FT:JK (λ_=>False) (λ_=>False) (Du Wb (AR w)) (C7 R):=λb b' x=>AF ⟨λy=>y,(hwr.lt x).2,Q1 b b' x⟩;have hr:=Bc.at (λ_=>False) (Du Wb (AR w)) w d;have N:(w.at d).heap=w.heap:=rfl;generalize xZ:w.at d=A at hr N;let U:=hwr.rely FT hr (join w.tape w.drawn w.tape w.drawn);obtain⟨C,v,I,es,hrun,hgv,hq⟩:=H8 (join (join w.tape w.drawn w.tape w.drawn) w.drawn A.tape A.drawn);let hg:∀b,b<CX->(C7 R).rel b b:=λb hb=>⟨rfl,hR.Ca b hb⟩;let hs:AQ A6 CK (Am SO A9) (O_ A6 CK SO.own) (C7 R) (AM a.eval o) (AM a.eval o):=by have:=jl X.fit X.Ca (X.calm (P8 o.op)) hg (ρ:=a.eval) (ρ':=a.eval) (λv=>rfl) (λf=>rfl) (λf=>rfl) o 8 (j_ X.sub v1) (kH G3) md λx _ b _=>Q0 b;rw[Z_]at this;exact this
 obtain⟨E1,nx',w1',es',r1,r2,r3,r4,r5⟩:=AQ.runs X.fit.Ip (Pr:=λ_=>False) (RO:=λ_=>False) (λ_ x=>x) (λx=>by cases x) hs (⟨U.heap,U.tape,U.kept,U.low,U.even⟩:C9 CK (Am SO A9) (λ_=>False) (C7 R) _ A) (es:=#[]) (es':=#[]) .nil hrun;let B:=r4.V4 ⟨xf R,N⟩;obtain⟨H,hgt,Pt⟩:=Wj (P:=A6) (fn:=d8.fn) FT (λb hb=>hb.elim) r4 r5;let Uy:∀b,Wb b->b<w1':=λb hb=>by have:=Y b hb;let h5:=hgt.size;rw[N]at h5;omega
 let ZQ:UO Wb E1:=λb b' x=>by
  let Uv:F8 (λ_=>False) (Du Wb A) A w1' (Fc A6 d8.fn es') H:=As N hgt;let v0:=jL (λb hb=>As N (Y b hb)) Uv;rcases Pt b b' x with⟨y,_⟩|⟨_,y⟩;.exact y.elim
  rw[v0]at y;exact y.2
 let J6:∀b,b<CX->E1.rel b b:=λb hb=>r4.le _ _ (hg b hb);obtain⟨h,rfl,Er⟩:=gn r3 B ZQ J6;let hle:∀b,R b->h b:=λb hb=>(r4.le b b ⟨rfl,hb⟩).2;let E9:∀b,h b->R b∨AR w<=b:=λb hb=>(r4.fresh b b ⟨rfl,hb⟩).imp (·.2) (·.1);rcases hgv with rfl|⟨rfl,rfl⟩;.cases r2 with|value hv=>rename_i v';obtain rfl:=hv.same B.1;refine⟨_,w1',_,H,?_,hgt,.stop λd2=>⟨h,v',I,rfl,hv,hq,hle,B.2,⟨Er.same λ_ _=>rfl,Uy⟩,E9⟩⟩;rw[hst,H0 K r1 rfl];rfl
 cases r2;refine⟨_,w1',_,H,?_,hgt,.stop λd2=>⟨h,AN,I,rfl,.tuple .nil,hq,hle,B.2,⟨Er.same λ_ _=>rfl,Uy⟩,E9⟩⟩;rw[hst,H0 K r1 rfl];rfl
def lv(R h:zy)(w:A1):Prop:=(∀b,R b->h b)/\∀b,h b->R b∨w<=b
section
variable{Wb R:zy}{Post:zv}
def Ce.yZ{d8 cs}{a:HL}{o w}(Q:A3->A1->Prop)(hst:∀w,B9 A6 A5 (G d8 cs) w=Iu A6 A5 d8 cs J (AM a.eval o) w)(A:(d8.kind==Jk)=A9)(B:To A6 Hh FM [] 8 o.op=A5)(C:Ts A6 o=A5)(H:P8 o.op=A9)(K:∀x∈opsOf o.op,AK CK (C7 R) (a.eval x) (a.eval x))(M:CC Wb R w)(Y:∀T,∃N v h,(AM a.eval o).run A6 (on w T)=AP N h/\Sb N v/\Q v h)(k:∀I v h w',AK CK (C7 I) v v->Q v h->lv R I w->w'.heap=h.heap->CC Wb I w'->Ce Wb (G (d8.finish v) cs) w' Post):Ce Wb (G d8 cs) w Post:=.Km (Twin.yZ (Q:=Q) hst A B C H K M λT=>by obtain⟨N,v,h,U,h2,h3⟩:=Y T;let h4:=X_ (P:=A6) (AM a.eval o) (on w T) #[];rw[U]at h4;exact⟨N,v,h,_,Ro h4 rfl,h2,h3⟩) λg w'⟨I,v,h,e,U,h2,h3,h4,h5,h6⟩=>by subst e;exact k I v h w' U h2 ⟨h3,h6⟩ h4 h5
def Ce.own{g g':AY}{w w2:A1}{es:Array C5}(hs:g.status=CZ)(h:∀d,B9 A6 A5 g (w.at d)=Bl g' (w2.at d) es)(A:∀b,Wb b->b<w)(N:w.heap.size<=w2)(hsame:∀x,x<w.heap.size->Wb x->w2.heap[x]?=w.heap[x]?)(I:w2.os=w.os/\w2.output=w.output/\w2.tape=w.tape)(B:∀e∈es,∃r s z,e=⟨FI r,s,z⟩/\r<w2/\¬Wb r)(k:∀d,Ce Wb g' (w2.at d) Post):Ce Wb g w Post:=by
 refine .Km (Stop:=λg1 U=>g1=g'/\∃d,U=w2.at d) (.step hs λd=>⟨g',w2.at d,es,Du Wb (AR w2),h d,⟨N,λb hb hn=>?_,I.1,I.2.1,I.2.2,λb=>⟨λx=>?_,λx=>?_⟩,λe he=>?_⟩,.stop λd2=>⟨rfl,d2,rfl⟩⟩) λg1 U⟨e,d,e2⟩=>by subst e e2;exact k d
 .exact hsame b hb (eV λx=>hn ⟨hb,x⟩)
 .by_cases hb:b<AR w;.exact AA ⟨hb,x.2⟩
  exact AF ⟨UM hb,x.1⟩
 .rcases x with x|x;.exact⟨Hw x.1 N,x.2⟩
  exact⟨x.2,λy=>absurd (A b y) (a2j.2 x.1)⟩
 obtain⟨r,s,z,rfl,h1,h2⟩:=B e he;exact .obj s z (AA ⟨h1,h2⟩)
def CC.keep{w w':A1}(h:CC Wb R w)(e:∀b,R b->w'.heap[b]?=w.heap[b]?)(hs:w.heap.size<=w'):CC Wb R w':=⟨h.closed.same e,λb hb=>Hw (h.low b hb) hs⟩
end
def Ax(n:Nat)(v:Nat->A3):zw:=Array.ofFn λi:_root_.Fin n=>v i.val
def BQ(v:Nat->A3)(d:Nat)(u:A3):Nat->A3:=λj=>if j=d then u else v j
def WS{j}(h:j<n):(Ax n v)[j]?=Z (v j):=by simp[Ax,h]
theorem uG{j}(h:j<n):(Ax n v).getD j AN=v j:=by simp_all[QP,WS]
def Qj{d u}:(Ax n v).setIfInBounds d u=Ax n (BQ v d u):=by
 apply eL;intro j;rw[Array.getElem?_setIfInBounds];by_cases hj:j<n
 .rw[WS hj];by_cases e:d=j;.subst e;simp[Ax,hj,BQ]
  rw[if_neg e,WS hj,BQ,if_neg (Gy e)]
 have:(Ax n v)[j]?=J:=by simp[Ax,hj]
 let h2:(Ax n (BQ v d u))[j]?=J:=by simp[Ax,hj]
 rw[this,h2];by_cases e:d=j;.subst e;simp[Ax,hj]
 rw[if_neg e]
def TN(v:Nat->A3):List (Nat×A3)->Nat->A3|[]=>v|x::l=>BQ (TN v l) x.1 x.2
theorem cH{v}:∀{l},(∀x∈l,v x.1=x.2)->TN v l=v|[],_=>rfl|x::l,h=>by funext j;show BQ (TN v l) x.1 x.2 j=_;rw[cH λy hy=>h y (G1 _ hy)];grind[BQ]
theorem Al.nth{F E}:∀{l}(i:Nat){v},Al F E l l->l[i]?=Z v->AK F E v v|_,_,_,.nil,h=>BA|_,0,_,.cons a _,h=>by grind|_,i+1,_,.cons _ t,h=>Al.nth i t BA
def Ey.nth{R:zy}{T:zw}(h:Ey R T)(i:Nat){v:A3}(e:T[i]?=v):AK CK (C7 R) v v:=Al.nth i h BA
def AK.V5{R b o l c s}(h:AK CK (C7 R) (A0 (Z ⟨b,o,s⟩) l c) (A0 (Z ⟨b,o,s⟩) l c)):R b:=by cases h with|slice _ _ I=>exact I.1.2
def AK.Kf{R b o s}(h:AK CK (C7 R) (B2 (Z ⟨b,o,s⟩)) (B2 (Z ⟨b,o,s⟩))):R b:=by cases h with|ptr I=>exact I.1.2
def AK.Q6{R b}(h:AK CK (C7 R) (.map (Z b)) (.map (Z b))):R b:=by cases h with|map h=>exact h.2
abbrev FC:=(Nat->A3)×List Cd
def a56:A3->Bool|A4 _|AB _ _|Ag _|CN|A0 J _ _=>A5|_=>A9
def Ed(n:Nat)(v:Nat->A3):BP->A3|Aa j=>if j<n then v j else AN|x=>FG ⟨#[],[]⟩ x
theorem VN{ds}:FG ⟨Ax n v,ds⟩ x=Ed n v x:=by
 cases x with
 |tmp j=>
  show(Ax n v).getD j AN=if j<n then v j else AN;by_cases h:j<n;.rw[if_pos h,uG h]
  rw[if_neg h,QP,Ml (by grind[Ax,aDU])];rfl
 |_=>rfl
noncomputable def XS(D:List Nat):BP->Bool|Aa j=>!D.contains j|KN c=>a56 c|It g=>Hh g|_=>A9
def Cb(n:Nat)(D:List Nat)(R:zy)(v:Nat->A3):Prop:=∀j,j<n->D.contains j=A9->AK CK (C7 R) (v j) (v j)
def a3K{d j u}(h:j≠d):BQ v d u j=v j:=if_neg h
def NQ{d u}:BQ v d u d=u:=if_pos rfl
def kN(n:Nat)(v:Nat->A3)(ops:Array B8)(j:Nat):Option Bool:=match ops[j]?.bind (·.dst)with
 |Z e=>match Ed n v (Aa e)with
  |Ag b=>Z b
  |_=>J
 |J=>J
theorem qm{ops}:I4 ops (Ax n v)=kN n v ops:=by
 funext j;unfold I4 kN;cases ops[j]?.bind (·.dst)with
 |none=>rfl
 |some e=>
  show(match(Ax n v)[e]? with|Z (Ag b)=>Z b|_=>J)=match if e<n then v e else AN with|Ag b=>Z b|_=>J;by_cases h:e<n;.rw[WS h,if_pos h];grind
  rw[if_neg h,Ml (by simp only[Ax,aDU];exact UM h)];rfl
noncomputable def jh(n:Nat)(D:List Nat)(v:Nat->A3)(e:Nat):Op->Option A3
 |.move x=>if XS D x||D.contains e then Z (Ed n v x)else J
 |.assign x=>if XS D x||D.contains e then Z (Ed n v x)else J
 |.extract x j=>if XS D x then match Ed n v x with
  |Aj xs=>xs[j]?
  |_=>J else J
 |KM .neq 24 x (KN CN) 24=>match Ed n v x with
  |CN=>Z (Ag A9)
  |.iface 96 _=>Z (Ag A5)
  |_=>J
 |.unOp .not 4 x=>match Ed n v x with
  |Ag b=>Z (Ag (!b))
  |_=>J
 |.pick c x y=>match Ed n v c with
  |Ag b=>match Ed n v (if b then x else y)with
   |Ag t=>Z (Ag t)
   |_=>J
  |_=>J
 |b4 (Bo g) fs opd=>if fs.isEmpty&&D.contains e then Z (Br (Bo g) #[] (opd.map (Ed n v)))else J
 |_=>J
noncomputable def jg(n:Nat)(D:List Nat)(v:Nat->A3)(ops:Array B8)(o:B8):Option (Nat->A3):=if Gd o (kN n v ops)then match o.dst with
 |Z e=>match jh n D v e o.op with
  |Z u=>Z (BQ v e u)
  |J=>J
 |J=>J else match o.dst with
 |Z e=>Z (BQ v e AN)
 |J=>Z v
noncomputable def RJ(n:Nat)(D:List Nat):FC->Option FC
 |(v,Aw (Hu a b)::q)=>Z (v,Aw a::Aw b::q)
 |(v,Aw l0::q)=>Z (v,q)
 |(v,Aw (ky k c)::q)=>Z (v,Aw c::Ks k::q)
 |(v,Ks _::q)=>Z (v,q)
 |(v,Aw (ed c)::q)=>Z (v,Aw c::NW c::q)
 |(v,NW c::q)=>Z (v,Aw c::NW c::q)
 |(v,Aw (HY _ ops A9)::q)=>Z (v,Ak ops (Lf ops)::q)
 |(v,Ak _ []::q)=>Z (v,q)
 |(v,Aw (.exit k)::q)=>match Sr k q with
  |Z q'=>Z (v,q')
  |J=>J
 |(v,Ak ops (i::r)::q)=>match ops[i]? with
  |Z o=>match jg n D v ops o with
   |Z v'=>Z (v',Ak ops r::q)
   |J=>J
  |J=>J
 |(v,Aw (kz x a b)::q)=>match Ed n v x with
  |Ag t=>Z (v,Aw (if t then a else b)::q)
  |_=>J
 |_=>J
noncomputable def D2(n:Nat)(D:List Nat):Nat->FC->FC|0,s=>s|k+1,s=>match RJ n D s with|Z s'=>D2 n D k s'|J=>s
noncomputable def BM(n:Nat)(D:List Nat)(s:FC):FC:=D2 n D 99 s
noncomputable def Fr(lc:Option Nat×List Vp)(f:Nat)(T:zw)(q:List Cd):Ah:={(B5 f).at ⟨T,lc.2⟩ q with roundOf:=lc.1}
def Fz(lc:Option Nat×List Vp)(f n:Nat)(cs:List Ah)(Wb:zy)(w:A1)(s:FC)(Post:zv):Prop:=Ce Wb (G (Fr lc f (Ax n s.1) s.2) cs) w Post
abbrev Be:=Fz (J,[])
section
variable{Wb R:zy}{Post:zv}{f n e y:Nat}{D:List Nat}{v v':Nat->A3}{u:A3}{ops:Array B8}{i:Nat}{rest:List Nat}{q q':List Cd}{cs:List Ah}{w:A1}{o:B8}{p:Op}{s s':FC}{lc:Option Nat×List Vp}{T:zw}
def Ce.uz{g g' x}(hs:g.status=CZ)(h:∀w,B9 A6 A5 g w=Bl g' w #[])(k:∀d,Ce Wb g' (w.at d) Post):Ce Wb g (w.at x) Post:=.ctl hs h λd=>k d
def aYS{main:Bool}{b:Ah}{o:B8}{cap:zw}{g:Sh}{opd:Array BP}{ats:Array BL}(ho:ops[i]?=o)(A:Gd o (I4 ops a.tmps)=A5)(N:b.kind≠Jk)(B:o.op=Em {callee:=NU x,args:=opd,argTypes:=ats})(hx:a.eval x=Br (Bo g) #[] cap)(I:P.funcs[g]?=fn)(U:(fn.name== "runtime.NumGoroutine")=A9)(hb:fn.body=c):B9 P main (G (b.at a (Ak ops (i::rest)::q)) cs) w=Bl (G (Fa P g (opd.map a.eval++cap) EI) (b.at a (Ak ops (i::rest)::q)::cs)) w #[]:=by
 have h:=Ai U;let hr:(AM a.eval o).runT P w #[]=(AP (NY g (opd.map a.eval++cap)) w,#[]):=by unfold AM;rw[B];show(Dl ..).runT P w #[]=_;simp[U3,hx,MA,I,h,hb,KQ,Ra,Ex,Dl]
 rw[Se ho A,H0 (by simpa[Frame.at]using N) hr rfl,Vm];rfl
def aUN{j:Nat}{xs:zw}{o:B8}{ρ:BP->A3}{z:A3}(ho:o.op=.extract x j)(hx:ρ x=Aj xs)(hj:xs[j]?=z)(w:A1):(AM ρ o).runT A6 w #[]=(AP (BB z) w,#[]):=by unfold AM;rw[ho];simp[go_sem,hx,hj]
def zn{b:Ah}{k:List Cd}{c:Ah}{v:A3}(hd:a.defers=[])(hk:b.kind=EI)(h:A6.funcs[b.fn]?=fn)(hr:∀w,(D5 fn a.tmps).runT A6 w #[]=(AP v w,#[])):B9 A6 A5 (G (rt (b.at a k)) (c::cs)) w=Bl (G (c.finish v) cs) w #[]:=by simp only[G,B9,rt,Frame.at,I3,hd,h,hr,hk,Vm];rfl
def dx(ho:ops[i]?=o)(hw:Gd o (I4 ops T)=A5)(hd:∀c,o.op≠b3 c):B9 A6 A5 (G (Fr lc f T (Ak ops (i::rest)::q)) cs) w=Iu A6 A5 (Fr lc f T (Ak ops (i::rest)::q)) cs J (AM (FG ⟨T,lc.2⟩) o) w:=by
 let⟨ro,ds⟩:=lc;cases ro;.exact Se (a:=⟨T,ds⟩) ho hw
 exact aYY ho hw hd
def Uh{d:Option Nat}(ho:ops[i]?=o)(hd:o.dst=d):(Fr lc f T (Ak ops (i::rest)::q)).finish u=Fr lc f (IP ⟨T,lc.2⟩ d u).tmps (Ak ops rest::q):=by show{((B5 f).at ⟨T,lc.2⟩ (Ak ops (i::rest)::q)).finish u with roundOf:=lc.1}=_;rw[Vr,ho,a2m,hd];cases d<;>rfl
theorem aY_(ho:ops[i]?=o)(hw:Gd o (I4 ops T)=A9):B9 A6 A5 (G (Fr lc f T (Ak ops (i::rest)::q)) cs) w=Bl (G (Fr lc f (IP ⟨T,lc.2⟩ o.dst AN).tmps (Ak ops rest::q)) cs) w #[]:=by rw[<-Uh ho rfl];grind[G,B9,BY,Fr,Frame.at]
def aYU{a b t}(h:FG ⟨T,lc.2⟩ x=Ag t):B9 A6 A5 (G (Fr lc f T (Aw (kz x a b)::q)) cs) w=Bl (G (Fr lc f T (Aw (if t then a else b)::q)) cs) w #[]:=by
 let he:(Fr lc f T (Aw (kz x a b)::q)).eval x=Ag t:=by rw[<-h];cases x<;>rfl
 simp only[Fr,Frame.at]at he;simp[G,B9,BY,Fr,Frame.at,he]
def aUO{ρ}{g:Nat}{opd cap}(ho:o.op=b4 (Bo g) #[] opd)(h:opd.map ρ=cap)(w):(AM ρ o).runT A6 w #[]=(AP (BB (Br (Bo g) #[] cap)) w,#[]):=by unfold AM;rw[ho];simp only[h,JO,Iw];rfl
def aUP{ρ}(ho:o.op=KM .neq 24 x (KN CN) 24)(hx:ρ x=CN)(hn:ρ (KN CN)=CN)(w):(AM ρ o).runT A6 w #[]=(AP (BB (Ag A9)) w,#[]):=by unfold AM;rw[ho];simp[go_sem,hx,hn];kernel_rfl
def aUM{ρ r}(ho:o.op=KM .neq 24 x (KN CN) 24)(hx:ρ x=.iface 96 r)(hn:ρ (KN CN)=CN)(w):(AM ρ o).runT A6 w #[]=(AP (BB (Ag A5)) w,#[]):=by unfold AM;rw[ho];simp[go_sem,hx,hn];kernel_rfl
def aUQ{ρ b}(ho:o.op=.unOp .not 4 x)(hx:ρ x=Ag b)(w):(AM ρ o).runT A6 w #[]=(AP (BB (Ag (!b))) w,#[]):=by unfold AM;rw[ho];simp only[hx];rfl
def aUR{ρ c y b}(ho:o.op=.pick c x y)(hc:ρ c=Ag b)(hx:ρ (if b then x else y)=u)(w):(AM ρ o).runT A6 w #[]=(AP (BB u) w,#[]):=by unfold AM;rw[ho];simp only[hc];rw[<-hx];cases b<;>rfl
def aUL(h:jh n D v e o.op=u)(w:A1):(AM (Ed n v) o).runT A6 w #[]=(AP (BB u) w,#[]):=by
 generalize hp:o.op=p at h;unfold jh at h;repeat' split at h
 all_goals try cases h
 .unfold AM;rw[hp];rfl
 .unfold AM;rw[hp];rfl
 .rename_i hx;exact aUN hp hx h w
 .rename_i hx;exact aUP hp hx rfl w
 .rename_i hx;exact aUM hp hx rfl w
 .rename_i hx;exact aUQ hp hx w
 .rename_i hc _ _ hx;exact aUR hp hc hx w
 rename_i hb;obtain rfl:=aDT.1 (Cp.1 hb).1;exact aUO hp rfl w
def Ug{ds}:FG ⟨Ax n v,ds⟩=Ed n v:=funext λ_=>VN
theorem aT_(h:jg n D v ops o=v')(ho:ops[i]?=o):B9 A6 A5 (G (Fr lc f (Ax n v) (Ak ops (i::rest)::q)) cs) w=Bl (G (Fr lc f (Ax n v') (Ak ops rest::q)) cs) w #[]:=by
 unfold jg at h;split at h
 .split at h
  .rename_i e hd;split at h;.rename_i u hu;cases h;rw[dx ho (Ar qm) (λc e=>by rw[e]at hu;cases hu),Ug,H0 rfl (aUL hu w) rfl,Vm,Uh ho hd,<-Qj];rfl
   grind
  grind
 rw[aY_ ho (by grind[qm])];cases hd:o.dst<;>rw[hd]at h<;>cases h;.rfl
 rw[<-Qj];rfl
def qL(h:RJ n D s=s'):B9 A6 A5 (G (Fr lc f (Ax n s.1) s.2) cs) w=Bl (G (Fr lc f (Ax n s'.1) s'.2) cs) w #[]:=by
 unfold RJ at h;split at h;case h_9=>
  split at h;.rename_i I;cases h;simp[G,B9,BY,Fr,Frame.at,I]
  cases h
 case h_10=>
  split at h
  .rename_i ho;split at h;.rename_i I;cases h;exact aT_ I ho
   cases h
  cases h
 case h_11=>
  split at h;.rename_i ht;cases h;exact aYU (VN.trans ht)
  cases h
 case h_12=>cases h
 all_goals cases h;rfl
def aCI(h:RJ n D s=s')(k:∀m,Fz lc f n cs Wb (w.at m) s' Post):Fz lc f n cs Wb (w.at y) s Post:=.uz rfl (λ_=>qL h) k
theorem du:∀(K y){s},(∀m,Fz lc f n cs Wb (w.at m) (D2 n D K s) Post)->Fz lc f n cs Wb (w.at y) s Post
 |0,y,s,h=>h y
 |K+1,y,s,h=>by
  unfold D2 at h;split at h;.rename_i s' hs;exact aCI hs λm=>du K m h
  grind
theorem Fz.BM(h:∀m,Fz lc f n cs Wb (w.at m) (BM n D s) Post):Fz lc f n cs Wb w s Post:=du 99 w.drawn h
theorem VY{F:zy}{c:zw}(h:∀(j:Nat)(u:A3),c[j]?=u->AK F E u u):Al F E c.toList c.toList:=Al.of rfl λi x y e I=>by grind
def AK.flat{c}(h:a56 c=A5):AK CK E c c:=by
 cases c with
 |string s=>exact .string _
 |int k i=>exact .int ..
 |bool b=>exact .bool _
 |nilIface=>exact .nilIface
 |slice a l c=>
  cases a with
  |none=>exact .FZ ..
  |some a=>cases h
 |_=>cases h
def AK.undef:AK CK E AN AN:=AK.tuple Al.nil
theorem Cb.op(h:Cb n D R v)(hx:XS D x=A5):AK CK (C7 R) (Ed n v x) (Ed n v x):=by
 cases x with
 |tmp j=>
  show AK CK (C7 R) (if j<n then v j else AN) (if j<n then v j else AN);split;.rename_i hj;exact h j hj (by grind[XS])
  exact AK.undef
 |const c=>exact AK.flat hx
 |func g=>exact .func (TG g hx) .nil .nil
 |_=>cases hx
theorem Cb.upd(h:Cb n D R v)(hu:D.contains e=A9->AK CK (C7 R) u u):Cb n D R (BQ v e u):=λj hn hj=>by
 unfold Twin.BQ;split;.grind
 exact h j hn hj
def Cb.mono{R'}(h:Cb n D R v)(k:∀b,R b->R' b):Cb n D R' v:=λj hn hj=>(h j hn hj).mono (Q5 k)
theorem Cb.val(h:Cb n D R v)(hu:jh n D v e p=u)(he:D.contains e=A9):AK CK (C7 R) u u:=by
 unfold jh at hu;split at hu
 .split at hu;.rename_i hx;cases hu;rw[he,aDY]at hx;exact h.op hx
  grind
 .split at hu;.rename_i hx;cases hu;rw[he,aDY]at hx;exact h.op hx
  grind
 .split at hu
  .rename_i hx;split at hu;.rename_i xs hv;let I:=h.op hx;rw[hv]at I;cases I with|tuple h2=>exact Al.nth _ h2 (Ai hu)
   cases hu
  grind
 .split at hu;.cases hu;exact .bool _
  .cases hu;exact .bool _
  grind
 .split at hu;.cases hu;exact .bool _
  grind
 .split at hu
  .split at hu;.cases hu;exact .bool _
   cases hu
  grind
 .grind
 grind
theorem Cb.one(h:Cb n D R v)(ho:jg n D v ops o=v'):Cb n D R v':=by
 unfold jg at ho;split at ho
 .split at ho
  .split at ho;.rename_i u hu;cases ho;exact h.upd λhe=>h.val hu he
   grind
  grind
 split at ho;.cases ho;exact h.upd λ_=>AK.undef
 grind
theorem Cb.st(h:Cb n D R s.1)(hs:RJ n D s=s'):Cb n D R s'.1:=by
 unfold Twin.RJ at hs;split at hs;case h_10=>
  split at hs
  .split at hs;.rename_i I;cases hs;exact Cb.one h I
   cases hs
  cases hs
 all_goals grind
theorem Cb.D2:∀(K){s},Cb n D R s.1->Cb n D R (D2 n D K s).1
 |0,_,h=>h
 |K+1,s,h=>by
  unfold Twin.D2;split;.rename_i s' hs;exact Cb.D2 K (h.st hs)
  grind
theorem Cb.BM(h:Cb n D R s.1):Cb n D R (BM n D s).1:=Cb.D2 99 h
end
structure Ap(n:Nat)(D:List Nat)(AU:A1)(gc Wb R:zy)(w:A1)(v:Nat->A3):Prop where
 H:CC Wb R w
 V:Cb n D R v
 S:∀b,gc b->R b/\w.heap[b]?=AU.heap[b]?
abbrev kh(R:zy)(w:A1)(c':Ah)(cs':List Ah)(Q:A3->A1->Prop)(BJ:zy)(g':AY)(w':A1):Prop:=∃R' u,g'=G (c'.finish u) cs'/\AK CK (C7 R') u u/\(∀b,R b->R' b)/\CC BJ R' w'/\(∀b,R b->w'.heap[b]?=w.heap[b]?)/\Q u w'
def HJ(g:Nat)(az:zw)(Wb R:zy)(w:A1)(Q:A3->A1->Prop):Prop:=∀x c' cs',Ce Wb (G (Fa A6 g az EI) (c'::cs')) (w.at x) (kh R w c' cs' Q)
noncomputable def okF(g:Nat):Bool:=match A6.funcs[g]? with|Z fn=>fn.body.isSome&&!fn.name== "runtime.NumGoroutine"|J=>A9
noncomputable def Lj(n:Nat)(s:FC):Option (Nat×zw×Nat):=match s.2 with
 |Ak ops (i::_)::_=>match ops[i]? with
  |Z o=>match o.op,o.dst with
   |Em {callee:=NU x,args:=opd,argTypes:=_},Z e=>match Ed n s.1 x with
    |Br (Bo g) fs cap=>if fs.isEmpty&&Gd o (kN n s.1 ops)then Z (g,opd.map (Ed n s.1)++cap,e)else J
    |_=>J
   |_,_=>J
  |J=>J
 |_=>J
noncomputable def Rs(D:List Nat)(s:FC):Bool:=match s.2 with
 |Ak ops (i::_)::_=>match(ops.getD i DU).op with
  |Em {callee:=NU (It _),args:=opd,argTypes:=_}=>opd.toList.all (XS D)
  |_=>A9
 |_=>A9
noncomputable def EB(s:FC)(e:Nat)(u:A3):FC:=(BQ s.1 e u,match s.2 with|Ak ops (_::r)::q=>Ak ops r::q|l=>l)
noncomputable def dh(f n:Nat)(s:FC):Option A3:=match s.2 with
 |Aw .ret::_=>match A6.funcs[f]? with
  |Z fn=>match fn.results.toList with
   |[.tmp a]=>Z (Ed n s.1 (Aa a))
   |[.tmp a,.tmp b]=>Z (Aj #[Ed n s.1 (Aa a),Ed n s.1 (Aa b)])
   |_=>J
  |J=>J
 |_=>J
noncomputable def jX(g:Nat):Nat:=(A6.funcs[g]?.map (·.ntmps)).getD 0
noncomputable def J1(g:Nat):DK:=(A6.funcs[g]?.bind (·.body)).getD .ret
noncomputable def Ep(g:Nat)(az:zw):FC:=(λj=>az.getD j AN,[Aw (J1 g)])
section
variable{Wb R gc:zy}{Post:zv}{f n e g:Nat}{D:List Nat}{cs cs':List Ah}{c':Ah}{w AU:A1}{s:FC}{az:zw}{u:A3}{Q:A3->A1->Prop}{lc:Option Nat×List Vp}
theorem Ap.val{v}(S:Ap n D AU gc Wb R w v)(j)(hj:(gH j n&&!D.contains j)=A5)(e:v j=u):AK CK (C7 R) u u:=As e.symm (S.V j (by simp_all) BA)
def Ap.jC{v b}(S:Ap n D AU gc Wb R w v)(j)(hj:(gH j n&&!D.contains j)=A5)(e:v j=B2 (Z ⟨b,0,J⟩)):R b:=AK.Kf (S.val j hj e)
def Ap.xh{v b}(S:Ap n D AU gc Wb R w v)(j)(hj:(gH j n&&!D.contains j)=A5)(e:v j=.map (Z b)):R b:=AK.Q6 (S.val j hj e)
theorem dX(h:okF g=A5):∃fn c,A6.funcs[g]?=Z fn/\(fn.name== "runtime.NumGoroutine")=A9/\fn.body=Z c:=by
 unfold okF at h;split at h;.let⟨h1,h2⟩:=Cp.1 h;let⟨c,hc⟩:=aI2.1 h1;grind
 grind
theorem c6(hc:Lj n s=Z (g,az,e))(hF:okF g=A5):(∀w,B9 A6 A5 (G (Fr (J,[]) f (Ax n s.1) s.2) cs) w=Bl (G (Fa A6 g az EI) (Fr (J,[]) f (Ax n s.1) s.2::cs)) w #[])/\∀u,(Fr (J,[]) f (Ax n s.1) s.2).finish u=Fr (J,[]) f (Ax n (EB s e u).1) (EB s e u).2:=by
 let⟨v,l⟩:=s;unfold Lj at hc;split at hc
 .rename_i ops i rest q hl;subst hl;split at hc
  .rename_i o ho;split at hc
   .rename_i x opd h N I hd;split at hc
    .rename_i U fs cap hx;split at hc
     .rename_i hfs;cases hc;let⟨hfs,hw⟩:=Cp.1 hfs;obtain rfl:=aDT.1 hfs;let⟨fn,c,h1,h2,h3⟩:=dX hF;refine⟨λw=>?_,λu=>?_⟩;.rw[<-Ug];exact aYS (b:=B5 f) (a:=⟨Ax n v,[]⟩) ho (Ar qm) (by simp[B5]) I (VN.trans hx) h1 h2 h3
      rw[Uh ho hd];show Fr (J,[]) f ((Ax n v).setIfInBounds e u) (Ak ops rest::q)=_;rw[Qj];rfl
     cases hc
    cases hc
   cases hc
  cases hc
 grind
def ui(hc:Lj n s=Z (g,az,e))(hF:okF g=A5)(hk:∀x c',Ce Wb (G (Fa A6 g az EI) (c'::cs)) (w.at x) λI N w'=>∃u,N=G (c'.finish u) cs/\Be f n cs I w' (EB s e u) Post):Be f n cs Wb w s Post:=.ctl rfl (c6 hc hF).1 λx=>(hk x _).bind λI N w'⟨u,h1,h⟩=>by rw[(c6 (cs:=cs) hc hF).2 u]at h1;rwa[h1]
def Ap.call(S:Ap n D AU gc Wb R w s.1)(hc:Lj n (BM n D s)=Z (g,az,e))(hF:okF g=A5)(hk:HJ g az Wb R w Q)(k:∀h R' u w',Ap n D AU gc h R' w' (EB (BM n D s) e u).1->(∀b,R b->R' b/\w'.heap[b]?=w.heap[b]?)->Q u w'->Be f n cs h w' (EB (BM n D s) e u) Post):Be f n cs Wb w s Post:=Fz.BM λm=>ui hc hF λx c'=>(hk x c' cs).bind λh I w'⟨R',u,h1,h2,h3,h4,h5,h6⟩=>.here ⟨u,h1,k h R' u w' ⟨h4,(S.V.BM.mono h3).upd λ_=>h2,λb hb=>⟨h3 b (S.S b hb).1,(h5 b (S.S b hb).1).trans (S.S b hb).2⟩⟩ (λb hb=>⟨h3 b hb,h5 b hb⟩) h6⟩
def Cb.args(N:Cb n D R s.1)(hc:Lj n s=Z (g,az,e))(ha:Rs D s=A5):Ey R az:=by
 let⟨v,l⟩:=s;unfold Lj at hc;split at hc
 .rename_i ops i rest q hl;subst hl;split at hc
  .rename_i o ho;let U:ops.getD i DU=o:=by rw[QP,ho];rfl
   split at hc
   .rename_i x opd I e' A hd;split at hc
    .rename_i g' fs cap hx;split at hc
     .cases hc;unfold Rs at ha;simp only[U]at ha;rw[A]at ha;cases x with
      |func g2=>
       cases hx;show Al CK (C7 R) ..;rw[Tw,Array.toList_map];have:∀l:List BP,l.all (XS D)=A5->Al CK (C7 R) (l.map (Ed n v)) (l.map (Ed n v)):=by intro l;induction l with|nil=>exact λ_=>.nil|cons y l ih=>intro h;let⟨h1,h2⟩:=Cp.1 h;exact .cons (N.op h1) (ih h2)
       exact this _ ha
      |_=>cases ha
     cases hc
    cases hc
   cases hc
  cases hc
 cases hc
def HJ.mono{A}(h:HJ g az Wb R w Q)(k:∀u w',Q u w'->A u w'):HJ g az Wb R w A:=λx c' cs'=>(h x c' cs').bind λ_ _ _⟨R',u,a,b,c,d,e,f⟩=>.here ⟨R',u,a,b,c,d,e,k _ _ f⟩
def CallsC.aCf(h:∀x,CallsC g az (w.at x) Q)(I:CC Wb R w)(N:Ey R az)(hs:∀u w',Q u w'->∀b,R b->w'.heap[b]?=w.heap[b]?):HJ g az Wb R w Q:=λx c' cs'=>(h x Wb R c' cs' (I.at x) N).bind λ_ _ _⟨R',v,a,b,c,d,e⟩=>.here ⟨R',v,a,b,d,e,hs _ _ c,c⟩
def aRH(hg:Hh g=A5)(hF:okF g=A5)(h:∀T x,Ab A6 g az (on (w.at x) T) λe I=>∃u,e=AV u/\Q u I/\∀b,b<w.heap.size->I.heap[b]?=w.heap[b]?)(N:CC Wb R w)(U:Ey R az):HJ g az Wb R w λu w'=>∃I,w'.heap=I.heap/\Q u I:=by let⟨fn,c,h1,_,h3⟩:=dX hF;exact λx c' cs'=>(CallsC.lone (TG g hg) h1 BA (λT=>h T x) Wb R c' cs' (N.at x) U).bind λBJ g' w'⟨R',v,a,b,⟨I,e1,c1,c2⟩,d,e⟩=>.here ⟨R',v,a,b,d,e,λb hb=>As e1 (c2 b (N.closed.lt hb)),I,e1,c1⟩
def Ap.Og(S:Ap n D AU gc Wb R w s.1)(hc:Lj n (BM n D s)=Z (g,az,e))(ha:(Rs D (BM n D s)&&okF g)=A5)(hk:Ey R az->HJ g az Wb R w Q)(k:∀h R' u w',Ap n D AU gc h R' w' (EB (BM n D s) e u).1->(∀b,R b->R' b/\w'.heap[b]?=w.heap[b]?)->Q u w'->Be f n cs h w' (EB (BM n D s) e u) Post):Be f n cs Wb w s Post:=S.call hc (Cp.1 ha).2 (hk (S.V.BM.args hc (Cp.1 ha).1)) k
def Ap.lone(S:Ap n D AU gc Wb R w s.1)(hc:Lj n (BM n D s)=Z (g,az,e))(ha:(Rs D (BM n D s)&&Hh g&&okF g)=A5)(h:∀T x,Ab A6 g az (on (w.at x) T) λe I=>∃u,e=AV u/\Q u I/\∀b,b<w.heap.size->I.heap[b]?=w.heap[b]?)(k:∀N R' u w',Ap n D AU gc N R' w' (EB (BM n D s) e u).1->(∀b,R b->R' b/\w'.heap[b]?=w.heap[b]?)->(∃I,w'.heap=I.heap/\Q u I)->Be f n cs N w' (EB (BM n D s) e u) Post):Be f n cs Wb w s Post:=by let⟨h1,h2⟩:=Cp.1 ha;let⟨h1,h3⟩:=Cp.1 h1;exact S.call hc h2 (aRH h3 h2 h S.H (S.V.BM.args hc h1)) k
theorem Ap.still(S:Ap n D AU gc Wb R w s.1)(hc:Lj n (BM n D s)=Z (g,az,e))(ha:(Rs D (BM n D s)&&okF g)=A5)(h:∀x,CallsC g az (w.at x) λv w'=>v=u/\w'.heap=w.heap)(k:∀I R' w',Ap n D AU gc I R' w' (EB (BM n D s) e u).1->(∀b,R b->R' b)->w'.heap=w.heap->Be f n cs I w' (EB (BM n D s) e u) Post):Be f n cs Wb w s Post:=S.Og hc ha (λhv=>CallsC.aCf h S.H hv λ_ _ hq _ _=>BA) λI R' _ w' S' hk hq=>by grind
def Ap.dT(S:Ap n D AU gc Wb R w s.1)(hc:Lj n (BM n D s)=Z (g,az,e))(ha:(Rs D (BM n D s)&&Hh g&&okF g)=A5)(h:∀T x,Ab A6 g az (on (w.at x) T) λe I=>∃u,e=AV u/\Q u I)(hs:∀u I,Q u I->∀b,gc b->I.heap[b]?=w.heap[b]?)(k:∀N R' u I w',Ap n D AU gc N R' w' (EB (BM n D s) e u).1->(∀b,R b->R' b)->w'.heap=I.heap->Q u I->Be f n cs N w' (EB (BM n D s) e u) Post):Be f n cs Wb w s Post:=by let⟨h1,h2⟩:=Cp.1 ha;let⟨h1,h3⟩:=Cp.1 h1;let⟨fn,c,h4,_,h5⟩:=dX h2;exact Fz.BM λm=>ui hc h2 λx c'=>(CallsC.lone (TG g h3) h4 (Af h5) (λT=>h T x) Wb R c' cs (S.H.at x) (S.V.BM.args hc h1)).bind λN U w'⟨R',u,a1,a2,⟨I,a3,a4⟩,a5,a6⟩=>.here ⟨u,a1,k N R' u I w' ⟨a6,(S.V.BM.mono a5).upd λ_=>a2,λb hb=>⟨a5 b (S.S b hb).1,by rw[a3,hs u I a4 b hb];exact(S.S b hb).2⟩⟩ a5 a3 a4⟩
abbrev eS(w w':A1):Prop:=Below w w {w with heap:=w'.heap}
def eS.trans{w1 w2}(h:eS w w1)(k:eS w1 w2):eS w w2:=⟨rfl,rfl,rfl,Dn h.size k.size,λb hb=>(k.block b (Hw hb h.size)).trans (h.block b hb)⟩
def Ap.VE(S:Ap n D AU gc Wb R w s.1)(hc:Lj n (BM n D s)=Z (g,az,e))(ha:(Rs D (BM n D s)&&Hh g&&okF g)=A5)(h:∀T x,Ab A6 g az (on (w.at x) T) λe I=>∃u,e=AV u/\Q u I/\Below w (on (w.at x) T) I)(k:∀N R' u I w',Ap n D AU gc N R' w' (EB (BM n D s) e u).1->(∀b,R b->R' b)->w'.heap=I.heap->Q u I->eS w w'->Be f n cs N w' (EB (BM n D s) e u) Post):Be f n cs Wb w s Post:=S.dT (Q:=λu I=>Q u I/\AR w<=AR I/\∀b,b<AR w->JE b I w) hc ha (λT x=>(h T x).mono λe I⟨u,a,b,c⟩=>⟨u,a,b,c.size,c.block⟩) (λu I hq b hb=>hq.2.2 b (S.H.closed.lt (S.S b hb).1)) λN R' u I w' S' hR e hq=>k N R' u I w' S' hR e hq.1 ⟨rfl,rfl,rfl,BA,λb hb=>BA⟩
def Ap.to(S:Ap n D AU gc Wb R w s.1)(K){q}(hq:(D2 n D K s).2=q)(k:∀m,Ap n D AU gc Wb R (w.at m) (D2 n D K s).1->Fz lc f n cs Wb (w.at m) ((D2 n D K s).1,q) Post):Fz lc f n cs Wb w s Post:=du K w.drawn λm=>by have:=k m ⟨S.H.at m,Cb.D2 K S.V,S.S⟩;rwa[<-hq]at this
theorem Ap.fix{v q}(l)(hl:∀x∈l,v x.1=x.2)(S:Ap n D AU gc Wb R w v)(k:Ap n D AU gc Wb R w (TN v l)->Fz lc f n cs Wb w (TN v l,q) Post):Fz lc f n cs Wb w (v,q) Post:=by grind[cH]
theorem Ap.back(S:Ap n D AU gc Wb R w s.1)(h:dh f n (BM n D s)=u)(k:∀m,Ce Wb (G (c'.finish u) cs') (w.at m) Post):Be f n (c'::cs') Wb w s Post:=by
 refine Fz.BM (D:=D) λm=>?_;generalize BM n D s=s' at h⊢;let⟨v,l⟩:=s';unfold dh at h;split at h
 .rename_i q hl;subst hl;split at h
  .rename_i fn N;let hr:∀w,(D5 fn (Ax n v)).runT A6 w #[]=(AP u w,#[]):=λw=>by
    unfold D5;split at h;.rename_i a hr;cases h;rw[Sa.1 hr,<-VN (ds:=[])];simp[FG]
    .rename_i a b hr;cases h;rw[Sa.1 hr,<-VN (ds:=[]),<-VN (ds:=[])];simp[FG]
    cases h
   show Ce Wb (G ((B5 f).at ⟨Ax n v,[]⟩ (Aw .ret::q)) (c'::cs')) (w.at m) Post;exact .uz rfl (λ_=>stepG_ret') λU=>.uz rfl (λw=>zn rfl rfl N hr) λI=>k I
  grind
 grind
def Ap.ret(S:Ap n D AU gc Wb R w s.1)(h:dh f n (BM n D s)=u)(hv:AK CK (C7 R) u u)(hq:∀d,Q u (w.at d)):Be f n (c'::cs') Wb w s (kh gc AU c' cs' Q):=S.back h λd=>.here ⟨R,u,rfl,hv,λb hb=>(S.S b hb).1,S.H.at d,λb hb=>(S.S b hb).2,hq d⟩
def vM(n:Nat)(h:(okF g&&aHp az n&&aHo (jX g) n)=A5):Fa A6 g az EI=Fr (J,[]) g (Ax n (Ep g az).1) (Ep g az).2:=by
 let⟨h,h4⟩:=Cp.1 h;let⟨h1,h2⟩:=Cp.1 h;obtain rfl:=Nat.eq_of_beq_eq_true h4;let h2:=Nat.le_of_ble_eq_true h2;let⟨fn,c,hf,_,hb⟩:=dX h1;rw[aLE hf hb];let e1:jX g=fn.ntmps:=by unfold jX;rw[hf];rfl
 let e2:J1 g=c:=by unfold J1;rw[hf,a2m,hb];rfl
 let e3:az++OG (fn.ntmps-az) AN=Ax (jX g) λj=>az.getD j AN:=by
  rw[e1];apply eL;intro j;rw[Array.getElem?_append];by_cases hj:j<fn.ntmps
  .rw[WS hj,QP];by_cases h3:j<az;.rw[if_pos h3,G8 h3];rfl
   rw[if_neg h3,Array.getElem?_replicate,if_pos A',Ml A'];rfl
  rw[if_neg A',Ml Av,Ml (by simp[Ax];omega)]
 rw[e3,<-e2];rfl
def Be.enter(n:Nat)(h:(okF g&&aHp az n&&aHo (jX g) n)=A5)(k:Be g n cs Wb w (Ep g az) Post):Ce Wb (G (Fa A6 g az EI) cs) w Post:=Ar (vM n h)
theorem Cb.Ep(h:Ey R az):Cb n D R (Ep g az).1:=λj _ _=>by
 show AK CK (C7 R) (az.getD j AN) (az.getD j AN);by_cases hj:j<az;.exact Ey.nth h j (by simp_all)
 rw[QP,Ml A'];exact AK.undef
end
section
variable{P:Ao}{F:zy}{kb:Nat->Bool}{fd:Gz}{k:Nat}
def aYt(X:Static P F kb fd k)(Q0:∀b,fd.ob b){Wb R:zy}{f:Nat}{K Wg:Ah}{Q:A3->A1->Prop}(M:EZ P F kb fd k (C7 R) [] K Wg)(MZ:K.mode=LZ)(hR:Closed F Wb R w)(EW:∀b,Wb b->b<w)(H8:∀T,∃N H h,EK P N (Df (G K [bot]) (on w T))=DY (Df (G H [bot]) h)/\ID A5 H/\∃v,Q v h/\H.fn=f/\H.leaving P h (AV v)):Cy P Wb (a01 F Wb R w c' cs' Q) (G Wg (c'::cs')) w:=by
 refine(zL X Q0 A5 (λ_=>rfl) M MZ hR EW H8).bind ?_;rintro g w1'⟨E1,d8,I,h,rfl,hfr,DZ,⟨v,hq,wQ,hm,hd,hk,A,ZG,HR⟩,hE,hwr,Lu,Q1,ic,E9⟩;refine .step rfl λd=>?_;let FT:JK (λ_=>False) (λ_=>False) (Du Wb (AR w1')) E1:=λb b' x=>AF ⟨λy=>y,(hwr.lt x).2,Q1 b b' x⟩;have hr:=Bc.at (λ_=>False) (Du Wb (AR w1')) w1' d;have B:(w1'.at d).heap=w1'.heap:=rfl;generalize xZ:w1'.at d=U at hr B;let C:C9 F (Am fd A5) (λ_=>False) E1 (on h (join h.tape h.drawn U.tape U.drawn)) U:=hwr.rely FT hr _;let hs:AQ P F ⟨fd.ob,False,fd.own,fd.J3⟩ (Bp F) E1 (D5 A d8.tmps) (D5 A I.tmps):=hfr.results ZG;let hrun:∃es,(D5 A d8.tmps).runT P h #[]=(AP v h,es):=by have:=X_ (P:=P) (D5 A d8.tmps) h #[];rw[HR]at this;exact⟨((D5 A d8.tmps).runT P h #[]).2,by rw[<-this]⟩
 let⟨es,hrun⟩:=hrun;let⟨E2,v',w2',es',r1,r2,r3,r4,r5⟩:=AQ.runs X.fit.Ip (λ_ x=>x) (λx=>False.elim x) hs (⟨C.heap,C.tape,C.kept,C.low,C.even⟩) .nil ((AQ.tape X.fit.Ip hs ⟨hwr.heap,hwr.tape,λ_ x=>x.elim,hwr.low,hwr.even⟩ hrun).2 (join h.tape h.drawn U.tape U.drawn) λi q h1 h2=>A');let hgo:B9 P A5 (G I (c'::cs')) U=Bl (G (c'.finish v') cs') w2' (Fc P I.fn es'):=As (SX rfl (hfr.mode.trans hm)) (SZ hfr.defers.2 (hfr.mode.trans hm) hfr.kind.2 (by show P.funcs[I.fn]?=_;rwa[hfr.fn]) r1);obtain⟨v9,hgt,Pt⟩:=Wj FT (λb hb=>hb.elim) r4 r5;let Y:=r4.V4 ⟨Lu.1,B.trans Lu.2⟩;let Uy:∀b,Wb b->b<w2':=λb hb=>by have:=ic b hb;let h5:=hgt.size;rw[B]at h5;omega
 let ZQ:UO Wb E2:=λb b' x=>by
  let Uv:F8 (λ_=>False) (Du Wb U) U w2' (Fc P I.fn es') v9:=Ar B;rcases Pt b b' x with⟨y,_⟩|⟨_,y⟩;.exact y.elim
  rw[jL (λb hb=>As B (ic b hb)) Uv]at y;exact y.2
 refine⟨_,w2',_,v9,hgo,hgt,.stop λd2=>?_⟩;obtain⟨ip,rfl,Er⟩:=gn r3 Y ZQ λb hb=>r4.le _ _ (hE _ _ ⟨rfl,hR.Ca b hb⟩);obtain rfl:=r2.same Y.1;refine⟨ip,v',h,rfl,r2,hq,λb hb=>(r4.le _ _ (hE b b ⟨rfl,hb⟩)).2,?_,Er.same λ_ _=>rfl,Uy,λb hb=>?_⟩;.exact Y.2
 rcases r4.fresh b b ⟨rfl,hb⟩with y|⟨y,_⟩;.exact(E9 b b y).imp (·.2) id
 omega
end
theorem Ce.tail{R Post}(A:A6.funcs[f]?=Z fn)(hown:FM f=[])(hc:J2 A6 Hh FM [] 8 c=A5)(hT:Ey R T)(B:CC Wb R w)(h:∀T0,c.wp A6 (bodyPost A6 fn λe I=>∃v,e=AV v/\Q v I) ⟨T,[]⟩ (on w T0))(k:∀U v I w',Q v I->w'.heap=I.heap->AK CK (C7 U) v v->(∀b,R b->U b)->CC Wb U w'->Ce Wb (G (c'.finish v) cs') w' Post):Ce Wb (G ((B5 f).at ⟨T,[]⟩ [Aw c]) (c'::cs')) w Post:=by
 let hfr:EZ A6 CK Hh SO 8 (C7 R) [] ((B5 f).at ⟨T,[]⟩ [Aw c]) ((B5 f).at ⟨T,[]⟩ [Aw c]):=by
  refine⟨rfl,⟨fn,A,by show aH (IE (FM f)) fn=A5;rw[hown];exact zD fn⟩,rfl,λi hi=>?_,⟨rfl,rfl⟩,rfl,⟨rfl,rfl⟩,⟨rfl,rfl⟩,Al.a7r hT _,λt ht=>?_⟩;.obtain rfl:=ES.1 hi;show J2 A6 Hh FM (FM f) 8 c=A5;grind
  let ht:t∈FM f:=ht;grind
 refine .Km (aYt kC (λ_=>trivial) (f:=f) (Q:=Q) hfr rfl B.closed B.low λT0=>?_) ?_;.let⟨e,a',w',hq,hst⟩:=h T0 (B5 f) [] [bot];cases e with|normal=>let⟨hd,v,hr,u,hu,hR⟩:=hq;let⟨N,hN⟩:=Steps.trans hst (.one step_end);cases hu;exact⟨N,_,w',hN,rfl,v,hR,rfl,rfl,hd,rfl,fn,A,hr⟩|ret=>let⟨hd,v,hr,u,hu,hR⟩:=hq;let⟨todo,N,hN⟩:=hst;cases hu;exact⟨N,_,w',hN,rfl,v,hR,rfl,rfl,hd,rfl,fn,A,hr⟩|panic C=>let⟨_,u,hu,_⟩:=hq;cases hu|exit id=>exact hq.elim|goto l=>exact hq.elim|outgrown=>let⟨u,hu,_⟩:=hq;cases hu
 rintro g w'⟨U,v,I,rfl,hv,hq,hle,hh,H,K,_⟩;exact k U v I w' hq hh hv hle ⟨H,K⟩
def aRG(l:Loc):∃B,l.low B:=by cases l with|cell a=>exact⟨a.block+1,Qd _⟩|obj r=>exact⟨r+1,Qd _⟩|output=>exact⟨0,trivial⟩|goroutines=>exact⟨0,trivial⟩|mark _=>exact⟨0,trivial⟩
def aIm(x:MemAct):∃B,x.low B:=by
 cases x with
 |access e=>exact aRG e.loc
 |mark m=>
  cases m with
  |acquire a=>exact⟨a.block+1,Qd _⟩
  |release a=>exact⟨a.block+1,Qd _⟩
  |releaseMerge a=>exact⟨a.block+1,Qd _⟩
  |read a=>exact⟨a.block+1,Qd _⟩
  |write a=>exact⟨a.block+1,Qd _⟩
  |disable=>exact⟨0,trivial⟩
  |enable=>exact⟨0,trivial⟩
  |extern=>exact⟨0,trivial⟩
  |noRoom=>exact⟨0,trivial⟩
 |go _=>exact⟨0,trivial⟩
 |start=>exact⟨0,trivial⟩
 |send c _=>exact⟨c+1,Qd _⟩
 |sendDone c _=>exact⟨c+1,Qd _⟩
 |recv c _ _=>exact⟨c+1,Qd _⟩
 |recvDone c _=>exact⟨c+1,Qd _⟩
 |close c=>exact⟨c+1,Qd _⟩
 |recvClosed c=>exact⟨c+1,Qd _⟩
theorem aZc(t:DT):∃B,∀I∈t,I.act.low B:=by
 let⟨l⟩:=t;induction l with
 |nil=>simp_all
 |cons x l N=>
  let⟨B,hB⟩:=N;let⟨C,hC⟩:=aIm x.act;refine⟨max B C,λI h=>?_⟩;rcases DO.1 (a'y.2 h)with rfl|h;.exact aEr (Nat.le_max_right ..) hC
  exact aEr (Nat.le_max_left ..) (hB I (a'y.1 h))
section
variable{P:Ao}{Wb:zy}{gs:Array AY}{w:A1}{t:DT}{q:Nat->Nat}{a:AY}
theorem Cx.past(h:Cx P Wb gs w t q a):∃B,Past (λl=>∃b,Wb b/\FA l b) B t:=by
 let⟨B,hB⟩:=aZc t;let hg:∀i g,t.g? i=Z g->¬gs.size<=g:=λi g e hle=>by obtain⟨N,I,rfl⟩:=Qf.1 e;have:=h.JG.gs i N I;omega
 refine⟨B,h.JG.nr,λi x hx hm=>?_,λi g e hne hc=>?_,h.hears,hB⟩
 .by_cases hs:∃b,Wb b/\FA x.loc b;.let⟨N,I,hox⟩:=aj hx;let⟨h1,h2⟩:=h.JG.quiet i N x I hox hs;cases hk:x.kind with|plain=>grind|said=>have:=knows_own I;grind|atomic=>grind
  rcases h.O4.known i x hx hm hs with y|⟨g,y,z⟩;.exact AA y
  grind
 exact(h.O4.over i g e hne hc).resolve_right (hg i g e)
end
def qw(P:Ao)(Post:A3->A1->Prop)(a:AY)(w:A1):Prop:=a.status=CZ/\∀h,AtRel w h->∃v,B9 P A5 a h=ao (.done v) h #[]/\Post v h
def aJh(P)(a)(w):Cx P (λ_=>False) #[a] w #[] (λ_=>0) a:=by refine⟨rfl,leavers_one P a,⟨past_nil.clean,λg b hb l hl=>?_,λg b hb=>hb.elim,λi I x hi=>by simp at hi,λI h=>by simp at h,λi I hi=>by simp at hi⟩,⟨λi x hx=>by simp[touchAt,a1M]at hx,λi g hg=>by simp[lY]at hg⟩,rfl,λb hb=>hb.elim⟩;intro i x hx;trivial
theorem aW8{r}(hr:fn.results=#[.tmp r])(T)(w)(es):(D5 fn T).runT P w es=(AP (T.getD r AN) w,es):=by simp_all[D5,Array.mapM_eq_foldlM,Array.foldlM_toList]
theorem aZq{w1 v}(hd:d8.defers=[])(hm:d8.mode=Mp)(hk:d8.kind=EI)(h:P.funcs[d8.fn]?=Z fn)(hin:P.inits.idxOf? d8.fn=J)(hr:(D5 fn d8.tmps).runT P w #[]=(AP v w1,#[])):I3 P A5 d8 [] J w=ao (.done v) w1 #[]:=by grind[I3,a1X,KH,Fc]
end
section
open Go.Conc(G solo Deaf QuitsD Goes scase semEvents NoRelease)
open Go.ConcN(WgLive RW DWs AtR0 WSit WD CTag Mode Vc Ssum Fsum cnt pend phi)
open Go.ConcR(KK WgAt stA smA rd wr mk Payload)
inductive Db|leaf|node(f:A1->Db)
inductive Db.lt:Db->Db->Prop|mk(f:A1->Db)(w:A1):Db.lt (f w) (.node f)
theorem Db.wf:WellFounded Db.lt:=⟨λt=>by induction t with|leaf=>exact⟨_,λy h=>by cases h⟩|node f I=>exact⟨_,λy h=>by cases h;grind⟩⟩
def L0(P:Ao)(main:Bool)(AG:zy)(Stop:zv):Db->zv|.leaf,S,g,w=>∀h,Bc AG S w h->Stop S g h|.node f,S,g,w=>g.status=CZ/\∀h,Bc AG S w h->∃I w' es S',B9 P main g h=Bl I w' es/\F8 AG S h w' es S'/\L0 P main AG Stop (f h) S' I w'
theorem Way.F7{P main AG Stop S g w}(h:Way P main AG Stop S g w):∃τ,L0 P main AG Stop τ S g w:=by induction h with|stop h=>exact⟨.leaf,h⟩|go N hs h hk U=>rename_i S g w;classical refine⟨.node λI=>if hr:Bc AG S w I then kl (U I hr)else .leaf,hs,λI hr=>⟨(N I).g,(N I).w,(N I).es,(N I).S,(h I hr).1,(h I hr).2,?_⟩⟩;grind
def L0.rely{P main AG Stop τ S g w A}(h:L0 P main AG Stop τ S g w)(hr:Bc AG S w A):L0 P main AG Stop τ S g A:=by cases τ with|leaf=>exact λN I=>h N (hr.trans I)|node f=>exact⟨h.1,λN I=>h.2 N (hr.trans I)⟩
def ae(A:Nat)(h D:Nat->Db):Prop:=∃i,i<A/\Db.lt (h i) (D i)/\∀a,a≠i->h a=D a
theorem a4s:∀(A)(D),Acc (ae A) D
 |0,D=>⟨_,λy⟨i,hi,_⟩=>A'⟩
 |A+1,D=>by
  have key:∀x:Db,∀D:Nat->Db,D A=x->Acc (ae (A+1)) D:=by
   intro x;induction x using Db.wf.induction with
   |h x U=>
    intro D B;have:=a4s A D;induction this with
    |intro D _ N=>
     refine⟨_,λI⟨i,hi,hlt,hs⟩=>?_⟩;rcases JR i A with hij|hij;.exact N I ⟨i,hij,hlt,hs⟩ ((hs A A').trans B)
     obtain rfl:i=A:=A';exact U (I i) (B▸hlt) I rfl
  grind
def bj:Type:=Nat×(Nat->Db)×Nat
def L'(h:Nat):bj->bj->Prop:=aI3 (·<·) (aI3 (ae h) (·<·))
def aWB(h):WellFounded (L' h):=(aI4 ⟨_,aHu.wf⟩ (aI4 ⟨ae h,⟨a4s h⟩⟩ ⟨_,aHu.wf⟩)).wf
section
variable[Bg]
structure GG where
 P:Ao
 ty:BL
 Ae:Nat
 Bn:Nat
 c0:Nat
 C0:Nat
 n:Nat
 Wb:zy
 Nk:Nat->A3->zy->A1->Prop
 Goal:zy->zv
def GG.BJ(X:GG)(b:Nat):Prop:=X.Wb b∨b=X.Ae
def R9:Nat->Loc->Prop:=λ_ _=>False
structure GU where
 wd:WD
 F7:Option Db
 S:zy
 AG:zy
 C:Nat
 nC:Nat
 val:A3
variable(X:GG)
def AtSend(i C nC:Nat)(h:A3)(AG S:zy)(g:AY)(w:A1):Prop:=g.status=CZ/\S C/\∃v z es M,B9 X.P A9 g w=et g #[rQ X.Bn v z] A5 l2 w es/\(∀e∈es,Ko AG S e)/\(∀b,M b->S b/\b≠C)/\X.Nk i v M w/\∀w',(∀b,S b->w'.heap[b]?=w.heap[b]?)->IQ X.ty X.Ae w'->∃m,Xx X.P A9 (RW X.ty X.Ae C nC 0 (1-1)) (DWs X.Ae R9 R9 C nC 1) (AtR0 X.P X.ty X.Ae C nC 0 1 h) m (g.finishComm X.P #[rQ X.Bn v z] l2 0 AN A9) w'
def J'(i:Nat)(e:GU)(g:AY)(w:A1):Prop:=match e.F7 with|Z τ=>e.wd.stage=7/\e.wd.deaf=0/\e.wd.fuel=0/\L0 X.P A9 e.AG (AtSend X i e.C e.nC e.val e.AG) τ e.S g w|J=>WSit X.P X.ty X.Ae e.C e.nC R9 R9 0 1 e.val e.wd.stage e.wd.fuel e.wd.deaf g w/\e.S e.C
def Ct(w h:A1):Prop:=IQ X.ty X.Ae w->IQ X.ty X.Ae h
def a05(w w':A1)(es:Array C5):Prop:=w'=w/\∀e∈es,∃a:An,a.block=X.Ae/\(e=⟨NX (.read a),A9,A5⟩∨e=⟨NX (.write a),A9,A5⟩)
abbrev CB(Stop:AY->A1->Prop)(m:Nat)(g:AY)(w:A1):Prop:=Xx X.P A5 (Ct X) (a05 X) Stop m g w
section
variable(Ht Dw:AY->Prop)
def AtAcq(g:AY)(w:A1):Prop:=g.status=CZ/\∃h,B9 X.P A5 g w=Bl h w #[ON (ay (Dx X.Ae))]/\Dw h
def AtKe(g:AY)(w:A1):Prop:=g.status=CZ/\∃h,B9 X.P A5 g w=Bl h w #[ON fB]/\∃m,CB X (AtAcq X Dw) m h w
def AtW4(g:AY)(w:A1):Prop:=g.status=CZ/\(Jo X.ty X.Ae w 0 0->∃h,B9 X.P A5 g w=Bl h w #[rd (Dx X.Ae)]/\∃m,CB X (AtKe X Dw) m h w)
def AtW3(g:AY)(w:A1):Prop:=g.status=CZ/\g.offers=J/\((∃st,Jo X.ty X.Ae w st 0)->B9 X.P A5 g w=Bl {g with status:=lB} w #[])/\(Jo X.ty X.Ae w 0 1->∃h,B9 X.P A5 g w=Bl h (w.setCell (Vo X.Ae) (AB ew 0)) (Xy (Vo X.Ae))/\∃m,CB X (AtW4 X Dw) m h (w.setCell (Vo X.Ae) (AB ew 0)))
def AtW2(I:Nat)(g:AY)(w:A1):Prop:=g.status=CZ/\∀v:Nat,v<2147483648->Jo X.ty X.Ae w (v*KK) 0->(v=I->∃h,B9 X.P A5 g w=Bl h (w.setCell (Dx X.Ae) (AB Da (v*KK+1))) #[rd (Dx X.Ae),wr (Dx X.Ae)]/\∃m,CB X (AtW3 X Dw) m h (w.setCell (Dx X.Ae) (AB Da (v*KK+1))))/\(v≠I->∃h,B9 X.P A5 g w=Bl h w #[rd (Dx X.Ae)]/\∃m,CB X (λg _=>Ht g) m h w)
def AtW1(g:AY)(w:A1):Prop:=g.status=CZ/\∀v:Nat,v<2147483648->Jo X.ty X.Ae w (v*KK) 0->∃h,B9 X.P A5 g w=Bl h w #[rd (Dx X.Ae)]/\(v=0->∃m,CB X (AtKe X Dw) m h w)/\(v≠0->∃m,CB X (AtW2 X Ht Dw v) m h w)
def AtKd(g:AY)(w:A1):Prop:=g.status=CZ/\∃h,B9 X.P A5 g w=Bl h w #[ON b0]/\∃m,CB X (λg _=>Ht g) m h w
def YP:Prop:=∀g,Ht g->g.status=CZ/\∀w,IQ X.ty X.Ae w->∃m,CB X (AtW1 X Ht Dw) m g w
end
section
variable(Hc:AY->Prop)
def AtKeS(g:AY)(w:A1):Prop:=g.status=CZ/\∃h,B9 X.P A5 g w=Bl h w #[ON fB]/\∃m,CB X (λg _=>Hc g) m h w
def AtA1(g:AY)(w:A1):Prop:=g.status=CZ/\∀v:Nat,v<2147483647->Jo X.ty X.Ae w (v*KK) 0->∃h,B9 X.P A5 g w=Bl h (w.setCell (Dx X.Ae) (AB Da ((v+1)*KK))) #[rd (Dx X.Ae),wr (Dx X.Ae)]/\∃m,CB X (AtKeS X Hc) m h (w.setCell (Dx X.Ae) (AB Da ((v+1)*KK)))
def AtKdS(g:AY)(w:A1):Prop:=g.status=CZ/\∃h,B9 X.P A5 g w=Bl h w #[ON b0]/\∃m,CB X (AtA1 X Hc) m h w
end
structure Split(AG S Sh0 S0 Lh IB:zy):Prop where
 G5:∀b,S0 b->S b
 zX:∀b,IB b->S b
 za:∀b,Sh0 b↔AG b∨Lh b
 VT:∀b,Lh b->S b∨AG b
 apart:∀b,S0 b->¬IB b
 a0:∀b,S0 b->¬Lh b
 ac:∀b,IB b->¬Lh b/\¬AG b
def AtGo(i:Nat)(JM:zy->zv)(AG S:zy)(g:AY)(w:A1):Prop:=g.status=CZ/\∃N h Sh0 S0 Lh IB C nC I,B9 X.P A5 g w=.spawn N h w #[]/\h.status=CZ/\Split AG S Sh0 S0 Lh IB/\IB C/\Way X.P A9 Lh (AtSend X i C nC I Lh) IB h w/\JM Sh0 S0 N w
def uF(AG S:zy)(g:AY)(w:A1):Prop:=g.status=CZ/\(IQ X.ty X.Ae w->∃Ht Dw m,YP X Ht Dw/\CB X (AtKd X Ht) m g w/\∀h,Dw h->∀w',Bc AG S w w'->X.Goal AG S h w')
def StopA(r:Nat)(JM:zy->zv)(AG S:zy)(g:AY)(w:A1):Prop:=g.status=CZ/\(IQ X.ty X.Ae w->∃Hc m,CB X (AtKdS X Hc) m g w/\∀h,Hc h->∀w',Bc AG S w w'->Way X.P A5 AG (AtGo X (X.n-(r+1)) JM AG) S h w')
def I_:Nat->zy->zv|0,AG,S,g,w=>Way X.P A5 AG (uF X AG) S g w|r+1,AG,S,g,w=>Way X.P A5 AG (StopA X r (I_ r) AG) S g w
inductive Ef:PI->Nat->Db->Nat->Nat->zy->zv|Km{r:Nat}{τ:Db}{AG S:zy}{g:AY}{w:A1}:r<X.n->L0 X.P A5 AG (StopA X r (I_ X r) AG) τ S g w->Ef (Jn (r+1) 6) (X.n-(r+1)) τ 0 0 AG S g w|aR{τ:Db}{AG S:zy}{g:AY}{w:A1}:L0 X.P A5 AG (uF X AG) τ S g w->Ef (Jn 0 6) X.n τ 0 0 AG S g w|skd{r m:Nat}{Hc:AY->Prop}{AG S:zy}{g:AY}{w:A1}:r<X.n->CB X (AtKdS X Hc) m g w->(∀g',Hc g'->∀w',Bc AG S w w'->Way X.P A5 AG (AtGo X (X.n-(r+1)) (I_ X r) AG) S g' w')->Ef (Jn (r+1) 5) (X.n-(r+1)) .leaf m 0 AG S g w|sa1{r m:Nat}{Hc:AY->Prop}{AG S:zy}{g:AY}{w:A1}:r<X.n->CB X (AtA1 X Hc) m g w->(∀g',Hc g'->∀w',Bc AG S w w'->Way X.P A5 AG (AtGo X (X.n-(r+1)) (I_ X r) AG) S g' w')->Ef (Jn (r+1) 4) (X.n-(r+1)) .leaf m 1 AG S g w|ske{r m:Nat}{Hc:AY->Prop}{AG S:zy}{g:AY}{w:A1}:r<X.n->CB X (AtKeS X Hc) m g w->(∀g',Hc g'->∀w',Bc AG S w w'->Way X.P A5 AG (AtGo X (X.n-(r+1)) (I_ X r) AG) S g' w')->Ef (Jn (r+1) 3) (X.n-(r+1)) .leaf m 1 AG S g w|dv{r m:Nat}{Hc:AY->Prop}{AG S:zy}{g:AY}{w:A1}:r<X.n->CB X (λg _=>Hc g) m g w->(∀g',Hc g'->∀w',Bc AG S w w'->Way X.P A5 AG (AtGo X (X.n-(r+1)) (I_ X r) AG) S g' w')->Ef (Jn (r+1) 2) (X.n-(r+1)) .leaf m 0 AG S g w|sgo{r:Nat}{τ:Db}{AG S:zy}{g:AY}{w:A1}:r<X.n->L0 X.P A5 AG (AtGo X (X.n-(r+1)) (I_ X r) AG) τ S g w->Ef (Jn (r+1) 1) (X.n-(r+1)) τ 0 0 AG S g w|kd{m:Nat}{Ht Dw:AY->Prop}{AG S:zy}{g:AY}{w:A1}:YP X Ht Dw->CB X (AtKd X Ht) m g w->(∀g',Dw g'->∀w',Bc AG S w w'->X.Goal AG S g' w')->Ef .kd X.n .leaf m 0 AG S g w|anch{m:Nat}{Ht Dw:AY->Prop}{AG S:zy}{g:AY}{w:A1}:YP X Ht Dw->CB X (λg _=>Ht g) m g w->(∀g',Dw g'->∀w',Bc AG S w w'->X.Goal AG S g' w')->Ef .anch X.n .leaf m 1 AG S g w|w1{m:Nat}{Ht Dw:AY->Prop}{AG S:zy}{g:AY}{w:A1}:YP X Ht Dw->CB X (AtW1 X Ht Dw) m g w->(∀g',Dw g'->∀w',Bc AG S w w'->X.Goal AG S g' w')->Ef .w1 X.n .leaf m 1 AG S g w|w2{LV m:Nat}{Ht Dw:AY->Prop}{AG S:zy}{g:AY}{w:A1}:YP X Ht Dw->CB X (AtW2 X Ht Dw LV) m g w->(∀g',Dw g'->∀w',Bc AG S w w'->X.Goal AG S g' w')->Ef (.w2 LV) X.n .leaf m 1 AG S g w|w3{m:Nat}{Dw:AY->Prop}{AG S:zy}{g:AY}{w:A1}:CB X (AtW3 X Dw) m g w->(∀g',Dw g'->∀w',Bc AG S w w'->X.Goal AG S g' w')->Ef .w3 X.n .leaf (m+1) 1 AG S g w|blk{Dw:AY->Prop}{AG S:zy}{g:AY}{w:A1}:(∀f5,Ct X w f5->AtW3 X Dw g f5)->(∀g',Dw g'->∀w',Bc AG S w w'->X.Goal AG S g' w')->Ef U2 X.n .leaf 0 1 AG S {g with status:=lB} w|w4{m:Nat}{Dw:AY->Prop}{AG S:zy}{g:AY}{w:A1}:CB X (AtW4 X Dw) m g w->(∀g',Dw g'->∀w',Bc AG S w w'->X.Goal AG S g' w')->Ef .w4 X.n .leaf m 1 AG S g w|ke{m:Nat}{Dw:AY->Prop}{AG S:zy}{g:AY}{w:A1}:CB X (AtKe X Dw) m g w->(∀g',Dw g'->∀w',Bc AG S w w'->X.Goal AG S g' w')->Ef .ke X.n .leaf m 1 AG S g w|acq{m:Nat}{Dw:AY->Prop}{AG S:zy}{g:AY}{w:A1}:CB X (AtAcq X Dw) m g w->(∀g',Dw g'->∀w',Bc AG S w w'->X.Goal AG S g' w')->Ef .acq X.n .leaf m 0 AG S g w
end
end
section
open Go.Conc(G solo Deaf QuitsD Goes scase semEvents NoRelease crowd woken Aside again_running)
open Go.ConcN(WgLive RW DWs AtR0 WSit WD CTag Mode Vc Ssum Fsum cnt pend phi sumTo PayAt)
open Go.ConcR(KK WgAt stA smA rd wr mk Payload again_blocked)
variable[Bg]
def B6(X:GG)(j:Nat)(S0:zy)(W:Nat->GU):Nat->zy:=λg b=>g=0/\S0 b∨∃i,i<j/\g=X.c0+i/\(W i).S b
def B_(X:GG)(j:Nat)(Sh0:zy)(W:Nat->GU):Nat->zy:=λg b=>g=0/\Sh0 b∨∃i,i<j/\g=X.c0+i/\(W i).AG b
structure FB(X:GG)(j:Nat)(gs:Array AY)(w:A1)(t:DT)(W:Nat->GU)(Sh0 S0:zy)(q:Nat->Nat)(p4:Nat)(sm:List (Nat×A3)):Prop where
 size:gs.size=X.c0+j
 pos:0<X.c0
 old:∀i g,0<i->i<X.c0->gs[i]?=Z g->rJ X.P (q i) (Sd t i) g
 wk:∀i,i<j->∃g,gs[X.c0+i]?=Z g/\J' X i (W i) g w
 ro:ML X.BJ (X.c0+j) w (B6 X j S0 W) (B_ X j Sh0 W)
 JG:Iz X.BJ (X.c0+j) w (B6 X j S0 W) (B_ X j Sh0 W) t
 O4:T' X.BJ X.c0 t
 deaf0:Sd t 0=p4
 deafW:∀i,i<j->Sd t (X.c0+i)=(W i).wd.deaf
 norel:∀i,X.C0<=i->t.act? i≠Z (RV (PL (Dx X.Ae)))
 eK:X.C0<=t.size/\∀i g,t.g? i=Z g->X.c0<=g->X.C0<=i
 rel:∀i,i<j->(W i).wd.stage<=6->∃r,Pf X.BJ t (Dx X.Ae) (X.c0+i) r
 chan:∃tm,w.heap[X.Bn]?=Z (Is X.n (sm.map (·.2)).toArray A9 sm 0 tm)
 Jw:∀g b,B6 X j S0 W g b∨B_ X j Sh0 W g b->b≠X.Bn
 Ua:X.Bn≠X.Ae
 NN:∀i,(∃v,(i,v)∈sm)↔i<j/\(W i).F7=J
 nodup:(sm.map (·.1)).Nodup
 msg:∀i v,(i,v)∈sm->∃M,(∀b,M b->(W i).S b/\b≠(W i).C)/\X.Nk i v M w
def GG.MM(X:GG):Prop:=∀i v M w w',(∀b,M b->w'.heap[b]?=w.heap[b]?)->X.Nk i v M w->X.Nk i v M w'
section
variable{X:GG}{j:Nat}{gs:Array AY}{w w':A1}{t:DT}{W:Nat->GU}{Sh0 S0:zy}{q:Nat->Nat}{p4:Nat}{sm:List (Nat×A3)}
omit[Bg]in theorem B6.zero(I:0<X.c0)(b):B6 X j S0 W 0 b↔S0 b:=by
 refine⟨λh=>?_,λh=>AA ⟨rfl,h⟩⟩;rcases h with h|⟨i,_,h,_⟩;.exact h.2
 grind
omit[Bg]in theorem B_.zero(I:0<X.c0)(b):B_ X j Sh0 W 0 b↔Sh0 b:=by
 refine⟨λh=>?_,λh=>AA ⟨rfl,h⟩⟩;rcases h with h|⟨i,_,h,_⟩;.exact h.2
 grind
omit[Bg]in theorem B6.at(I:0<X.c0){i}(hi:i<j)(b):B6 X j S0 W (X.c0+i) b↔(W i).S b:=by
 refine⟨λh=>?_,λh=>AF ⟨i,hi,rfl,h⟩⟩;rcases h with h|⟨N,_,h,hs⟩;.omega
 grind
omit[Bg]in theorem B_.at(I:0<X.c0){i}(hi:i<j)(b):B_ X j Sh0 W (X.c0+i) b↔(W i).AG b:=by
 refine⟨λh=>?_,λh=>AF ⟨i,hi,rfl,h⟩⟩;rcases h with h|⟨N,_,h,hs⟩;.omega
 grind
omit[Bg]in def zF{Wb:zy}{n B:Nat}{S AG:Nat->zy}(R:ML Wb n w S AG){g h:Nat}(hne:h≠g){es:Array C5}{S':zy}(hg:F8 (AG g) (S g) w w' es S'):Bc (AG h) (S h) w w':=by
 refine⟨hg.size,λb hb=>hg.same b (R.low h b hb) λhs=>?_,hg.os,hg.output⟩;rcases hb with hb|hb;.exact hne (R.apart _ _ b hb hs)
 exact R.SV _ _ b hs hb
omit[Bg]in theorem di{c}(h:l3 c w w'){AG S}(hc:∀b,S b∨AG b->b≠c):Bc AG S w w':=⟨by grind[h.size],λb hb=>h.block b (hc b hb),h.os,h.output⟩
def aXO{AG S C nC ty Ae}(h:Bc AG S w w')(hC:S C)(hl:IQ ty Ae w->IQ ty Ae w'):RW ty Ae C nC 0 (1-1) w w':=by let e:=h.same C (AA hC);exact⟨λb hb=>A',hl,λ⟨cs,hc,hn⟩=>⟨cs,e.trans hc,hn⟩,aa3 e _⟩
def J'.rely{i e g}(h:J' X i e g w)(hr:Bc e.AG e.S w w')(hl:IQ X.ty X.Ae w->IQ X.ty X.Ae w'):J' X i e g w':=by unfold J' at h⊢;cases I:e.F7 with|some τ=>rw[I]at h;let⟨h1,h2,h3,h4⟩:=h;exact⟨h1,h2,h3,h4.rely hr⟩|none=>rw[I]at h;exact⟨h.1.rely (aXO hr h.2 hl),h.2⟩
omit[Bg]in def L0.status{P main AG Stop τ S g}(hs:∀S g w,Stop S g w->g.status=CZ)(h:L0 P main AG Stop τ S g w):g.status=CZ:=by cases τ with|leaf=>exact hs _ _ _ (h w (Bc.refl ..))|node f=>exact h.1
def J'.status{i e g}(h:J' X i e g w):g.status=CZ∨g.status=.finished:=by
 unfold J' at h;split at h;.exact AA (L0.status (λ_ _ _ x=>x.1) h.2.2.2)
 exact h.1.status
def J'.woken{i e g}(h:J' X i e g w)(a a')(I):Sf X.P a a' I g=g:=by
 unfold Sf;split;.exact aDu _ h.status
 rfl
omit[Bg]in def Ct.trans:∀a b c,Ct X a b->Ct X b c->Ct X a c:=λ_ _ _ h k=>k∘h
omit[Bg]in theorem Ct.refl(w):Ct X w w:=id
def Ef.rely{tag τ f d AG S a}(h:Ef X tag j τ f d AG S a w)(hr:Bc AG S w w')(hl:Ct X w w'):Ef X tag j τ f d AG S a w':=by cases h with|Km hn h=>exact .Km hn (h.rely hr)|aR h=>exact .aR (h.rely hr)|skd hn h k=>exact .skd hn (RS Ct.trans h hl) λI hg w2 h2=>k I hg w2 (hr.trans h2)|sa1 hn h k=>exact .sa1 hn (RS Ct.trans h hl) λI hg w2 h2=>k I hg w2 (hr.trans h2)|ske hn h k=>exact .ske hn (RS Ct.trans h hl) λI hg w2 h2=>k I hg w2 (hr.trans h2)|dv hn h k=>exact .dv hn (RS Ct.trans h hl) λI hg w2 h2=>k I hg w2 (hr.trans h2)|sgo hn h=>exact .sgo hn (h.rely hr)|kd N h k=>exact .kd N (RS Ct.trans h hl) λI hg w2 h2=>k I hg w2 (hr.trans h2)|anch N h k=>exact .anch N (RS Ct.trans h hl) λI hg w2 h2=>k I hg w2 (hr.trans h2)|w1 N h k=>exact .w1 N (RS Ct.trans h hl) λI hg w2 h2=>k I hg w2 (hr.trans h2)|w2 N h k=>exact .w2 N (RS Ct.trans h hl) λI hg w2 h2=>k I hg w2 (hr.trans h2)|w3 h k=>exact .w3 (RS Ct.trans h hl) λI hg w2 h2=>k I hg w2 (hr.trans h2)|blk h k=>exact .blk (λA U=>h A (Ct.trans _ _ _ hl U)) λI hg w2 h2=>k I hg w2 (hr.trans h2)|w4 h k=>exact .w4 (RS Ct.trans h hl) λI hg w2 h2=>k I hg w2 (hr.trans h2)|ke h k=>exact .ke (RS Ct.trans h hl) λI hg w2 h2=>k I hg w2 (hr.trans h2)|acq h k=>exact .acq (RS Ct.trans h hl) λI hg w2 h2=>k I hg w2 (hr.trans h2)
omit[Bg]in def CB.status{Stop m g}(hs:∀g w,Stop g w->g.status=CZ)(h:CB X Stop m g w):g.status=CZ:=ah hs w (Ct.refl w) h
def Ef.status{tag τ f d AG S a}(N:∀r,tag≠Jn (r+1) 2∨True)(h:Ef X tag j τ f d AG S a w):a.status=CZ/\tag≠.blk∨a.status=lB/\tag=U2/\a.offers=J:=by
 let hgo:∀{i:Nat}{JM:zy->zv}{AG S:zy}{g:AY}{w:A1},Way X.P A5 AG (AtGo X i JM AG) S g w->g.status=CZ:=by intro i Next AG S g w h;let⟨τ,h⟩:=h.F7;exact L0.status (λ_ _ _ x=>x.1) h
 cases h with|Km hn h=>exact AA ⟨L0.status (λ_ _ _ x=>x.1) h,AD⟩|aR h=>exact AA ⟨L0.status (λ_ _ _ x=>x.1) h,AD⟩|skd hn h k=>exact AA ⟨CB.status (λ_ _ y=>y.1) h,AD⟩|sa1 hn h k=>exact AA ⟨CB.status (λ_ _ y=>y.1) h,AD⟩|ske hn h k=>exact AA ⟨CB.status (λ_ _ y=>y.1) h,AD⟩|dv hn h k=>exact AA ⟨CB.status (λg _ y=>hgo (k g y w (Bc.refl ..))) h,AD⟩|sgo hn h=>exact AA ⟨L0.status (λ_ _ _ x=>x.1) h,AD⟩|kd I h k=>exact AA ⟨CB.status (λ_ _ y=>y.1) h,AD⟩|anch I h k=>exact AA ⟨CB.status (λg _ y=>(I g y).1) h,AD⟩|w1 I h k=>exact AA ⟨CB.status (λ_ _ y=>y.1) h,AD⟩|w2 I h k=>exact AA ⟨CB.status (λ_ _ y=>y.1) h,AD⟩|w3 h k=>exact AA ⟨CB.status (λ_ _ y=>y.1) h,AD⟩|blk h k=>exact AF ⟨rfl,rfl,(h w (Ct.refl w)).2.1⟩|w4 h k=>exact AA ⟨CB.status (λ_ _ y=>y.1) h,AD⟩|ke h k=>exact AA ⟨CB.status (λ_ _ y=>y.1) h,AD⟩|acq h k=>exact AA ⟨CB.status (λ_ _ y=>y.1) h,AD⟩
theorem Ef.wokenBy{tag τ f d AG S a}(h:Ef X tag j τ f d AG S a w)(hr:Bc AG S w w')(hl:Ct X w w')(g g'):∃I f',Ef X I j τ f' d AG S (Sf X.P g g' w' a) w'/\f'<=f+1/\(I=tag∨tag=U2/\I=.w3)/\(a1a X.P g=A5->g'.status=CZ->I≠U2):=by
 let N:=h.rely hr hl;unfold Sf;split
 .rcases N.status λ_=>AF trivial with⟨hs,hne⟩|⟨_,rfl,_⟩;.exact⟨tag,f,Ar (aDu _ (AA hs)),A',AA rfl,λ_ _=>hne⟩
  cases N with|blk hb k=>let h3:=hb w' (Ct.refl w');exact⟨.w3,0+1,by rw[again_blocked h3.1 h3.2.1];exact .w3 (Jl hb) k,A',AF ⟨rfl,rfl⟩,λ_ _=>AD⟩
 grind
end
end
section
open Go.Conc(G solo Deaf QuitsD Goes scase semEvents NoRelease crowd woken Aside Deaf_other woken_quitsD)
open Go.ConcN(WgLive upd upd_same upd_ne)
open Go.ConcR(KK WgAt stA smA rd wr mk Payload)
variable[Bg]
section
variable{X:GG}{j:Nat}{gs gsn:Array AY}{w w':A1}{t u:DT}{W:Nat->GU}{Sh0 S0:zy}{q:Nat->Nat}{p4:Nat}{sm bm:List (Nat×A3)}
omit[Bg]in theorem jW{C0 a}{t u:DT}(h:∀i,C0<=i->t.act? i≠Z (RV (PL a)))(hu:∀I∈u,I.act≠RV (PL a)):∀i,C0<=i->(t++u).act? i≠Z (RV (PL a)):=by grind[a1M]
omit[Bg]in theorem kO{C0 c0:Nat}{t u:DT}(h:C0<=t/\∀i g,t.g? i=Z g->c0<=g->C0<=i):C0<=t++u/\∀i g,(t++u).g? i=Z g->c0<=g->C0<=i:=by grind[ef]
theorem FB.at(h:FB X j gs w t W Sh0 S0 q p4 sm)(hM:X.MM)(d):FB X j gs (w.at d) t W Sh0 S0 q p4 sm:=⟨h.size,h.pos,h.old,λi hi=>let⟨g,a,b⟩:=h.wk i hi;⟨g,a,b.rely (Bc.at ..) id⟩,h.ro,h.JG,h.O4,h.deaf0,h.deafW,h.norel,h.eK,h.rel,h.chan,h.Jw,h.Ua,h.NN,h.nodup,λi v hv=>let⟨M,a,b⟩:=h.msg i v hv;⟨M,a,hM i v M w _ (λ_ _=>rfl) b⟩⟩
def FB.a3n(h:FB X j gs w t W Sh0 S0 q p4 sm){i:Nat}(hi:i<j){g':AY}{e':GU}(K:gsn.size=gs)(Y:gsn[X.c0+i]?=g')(H:∀k,k≠X.c0+i->k≠0->gsn[k]?=gs[k]?)(hu:∀op∈u,op.g=X.c0+i)(hrl:∀I,I<j->I≠i->Bc (W I).AG (W I).S w w')(v6:IQ X.ty X.Ae w->IQ X.ty X.Ae w')(Ow:J' X i e' g' w')(hro:ML X.BJ (X.c0+j) w' (B6 X j S0 (CG W i e')) (B_ X j Sh0 (CG W i e')))(K6:Iz X.BJ (X.c0+j) w' (B6 X j S0 (CG W i e')) (B_ X j Sh0 (CG W i e')) (t++u))(wL:Sd (t++u) (X.c0+i)=e'.wd.deaf)(ZO:∀op∈u,op.act≠RV (PL (Dx X.Ae)))(hrel:e'.wd.stage<=6->∃r,Pf X.BJ (t++u) (Dx X.Ae) (X.c0+i) r)(hchan:∃tm,w'.heap[X.Bn]?=Z (Is X.n (bm.map (·.2)).toArray A9 bm 0 tm))(hch:∀b,e'.S b∨e'.AG b->b≠X.Bn)(B:∀I,(∃v,(I,v)∈bm)↔I<j/\(CG W i e' I).F7=J)(hnd:(bm.map (·.1)).Nodup)(hmsg:∀I v,(I,v)∈bm->∃M,(∀b,M b->(CG W i e' I).S b/\b≠(CG W i e' I).C)/\X.Nk I v M w'):FB X j gsn w' (t++u) (CG W i e') Sh0 S0 q p4 bm:=by
 let A:=h.pos;refine⟨K.trans h.size,h.pos,λk g F4 hk hg=>?_,λI U=>?_,hro,K6,h.O4.app hu (AF (AA A')),?_,λI U=>?_,jW h.norel ZO,kO h.eK,λI U hst=>?_,hchan,λg b hb=>?_,h.Ua,B,hnd,hmsg⟩;.rw[H k A' A']at hg;rw[OL t A' u hu];exact h.old k g F4 hk hg
 .by_cases e:I=i;.subst e;exact⟨g',Y,Ar FH⟩
  let⟨x,hx,hsx⟩:=h.wk I U;refine⟨x,by rwa[H _ A' A'],?_⟩;rw[GB W _ e];exact hsx.rely (hrl I U e) v6
 .rw[OL t A' u hu];exact h.deaf0
 .by_cases e:I=i;.subst e;rwa[FH]
  rw[OL t A' u hu,h.deafW I U,GB W _ e]
 .by_cases e:I=i;.subst e;rw[FH]at hst;exact hrel hst
  rw[GB W _ e]at hst;let⟨r,hr⟩:=h.rel I U hst;exact⟨r,hr.other hu A'⟩
 let v0:(∃I,I<j/\g=X.c0+I/\((CG W i e' I).S b∨(CG W i e' I).AG b))∨g=0/\(S0 b∨Sh0 b):=by
  rcases hb with(⟨N,h2⟩|⟨I,N,h2,h3⟩)|(⟨N,h2⟩|⟨I,N,h2,h3⟩);.exact AF ⟨N,AA h2⟩
  .exact AA ⟨I,N,h2,AA h3⟩
  .exact AF ⟨N,AF h2⟩
  exact AA ⟨I,N,h2,AF h3⟩
 rcases v0 with⟨I,N,_,h3⟩|⟨_,h2⟩
 .by_cases e:I=i;.subst e;rw[FH]at h3;exact hch b h3
  rw[GB W _ e]at h3;refine h.Jw (X.c0+I) b ?_;rcases h3 with h3|h3;.exact AA ((B6.at A N b).2 h3)
  exact AF ((B_.at A N b).2 h3)
 refine h.Jw 0 b ?_;rcases h2 with h2|h2;.exact AA ((B6.zero A b).2 h2)
 exact AF ((B_.zero A b).2 h2)
def FB.aJd(h:FB X j gs w t W Sh0 S0 q p4 sm)(hM:X.MM){a':AY}{A:zy}{d':Nat}(C:gsn.size=gs)(B:∀k,k≠0->gsn[k]?=gs[k]?)(hu:∀U∈u,U.g=0)(hrl:∀I,I<j->Bc (W I).AG (W I).S w w')(H:IQ X.ty X.Ae w->IQ X.ty X.Ae w')(hro:ML X.BJ (X.c0+j) w' (B6 X j A W) (B_ X j Sh0 W))(K:Iz X.BJ (X.c0+j) w' (B6 X j A W) (B_ X j Sh0 W) (t++u))(Y:Sd (t++u) 0=d')(ZO:∀U∈u,U.act≠RV (PL (Dx X.Ae)))(hchan:w'.heap[X.Bn]?=w.heap[X.Bn]?)(hch:∀b,A b->b≠X.Bn):FB X j gsn w' (t++u) W Sh0 A q d' sm:=by
 let i3:=h.pos;refine⟨C.trans h.size,h.pos,λk g F4 hk hg=>?_,λI N=>?_,hro,K,h.O4.app hu (AA rfl),Y,λI N=>?_,jW h.norel ZO,kO h.eK,λI N hst=>?_,?_,λg b hb=>?_,h.Ua,h.NN,h.nodup,λi v hv=>?_⟩;.rw[B k A']at hg;rw[OL t A' u hu];exact h.old k g F4 hk hg
 .let⟨x,hx,hsx⟩:=h.wk I N;exact⟨x,by rwa[B _ A'],hsx.rely (hrl I N) H⟩
 .rw[OL t A' u hu,h.deafW I N]
 .let⟨r,hr⟩:=h.rel I N hst;exact⟨r,hr.other hu A'⟩
 .rw[hchan];exact h.chan
 .rcases hb with(⟨h1,h2⟩|⟨I,h1,h2,h3⟩)|hb;.exact hch b h2
  .exact h.Jw (X.c0+I) b (AA ((B6.at i3 h1 b).2 h3))
  exact h.Jw g b (AF hb)
 let⟨M,a,b⟩:=h.msg i v hv;refine⟨M,a,hM i v M w w' (λx hx=>?_) b⟩;let⟨hij,_⟩:=(h.NN i).1 ⟨v,hv⟩;exact(hrl i hij).same x (AA (a x hx).1)
theorem FB.aJc(h:FB X j gs w t W Sh0 S0 q p4 sm){i k:Nat}(K:0<i)(M:i<X.c0){g':AY}{fn:Sh}{pos:String}{es:Array C5}(B:gsn.size=gs)(Y:gsn[i]?=g')(A:∀k,k≠i->k≠0->gsn[k]?=gs[k]?)(hm:∀e∈es,e.mute=A5)(hq':rJ X.P k (Nd (Sd t i) es) g'):FB X j gsn w (t++KL i fn pos es) W Sh0 S0 (CG q i k) p4 sm:=by
 let hu:∀op∈KL i fn pos es,op.g=i:=λop N=>by obtain⟨e,_,rfl⟩:=KG N;rfl
 refine⟨B.trans h.size,h.pos,λl g C hl hg=>?_,λU I=>?_,h.ro,aBc h.ro h.JG A' hm,h.O4.app hu (AF (AF λop N=>by obtain⟨e,he,rfl⟩:=KG N;exact rU (hm e he))),?_,λU I=>?_,jW h.norel λop N=>?_,kO h.eK,λU I hst=>?_,h.chan,h.Jw,h.Ua,h.NN,h.nodup,h.msg⟩
 .by_cases e:l=i;.grind[FH,rH]
  rw[A l e A']at hg;rw[GB q k e,OL t (λx=>e x.symm) _ hu];exact h.old l g C hl hg
 .let⟨x,hx,hsx⟩:=h.wk U I;exact⟨x,by rwa[A _ A' A'],hsx⟩
 .rw[OL t A' _ hu];exact h.deaf0
 .rw[OL t A' _ hu];exact h.deafW U I
 .obtain⟨e,he,rfl⟩:=KG N;intro hx;have H:=hm e he;let⟨loc,wr,sy⟩:=e;cases loc with|mark m=>simp[L_]at hx;subst hx;simp[Event.mute]at H|cell a=>simp[L_]at hx|obj r=>cases wr<;>cases sy<;>simp[L_]at hx|_=>simp[L_]at hx
 let⟨r,hr⟩:=h.rel U I hst;exact⟨r,hr.other hu A'⟩
omit[Bg]in theorem B6.NQ(N:0<X.c0){i}(hi:i<j)(e'):B6 X j S0 (CG W i e')=QI (B6 X j S0 W) (X.c0+i) e'.S:=by
 funext g b;unfold QI;by_cases hg:g=X.c0+i;.subst hg;rw[if_pos rfl];exact propext ((B6.at N hi b).trans (by rw[FH]))
 rw[if_neg hg];refine propext (or_congr Sy ⟨?_,?_⟩);.rintro⟨I,h,h2,h3⟩;rw[GB W _ A']at h3;grind
 rintro⟨I,h,h2,h3⟩;exact⟨I,h,h2,by rwa[GB W _ A']⟩
omit[Bg]in theorem B_.NQ{i}(e')(he:e'.AG=(W i).AG):B_ X j Sh0 (CG W i e')=B_ X j Sh0 W:=by
 funext g b;refine propext (or_congr Sy ⟨?_,?_⟩)
 .rintro⟨h,I,h2,h3⟩;refine⟨h,I,h2,?_⟩;by_cases e:h=i;.subst e;rwa[FH,he]at h3
  rwa[GB W _ e]at h3
 rintro⟨h,I,h2,h3⟩;refine⟨h,I,h2,?_⟩;by_cases e:h=i;.grind[FH]
 rwa[GB W _ e]
omit[Bg]in theorem B6.a9N(h:0<X.c0)(S'):B6 X j S' W=QI (B6 X j S0 W) 0 S':=by
 funext g b;unfold QI;by_cases hg:g=0;.subst hg;exact propext (B6.zero h b)
 simp_all[if_neg,B6]
omit[Bg]in theorem B6.dr{i}(e')(he:e'.S=(W i).S):B6 X j S0 (CG W i e')=B6 X j S0 W:=by
 funext g b;refine propext (or_congr Sy ⟨?_,?_⟩)
 .rintro⟨h,I,h2,h3⟩;refine⟨h,I,h2,?_⟩;by_cases e:h=i;.subst e;rwa[FH,he]at h3
  rwa[GB W _ e]at h3
 rintro⟨h,I,h2,h3⟩;refine⟨h,I,h2,?_⟩;by_cases e:h=i;.grind[FH]
 rwa[GB W _ e]
end
end
section
open Go.Conc(G solo Deaf QuitsD Goes scase semEvents NoRelease crowd woken Aside Deaf_other woken_quitsD runT_crowd_go)
open Go.ConcN(WgLive upd upd_same upd_ne WD CTag Vc Ssum Fsum cnt pend phi sumTo sumTo_upd phi_mono phi_retag)
open Go.ConcR(KK WgAt stA smA rd wr mk Payload)
variable[Bg]
def C4(W:Nat->GU):Nat->WD:=λi=>(W i).wd
def KD(e:GU):Nat:=if e.F7.isSome then 1 else 0
def eC(j:Nat)(W:Nat->GU):Nat:=Ir j λi=>KD (W i)
def U'(j:Nat)(τ:Db)(W:Nat->GU):Nat->Db|0=>τ|k+1=>if k<j then((W k).F7).getD .leaf else .leaf
def Gq(X:GG)(j:Nat)(W:Nat->GU)(tag:PI)(τ:Db)(f0:Nat)(q:Nat->Nat):bj:=(HZ X.n (Vc j (C4 W)) tag+ek j (C4 W)+eC j W,U' j τ W,f0+2*Fsum j (C4 W)+2*Ir X.c0 q)
def Inv(X:GG)(h:bj)(m:lJ)(t:DT):Prop:=∃(gs:Array AY)(w:A1)(sl:Option (Nat×Nat))(j:Nat)(W:Nat->GU)(tag:PI)(τ:Db)(f0 p4:Nat)(a:AY)(st GZ:Int)(Sh0 S0:zy)(q:Nat->Nat)(sm:List (Nat×A3)),m=ER gs w sl/\gs[0]?=a/\Ef X tag j τ f0 p4 Sh0 S0 a w/\FB X j gs w t W Sh0 S0 q p4 sm/\Jo X.ty X.Ae w st GZ/\Kq j (C4 W) tag st GZ/\h=Gq X j W tag τ f0 q
section
variable{X:GG}{j:Nat}{gs:Array AY}{w w':A1}{sl:Option (Nat×Nat)}{t:DT}{W:Nat->GU}{tag:PI}{τ:Db}{f0 p4:Nat}{a:AY}{Sh0 S0:zy}{q:Nat->Nat}{sm:List (Nat×A3)}
omit[Bg]in theorem kJ(W)(i)(e):C4 (CG W i e)=CG (C4 W) i e.wd:=by grind[C4,FH,GB]
omit[Bg]in def pD{Bi A JJ B B' F Xr}(h:JJ<A):L' Bi (JJ,Xr,B') (A,F,B):=u1 _ _ h
omit[Bg]in def a94{Bi A JJ B B' F Xr}(I:JJ=A)(h:ae Bi Xr F):L' Bi (JJ,Xr,B') (A,F,B):=by subst I;exact a2p _ (u1 _ _ h)
omit[Bg]in def y7{Bi A JJ B B' F Xr}(I:JJ=A)(hF:Xr=F)(h:B'<B):L' Bi (JJ,Xr,B') (A,F,B):=by subst I hF;exact a2p _ (a2p _ h)
def Ef.bound(h:Ef X tag j τ f0 p4 Sh0 S0 a w):j+Kr tag<=X.n:=by cases h<;>simp only[Kr]<;>(simp)<;>omega
omit[Bg]in theorem aLg{i}(hi:i<j){e' RN QO}(h:(W i).F7=Z RN)(h2:e'.F7=Z QO)(hlt:Db.lt QO RN)(hn:j<=X.n):ae (X.n+1) (U' j τ (CG W i e')) (U' j τ W):=by
 refine⟨i+1,A',?_,λk hk=>?_⟩;.grind[U',FH]
 cases k with|zero=>rfl|succ k=>have:k≠i:=A';simp only[U',GB W e' this]
omit[Bg]in theorem aLf{i e'}(h:e'.F7=(W i).F7):U' j τ (CG W i e')=U' j τ W:=by
 funext k;cases k with
 |zero=>rfl
 |succ k=>
  by_cases e:k=i;.grind[U',FH]
  simp only[U',GB W e' e]
inductive ec(e e':GU):Prop|stage:e'.wd.stage+KD e'<e.wd.stage+KD e->FP e'.wd<=FP e.wd->ec e e'|Km{RN QO:Db}:e'.wd.stage=e.wd.stage->e.F7=Z RN->e'.F7=Z QO->Db.lt QO RN->ec e e'|fuel:e'.wd.stage=e.wd.stage->e'.F7=e.F7->e'.wd.fuel+1=e.wd.fuel->ec e e'
omit[Bg]in def aBP{i}(hi:i<j){e'}(hf:ec (W i) e')(hn:j<=X.n){tag' f'}(ht:tag'=tag∨tag=U2/\tag'=.w3)(hf':f'<=f0+1):L' (X.n+1) (Gq X j (CG W i e') tag' τ f' q) (Gq X j W tag τ f0 q):=by
 let U:ek j (C4 (CG W i e'))+(W i).wd.stage=ek j (C4 W)+e'.wd.stage:=Y0 W e' (λe=>e.wd.stage) hi;let N:Fsum j (C4 (CG W i e'))+(W i).wd.fuel=Fsum j (C4 W)+e'.wd.fuel:=Y0 W e' (λe=>e.wd.fuel) hi;let nW:Vc j (C4 (CG W i e'))+FP (W i).wd=Vc j (C4 W)+FP e'.wd:=Y0 W e' (λe=>FP e.wd) hi;let vG:eC j (CG W i e')+KD (W i)=eC j W+KD e':=Y0 W e' KD hi;have I:=λv=>phi_retag X.n v ht;unfold Gq;cases hf with
 |stage h h2=>refine pD ?_;rw[I];have:=phi_mono X.n (v:=Vc j (C4 W)) (v':=Vc j (C4 (CG W i e'))) A' tag;omega
 |Km h h2 h3 h4=>
  let hc:FP e'.wd=FP (W i).wd:=by simp only[FP,h]
  let hu:KD e'=KD (W i):=by simp only[KD,h2,h3,Option.isSome_some]
  refine a94 ?_ (aLg hi h2 h3 h4 hn);rw[I,show Vc j (C4 (CG W i e'))=Vc j (C4 W)by omega];omega
 |fuel h h2 h3=>
  let hc:FP e'.wd=FP (W i).wd:=by simp only[FP,h]
  let hu:KD e'=KD (W i):=by simp only[KD,h2]
  refine y7 ?_ (aLf h2) A';rw[I,show Vc j (C4 (CG W i e'))=Vc j (C4 W)by omega];omega
theorem workerStep(hM:X.MM)(ha:gs[0]?=a)(Y:Ef X tag j τ f0 p4 Sh0 S0 a w)(N:FB X j gs w t W Sh0 S0 q p4 sm){i:Nat}(hi:i<j){g g':AY}{es:Array C5}{e':GU}{B H:Int}(hg:gs[X.c0+i]?=g)(hgo:B9 X.P A9 g w=Bl g' w' es)(hrl0:Bc Sh0 S0 w w')(hrl:∀I,I<j->I≠i->Bc (W I).AG (W I).S w w')(Ow:J' X i e' g' w')(hro:ML X.BJ (X.c0+j) w' (B6 X j S0 (CG W i e')) (B_ X j Sh0 (CG W i e')))(K6:Iz X.BJ (X.c0+j) w' (B6 X j S0 (CG W i e')) (B_ X j Sh0 (CG W i e')) (t++KL (X.c0+i) g.frame.fn g.frame.place es))(wL:Nd (W i).wd.deaf es=e'.wd.deaf)(ZO:∀e∈es,e.loc≠NX (PL (Dx X.Ae)))(hrel:e'.wd.stage<=6->∃r,Pf X.BJ (t++KL (X.c0+i) g.frame.fn g.frame.place es) (Dx X.Ae) (X.c0+i) r)(hchan:w'.heap[X.Bn]?=w.heap[X.Bn]?)(hch:∀b,e'.S b∨e'.AG b->b≠X.Bn)(HC:e'.F7=J↔(W i).F7=J)(hmsg:∀v M,(∀b,M b->(W i).S b/\b≠(W i).C)->X.Nk i v M w->(i,v)∈sm->(∀b,M b->e'.S b/\b≠e'.C)/\X.Nk i v M w')(v6:Jo X.ty X.Ae w' B H)(Bw:∀h,h=tag∨tag=U2/\h=.w3->(a1a X.P g=A5->g'.status=CZ->h≠U2)->Kq j (CG (C4 W) i e'.wd) h B H)(hf:ec (W i) e'):∃Dq ops U,Ng X.P (ER gs w sl) (X.c0+i)=(DY Dq,ops)/\L' (X.n+1) U (Gq X j W tag τ f0 q)/\Inv X U Dq (t++ops):=by
 let i3:=N.pos;let hb:=Y.bound;let hlt:X.c0+i<gs:=by rw[N.size];omega
 let K4:(X.c0+i==0)=A9:=Av;let TV:Ct X w w':=λ_=>⟨_,_,v6⟩;let⟨h,f',hms',hf',ht',hwk'⟩:=Y.wokenBy hrl0 TV g g';let HQ:∀k,k≠X.c0+i->k≠0->((gs.map (Sf X.P g g' w')).setIfInBounds (X.c0+i) g')[k]?=gs[k]?:=by
  intro k hk F4;rw[Y' _ _ _ _ (Gy hk)];rcases JR k X.c0 with hlt|K3;.cases A:gs[k]? with|none=>rfl|some x=>rw[Qg,Xz (N.old k x A' hlt A)]
  cases A:gs[k]? with|none=>rfl|some x=>let⟨y,hy,hsy⟩:=N.wk (k-X.c0) (by have:=B3 A;rw[N.size]at this;omega);rw[show X.c0+(k-X.c0)=k by omega,A]at hy;obtain rfl:=CP hy;rw[Qg,hsy.woken]
 refine⟨_,_,Gq X j (CG W i e') h τ f' q,QU (sl:=sl) hg (Ar K4),aBP hi hf A' ht' hf',_,w',sl,j,CG W i e',h,τ,f',p4,_,B,H,Sh0,S0,q,sm,rfl,?_,hms',?_,v6,?_,rfl⟩;.rw[Y' _ _ _ _ A',ha,Qg]
 .refine N.a3n hi AD (en _ _ _ hlt) HQ λop K=>by obtain⟨e,_,rfl⟩:=KG K;rfl hrl TV Ow hro K6 ?_ (λop K=>?_) hrel ?_ hch (λI=>?_) N.nodup λI v hv=>?_;.rwa[rH,N.deafW i hi]
  .exact a0O ZO op K
  .rw[hchan];exact N.chan
  .rw[N.NN I];by_cases e:I=i;.subst e;rw[FH];exact and_congr Sy HC.symm
   rw[GB W _ e]
  let⟨M,h1,h2⟩:=N.msg I v hv;by_cases e:I=i;.subst e;rw[FH];let⟨h3,h4⟩:=hmsg v M h1 h2 hv;exact⟨M,h3,h4⟩
  rw[GB W _ e];refine⟨M,h1,hM I v M w w' (λb hb=>?_) h2⟩;let⟨hij,_⟩:=(N.NN I).1 ⟨v,hv⟩;exact(hrl I hij e).same b (AA (h1 b hb).1)
 grind[kJ]
def a9M(hM:X.MM)(ha:gs[0]?=a)(I:FB X j gs w t W Sh0 S0 q p4 sm){a':AY}{es:Array C5}{tag':PI}{A:Db}{f':Nat}{B:zy}{C H:Int}(hgo:B9 X.P A5 a w=Bl a' w' es)(hrl:∀K,K<j->Bc (W K).AG (W K).S w w')(hro:ML X.BJ (X.c0+j) w' (B6 X j B W) (B_ X j Sh0 W))(K6:Iz X.BJ (X.c0+j) w' (B6 X j B W) (B_ X j Sh0 W) (t++KL 0 a.frame.fn a.frame.place es))(ZO:∀e∈es,e.loc≠NX (PL (Dx X.Ae)))(hchan:w'.heap[X.Bn]?=w.heap[X.Bn]?)(hch:∀b,B b->b≠X.Bn)(hms':Ef X tag' j A f' (Nd p4 es) Sh0 B a' w')(Y:Jo X.ty X.Ae w' C H)(Bw:Kq j (C4 W) tag' C H)(hlt:HZ X.n (Vc j (C4 W)) tag'<HZ X.n (Vc j (C4 W)) tag∨HZ X.n (Vc j (C4 W)) tag'=HZ X.n (Vc j (C4 W)) tag/\(Db.lt A τ∨A=τ/\f'<f0)):∃Dq ops N,Ng X.P (ER gs w sl) 0=(DY Dq,ops)/\L' (X.n+1) N (Gq X j W tag τ f0 q)/\Inv X N Dq (t++ops):=by
 let i3:=I.pos;let HQ:∀k,k≠0->((gs.map (Sf X.P a a' w')).setIfInBounds 0 a')[k]?=gs[k]?:=by
  intro k F4;rw[Y' _ _ _ _ (Gy F4)];rcases JR k X.c0 with hlt|K3;.cases U:gs[k]? with|none=>rfl|some x=>rw[Qg,Xz (I.old k x A' hlt U)]
  cases U:gs[k]? with|none=>rfl|some x=>let⟨y,hy,hsy⟩:=I.wk (k-X.c0) (by have:=B3 U;rw[I.size]at this;omega);rw[show X.c0+(k-X.c0)=k by omega,U]at hy;obtain rfl:=CP hy;rw[Qg,hsy.woken]
 refine⟨_,_,Gq X j W tag' A f' q,QU (sl:=sl) ha TE,?_,_,w',sl,j,W,tag',A,f',Nd p4 es,a',C,H,Sh0,B,q,sm,rfl,en _ _ _ (by rw[I.size];omega),hms',?_,Y,Bw,rfl⟩
 .rcases hlt with h|⟨h,h1|⟨h1,h2⟩⟩;.exact pD A'
  .refine a94 A' ⟨0,A',h1,λk hk=>?_⟩;cases k with|zero=>exact absurd rfl hk|succ k=>rfl
  exact y7 A' (by rw[h1]) A'
 exact I.aJd hM (a':=a') AD HQ λop M=>by obtain⟨e,_,rfl⟩:=KG M;rfl hrl (λ_=>⟨_,_,Y⟩) hro K6 (by rw[rH,I.deaf0]) (λop M=>a0O ZO op M) hchan hch
theorem aQl(ha:gs[0]?=a)(Y:Ef X tag j τ f0 p4 Sh0 S0 a w)(I:FB X j gs w t W Sh0 S0 q p4 sm){st GZ:Int}(v6:Jo X.ty X.Ae w st GZ)(Bw:Kq j (C4 W) tag st GZ){i:Nat}(K:0<i)(A:i<X.c0){g:AY}(hg:gs[i]?=g)(hrun:g.status=CZ)(B:∀h,h=tag∨tag=U2/\h=.w3->Kq j (C4 W) h st GZ):∃M ops N,Ng X.P (ER gs w sl) i=(DY M,ops)/\L' (X.n+1) N (Gq X j W tag τ f0 q)/\Inv X N M (t++ops):=by
 let hq:=I.old i g K A hg;let C:(i==0)=A9:=Av;have hlt:=B3 hg;cases H:q i with
 |zero=>rw[H]at hq;rw[hq.1]at hrun;grind
 |succ k=>
  rw[H]at hq;rcases hq with⟨hf,_⟩|⟨_,g',es,hm,V2,hq'⟩;.rw[hf]at hrun;cases hrun
  let ZX:Ir X.c0 (CG q i k)+(k+1)=Ir X.c0 q+k:=by have:=Y0 q k id A;simpa[H]using this
  let⟨h,f',hms',hf',ht',hwk'⟩:=Y.wokenBy (Bc.refl _ _ w) (Ct.refl w) g g';let HQ:∀k,k≠i->k≠0->((gs.map (Sf X.P g g' w)).setIfInBounds i g')[k]?=gs[k]?:=by
   intro k hk F4;rw[Y' _ _ _ _ (Gy hk)];rcases JR k X.c0 with hlt|K3;.cases U:gs[k]? with|none=>rfl|some x=>rw[Qg,Xz (I.old k x A' hlt U)]
   cases U:gs[k]? with|none=>rfl|some x=>let⟨y,hy,hsy⟩:=I.wk (k-X.c0) (by have:=B3 U;rw[I.size]at this;omega);rw[show X.c0+(k-X.c0)=k by omega,U]at hy;obtain rfl:=CP hy;rw[Qg,hsy.woken]
  refine⟨_,_,Gq X j W h τ f' (CG q i k),QU (sl:=sl) hg (As C (V2 w)),?_,_,w,sl,j,W,h,τ,f',p4,_,st,GZ,Sh0,S0,CG q i k,sm,rfl,?_,hms',?_,v6,B h ht',rfl⟩;.exact y7 (by rw[phi_retag X.n _ ht']) rfl A'
  .rw[Y' _ _ _ _ A',ha,Qg]
  exact I.aJc K A AD (en _ _ _ hlt) HQ hm hq'
end
end
section
open Go.Conc(G solo Deaf QuitsD Goes scase semEvents NoRelease crowd woken Aside Deaf_other woken_quitsD runT_crowd_go crowd_send_room partners_nil offersAt_of_not_blocked getElem?_stand)
open Go.ConcN(WgLive upd upd_same upd_ne WD CTag Vc Ssum Fsum cnt pend phi sumTo sumTo_upd)
open Go.ConcR(KK WgAt stA smA rd wr mk Payload)
variable[Bg]
section
variable{X:GG}{j:Nat}{gs:Array AY}{w w':A1}{sl:Option (Nat×Nat)}{t:DT}{W:Nat->GU}{tag:PI}{τ:Db}{f0 p4:Nat}{a:AY}{Sh0 S0:zy}{q:Nat->Nat}{sm:List (Nat×A3)}{st GZ:Int}
omit[Bg]in def B6.Uk(h:0<X.c0){i}(hi:i<j):B6 X j S0 W (X.c0+i)=(W i).S:=funext λb=>propext (B6.at h hi b)
omit[Bg]in def B_.Uk(h:0<X.c0){i}(hi:i<j):B_ X j Sh0 W (X.c0+i)=(W i).AG:=funext λb=>propext (B_.at h hi b)
omit[Bg]in def B6.cJ(h:0<X.c0):B6 X j S0 W 0=S0:=funext λb=>propext (B6.zero h b)
omit[Bg]in def B_.cJ(h:0<X.c0):B_ X j Sh0 W 0=Sh0:=funext λb=>propext (B_.zero h b)
omit[Bg]in theorem aCp{α}(f:Nat->α)(i):CG f i (f i)=f:=by
 funext a;by_cases h:a=i;.grind[FH]
 rw[GB f _ h]
omit[Bg]in theorem vP{AG S e}(h:Ko AG S e)(a):e.loc≠NX (PL a):=by cases h<;>intro x<;>grind
theorem FB.gk(h:FB X j gs w t W Sh0 S0 q p4 sm):X.Bn<w:=by let⟨tm,e⟩:=h.chan;grind
omit[Bg]in def aD6(h:Jo X.ty X.Ae w st GZ):X.Ae<w:=B3 h
theorem FB.aTq(h:FB X j gs w t W Sh0 S0 q p4 sm){i}(hi:i<j){es S'}(hgt:F8 (W i).AG (W i).S w w' es S'):Bc Sh0 S0 w w'/\∀I,I<j->I≠i->Bc (W I).AG (W I).S w w':=by
 let N:=h.pos;let U:F8 (B_ X j Sh0 W (X.c0+i)) (B6 X j S0 W (X.c0+i)) w w' es S':=by simp_all[B6.Uk,N,B_.Uk]
 refine⟨?_,λI A hne=>?_⟩;.have:=zF (B:=0) h.ro (h:=0) A' U;simp_all[B6.cJ,N,B_.cJ]
 have:=zF (B:=0) h.ro (h:=X.c0+I) A' U;simp_all[B6.Uk,N,B_.Uk]
omit[Bg]in theorem pO:∀(j)(l:List Nat),l.Nodup->(∀x∈l,x<j)->l.length<=j
 |0,[],_,_=>Ad _
 |0,x::l,_,h=>absurd (h x AD) A'
 |j+1,l,hn,h=>by
  by_cases hj:j∈l
  .have I:=pO j (l.erase j) (hn.erase j) λx hx=>by have:=hn.mem_erase_iff.1 hx;have:=h x this.2;omega
   grind
  have:=pO j l hn λx hx=>by grind
  omega
def aYO(hM:X.MM)(ha:gs[0]?=a)(Gn:Ef X tag j τ f0 p4 Sh0 S0 a w)(I:FB X j gs w t W Sh0 S0 q p4 sm)(H:Jo X.ty X.Ae w st GZ)(Bw:Kq j (C4 W) tag st GZ){i:Nat}(hi:i<j){g g':AY}{es:Array C5}{S':zy}{K A:Db}(hg:gs[X.c0+i]?=g)(B:(W i).F7=Z K)(h7:(W i).wd.stage=7)(hd0:(W i).wd.deaf=0)(hf0:(W i).wd.fuel=0)(hgo:B9 X.P A9 g w=Bl g' w' es)(hgt:F8 (W i).AG (W i).S w w' es S')(hlt:Db.lt A K)(hway:L0 X.P A9 (W i).AG (AtSend X i (W i).C (W i).nC (W i).val (W i).AG) A S' g' w'):∃Y ops U,Ng X.P (ER gs w sl) (X.c0+i)=(DY Y,ops)/\L' (X.n+1) U (Gq X j W tag τ f0 q)/\Inv X U Y (t++ops):=by
 let N:=I.pos;let⟨hrl0,hrl⟩:=I.aTq hi hgt;let D1:=I.JG.step (g:=X.c0+i) I.ro A' hgt.size (X:=S') λb=>by rw[hgt.grow b,B6.at N hi b] (fn:=g.frame.fn) (pos:=g.frame.place) (As (B_.Uk N hi) hgt.evs);refine workerStep (e':={W i with F7:=Z A,S:=S'}) hM ha Gn I hi hg hgo hrl0 hrl ⟨h7,hd0,hf0,hway⟩ ?_ ?_ ?_ (λe he=>vP (hgt.evs e he) _) λh=>by simp only at h;omega (hgt.same _ I.gk λx=>I.Jw (X.c0+i) X.Bn (AA ((B6.at N hi _).2 x)) rfl) (λb hb=>?_) (by simp[B]) (λv M _ _ hv=>?_) (H.of_block (hgt.same _ (aD6 H) λx=>(I.ro.wg (X.c0+i) X.Ae (AF rfl)).1 ((B6.at N hi _).2 x))) (λtag' ht _=>?_) (.Km rfl B rfl hlt);.rw[B6.NQ N hi,B_.NQ ({W i with F7:=Z A,S:=S'}) rfl];exact D1.1
 .rw[B6.NQ N hi,B_.NQ ({W i with F7:=Z A,S:=S'}) rfl];exact D1.2
 .exact l6 (λe he=>n_ (hgt.evs e he)) _
 .rcases hb with hb|hb
  .rcases(hgt.grow b).1 hb with h1|h1;.exact I.Jw (X.c0+i) b (AA ((B6.at N hi _).2 h1))
   have:=I.gk;omega
  exact I.Jw (X.c0+i) b (AF ((B_.at N hi _).2 hb))
 .let⟨_,h2⟩:=(I.NN i).1 ⟨v,hv⟩;rw[B]at h2;cases h2
 have:CG (C4 W) i ({W i with F7:=Z A,S:=S'}).wd=C4 W:=aCp (C4 W) i;rw[this];exact Bw.retag ht
def aYN(hM:X.MM)(ha:gs[0]?=a)(Gn:Ef X tag j τ f0 p4 Sh0 S0 a w)(I:FB X j gs w t W Sh0 S0 q p4 sm)(v6:Jo X.ty X.Ae w st GZ)(Bw:Kq j (C4 W) tag st GZ){i:Nat}(hi:i<j){g:AY}{RN:Db}(hg:gs[X.c0+i]?=g)(H:(W i).F7=Z RN)(h7:(W i).wd.stage=7)(hd0:(W i).wd.deaf=0)(hat:AtSend X i (W i).C (W i).nC (W i).val (W i).AG (W i).S g w):∃Dq ops μ',Ng X.P (ER gs w sl) (X.c0+i)=(DY Dq,ops)/\L' (X.n+1) μ' (Gq X j W tag τ f0 q)/\Inv X μ' Dq (t++ops):=by
 let A:=I.pos;let hb:=Gn.bound;let⟨hrun,hC,v,z,es,M,hcomm,hes,hMs,hmsg,hnext⟩:=hat;let⟨tm,hchan⟩:=I.chan;let K4:(X.c0+i==0)=A9:=Av;let hlt:X.c0+i<gs:=by rw[I.size];omega
 let ZV:(sm.map (·.2)).toArray.size<X.n:=by
  let hsub:∀x∈sm.map (·.1),x<j/\x≠i:=by intro x hx;obtain⟨⟨x',v'⟩,hm,rfl⟩:=Bt.1 hx;let⟨h1,h2⟩:=(I.NN x').1 ⟨v',hm⟩;refine⟨h1,λe=>?_⟩;subst e;rw[H]at h2;cases h2
  have hlen:=by
   have hnd:=List.nodup_cons.2 ⟨λhx=>(hsub i hx).2 rfl,I.nodup⟩;let aPO:i::sm.map (·.1)⊆Lf j:=by
    intro x hx;rcases DO.1 hx with rfl|hx;.exact Pb.2 hi
    exact Pb.2 (hsub x hx).1
   have:=pO j _ hnd λx hx=>Pb.1 (aPO hx);simpa using this
  simp at hlen⊢;omega
 let hp:partners (gs.setIfInBounds (X.c0+i) aE') X.Bn A9=[]:=by
  refine aDz λk x hx=>?_;rcases aDw gs (X.c0+i) k x hx with⟨_,rfl⟩|⟨_,hx⟩;.rfl
  by_cases F4:k=0
  .subst F4;rw[ha]at hx;obtain rfl:=CP hx;rcases Gn.status λ_=>AF trivial with⟨hs,_⟩|⟨_,_,ho⟩;.exact rP (by rw[hs];simp) ..
   unfold aa2;simp[ho]
  rcases JR k X.c0 with hlt|K3;.have:=(I.old k x A' hlt hx).status;exact rP (by rcases this with h|h<;>rw[h]<;>simp) ..
  let hk':k-X.c0<j:=by have:=B3 hx;rw[I.size]at this;omega
  let⟨y,hy,hsy⟩:=I.wk (k-X.c0) hk';rw[show X.c0+(k-X.c0)=k by omega,hx]at hy;obtain rfl:=CP hy;exact rP (by rcases hsy.status with h|h<;>rw[h]<;>simp) ..
 have Td:=crowd_send_room (sl:=sl) hg (Ar K4) hchan ZV hp;have B:l3 X.Bn w (w.setChan X.Bn X.n ((sm.map (·.2)).toArray.push v) A9 (sm+1) 0 tm):=⟨rfl,rfl,rfl,by simp[bA],λk hk=>by simp only[bA];rw[Mm (Gy hk)]⟩;generalize hw':w.setChan X.Bn X.n ((sm.map (·.2)).toArray.push v) A9 (sm+1) 0 tm=w' at B Td;have hsame:=I.Jw;have hrl:=λU K=>di B λb hb=>I.Jw (X.c0+U) b (hb.imp (B6.at A K b).2 (B_.at A K b).2);have hrl0:=di B λb hb=>I.Jw 0 b (hb.imp (B6.zero A b).2 (B_.zero A b).2);have Y:=v6.of_block (B.block _ (Gy I.Ua));let⟨m,hgoes⟩:=hnext w' (λb hb=>(hrl i hi).same b (AA hb)) ⟨_,_,Y⟩;let hms':=Gn.rely hrl0 λ_=>⟨_,_,Y⟩;let e':={W i with F7:=J,wd:=⟨7,m,0⟩};let hro:ML X.BJ (X.c0+j) w' (B6 X j S0 (CG W i e')) (B_ X j Sh0 (CG W i e')):=by rw[B6.dr e' rfl,B_.NQ e' rfl,B.size];exact I.ro
 let hst:=I.JG.step (g:=X.c0+i) I.ro A' (Ad _) (X:=(W i).S) (λb=>by rw[B6.at A hi b];exact⟨AA,λh=>h.elim id λh=>A'⟩) (fn:=g.frame.fn) (pos:=g.frame.place) (Ar (B_.Uk A hi));let Er:QI (B6 X j S0 W) (X.c0+i) (W i).S=B6 X j S0 W:=by have:=B6.NQ (S0:=S0) (W:=W) A hi (W i);rw[<-this,aCp]
 rw[Er]at hst;refine⟨_,_,Gq X j (CG W i e') tag τ f0 q,Td,aBP hi (.stage ?_ ?_) A' (AA rfl) A',_,w',sl,j,CG W i e',tag,τ,f0,p4,a,st,GZ,Sh0,S0,q,sm++[(i,v)],rfl,?_,hms',?_,Y,?_,rfl⟩
 .show 7+KD e'<(W i).wd.stage+KD (W i);let h1:KD e'=0:=rfl;let h2:KD (W i)=1:=by simp[KD,H]
  omega
 .show FP (⟨7,m,0⟩)<=FP (W i).wd;simp[FP,h7]
 .rwa[Mm A']
 .let hu:∀op∈KL (X.c0+i) g.frame.fn g.frame.place es++#[{g:=X.c0+i,fn:=g.frame.fn,pos:=g.frame.place,act:=.send X.Bn sm},{g:=X.c0+i,fn:=g.frame.fn,pos:=g.frame.place,act:=.sendDone X.Bn sm}],op.g=X.c0+i:=by
   intro op N;rcases aW.1 N with N|N;.obtain⟨e,_,rfl⟩:=KG N;rfl
   simp at N;rcases N with rfl|rfl<;>rfl
  refine I.a3n hi AD (by simp[hlt]) λk hk _=>by rw[Mm (Gy hk)] hu (λU K _=>hrl U K) (λ_=>⟨_,_,Y⟩) ⟨.r0 hgoes,hC⟩ hro ?_ ?_ ?_ λh=>by simp only[e']at h;omega ?_ (λb hb=>I.Jw (X.c0+i) b (hb.imp (B6.at A hi b).2 (B_.at A hi b).2)) ?_ ?_ ?_;.rw[B6.dr e' rfl,B_.NQ e' rfl,B.size,<-aDQ];refine hst.2.O5 I.ro (g:=X.c0+i) A' λop N=>?_;simp at N;rcases N with rfl|rfl<;>exact⟨rfl,λx hx=>by cases hx⟩
  .show Sd ..=0;rw[<-aDQ,Vn _ _ _ λop N=>by simp at N;rcases N with rfl|rfl<;>exact⟨AD,AD⟩,rH,I.deafW i hi,hd0];exact l6 (λe he=>n_ (hes e he)) _
  .intro op N;rcases aW.1 N with N|N;.exact a0O (λe he=>vP (hes e he) _) op N
   simp at N;rcases N with rfl|rfl<;>simp
  .refine⟨tm,?_⟩;rw[<-hw'];simp[bA,I.gk]
  .intro U;by_cases e:U=i;.subst e;rw[FH];exact⟨λ_=>⟨hi,rfl⟩,λ_=>⟨v,AD⟩⟩
   rw[GB W _ e,<-I.NN U];constructor
   .rintro⟨v',h⟩;rcases E8.1 h with h|h;.exact⟨v',h⟩
    simp at h;exact absurd h.1 e
   rintro⟨v',h⟩;exact⟨v',E8.2 (AA h)⟩
  .rw[List.map_append];refine List.nodup_append.2 ⟨I.nodup,AD,?_⟩;intro x hx y hy;simp at hy;subst hy;obtain⟨⟨x',v'⟩,hm,rfl⟩:=Bt.1 hx;let⟨_,h2⟩:=(I.NN x').1 ⟨v',hm⟩;intro e;simp only at e;subst e;rw[H]at h2;cases h2
  intro U v' hv;by_cases e:U=i
  .subst e;rw[FH];rcases E8.1 hv with hv|hv;.let⟨_,h2⟩:=(I.NN U).1 ⟨v',hv⟩;rw[H]at h2;cases h2
   simp at hv;subst hv;exact⟨M,hMs,hM U v' M w w' (λb hb=>(hrl U hi).same b (AA (hMs b hb).1)) hmsg⟩
  rw[GB W _ e];rcases E8.1 hv with hv|hv;.let⟨M',h1,h2⟩:=I.msg U v' hv;let⟨hij,_⟩:=(I.NN U).1 ⟨v',hv⟩;exact⟨M',h1,hM U v' M' w w' (λb hb=>(hrl U hij).same b (AA (h1 b hb).1)) h2⟩
  simp at hv;exact absurd hv.1 e
 rw[kJ];refine Bw.congr λa' _=>?_;by_cases e:a'=i;.subst e;rw[FH];exact h7.symm
 rw[GB _ _ e]
end
end
section
open Go.Conc(G solo Deaf QuitsD Goes scase semEvents NoRelease crowd woken Aside Deaf_other touchAt touchAt_of touch_of getElem?_append_cases)
open Go.ConcN(WgLive upd upd_same upd_ne WD WSit CTag Vc Ssum Fsum cnt pend phi sumTo sumTo_upd RelBy RW OpenSt AllQuit isW3 Vc_upd Vc_le others_uncounted bk_cell)
open Go.ConcR(KK WgAt stA smA rd wr mk Payload Bk bk_of_mute ofEvent_loc_mark)
variable{e:C5}{Ae:Nat}
variable[Bg]
omit[Bg]in def nF(h:Bk Ae e){x:Touch}(hx:(L_ e).touch?=x):FA x.loc Ae/\x.kind=.atomic:=by
 rcases h with h|h|⟨a,wr,rfl,h⟩;.rw[aET h]at hx;cases hx
 .rw[aET h]at hx;cases hx
 simp only[L_,fC,bd]at hx;subst hx;exact⟨AA ⟨a,rfl,h⟩,rfl⟩
omit[Bg]in theorem a3l(h:Bk Ae e)(a):e.loc≠NX (PL a):=by
 rcases h with h|h|⟨b,wr,rfl,_⟩;.rw[h];simp
 .rw[h];simp
 grind
omit[Bg]in theorem Pf.own{Wb t a k r}(h:Pf Wb t a k r){u}(hr:RelBy a (t++u) k r)(hu:∀I∈u,∀x,I.act.touch?=Z x->∃b,Wb b/\FA x.loc b):Pf Wb (t++u) a k r:=by
 refine⟨hr,λi x hx U hn=>?_⟩;let⟨I,ho,hoa⟩:=aj hx;rcases Vk ho with⟨hi,N⟩|⟨_,ix⟩;.exact h.before i x (Ar (touchAt_of N)) (Ar (ef hi).symm) hn
 grind
section
variable{X:GG}{j:Nat}{gs:Array AY}{w w':A1}{sl:Option (Nat×Nat)}{t:DT}{W:Nat->GU}{tag:PI}{τ:Db}{f0 p4:Nat}{a:AY}{Sh0 S0:zy}{q:Nat->Nat}{sm:List (Nat×A3)}{st GZ:Int}
omit[Bg]in def aSn{D i}(hi:i<j)(h5:(D i).stage=5)(Bw:Kq j D tag st GZ)(hb:j+Kr tag<=X.n)(hn:X.n<2147483648):∃v N:Nat,N<=1/\v<2147483647/\st=((v:Int)+1)*KK+N/\GZ=0/\(v=0/\N=1->∀m,Kq j (CG D i ⟨4,m,1⟩) tag ((v:Int)*KK+N) 0)/\(¬(v=0/\N=1)->∀m,Kq j (CG D i ⟨1,m,1⟩) tag ((v:Int)*KK+N) 0):=by
 let Eh:FP (D i)=1:=by simp[FP,h5]
 let aNU:1<=Vc j D:=by have:=ep (f:=λx=>FP (D x)) hi;simp only[Vc];omega
 let aNX:=Vc_le j D;let U:∀m,a0M j D->a0M j (CG D i ⟨1,m,1⟩):=λm h b hb=>by
  by_cases e:b=i;.subst e;rw[FH];simp
  rw[GB D _ e];exact h b hb
 let nx:∀m,Vc j (CG D i ⟨1,m,1⟩)+1=Vc j D:=λm=>by have:=Vc_upd D (⟨1,m,1⟩) hi;let h0:FP (⟨1,m,1⟩)=0:=rfl;omega
 cases Bw with
 |opn I h2 h3=>
  refine⟨Vc j D+Kr tag-1,0,A',A',?_,rfl,λh=>A',λ_ m=>?_⟩;.have:(Vc j D+Kr tag-1:Nat)+1=((Vc j D+Kr tag:Nat):Int):=A';rw[this];simp
  let e:Vc j D+Kr tag-1=Vc j (CG D i ⟨1,m,1⟩)+Kr tag:=by have:=nx m;omega
  have:=rZ I (U m h2) λLV Fj=>RB (h3 LV Fj) (nx m);rw[e];simpa using this
 |reg I h2 h3=>
  let hp:Kr tag=0:=by cases tag<;>first|rfl|exact I.elim
  refine⟨Vc j D-1,1,A',A',?_,rfl,λhv m=>?_,λhv m=>?_⟩;.have:(Vc j D-1:Nat)+1=((Vc j D:Nat):Int):=A';rw[this];simp
  .let aNY:Vc j D=1:=A';let HQ:=others_uncounted hi aNY Eh;have:=rY (D:=CG D i ⟨4,m,1⟩) i I hi (by rw[FH];simp) (λb hb e=>by
    rw[GB D _ e];let h0:=HQ b hb e;have:=h2 b hb;simp only[FP]at h0;split at h0;.cases h0
    omega);rw[FH]at this;rw[hv.1];simpa using this
  let e:Vc j D-1=Vc j (CG D i ⟨1,m,1⟩):=by have:=nx m;omega
  have:=a0L I (U m h2) (BO (nx m));rw[e];simpa using this
 |last L I h2 h3 h4=>
  by_cases e:i=L;.subst e;omega
  have:=h4 i hi e;omega
 |sema h2=>have:=h2 i hi;omega
 |fin _ h2=>have:=h2 i hi;omega
def aYM(hM:X.MM)(hn:X.n<2147483648)(ha:gs[0]?=a)(Gn:Ef X tag j τ f0 p4 Sh0 S0 a w)(U:FB X j gs w t W Sh0 S0 q p4 sm)(A:Jo X.ty X.Ae w st GZ)(Bw:Kq j (C4 W) tag st GZ){i:Nat}(hi:i<j){g:AY}(hg:gs[X.c0+i]?=g)(hrun:g.status=CZ)(HC:(W i).F7=J)(xO:J' X i (W i) g w):∃Dq ops μ',Ng X.P (ER gs w sl) (X.c0+i)=(DY Dq,ops)/\L' (X.n+1) μ' (Gq X j W tag τ f0 q)/\Inv X μ' Dq (t++ops):=by
 let B:=U.pos;let hb:=Gn.bound;unfold J' at xO;rw[HC]at xO;obtain⟨hs,hC⟩:=xO;let aMp:(W i).C≠X.Ae:=λe=>(U.ro.wg (X.c0+i) X.Ae (AF rfl)).1 ((B6.at B hi _).2 (e▸hC));have aMn:=U.Jw (X.c0+i) _ (AA ((B6.at B hi _).2 hC));let hch:∀b,(W i).S b∨(W i).AG b->b≠X.Bn:=λb hb=>U.Jw (X.c0+i) b (hb.imp (B6.at B hi b).2 (B_.at B hi b).2);let iF:∀g' b,B6 X j S0 W g' b∨B_ X j Sh0 W g' b->b≠X.Ae:=λg' b hb e=>by
  have:=U.ro.wg g' X.Ae (AF rfl);subst e;rcases hb with hb|hb;.exact this.1 hb
  exact this.2 hb
 generalize xN:(W i).wd.stage=s at hs;generalize ac6:(W i).wd.fuel=m at hs;generalize wK:(W i).wd.deaf=Ud at hs;let a6Z:Sd t (X.c0+i)=Ud:=by rw[U.deafW i hi,wK]
 let DX:(C4 W i).stage=s:=xN;let book:∀{g':AY}{w':A1}{es:Array C5}{s' m' W_:Nat}{Io P7:Int},B9 X.P A9 g w=Bl g' w' es->l3 X.Ae w w'->Jo X.ty X.Ae w' Io P7->(∀e∈es,(∀x,(L_ e).touch?=Z x->FA x.loc X.Ae/\x.kind=.atomic)/\e.loc≠NX (PL (Dx X.Ae)))->WSit X.P X.ty X.Ae (W i).C (W i).nC R9 R9 0 1 (W i).val s' m' W_ g' w'->Nd Ud es=W_->(s'<=6->∃r,Pf X.BJ (t++KL (X.c0+i) g.frame.fn g.frame.place es) (Dx X.Ae) (X.c0+i) r)->(∀I,I=tag∨tag=U2/\I=.w3->(a1a X.P g=A5->g'.status=CZ->I≠U2)->Kq j (CG (C4 W) i ⟨s',m',W_⟩) I Io P7)->s'<s/\FP ⟨s',m',W_⟩<=FP (W i).wd∨s'=s/\m'+1=m->∃Dq ops μ',Ng X.P (ER gs w sl) (X.c0+i)=(DY Dq,ops)/\L' (X.n+1) μ' (Gq X j W tag τ f0 q)/\Inv X μ' Dq (t++ops):=by
  intro g' w' es s' m' W_ Io P7 hgo Ic Qy hes Ow ca hrel ig hlt;let e':={W i with wd:=⟨s',m',W_⟩};refine workerStep (e':=e') hM ha Gn U hi hg hgo (di Ic λb hb=>iF 0 b (hb.imp (B6.zero B b).2 (B_.zero B b).2)) (λfm By _=>di Ic λb hb=>iF (X.c0+fm) b (hb.imp (B6.at B By b).2 (B_.at B By b).2)) ?_ ?_ ?_ (Ar wK) (λe he=>(hes e he).2) hrel (Ic.block _ U.Ua) hch Sy (λv M h1 h2 _=>⟨h1,hM i v M w w' (λb hb=>Ic.block b (iF (X.c0+i) b (AA ((B6.at B hi b).2 (h1 b hb).1)))) h2⟩) Qy ig ?_;.unfold J';simp only[e',HC];exact⟨Ow,hC⟩
  .rw[B6.dr e' rfl,B_.NQ e' rfl,Ic.size];exact U.ro
  .rw[B6.dr e' rfl,B_.NQ e' rfl,Ic.size];refine U.JG.O5 U.ro (g:=X.c0+i) A' λop f9=>?_;obtain⟨e,he,rfl⟩:=KG f9;refine⟨rfl,λx hx=>?_⟩;obtain⟨h1,h2⟩:=(hes e he).1 x hx;exact⟨⟨X.Ae,AF rfl,h1⟩,by rw[h2];simp,λe=>by rw[h2]at e;cases e⟩
  rcases hlt with⟨h1,h2⟩|⟨h1,h2⟩;.exact .stage (by show s'+KD e'<_+_;have:KD e'=KD (W i):=rfl;omega) h2
  exact .fuel (by show s'=_;omega) rfl (by show m'+1=_;omega)
 let O5:∀{es:Array C5},(∀e∈es,Bk X.Ae e)->∀e∈es,(∀x,(L_ e).touch?=Z x->FA x.loc X.Ae/\x.kind=.atomic)/\e.loc≠NX (PL (Dx X.Ae)):=λhbk e he=>⟨λx hx=>nF (hbk e he) hx,a3l (hbk e he) _⟩;let XY:∀{es:Array C5},s<=6->(∀e∈es,Bk X.Ae e)->(∀N e,es[N]?=Z e->(L_ e).touch?=J∨0<Nd Ud (es.extract 0 N))->∃r,Pf X.BJ (t++KL (X.c0+i) g.frame.fn g.frame.place es) (Dx X.Ae) (X.c0+i) r:=by intro es h6 hbk hd;obtain⟨r,hr⟩:=U.rel i hi A';refine⟨r,hr.own (hr.rel.book a6Z _ _ hbk hd) λop f9 x hx=>?_⟩;obtain⟨e,he,rfl⟩:=KG f9;exact⟨X.Ae,AF rfl,(nF (hbk e he) hx).1⟩
 have same:=λm' W_=>by have:=Bw.same (i:=i) m' W_;rwa[DX]at this
 let idle:∀{g':AY}{m':Nat},B9 X.P A9 g w=Bl g' w #[]->WSit X.P X.ty X.Ae (W i).C (W i).nC R9 R9 0 1 (W i).val s m' Ud g' w->m'+1=m->s<=6->∃Dq ops μ',Ng X.P (ER gs w sl) (X.c0+i)=(DY Dq,ops)/\L' (X.n+1) μ' (Gq X j W tag τ f0 q)/\Inv X μ' Dq (t++ops):=λhgo Ow hm h6=>book hgo (M5 X.Ae w) A AD Ow rfl (λ_=>XY h6 AD AD) (λ_ ht _=>(same _ Ud).retag ht) (AF ⟨rfl,hm⟩);cases hs with
 |r0 h=>
  rcases Kp h with K|⟨m',rfl,H⟩
  .obtain⟨_,_,g',hgo,IK,hk⟩:=K w (M6 w);refine book hgo (M5 X.Ae w) A (by intro e he;simp at he;subst he;exact⟨λx hx=>(by cases hx),by simp[ON]⟩) (.k1 hk) rfl (λ_=>⟨t,RelBy.new a6Z ..,λl x hx Dk iu=>?_⟩) (λ_ ht _=>(Bw.counted hi A' (AA rfl) ..).retag ht) (AA ⟨A',by simp[FP,xN]⟩);obtain⟨op,ho,hoa⟩:=aj hx;rcases Vk ho with⟨hl,_⟩|⟨_,ix⟩;.exact hl
   obtain⟨e,he,rfl⟩:=KG ix;simp at he;subst he;cases hoa
  obtain⟨g',w',es,hgo,⟨Y,NA⟩,EV⟩:=H w (M6 w);have Y:=Y;let e':={W i with wd:=⟨7,m',0⟩};let a7V:∀{AG S:zy},(∀b,S b∨AG b->b≠(W i).C)->Bc AG S w w':=λhne=>⟨As Y.size (Ad _),λb hb=>Y.block b (hne b hb),Y.os,Y.output⟩;let a5f:∀g',g'≠X.c0+i->∀b,B6 X j S0 W g' b∨B_ X j Sh0 W g' b->b≠(W i).C:=λg' hne b hb e=>by
   subst e;let a5d:B6 X j S0 W (X.c0+i) (W i).C:=(B6.at B hi _).2 hC;rcases hb with hb|hb;.exact hne (U.ro.apart _ _ _ hb a5d)
   exact U.ro.SV _ _ _ a5d hb
  let aOU:∀e∈es,∀x,(L_ e).touch?=Z x->FA x.loc X.Ae/\x.kind≠.plain/\x.kind≠.said:=λe he x hx=>by
   obtain⟨_,h2⟩:=(NA e he).1 0 "";rcases h2 x hx with⟨⟨a,h3,h4⟩,h5,h6⟩|h3|⟨h3,_⟩;.exact⟨AA ⟨a,h3,h4⟩,h5,h6⟩
   .exact h3.elim
   exact h3.elim
  refine workerStep (e':=e') hM ha Gn U hi hg hgo (a7V λb hb=>a5f 0 A' b (hb.imp (B6.zero B b).2 (B_.zero B b).2)) (λfm By hne=>a7V λb hb=>a5f (X.c0+fm) A' b (hb.imp (B6.at B By b).2 (B_.at B By b).2)) ?_ ?_ ?_ ?_ (λe he=>(NA e he).2.2.2) λh=>by simp only[e']at h;omega (Y.block _ (Gy aMn)) hch Sy (λv M h1 h2 _=>⟨h1,hM i v M w w' (λb hb=>Y.block b (h1 b hb).2) h2⟩) (A.of_block (Y.block _ (Gy aMp))) (λI ht _=>?_) (.fuel ?_ rfl ?_);.unfold J';simp only[e',HC];exact⟨.r0 EV,hC⟩
  .rw[B6.dr e' rfl,B_.NQ e' rfl,Y.size];exact U.ro
  .rw[B6.dr e' rfl,B_.NQ e' rfl,Y.size];refine U.JG.O5 U.ro (g:=X.c0+i) A' λop f9=>?_;obtain⟨e,he,rfl⟩:=KG f9;refine⟨rfl,λx hx=>?_⟩;obtain⟨h1,h2,h3⟩:=aOU e he x hx;exact⟨⟨X.Ae,AF rfl,h1⟩,h2,λe=>absurd e h3⟩
  .rw[wK];exact l6 (λe he=>⟨(NA e he).2.1,(NA e he).2.2.1⟩) 0
  .exact(same m' 0).retag ht
  .show 7=_;omega
  show m'+1=_;omega
 |k1 h=>
  rcases Kp h with K|⟨m',rfl,H⟩
  .obtain⟨_,g',hgo,IK,hk⟩:=K w (M6 w);let hbk:∀e∈#[ON b0],Bk X.Ae e:=by intro e he;simp at he;subst he;exact AA rfl
   exact book hgo (M5 X.Ae w) A (O5 hbk) (.d1 hk) rfl (λ_=>XY A' hbk (by intro N e he;exact AA (by have:=Xk he;simp at this;subst this;rfl))) (λ_ ht _=>(Bw.counted hi A' (AF rfl) ..).retag ht) (AA ⟨A',by simp[FP,xN]⟩)
  obtain⟨g',w',es,hgo,⟨rfl,rfl⟩,EV⟩:=H w (M6 w);exact idle hgo (.k1 EV) rfl A'
 |d1 h=>
  rcases Kp h with K|⟨m',rfl,H⟩
  .obtain⟨_,FD⟩:=K w (M6 w);obtain⟨v,V_,aPh,hv,rfl,rfl,aP1,V1⟩:=aSn hi DX Bw hb hn;obtain⟨g',hgo,hl,hq⟩:=FD v V_ aPh hv A;let hbk:∀e∈#[rd (Dx X.Ae),wr (Dx X.Ae)],Bk X.Ae e:=by intro e he;simp at he;rcases he with rfl|rfl<;>exact a0N _ _ rfl
   let a6Y:∀N e,#[rd (Dx X.Ae),wr (Dx X.Ae)][N]?=Z e->(L_ e).touch?=J∨0<Nd 1 (#[rd (Dx X.Ae),wr (Dx X.Ae)].extract 0 N):=by intro N e he;match N,he with|0,_=>exact AF (by simp[Nd])|1,_=>exact AF (by simp[Nd,rd])|N+2,he=>simp at he
   by_cases TU:v=0/\V_=1;.obtain⟨IK,hk⟩:=hl TU;exact book hgo (ai w (Dx X.Ae) _) (A.setSt _) (O5 hbk) (.d2 hk) rfl (λ_=>XY A' hbk a6Y) (λ_ ht _=>(aP1 TU _).retag ht) (AA ⟨A',by simp[FP]⟩)
   obtain⟨q1,hk⟩:=hq TU;exact book hgo (ai w (Dx X.Ae) _) (A.setSt _) (O5 hbk) (.quit hk) rfl (λ_=>XY A' hbk a6Y) (λ_ ht _=>(V1 TU _).retag ht) (AA ⟨A',by simp[FP]⟩)
  obtain⟨g',w',es,hgo,⟨rfl,rfl⟩,EV⟩:=H w (M6 w);exact idle hgo (.d1 EV) rfl A'
 |d2 h=>
  rcases Kp h with K|⟨m',rfl,H⟩
  .obtain⟨_,hx⟩:=K w (M6 w);obtain⟨MS,HQ,rfl,rfl⟩:=Bw.isLast hi A';simp only[DX]at A;obtain⟨g',hgo,IK,hk⟩:=hx (Ai A);let hbk:∀e∈#[rd (Dx X.Ae)],Bk X.Ae e:=by intro e he;simp at he;subst he;exact a0N _ _ rfl
   refine book hgo (M5 X.Ae w) A (O5 hbk) (.d3 hk) rfl (λ_=>XY A' hbk (by intro N e he;match N,he with|0,_=>exact AF (by simp[Nd])|N+1,he=>simp at he)) (λ_ ht _=>?_) (AA ⟨A',by simp[FP]⟩);have:=rY (D:=CG (C4 W) i ⟨3,IK,1⟩) i MS hi (by rw[FH];simp) λb hb e=>As (GB _ _ e) (HQ b hb e);rw[FH]at this;exact aE5 (Ai this) ht
  obtain⟨g',w',es,hgo,⟨rfl,rfl⟩,EV⟩:=H w (M6 w);exact idle hgo (.d2 EV) rfl A'
 |d3 h=>
  rcases Kp h with K|⟨m',rfl,H⟩
  .obtain⟨_,hx⟩:=K w (M6 w);obtain⟨MS,HQ,rfl,rfl⟩:=Bw.isLast hi A';simp only[DX]at A;obtain⟨g',hgo,IK,hk⟩:=hx (Ai A);let hbk:∀e∈#[wr (Dx X.Ae)],Bk X.Ae e:=by intro e he;simp at he;subst he;exact a0N _ _ rfl
   refine book hgo (ai w (Dx X.Ae) _) (A.setSt 0) (O5 hbk) (.d4 hk) rfl (λ_=>XY A' hbk (by intro N e he;match N,he with|0,_=>exact AF (by simp[Nd])|N+1,he=>simp at he)) (λ_ ht _=>?_) (AA ⟨A',by simp[FP]⟩);have:=rY (D:=CG (C4 W) i ⟨2,IK,1⟩) i MS hi (by rw[FH];simp) λb hb e=>As (GB _ _ e) (HQ b hb e);rw[FH]at this;exact aE5 (Ai this) ht
  obtain⟨g',w',es,hgo,⟨rfl,rfl⟩,EV⟩:=H w (M6 w);exact idle hgo (.d3 EV) rfl A'
 |d4 h=>
  rcases Kp h with K|⟨m',rfl,H⟩
  .obtain⟨_,aOk,hx⟩:=K w (M6 w);obtain⟨MS,HQ,rfl,rfl⟩:=Bw.isLast hi A';simp only[DX]at A;obtain⟨g',hgo,q1,hq⟩:=hx (Ai A);have aPF:=by cases q1 with|zero=>exact absurd hq.2 Ac|succ q1=>exact hq.elim (λx=>absurd x.2 Ac) λx=>x.1
   let hbk:∀e∈Xy (Vo X.Ae),Bk X.Ae e:=Go.ConcN.bk_sem;refine book hgo (ai w (Vo X.Ae) _) (A.setSm 1) (O5 hbk) (.quit hq) (by simp[Nd,Xy]) (λ_=>XY A' hbk ?_) (λI ht hw=>?_) (AA ⟨A',by simp[FP]⟩);.intro N e he;match N,he with|0,he=>simp[Xy]at he;subst he;exact AA rfl|1,_=>exact AF (by simp[Nd,Xy])|2,_=>exact AF (by simp[Nd,Xy])|3,he=>simp[Xy]at he;subst he;exact AA rfl|N+4,he=>simp[Xy]at he
   let J8:=hw aOk aPF;have e3:I=.w3:=by
    rcases ht with rfl|⟨_,rfl⟩;.cases I<;>first|rfl|exact MS.elim|exact absurd rfl J8
    rfl
   subst e3;simp only[if_true];exact .sema λb hb=>by
    by_cases e:b=i;.subst e;rw[FH]
    rw[GB _ _ e];exact HQ b hb e
  obtain⟨g',w',es,hgo,⟨rfl,rfl⟩,EV⟩:=H w (M6 w);exact idle hgo (.d4 EV) rfl A'
 |quit h=>
  cases m with
  |zero=>rw[h.1]at hrun;cases hrun
  |succ q1=>
   rcases h with⟨hf,_⟩|⟨_,g',es,a7E,H,hq⟩;.rw[hf]at hrun;cases hrun
   let hbk:∀e∈es,Bk X.Ae e:=λe he=>bk_of_mute (a7E e he);exact book (H w) (M5 X.Ae w) A (O5 hbk) (.quit hq) rfl (λ_=>XY A' hbk λN e he=>AA (rU (a7E e (Xk he)))) (λ_ ht _=>(same q1 _).retag ht) (AF ⟨rfl,rfl⟩)
end
end
section
open Go.Conc(G solo Deaf QuitsD Goes scase semEvents NoRelease crowd woken Aside Leavers touchAt Perm)
open Go.ConcN(WgLive upd upd_same upd_ne WD WSit CTag Vc Ssum Fsum cnt pend phi PermW AllQuit)
open Go.ConcR(KK WgAt stA smA rd wr mk Payload)
variable[Bg]
section
variable{X:GG}{j:Nat}{gs:Array AY}{w w':A1}{sl:Option (Nat×Nat)}{t:DT}{W:Nat->GU}{AG S Sh0 S0 Lh IB:zy}{q:Nat->Nat}{p4:Nat}{sm:List (Nat×A3)}
omit[Bg]in def B6.Zs(h:0<X.c0)(e){i}(hi:i<j)(b):B6 X (j+1) S0 (CG W j e) (X.c0+i) b↔(W i).S b:=by rw[B6.at h A',GB W _ A']
omit[Bg]in def B6.Zr(h:0<X.c0)(e)(b):B6 X (j+1) S0 (CG W j e) (X.c0+j) b↔e.S b:=by rw[B6.at h A',FH]
omit[Bg]in def B_.Zs(h:0<X.c0)(e){i}(hi:i<j)(b):B_ X (j+1) Sh0 (CG W j e) (X.c0+i) b↔(W i).AG b:=by rw[B_.at h A',GB W _ A']
omit[Bg]in def B_.Zr(h:0<X.c0)(e)(b):B_ X (j+1) Sh0 (CG W j e) (X.c0+j) b↔e.AG b:=by rw[B_.at h A',FH]
omit[Bg]in theorem B6.kK{g b}(h:B6 X j S0 W g b∨B_ X j Sh0 W g b):g=0∨∃i,i<j/\g=X.c0+i:=by
 rcases h with(⟨h,_⟩|⟨i,I,h2,_⟩)|(⟨h,_⟩|⟨i,I,h2,_⟩);.exact AA h
 .exact AF ⟨i,I,h2⟩
 .exact AA h
 simp_all
omit[Bg]in theorem ML.spawn(N:0<X.c0){B}(R:ML X.BJ (X.c0+j) B (B6 X j S W) (B_ X j AG W))(I:Split AG S Sh0 S0 Lh IB)(e)(he:e.S=IB)(iN:e.AG=Lh):ML X.BJ (X.c0+(j+1)) B (B6 X (j+1) S0 (CG W j e)) (B_ X (j+1) Sh0 (CG W j e)):=by
 let z:∀b,B6 X j S W 0 b↔S b:=B6.zero N;let qp:∀b,B_ X j AG W 0 b↔AG b:=B_.zero N;let EY:∀b,B6 X (j+1) S0 (CG W j e) 0 b↔S0 b:=B6.zero N;let o:∀{i},i<j->∀b,B6 X j S W (X.c0+i) b↔(W i).S b:=λhi=>B6.at N hi;let jY:∀{i},i<j->∀b,B_ X j AG W (X.c0+i) b↔(W i).AG b:=λhi=>B_.at N hi;let a9u:∀b,B6 X (j+1) S0 (CG W j e) (X.c0+j) b↔IB b:=λb=>by rw[B6.Zr N,he]
 let aT1:∀b,B_ X (j+1) Sh0 (CG W j e) (X.c0+j) b↔Lh b:=λb=>by rw[B_.Zr N,iN]
 let XE:∀g b,B6 X (j+1) S0 (CG W j e) g b->g=0/\S0 b/\S b∨g=X.c0+j/\IB b/\S b∨∃i,i<j/\g=X.c0+i/\(W i).S b:=by
  intro g b hb;rcases B6.kK (Sh0:=Sh0) (AA hb)with rfl|⟨i,hi,rfl⟩;.exact AA ⟨rfl,(EY b).1 hb,I.G5 b ((EY b).1 hb)⟩
  by_cases e1:i=j;.subst e1;exact AF (AA ⟨rfl,(a9u b).1 hb,I.zX b ((a9u b).1 hb)⟩)
  exact AF (AF ⟨i,A',rfl,(B6.Zs N e A' b).1 hb⟩)
 let xk:∀g b,B_ X (j+1) Sh0 (CG W j e) g b->g=0/\(AG b∨Lh b)∨g=X.c0+j/\Lh b∨∃i,i<j/\g=X.c0+i/\(W i).AG b:=by
  intro g b hb;rcases B6.kK (S0:=S0) (AF hb)with rfl|⟨i,hi,rfl⟩;.exact AA ⟨rfl,(I.za b).1 (((B_.zero N) b).1 hb)⟩
  by_cases e1:i=j;.subst e1;exact AF (AA ⟨rfl,(aT1 b).1 hb⟩)
  exact AF (AF ⟨i,A',rfl,(B_.Zs N e A' b).1 hb⟩)
 let VL:∀{i b},i<j->(W i).S b->¬S b/\¬AG b:=λ{i b}hi hs=>⟨λh=>BO (R.apart _ _ b ((o hi b).2 hs) ((z b).2 h)),λh=>R.SV _ _ b ((o hi b).2 hs) ((qp b).2 h)⟩;refine⟨λg h b x y=>?_,λg h b x y=>?_,λg b hw=>⟨λx=>?_,λx=>?_⟩,λg b x=>?_,λg b x=>?_,R.PC⟩
 .rcases XE g b x with⟨rfl,x1,x2⟩|⟨rfl,x1,x2⟩|⟨i,hi,rfl,x1⟩<;>rcases XE h b y with⟨rfl,y1,y2⟩|⟨rfl,y1,y2⟩|⟨fm,By,rfl,y1⟩;.rfl
  .exact absurd y1 (I.apart b x1)
  .exact absurd x2 (VL By y1).1
  .exact absurd x1 (I.apart b y1)
  .rfl
  .exact absurd x2 (VL By y1).1
  .exact absurd y2 (VL hi x1).1
  .exact absurd y2 (VL hi x1).1
  exact R.apart _ _ b ((o hi b).2 x1) ((o By b).2 y1)
 .rcases XE g b x with⟨rfl,x1,x2⟩|⟨rfl,x1,x2⟩|⟨i,hi,rfl,x1⟩<;>rcases xk h b y with⟨rfl,y1⟩|⟨rfl,y1⟩|⟨fm,By,rfl,y1⟩
  .rcases y1 with y1|y1;.exact R.SV _ _ b ((z b).2 x2) ((qp b).2 y1)
   exact I.a0 b x1 y1
  .exact I.a0 b x1 y1
  .exact R.SV _ _ b ((z b).2 x2) ((jY By b).2 y1)
  .rcases y1 with y1|y1;.exact(I.ac b x1).2 y1
   exact(I.ac b x1).1 y1
  .exact(I.ac b x1).1 y1
  .exact R.SV _ _ b ((z b).2 x2) ((jY By b).2 y1)
  .rcases y1 with y1|y1;.exact(VL hi x1).2 y1
   rcases I.VT b y1 with h1|h1;.exact(VL hi x1).1 h1
   exact(VL hi x1).2 h1
  .rcases I.VT b y1 with h1|h1;.exact(VL hi x1).1 h1
   exact(VL hi x1).2 h1
  exact R.SV _ _ b ((o hi b).2 x1) ((jY By b).2 y1)
 .rcases XE g b x with⟨_,_,x2⟩|⟨_,_,x2⟩|⟨i,hi,_,x1⟩;.exact(R.wg 0 b hw).1 ((z b).2 x2)
  .exact(R.wg 0 b hw).1 ((z b).2 x2)
  exact(R.wg _ b hw).1 ((o hi b).2 x1)
 .let U:¬S b/\¬AG b:=⟨λh=>(R.wg 0 b hw).1 ((z b).2 h),λh=>(R.wg 0 b hw).2 ((qp b).2 h)⟩;have hc:=λh=>(I.VT b h).elim U.1 U.2;rcases xk g b x with⟨_,x1⟩|⟨_,x1⟩|⟨i,hi,_,x1⟩;.exact x1.elim U.2 hc
  .exact hc x1
  exact(R.wg _ b hw).2 ((jY hi b).2 x1)
 .let U:S b∨AG b->b<B:=λh=>h.elim (λh=>R.low 0 b (AA ((z b).2 h))) λh=>R.low 0 b (AF ((qp b).2 h));rcases x with x|x
  .rcases XE g b x with⟨_,_,x2⟩|⟨_,_,x2⟩|⟨i,hi,_,x1⟩;.exact U (AA x2)
   .exact U (AA x2)
   exact R.low _ b (AA ((o hi b).2 x1))
  rcases xk g b x with⟨_,x1⟩|⟨_,x1⟩|⟨i,hi,_,x1⟩;.exact x1.elim (λh=>U (AF h)) λh=>U (I.VT b h)
  .exact U (I.VT b x1)
  exact R.low _ b (AF ((jY hi b).2 x1))
 grind
theorem FB.spawn(h:FB X j gs w t W AG S q 0 sm)(sp:Split AG S Sh0 S0 Lh IB){a' child x y}(hx:x.g=0/\x.act=.go (X.c0+j))(hy:y.g=X.c0+j/\y.act=.start){e}(he:e.S=IB)(C:e.AG=Lh)(A:e.wd=⟨7,0,0⟩)(K:e.F7≠J)(hc:J' X j e child w):FB X (j+1) ((gs.setIfInBounds 0 a').push child) w (t++#[x,y]) (CG W j e) Sh0 S0 q 0 sm:=by
 let I:=h.pos;let hm:∀U∈#[x,y],U=x∨U=y:=by intro U N;simpa using N
 let hst:∀U∈#[x,y],U.act≠RV b0/\U.act≠RV .enable:=by
  intro U N;rcases hm U N with rfl|rfl;.grind
  grind
 let e2:t++#[x,y]=t++#[x]++#[y]:=by apply qq;simp
 let H:∀k,k≠0->k<gs.size->((gs.setIfInBounds 0 a').push child)[k]?=gs[k]?:=λk hk hl=>by grind
 refine⟨by grind[h.size],h.pos,λk g Y hk hg=>?_,λi hi=>?_,ML.spawn I h.ro sp e he C,?_,?_,by rw[Vn t 0 _ hst,h.deaf0],λi hi=>?_,jW h.norel λU N=>?_,kO h.eK,λi hi hs=>?_,h.chan,λg b hb=>?_,h.Ua,λi=>?_,h.nodup,λi v hv=>?_⟩;.rw[H k A' (by rw[h.size];omega)]at hg;rw[Vn t _ _ hst];exact h.old k g Y hk hg
 .by_cases e1:i=j;.subst e1;refine⟨child,?_,Ar FH⟩;rw[show X.c0+i=(gs.setIfInBounds 0 a').size by simp[h.size],kW]
  let⟨g,hg,hsg⟩:=h.wk i A';exact⟨g,by rwa[H _ A' (by rw[h.size];omega)],Ar (GB W _ e1)⟩
 .refine h.JG.spawn hx hy h.deaf0 A' (λb hb=>?_) (λb hb=>?_) (λg b h0 hn hb=>?_) (λb hb=>?_) (λb hb=>?_) λg b h0 hn hb=>?_;.exact(B6.zero I b).2 (sp.G5 b ((B6.zero I b).1 hb))
  .rw[B6.Zr I,he]at hb;exact(B6.zero I b).2 (sp.zX b hb)
  .rcases B6.kK (Sh0:=Sh0) (AA hb)with rfl|⟨i,hi,rfl⟩;.exact absurd rfl h0
   let hij:i<j:=by have:i≠j:=λe=>hn (by rw[e]);omega
   exact(B6.at I hij b).2 ((B6.Zs I e hij b).1 hb)
  .rcases(sp.za b).1 ((B_.zero I b).1 hb)with h1|h1;.exact AF ((B_.zero I b).2 h1)
   exact(sp.VT b h1).imp (B6.zero I b).2 (B_.zero I b).2
  .rw[B_.Zr I,C]at hb;exact(sp.VT b hb).imp (B6.zero I b).2 (B_.zero I b).2
  rcases B6.kK (S0:=S0) (AF hb)with rfl|⟨i,hi,rfl⟩;.exact absurd rfl h0
  let hij:i<j:=by have:i≠j:=λe=>hn (by rw[e]);omega
  exact(B_.at I hij b).2 ((B_.Zs I e hij b).1 hb)
 .rw[e2];exact(h.O4.app (by intro U N;simp at N;rw[N];exact hx.1) (AA rfl)).app (g:=X.c0+j) (by intro U N;simp at N;rw[N];exact hy.1) (AF (AA A'))
 .rw[Vn t _ _ hst];by_cases e1:i=j;.subst e1;rw[FH,A];exact a0K λl U hl e=>BO (h.JG.gs l U hl)
  rw[GB W _ e1];exact h.deafW i A'
 .rcases hm U N with rfl|rfl;.rw[hx.2];simp
  rw[hy.2];simp
 .by_cases e1:i=j;.subst e1;rw[FH,A]at hs;simp at hs
  rw[GB W _ e1]at hs;let⟨r,hr⟩:=h.rel i A' hs;rw[e2];exact⟨r,(hr.other (g:=0) (by intro U N;simp at N;rw[N];exact hx.1) A').other (g:=X.c0+j) (by intro U N;simp at N;rw[N];exact hy.1) A'⟩
 .let B:S b∨AG b->b≠X.Bn:=λhh=>h.Jw 0 b (hh.imp (B6.zero I b).2 (B_.zero I b).2);rcases B6.kK hb with rfl|⟨i,hi,rfl⟩
  .rcases hb with hb|hb;.exact B (AA (sp.G5 b ((B6.zero I b).1 hb)))
   rcases(sp.za b).1 ((B_.zero I b).1 hb)with h1|h1;.exact B (AF h1)
   exact B (sp.VT b h1)
  by_cases e1:i=j
  .subst e1;rw[B6.Zr I,B_.Zr I,he,C]at hb;rcases hb with hb|hb;.exact B (AA (sp.zX b hb))
   exact B (sp.VT b hb)
  let hij:i<j:=A';rw[B6.Zs I e hij,B_.Zs I e hij]at hb;exact h.Jw (X.c0+i) b (hb.imp (B6.at I hij b).2 (B_.at I hij b).2)
 .rw[h.NN i];by_cases e1:i=j;.subst e1;rw[FH];exact⟨λhh=>A',λhh=>absurd hh.2 K⟩
  rw[GB W _ e1];exact⟨λhh=>⟨A',hh.2⟩,λhh=>⟨A',hh.2⟩⟩
 let⟨M,h1,h2⟩:=h.msg i v hv;let⟨hij,_⟩:=(h.NN i).1 ⟨v,hv⟩;rw[GB W _ A'];exact⟨M,h1,h2⟩
def bT(X:GG)(m:lJ)(t:DT):Prop:=∃(gs:Array AY)(w:A1)(sl:Option (Nat×Nat))(a:AY)(q:Nat->Nat)(AG S:zy)(sm:List (Nat×A3)),m=ER gs w sl/\gs=X.c0+X.n/\Cx X.P X.BJ gs w t q a/\X.Goal AG S a w/\IQ X.ty X.Ae w/\X.Bn≠X.Ae/\(∃tm,w.heap[X.Bn]?=Z (Is X.n (sm.map (·.2)).toArray A9 sm 0 tm))/\(∀i,(∃v,(i,v)∈sm)↔i<X.n)/\(sm.map (·.1)).Nodup/\∀i v,(i,v)∈sm->∃M,(∀b,M b->b<w.heap.size/\¬X.BJ b/\b≠X.Bn/\¬S b/\¬AG b)/\X.Nk i v M w
omit[Bg]in def aPt{l b}(h:FA l b):l.isMemory=A5:=by rcases h with⟨a,rfl,_⟩|rfl<;>rfl
def FB.joined(h:FB X X.n gs w t W AG S q 0 sm)(K:AllQuit X.n (C4 W)){a':AY}{gsn:Array AY}(M:gsn.size=gs)(ZM:gsn[0]?=a')(HQ:∀k,k≠0->gsn[k]?=gs[k]?)(fn:Sh)(pos:String):∃q',Cx X.P X.BJ gsn w (t++KL 0 fn pos #[ON (ay (Dx X.Ae))]) q' a':=by
 let i3:=h.pos;generalize hu:KL 0 fn pos #[ON (ay (Dx X.Ae))]=u;let U:u=#[{g:=0,fn:=fn,pos:=pos,act:=RV (ay (Dx X.Ae))}]:=by rw[<-hu,eh];simp[aa5]
 let A:∀I∈u,I.g=0:=by intro I N;rw[U]at N;simp at N;rw[N]
 let B:∀I∈u,I.act.touch?=J:=by intro I N;rw[U]at N;simp at N;rw[N];rfl
 let hst:∀I∈u,I.act≠RV b0/\I.act≠RV .enable:=by intro I N;rw[U]at N;simp at N;rw[N];exact⟨AD,AD⟩
 have C:=h.JG.O5 h.ro A' λI N=>⟨A I N,λx hx=>by rw[B I N]at hx;cases hx⟩;let hq:(t++u)[t.size]?=Z {g:=0,fn:=fn,pos:=pos,act:=RV (ay (Dx X.Ae))}:=by rw[U,Array.getElem?_append_right (Ad _)];simp
 let Y:∀n,T' X.BJ n (t++u):=λn=>by
  refine(h.O4.app A (AA rfl)).join (q:=t) (λg hg⟨i,hi⟩=>?_) (jW h.norel λI N=>?_) (kO h.eK).2 ?_ ?_ ?_ i3;.let⟨I,ho,hog⟩:=Qf.1 hi;let acA:=C.gs i I ho;let hlt:g-X.c0<X.n:=A';let⟨r,hr⟩:=h.rel (g-X.c0) hlt (by have:=K (g-X.c0) hlt;unfold C4 at this;omega);rw[show X.c0+(g-X.c0)=g by omega]at hr;exact⟨r,hr.other A A',aDy hr.rel.act⟩
  .rw[U]at N;simp at N;rw[N];simp
  .simp[a1M,hq]
  .simp[lY,hq]
  exact⟨0,by simp[lY,hq],As (aa' (Ad _)) h.deaf0⟩
 let O1:∀b l,¬X.BJ b->FA l b->Perm (t++u) 0 l:=λb l hb hl i x hx e=>by
  rcases(Y (X.c0+X.n)).known i x hx (As e (aPt hl)) λ⟨b',h1,h2⟩=>hb (by rw[e]at h2;rwa[FA.one hl h2])with h1|⟨g,h1,h2⟩;.exact h1
  let⟨I,ho,hog⟩:=Qf.1 h2;have:=C.gs i I ho;omega
 let V1:∀i,i<X.n->∃g,gs[X.c0+i]?=Z g/\rJ X.P (W i).wd.fuel (W i).wd.deaf g:=λi hi=>by let⟨g,hg,hs⟩:=h.wk i hi;let h1:(W i).wd.stage=1:=K i hi;unfold J' at hs;cases HC:(W i).F7 with|some τ=>rw[HC]at hs;have:=hs.1;omega|none=>rw[HC]at hs;exact⟨g,hg,hs.1.quits h1⟩
 refine⟨λk=>if k<X.c0 then q k else(W (k-X.c0)).wd.fuel,ZM,⟨λk g hk hg=>?_,λk hk=>?_⟩,?_,?_,?_,h.ro.PC⟩
 .rw[HQ k A']at hg;rw[Vn t k u hst];by_cases H:k<X.c0;.rw[if_pos H];exact h.old k g hk H hg
  rw[if_neg H];let hlt:k-X.c0<X.n:=by have:=B3 hg;rw[h.size]at this;omega
  let⟨g1,hg1,V1⟩:=V1 (k-X.c0) hlt;rw[show X.c0+(k-X.c0)=k by omega,hg]at hg1;obtain rfl:=CP hg1;have:=h.deafW (k-X.c0) hlt;rw[show X.c0+(k-X.c0)=k by omega]at this;rwa[this]
 .rw[Vn t k u hst];exact a0K λi I hi e=>by have:=h.JG.gs i I hi;rw[M,h.size]at hk;omega
 .rw[M,h.size];exact C.hand (Ad _) (Ad _) (λb hb=>AA hb) (λg b hs l hl=>by obtain⟨rfl,_,hb⟩:=hs;exact O1 b l hb hl) λg b hs=>hs.elim
 .exact Y _
 rw[Vn t 0 u hst];exact h.deaf0
end
end
section
open Go.Conc(G solo Deaf QuitsD Goes scase semEvents crowd crowd_pick woken Aside awake_of runT_crowd_go runT_crowd_spawn woken_quitsD)
open Go.ConcN(WgLive upd upd_same upd_ne WD WSit CTag Vc Ssum Fsum cnt pend phi sumTo AllQuit OpenSt Vc_le bk_dis bk_en bk_rd bk_rw bk_sem)
open Go.ConcR(KK WgAt stA smA rd wr mk Payload Bk)
variable[Bg]
section
variable{X:GG}{j:Nat}{gs:Array AY}{w w':A1}{sl:Option (Nat×Nat)}{t:DT}{W:Nat->GU}{tag:PI}{τ:Db}{f0 p4:Nat}{a:AY}{Sh0 S0:zy}{q:Nat->Nat}{sm:List (Nat×A3)}{st GZ:Int}
theorem NH(hM:X.MM)(ha:gs[0]?=a)(h:FB X j gs w t W Sh0 S0 q p4 sm){a':AY}{es:Array C5}{tag':PI}{A:Db}{f':Nat}{C H:Int}(hgo:B9 X.P A5 a w=Bl a' w' es)(U:l3 X.Ae w w')(hes:∀e∈es,(∀x,(L_ e).touch?=Z x->FA x.loc X.Ae/\x.kind≠.plain)/\e.loc≠NX (PL (Dx X.Ae)))(hms':Ef X tag' j A f' (Nd p4 es) Sh0 S0 a' w')(Y:Jo X.ty X.Ae w' C H)(Bw:Kq j (C4 W) tag' C H)(hlt:HZ X.n (Vc j (C4 W)) tag'<HZ X.n (Vc j (C4 W)) tag∨HZ X.n (Vc j (C4 W)) tag'=HZ X.n (Vc j (C4 W)) tag/\(Db.lt A τ∨A=τ/\f'<f0)):∃K ops I,Ng X.P (ER gs w sl) 0=(DY K,ops)/\L' (X.n+1) I (Gq X j W tag τ f0 q)/\Inv X I K (t++ops):=by
 let B:=h.pos;let iF:∀N b,B6 X j S0 W N b∨B_ X j Sh0 W N b->b≠X.Ae:=λN b hb e=>by have:=h.ro.wg N X.Ae (AF rfl);grind
 refine a9M hM ha h hgo (λfm M=>di U λb hb=>iF (X.c0+fm) b (hb.imp (B6.at B M b).2 (B_.at B M b).2)) ?_ ?_ (λe he=>(hes e he).2) (U.block _ h.Ua) (λb hb=>h.Jw 0 b (AA ((B6.zero B b).2 hb))) hms' Y Bw hlt;.rw[U.size];exact h.ro
 rw[U.size];refine h.JG.O5 h.ro (g:=0) A' λop f9=>?_;obtain⟨e,he,rfl⟩:=KG f9;exact⟨rfl,λx hx=>⟨⟨X.Ae,AF rfl,((hes e he).1 x hx).1⟩,((hes e he).1 x hx).2,λ_=>rfl⟩⟩
omit[Bg]in def Ph{es:Array C5}(h:∀e∈es,Bk X.Ae e):∀e∈es,(∀x,(L_ e).touch?=Z x->FA x.loc X.Ae/\x.kind≠.plain)/\e.loc≠NX (PL (Dx X.Ae)):=λe he=>⟨λx hx=>⟨(nF (h e he) hx).1,by rw[(nF (h e he) hx).2];simp⟩,a3l (h e he) _⟩
theorem Ox(hM:X.MM)(ha:gs[0]?=a)(A:FB X j gs w t W Sh0 S0 q p4 sm)(B:Jo X.ty X.Ae w st GZ)(C:Kq j (C4 W) tag st GZ){a':AY}{es:Array C5}{f':Nat}(hgo:B9 X.P A5 a w=Bl a' w' es)(N:a05 X w w' es)(hms':w'=w->Ef X tag j τ f' p4 Sh0 S0 a' w')(hlt:f'<f0):∃I ops h,Ng X.P (ER gs w sl) 0=(DY I,ops)/\L' (X.n+1) h (Gq X j W tag τ f0 q)/\Inv X h I (t++ops):=by
 obtain⟨rfl,U⟩:=N;let hd:Nd p4 es=p4:=l6 λe he=>by grind _;refine NH hM ha A hgo (M5 X.Ae w') (λe he=>?_) BA B C (AF ⟨rfl,AF ⟨rfl,hlt⟩⟩);obtain⟨b,hb,rfl|rfl⟩:=U e he;.refine⟨λx hx=>?_,AD⟩;simp only[L_,fC,bd]at hx;subst hx;exact⟨AA ⟨b,rfl,hb⟩,AD⟩
 refine⟨λx hx=>?_,AD⟩;simp only[L_,fC,bd]at hx;subst hx;exact⟨AA ⟨b,rfl,hb⟩,AD⟩
def a'A(hM:X.MM)(ha:gs[0]?=a)(N:FB X j gs w t W Sh0 S0 q 0 sm)(A:Jo X.ty X.Ae w st GZ)(Y:Kq j (C4 W) tag st GZ){a':AY}{es:Array C5}{S':zy}{C:Db}{f':Nat}(hgo:B9 X.P A5 a w=Bl a' w' es)(hgt:F8 Sh0 S0 w w' es S')(hms':Ef X tag j C f' 0 Sh0 S' a' w')(hlt:Db.lt C τ):∃H ops U,Ng X.P (ER gs w sl) 0=(DY H,ops)/\L' (X.n+1) U (Gq X j W tag τ f0 q)/\Inv X U H (t++ops):=by
 let I:=N.pos;let J6:F8 (B_ X j Sh0 W 0) (B6 X j S0 W 0) w w' es S':=by rwa[B6.cJ I,B_.cJ I]
 let K:=N.JG.step (g:=0) N.ro A' hgt.size (X:=S') λb=>by rw[hgt.grow b,B6.zero I b] (fn:=a.frame.fn) (pos:=a.frame.place) (As (B_.cJ I) hgt.evs);refine a9M hM ha N hgo (λfm M=>?_) ?_ ?_ (λe he=>vP (hgt.evs e he) _) (hgt.same _ N.gk λx=>N.Jw 0 X.Bn (AA ((B6.zero I _).2 x)) rfl) (λb hb=>?_) (Ar (l6 (λe he=>n_ (hgt.evs e he)) _)) (A.of_block (hgt.same _ (aD6 A) λx=>(N.ro.wg 0 X.Ae (AF rfl)).1 ((B6.zero I _).2 x))) Y (AF ⟨rfl,AA hlt⟩);.have:=zF (B:=0) N.ro (h:=X.c0+fm) A' J6;rwa[B6.Uk I M,B_.Uk I M]at this
 .rw[B6.a9N I];exact K.1
 .rw[B6.a9N I];exact K.2
 rcases(hgt.grow b).1 hb with h1|h1;.exact N.Jw 0 b (AA ((B6.zero I _).2 h1))
 have:=N.gk;omega
def Rc(X:GG)(gs:Array AY)(w:A1)(sl:Option (Nat×Nat))(i:Nat)(N:bj)(t:DT):Prop:=(∃h ops I,Ng X.P (ER gs w sl) i=(DY h,ops)/\L' (X.n+1) I N/\Inv X I h (t++ops))∨∃h ops,Ng X.P (ER gs w sl) i=(DY h,ops)/\bT X h (t++ops)
def Rc.less{i A μ'}(h:Rc X gs w sl i μ' t)(hc:μ'.1<A.1):Rc X gs w sl i A t:=by
 rcases h with⟨U,ops,I,N,h2,h3⟩|h;.refine AA ⟨U,ops,I,N,?_,h3⟩;cases h2 with|left _ _ h=>exact u1 _ _ (Nat.lt_trans h hc)|right _ h=>exact u1 _ _ hc
 exact AF h
def aYK(hM:X.MM)(hn:X.n<2147483648)(ha:gs[0]?=a)(Gn:Ef X tag j τ f0 p4 Sh0 S0 a w)(I:FB X j gs w t W Sh0 S0 q p4 sm)(N:Jo X.ty X.Ae w st GZ)(U:Kq j (C4 W) tag st GZ)(hrun:a.status=CZ):Rc X gs w sl 0 (Gq X j W tag τ f0 q) t:=by
 let i3:=I.pos;let aNX:=Vc_le j (C4 W);let hb:=Gn.bound;let aNO:∀b,S0 b∨Sh0 b->b≠X.Ae:=λb hb e=>by
  have:=I.ro.wg 0 X.Ae (AF rfl);subst e;rcases hb with hb|hb;.exact this.1 ((B6.zero i3 _).2 hb)
  exact this.2 ((B_.zero i3 _).2 hb)
 let zE:∀{w'},l3 X.Ae w w'->Bc Sh0 S0 w w':=λh=>di h aNO;let aCz:∀{f0:Nat}{Ht Dw:AY->Prop}{m:Nat},j=X.n->p4=1->YP X Ht Dw->CB X (AtW1 X Ht Dw) m a w->(∀g',Dw g'->∀w',Bc Sh0 S0 w w'->X.Goal Sh0 S0 g' w')->Kq j (C4 W) .w1 st GZ->Rc X gs w sl 0 (Gq X j W .w1 .leaf m q) t:=by
  intro f0 Ht Dw m hj hd m9 h k U;subst hj hd;rcases Kp h with A|⟨m',rfl,B⟩
  .obtain⟨_,FD⟩:=A w (Ct.refl w);obtain⟨ho,rfl,rfl,_⟩:=U.open_inv trivial;obtain⟨a',hgo,h0,h1⟩:=FD (Vc X.n (C4 W)) A' (by simpa[Kr]using N);by_cases e:Vc X.n (C4 W)=0
   .obtain⟨IK,hk⟩:=h0 e;let hq:AllQuit X.n (C4 W):=λi hi=>by
     let hc:=ep (f:=λx=>FP (C4 W x)) hi;let H4:FP (C4 W i)=0:=by simp only[Vc]at e;omega
     have:=ho i hi;simp only[FP]at H4;split at H4;.cases H4
     omega
    have:=rX (tag:=.ke) trivial hq;exact AA (NH hM ha I hgo (M5 X.Ae w) (Ph ra) (.ke hk k) N (by simpa[e,Kr]using this) (AA (by simp only[HZ];omega)))
   obtain⟨IK,hk⟩:=h1 e;exact AA (NH hM ha I hgo (M5 X.Ae w) (Ph ra) (.w2 m9 hk k) N (U.reopen trivial trivial rfl λLV Fj=>by cases Fj;exact⟨Ad _,A'⟩) (AA (by simp only[HZ];omega)))
  obtain⟨a',w',es,hgo,H,K⟩:=B w (Ct.refl w);exact AA (Ox hM ha I N U hgo H (λe=>by subst e;exact .w1 m9 K k) A')
 have a5O:∀{r:Nat}{τ:Db},r<X.n->j=X.n-(r+1)->p4=0->L0 X.P A5 Sh0 (AtGo X (X.n-(r+1)) (I_ X r) Sh0) τ S0 a w->Kq j (C4 W) (Jn (r+1) 1) st GZ->Rc X gs w sl 0 (Gq X j W (Jn (r+1) 1) τ 0 q) t:=by
  intro r τ hr hj hd h U;subst hj hd;cases τ with
  |node f=>obtain⟨a',w',es,S',hgo,hgt,hw'⟩:=h.2 w (Bc.refl _ _ _);exact AA (a'A hM ha I N U hgo hgt (.sgo hr hw') (.mk f w))
  |leaf=>
   obtain⟨_,a',child,a36,t0,Lh,IB,C,nC,val,hsp,a6R,sp,hC,hway,hnext⟩:=h w (Bc.refl _ _ _);obtain⟨a_o,hway⟩:=hway.F7;obtain⟨ho,rfl,rfl,_⟩:=U.open_inv trivial;have Td:=runT_crowd_spawn (sl:=sl) ha (by simpa using hsp);rw[I.size]at Td;let e:GU:={wd:=⟨7,0,0⟩,F7:=Z a_o,S:=IB,AG:=Lh,C:=C,nC:=nC,val:=val};have SE:=I.spawn sp (a':=a') (x:={g:=0,fn:=a.frame.fn,pos:=a.frame.place,act:=.go (X.c0+(X.n-(r+1)))}) (y:={g:=X.c0+(X.n-(r+1)),fn:=child.frame.fn,pos:=a.frame.place,act:=.start}) ⟨rfl,rfl⟩ ⟨rfl,rfl⟩ (e:=e) rfl rfl rfl (by simp[e]) ⟨rfl,rfl,rfl,hway⟩;have nW:Vc (X.n-(r+1)+1) (C4 (CG W (X.n-(r+1)) e))=Vc (X.n-(r+1)) (C4 W)+1:=by rw[kJ];simp only[Vc,Ir,FH];rw[a0P (C4 W) _ FP (Ad _)];rfl
   have cC:ek (X.n-(r+1)+1) (C4 (CG W (X.n-(r+1)) e))=ek (X.n-(r+1)) (C4 W)+7:=by rw[kJ];simp only[ek,Ir,FH];rw[a0P (C4 W) _ WD.stage (Ad _)]
   have vG:eC (X.n-(r+1)+1) (CG W (X.n-(r+1)) e)=eC (X.n-(r+1)) W+1:=by simp only[eC,Ir,FH];rw[a0P W _ KD (Ad _)];rfl
   have Ou:a0M (X.n-(r+1)+1) (C4 (CG W (X.n-(r+1)) e)):=λi hi=>by
    rw[kJ];by_cases e1:i=X.n-(r+1);.subst e1;rw[FH];simp[e]
    rw[GB _ _ e1];exact ho i A'
   have ny:((gs.setIfInBounds 0 a').push child)[0]?=a':=by rw[KF (by simp[I.size];omega),<-G8];exact Array.getElem?_setIfInBounds_self_of_lt (by rw[I.size];omega)
   have ej:X.n-(r+1)+1=X.n-r:=A';rw[ej]at SE nW cC vG Ou;have aLW:(Vc (X.n-(r+1)) (C4 W)+Kr (Jn (r+1) 1):Nat)*KK=(Vc (X.n-r) (C4 (CG W (X.n-(r+1)) e))+Kr (Jn r 6):Nat)*KK:=by rw[nW];simp[Kr]
   have ig:Kq (X.n-r) (C4 (CG W (X.n-(r+1)) e)) (Jn r 6) ((Vc (X.n-(r+1)) (C4 W)+Kr (Jn (r+1) 1):Nat)*KK) 0:=by rw[aLW];exact rZ trivial Ou AD
   cases r with|zero=>obtain⟨a'r,hk⟩:=Way.F7 hnext;simp only[aHy]at SE nW cC vG ig;refine AA ⟨_,_,_,Td,?_,_,w,sl,X.n,_,Jn 0 6,a'r,0,0,a',_,_,a36,t0,q,sm,rfl,ny,.aR hk,SE,N,ig,rfl⟩;refine pD ?_;simp only[HZ];omega|succ r'=>obtain⟨a'r,hk⟩:=Way.F7 hnext;refine AA ⟨_,_,_,Td,?_,_,w,sl,X.n-(r'+1),_,Jn (r'+1) 6,a'r,0,0,a',_,_,a36,t0,q,sm,rfl,ny,.Km A' hk,SE,N,ig,rfl⟩;refine pD ?_;simp only[HZ];omega
 cases Gn with
 |@Km r _ _ _ _ _ hr h=>
  cases τ with
  |node f=>obtain⟨a',w',es,S',hgo,hgt,hw'⟩:=h.2 w (Bc.refl _ _ _);exact AA (a'A hM ha I N U hgo hgt (.Km hr hw') (.mk f w))
  |leaf=>
   obtain⟨Hc,m,hl,hk⟩:=(h w (Bc.refl _ _ _)).2 ⟨_,_,N⟩;rcases Kp hl with A|⟨m',rfl,B⟩;.obtain⟨_,a',hgo,IK,Y⟩:=A w (Ct.refl w);exact AA (NH hM ha I hgo (M5 X.Ae w) (Ph r_) (.sa1 hr Y hk) N (U.reopen trivial trivial rfl AD) (AA (by simp only[HZ];omega)))
   obtain⟨a',w',es,hgo,H,K⟩:=B w (Ct.refl w);have K5:=U.reopen (tag':=Jn (r+1) 5) trivial trivial rfl AD;exact Rc.less (μ':=Gq X _ W (Jn (r+1) 5) .leaf (m'+1) q) (AA (Ox hM ha I N K5 hgo H (λe=>by subst e;exact .skd hr K hk) A')) (by simp only[Gq,HZ];omega)
 |aR h=>
  cases τ with
  |node f=>obtain⟨a',w',es,S',hgo,hgt,hw'⟩:=h.2 w (Bc.refl _ _ _);exact AA (a'A hM ha I N U hgo hgt (.aR hw') (.mk f w))
  |leaf=>
   obtain⟨Ht,Dw,m,m9,hl,hk⟩:=(h w (Bc.refl _ _ _)).2 ⟨_,_,N⟩;rcases Kp hl with A|⟨m',rfl,B⟩;.obtain⟨_,a',hgo,IK,Y⟩:=A w (Ct.refl w);exact AA (NH hM ha I hgo (M5 X.Ae w) (Ph r_) (.anch m9 Y hk) N (U.reopen trivial trivial rfl AD) (AA (by simp only[HZ];omega)))
   obtain⟨a',w',es,hgo,H,K⟩:=B w (Ct.refl w);have K5:=U.reopen (tag':=.kd) trivial trivial rfl AD;exact Rc.less (μ':=Gq X _ W .kd .leaf (m'+1) q) (AA (Ox hM ha I N K5 hgo H (λe=>by subst e;exact .kd m9 K hk) A')) (by simp only[Gq,HZ];omega)
 |skd hr h k=>
  rcases Kp h with A|⟨m',rfl,B⟩;.obtain⟨_,a',hgo,IK,Y⟩:=A w (Ct.refl w);exact AA (NH hM ha I hgo (M5 X.Ae w) (Ph r_) (.sa1 hr Y k) N (U.reopen trivial trivial rfl AD) (AA (by simp only[HZ];omega)))
  obtain⟨a',w',es,hgo,H,K⟩:=B w (Ct.refl w);exact AA (Ox hM ha I N U hgo H (λe=>by subst e;exact .skd hr K k) A')
 |@sa1 r m Hc _ _ _ _ hr h k=>
  rcases Kp h with A|⟨m',rfl,B⟩
  .obtain⟨_,FD⟩:=A w (Ct.refl w);obtain⟨ho,rfl,rfl,_⟩:=U.open_inv trivial;obtain⟨a',hgo,IK,Y⟩:=FD (Vc (X.n-(r+1)) (C4 W)) A' (by simpa[Kr]using N);have m9:=ai w (Dx X.Ae) (AB Da (((Vc (X.n-(r+1)) (C4 W):Nat)+1)*KK));refine AA (NH hM ha I hgo m9 (Ph bk_rw) (.ske hr Y λg' hg w2 h2=>k g' hg w2 ((zE m9).trans h2)) (N.setSt _) ?_ (AA (by simp only[HZ];omega)));have e:((Vc (X.n-(r+1)) (C4 W):Nat)+1)*KK=(Vc (X.n-(r+1)) (C4 W)+Kr (Jn (r+1) 3):Nat)*KK:=by simp[Kr]
   rw[e];exact rZ trivial ho AD
  obtain⟨a',w',es,hgo,H,K⟩:=B w (Ct.refl w);exact AA (Ox hM ha I N U hgo H (λe=>by subst e;exact .sa1 hr K k) A')
 |ske hr h k=>
  rcases Kp h with A|⟨m',rfl,B⟩;.obtain⟨_,a',hgo,IK,Y⟩:=A w (Ct.refl w);exact AA (NH hM ha I hgo (M5 X.Ae w) (Ph bk_en) (.dv hr Y k) N (U.reopen trivial trivial rfl AD) (AA (by simp only[HZ];omega)))
  obtain⟨a',w',es,hgo,H,K⟩:=B w (Ct.refl w);exact AA (Ox hM ha I N U hgo H (λe=>by subst e;exact .ske hr K k) A')
 |dv hr h k=>
  rcases Kp h with A|⟨m',rfl,B⟩;.obtain⟨QO,NF⟩:=(k a (A w (Ct.refl w)) w (Bc.refl _ _ _)).F7;exact Rc.less (a5O hr rfl rfl NF (U.reopen trivial trivial rfl AD)) (by simp only[Gq,HZ];omega)
  obtain⟨a',w',es,hgo,H,K⟩:=B w (Ct.refl w);exact AA (Ox hM ha I N U hgo H (λe=>by subst e;exact .dv hr K k) A')
 |sgo hr h=>exact a5O hr rfl rfl h U
 |kd m9 h k=>
  rcases Kp h with A|⟨m',rfl,B⟩;.obtain⟨_,a',hgo,IK,Y⟩:=A w (Ct.refl w);exact AA (NH hM ha I hgo (M5 X.Ae w) (Ph r_) (.anch m9 Y k) N (U.reopen trivial trivial rfl AD) (AA (by simp only[HZ];omega)))
  obtain⟨a',w',es,hgo,H,K⟩:=B w (Ct.refl w);exact AA (Ox hM ha I N U hgo H (λe=>by subst e;exact .kd m9 K k) A')
 |anch m9 h k=>
  rcases Kp h with A|⟨m',rfl,B⟩;.obtain⟨IK,Y⟩:=(m9 a (A w (Ct.refl w))).2 w ⟨_,_,N⟩;exact Rc.less (aCz (f0:=0) rfl rfl m9 Y k (U.reopen trivial trivial rfl AD)) (by simp only[Gq,HZ];omega)
  obtain⟨a',w',es,hgo,H,K⟩:=B w (Ct.refl w);exact AA (Ox hM ha I N U hgo H (λe=>by subst e;exact .anch m9 K k) A')
 |w1 m9 h k=>exact aCz (f0:=0) rfl rfl m9 h k U
 |@w2 LV m Ht Dw _ _ _ _ m9 h k=>
  rcases Kp h with A|⟨m',rfl,B⟩
  .obtain⟨_,FD⟩:=A w (Ct.refl w);obtain⟨ho,rfl,rfl,NF⟩:=U.open_inv trivial;obtain⟨hle,h1⟩:=NF LV rfl;obtain⟨aOE,aOg⟩:=FD (Vc X.n (C4 W)) A' (by simpa[Kr]using N);by_cases e:Vc X.n (C4 W)=LV;.obtain⟨a',hgo,IK,Y⟩:=aOE e;have Ic:=ai w (Dx X.Ae) (AB Da ((Vc X.n (C4 W):Nat)*KK+1));exact AA (NH hM ha I hgo Ic (Ph bk_rw) (.w3 Y λg' hg w2 h2=>k g' hg w2 ((zE Ic).trans h2)) (N.setSt _) (a0L trivial ho A') (AA (by simp only[HZ];omega)))
   obtain⟨a',hgo,IK,Y⟩:=aOg e;exact AA (NH (sl:=sl) hM ha I hgo (M5 X.Ae w) (Ph ra) (.anch m9 Y k) N (U.reopen trivial trivial rfl AD) (AA (by simp only[HZ];omega)))
  obtain⟨a',w',es,hgo,H,K⟩:=B w (Ct.refl w);exact AA (Ox (sl:=sl) hM ha I N U hgo H (λe=>by subst e;exact .w2 m9 K k) A')
 |w3 h k=>
  rcases Kp h with A|⟨m',rfl,B⟩;.obtain⟨_,Q1,N8,ZY⟩:=A w (Ct.refl w);cases U with|opn h1 _ _=>exact h1.elim|reg h1 h2 h3=>exact AA (NH (sl:=sl) hM ha I (N8 ⟨_,N⟩) (M5 X.Ae w) AD (.blk A k) N (a0L trivial h2 h3) (AF ⟨rfl,AF ⟨rfl,A'⟩⟩))|last L h1 h2 h3 h4=>exact AA (NH (sl:=sl) hM ha I (N8 ⟨_,N⟩) (M5 X.Ae w) AD (.blk A k) N (rY L trivial h2 h3 h4) (AF ⟨rfl,AF ⟨rfl,A'⟩⟩))|sema h2=>obtain⟨a',hgo,IK,Y⟩:=ZY N;have Ic:=ai w (Vo X.Ae) (AB ew 0);exact AA (NH (sl:=sl) hM ha I hgo Ic (Ph bk_sem) (.w4 Y λg' hg w2 h2=>k g' hg w2 ((zE Ic).trans h2)) (N.setSm 0) (rX trivial h2) (AA (by simp only[HZ];omega)))|fin h1 _=>exact h1.elim
  obtain⟨a',w',es,hgo,H,K⟩:=B w (Ct.refl w);exact AA (Ox (sl:=sl) hM ha I N U hgo H (λe=>by subst e;exact .w3 K k) A')
 |blk h k=>simp at hrun
 |w4 h k=>
  rcases Kp h with A|⟨m',rfl,B⟩;.obtain⟨_,hx⟩:=A w (Ct.refl w);obtain⟨hq,rfl,rfl⟩:=U.fin_inv trivial;obtain⟨a',hgo,IK,Y⟩:=hx N;exact AA (NH (sl:=sl) hM ha I hgo (M5 X.Ae w) (Ph ra) (.ke Y k) N (rX trivial hq) (AA (by simp only[HZ];omega)))
  obtain⟨a',w',es,hgo,H,K⟩:=B w (Ct.refl w);exact AA (Ox (sl:=sl) hM ha I N U hgo H (λe=>by subst e;exact .w4 K k) A')
 |ke h k=>
  rcases Kp h with A|⟨m',rfl,B⟩;.obtain⟨_,a',hgo,IK,Y⟩:=A w (Ct.refl w);obtain⟨hq,rfl,rfl⟩:=U.fin_inv trivial;exact AA (NH (sl:=sl) hM ha I hgo (M5 X.Ae w) (Ph bk_en) (.acq Y k) N (rX trivial hq) (AA (by simp only[HZ];omega)))
  obtain⟨a',w',es,hgo,H,K⟩:=B w (Ct.refl w);exact AA (Ox (sl:=sl) hM ha I N U hgo H (λe=>by subst e;exact .ke K k) A')
 |acq h k=>
  rcases Kp h with A|⟨m',rfl,B⟩
  .obtain⟨_,a',hgo,aO7⟩:=A w (Ct.refl w);obtain⟨hq,rfl,rfl⟩:=U.fin_inv trivial;have Td:=QU (P:=X.P) (sl:=sl) (i:=0) ha (by simpa using hgo);have HQ:∀l,l≠0->((gs.map (Sf X.P a a' w)).setIfInBounds 0 a')[l]?=gs[l]?:=by
    intro l X2;rw[Y' _ _ _ _ (Gy X2)];rcases JR l X.c0 with hlt|K3;.cases H6:gs[l]? with|none=>rfl|some x=>rw[Qg,Xz (I.old l x A' hlt H6)]
    cases H6:gs[l]? with
    |none=>rfl
    |some x=>
     have hk':l-X.c0<X.n:=by have:=B3 H6;rw[I.size]at this;omega
     obtain⟨y,hy,hsy⟩:=I.wk (l-X.c0) hk';rw[show X.c0+(l-X.c0)=l by omega,H6]at hy;obtain rfl:=CP hy;rw[Qg,hsy.woken]
   obtain⟨q',J5⟩:=I.joined hq (gsn:=(gs.map (Sf X.P a a' w)).setIfInBounds 0 a') (a':=a') AD (en _ _ _ (by rw[I.size];omega)) HQ a.frame.fn a.frame.place;refine AF ⟨_,_,Td,_,w,sl,a',q',Sh0,S0,sm,rfl,by simp[I.size],J5,k a' aO7 w (Bc.refl _ _ _),⟨_,_,N⟩,I.Ua,I.chan,λi=>?_,I.nodup,λi v hv=>?_⟩;.rw[I.NN i];refine⟨λx=>x.1,λx=>⟨x,?_⟩⟩;obtain⟨g,_,hs⟩:=I.wk i x;have h1:(W i).wd.stage=1:=hq i x;unfold J' at hs;cases HC:(W i).F7 with|some τ=>rw[HC]at hs;have:=hs.1;omega|none=>rfl
   obtain⟨M,h1,h2⟩:=I.msg i v hv;have hin:i<X.n:=((I.NN i).1 ⟨v,hv⟩).1;refine⟨M,λb hb=>?_,h2⟩;have Q2:B6 X X.n S0 W (X.c0+i) b:=AF ⟨i,hin,rfl,(h1 b hb).1⟩;exact⟨I.ro.low _ b (AA Q2),λx=>(I.ro.wg _ b x).1 Q2,I.Jw _ b (AA Q2),λx=>by have:=I.ro.apart _ 0 b Q2 (AA ⟨rfl,x⟩);have:=I.pos;omega,λx=>I.ro.SV _ 0 b Q2 (AA ⟨rfl,x⟩)⟩
  obtain⟨a',w',es,hgo,H,K⟩:=B w (Ct.refl w);exact AA (Ox (sl:=sl) hM ha I N U hgo H (λe=>by subst e;exact .acq K k) A')
end
end
section
open Go.Conc(G solo Deaf QuitsD Goes crowd crowd_pick woken Aside awake awake_of runT_crowd_go woken_quitsD Perm)
open Go.ConcN(WgLive upd upd_same upd_ne WD WSit CTag Vc Ssum Fsum cnt pend phi sumTo RW)
open Go.ConcR(KK WgAt wgBlock stA smA rd wr mk Payload)
variable[Bg]
section
variable{X:GG}{j:Nat}{gs:Array AY}{w w':A1}{sl:Option (Nat×Nat)}{t:DT}{W:Nat->GU}{tag:PI}{τ:Db}{f0 p4:Nat}{a:AY}{Sh0 S0:zy}{q:Nat->Nat}{sm:List (Nat×A3)}{st GZ:Int}
theorem J'.runs{i e g}(h:J' X i e g w)(hs:e.wd.stage≠1):g.status=CZ:=by unfold J' at h;cases I:e.F7 with|some τ=>rw[I]at h;exact L0.status (λ_ _ _ x=>x.1) h.2.2.2|none=>rw[I]at h;have hw:=h.1;generalize e.wd.stage=s at hw hs;generalize e.wd.deaf=d at hw;cases hw with|r0 h=>exact ah (λ_ _ x=>x.1) w (M6 w) h|k1 h=>exact ah (λ_ _ x=>x.1) w (M6 w) h|d1 h=>exact ah (λ_ _ x=>x.1) w (M6 w) h|d2 h=>exact ah (λ_ _ x=>x.1) w (M6 w) h|d3 h=>exact ah (λ_ _ x=>x.1) w (M6 w) h|d4 h=>exact ah (λ_ _ x=>x.1) w (M6 w) h|quit h=>grind
def FB.awake(N:FB X j gs w t W Sh0 S0 q p4 sm)(ha:gs[0]?=a)(U:Ef X tag j τ f0 p4 Sh0 S0 a w):∀g∈gs,aDv g:=by
 intro g hg;obtain⟨k,hk,rfl⟩:=Array.mem_iff_getElem.1 hg;let I:=G8 hk;by_cases h0:k=0
 .subst h0;have:=by rw[I]at ha;exact CP ha
  rw[this];rcases U.status λ_=>AF trivial with h|h;.exact rK (AA h.1)
  exact rK (AF (AA h.1))
 rcases JR k X.c0 with hlt|A;.exact rK ((N.old k _ A' hlt I).status.elim AA λx=>AF (AF x))
 let⟨y,hy,hsy⟩:=N.wk (k-X.c0) (by rw[N.size]at hk;omega);rw[show X.c0+(k-X.c0)=k by omega,I]at hy;rw[CP hy];exact rK (hsy.status.elim AA λx=>AF (AF x))
theorem FB.aXo(A:FB X j gs w t W Sh0 S0 q p4 sm)(ha:gs[0]?=a)(U:Ef X tag j τ f0 p4 Sh0 S0 a w)(N:Kq j (C4 W) tag st GZ):∃(i:Nat)(g:AY),gs[i]?=g/\g.status=.running:=by
 rcases U.status λ_=>AF trivial with h|⟨_,rfl,_⟩;.grind
 let wk:∀i,i<j->(W i).wd.stage≠1->∃(i:Nat)(g:AY),gs[i]?=g/\g.status=.running:=λi hi hs=>by let⟨g,hg,hst⟩:=A.wk i hi;exact⟨_,g,hg,hst.runs hs⟩
 cases N with
 |opn I _ _=>trivial
 |reg I h2 h3=>
  have:∃i,i<j/\FP (C4 W i)=1:=by
   refine eV λhn=>?_;have:Vc j (C4 W)=0:=by
    let hle:=aa4 (f:=λi=>FP (C4 W i)) λi hi=>by
     have:=λx=>hn ⟨i,hi,x⟩;simp only[FP]at this⊢;split at this;.exact absurd rfl this
     rename_i h;rw[if_neg h];exact Ad _
    simp only[Vc];omega
   omega
  let⟨i,hi,hc⟩:=this;refine wk i hi λe=>?_;simp_all[FP,C4,e]
 |last L I h2 h3 h4=>refine wk L h2 λe=>?_;simp_all[C4,e]
 |fin I _=>trivial
def aU5(hM:X.MM)(hn:X.n<2147483648)(Kn)(m)(t)(h:Inv X Kn m t):∃m' ops,si X.P m=(DY m',ops)/\((∃I,L' (X.n+1) I Kn/\Inv X I m' (t++ops))∨bT X m' (t++ops)):=by
 obtain⟨gs,w,sl,j,W,tag,τ,f0,p4,a,st,GZ,Sh0,S0,q,sm,rfl,ha,M,C,v6,U,rfl⟩:=h;obtain⟨i,g,d,sl',hg,hrun,D1⟩:=Vj (C.awake ha M) (C.aXo ha M U);rw[D1];let hms':=M.rely (Bc.at Sh0 S0 w d) λx=>x;let A:=C.at hM d;have B:=v6;let N:Rc X gs (w.at d) sl' i (Gq X j W tag τ f0 q) t->∃m' ops,Ng X.P (ER gs (w.at d) sl') i=(DY m',ops)/\((∃I,L' (X.n+1) I (Gq X j W tag τ f0 q)/\Inv X I m' (t++ops))∨bT X m' (t++ops)):=by
  rintro(⟨Y,ops,I,h1,h2,h3⟩|⟨Y,ops,h1,h2⟩);.exact⟨Y,ops,h1,AA ⟨I,h2,h3⟩⟩
  exact⟨Y,ops,h1,AF h2⟩
 by_cases h0:i=0;.subst h0;rw[ha]at hg;obtain rfl:=CP hg;exact N (aYK hM hn ha hms' A B U hrun)
 rcases JR i X.c0 with hlt|K3;.exact N (AA (aQl ha hms' A B U A' hlt hg hrun λtag' ht=>U.retag ht))
 let H:i-X.c0<j:=by have:=B3 hg;rw[C.size]at this;omega
 let⟨y,hy,hsy⟩:=A.wk (i-X.c0) H;let ei:X.c0+(i-X.c0)=i:=A';rw[ei,hg]at hy;obtain rfl:=CP hy;refine N (AA ?_);let J6:gs[X.c0+(i-X.c0)]?=g:=Ar ei;rw[<-ei];cases K:(W (i-X.c0)).F7 with|none=>exact aYM hM hn ha hms' A B U H J6 hrun K hsy|some RN=>let hs:=hsy;unfold J' at hs;rw[K]at hs;let⟨h7,hd0,hf0,hway⟩:=hs;cases RN with|leaf=>exact aYN hM ha hms' A B U H J6 K h7 hd0 (hway _ (Bc.refl ..))|node f=>let⟨g',w',es,S',hgo,hgt,hw'⟩:=hway.2 _ (Bc.refl ..);exact aYO hM ha hms' A B U H J6 K h7 hd0 hf0 hgo hgt (.mk f _) hw'
theorem aAj(hM:X.MM)(hn:X.n<2147483648)(I):∀(m)(t),Inv X I m t->∃N m' A,EE X.P N m t=(DY m',A)/\bT X m' A:=by
 induction I using(aWB (X.n+1)).induction with
 |h I ih=>
  intro m t h;let⟨m1,ops,hs,hh⟩:=aU5 hM hn I m t h;rcases hh with⟨U,hlt,hi⟩|hj;.let⟨N,m',A,h1,h2⟩:=ih U hlt m1 _ hi;exact⟨N+1,m',A,by grind[EE],h2⟩
  exact⟨1,m1,_,by simp only[EE,hs],hj⟩
def WJ(Wb:zy)(I h B:Nat):zy:=λb=>b<B/\¬Wb b/\b≠I/\b≠h
structure eQ(X:GG)(a:AY)(w:A1):Prop where
 run:a.status=CZ
 wg:X.Ae=w
 go:∀f5,Bc (λ_=>False) (Du X.Wb w) w f5->f5.heap.size=w->∃a',B9 X.P A5 a f5=Bl a' {f5 with heap:=f5.heap.push (NV X.ty 0 0)} #[]/\I_ X X.n (λ_=>False) (WJ X.Wb X.Ae X.Bn (f5+1)) a' {f5 with heap:=f5.heap.push (NV X.ty 0 0)}
 ch:∃tm,w.heap[X.Bn]?=Z (Is X.n #[] A9 0 0 tm)
 nM:Du X.Wb w X.Bn
def aAi(h:Cx X.P X.Wb gs w t q a)(hg:eQ X a w)(B:X.c0=gs)(Y:X.C0=t){a':AY}(hs:I_ X X.n (λ_=>False) (WJ X.Wb X.Ae X.Bn (w+1)) a' {w with heap:=w.heap.push (NV X.ty 0 0)})(fn:Sh)(pos:String){gsn:Array AY}(li:gsn.size=gs)(C:gsn[0]?=a')(HQ:∀k,k≠0->gsn[k]?=gs[k]?):∃Kn,Inv X Kn (ER gsn {w with heap:=w.heap.push (NV X.ty 0 0)} sl) (t++KL 0 fn pos #[]):=by
 have i3:=B3 h.zero;let U:t++KL 0 fn pos #[]=t:=by rw[eh];simp
 rw[U];let⟨tm,hch⟩:=hg.ch;have A:=hg.nM.1;let W:Nat->GU:=λ_=>⟨⟨1,0,0⟩,J,λ_=>False,λ_=>False,0,0,AN⟩;let S0:=WJ X.Wb X.Ae X.Bn (w+1);let hR:∀g b,B6 X 0 S0 W g b↔g=0/\S0 b:=λg b=>⟨λx=>x.elim id λ⟨i,hi,_⟩=>absurd hi A',AA⟩;let N:∀g b,¬B_ X 0 (λ_=>False) W g b:=λg b x=>x.elim (λy=>y.2) λ⟨i,hi,_⟩=>absurd hi A';let hS0:∀b,S0 b->b<w:=λb hb=>by let I:=hb.1;let h2:=hb.2.2.1;rw[hg.wg]at h2;omega
 let hro:ML X.BJ (X.c0+0) (w.heap.push (NV X.ty 0 0)) (B6 X 0 S0 W) (B_ X 0 (λ_=>False) W):=by
  refine⟨λg h b x y=>((hR g b).1 x).1.trans ((hR h b).1 y).1.symm,λg h b _ y=>N h b y,λg b hw=>⟨λx=>?_,λx=>N g b x⟩,λg b x=>?_,λg b x=>?_,λb hw=>?_⟩
  .let⟨_,hb⟩:=(hR g b).1 x;rcases hw with hw|hw;.exact hb.2.1 hw
   exact hb.2.2.1 hw
  .rcases x with x|x;.have:=hS0 b ((hR g b).1 x).2;simp;omega
   exact absurd x (N g b)
  .rcases x with x|x;.rw[((hR g b).1 x).1];omega
   exact absurd x (N g b)
  simp;rcases hw with hw|hw;.have:=h.PC b hw;omega
  rw[hw,hg.wg];omega
 let K6:Iz X.BJ (X.c0+0) (w.heap.push (NV X.ty 0 0)) (B6 X 0 S0 W) (B_ X 0 (λ_=>False) W) t:=by
  refine h.JG.hand A' AD (λb hb=>?_) (λg b hb l hl=>?_) λg b hb=>absurd hb (N g b)
  .rcases hb with hb|hb;.exact AA hb
   exact AF (by rw[hb,hg.wg];exact Ad _)
  obtain⟨rfl,hb1⟩:=(hR g b).1 hb;exact h.JG.own 0 b ⟨rfl,hS0 b hb1,hb1.2.1⟩ l hl
 let oM:T' X.BJ X.c0 t:=by rw[B];exact⟨λi x hx hm hn=>h.O4.known i x hx hm λ⟨b,I,h2⟩=>hn ⟨b,AA I,h2⟩,h.O4.over⟩
 let H:FB X 0 gsn {w with heap:=w.heap.push (NV X.ty 0 0)} t W (λ_=>False) S0 q 0 []:=by
  refine⟨by rw[li,B];rfl,BA,λi g I h2 h3=>?_,λi hi=>absurd hi A',hro,K6,oM,h.hears,λi hi=>absurd hi A',λi hi hx=>?_,⟨A',λi g I h2=>?_⟩,λi hi=>absurd hi A',⟨tm,?_⟩,λg b hb=>?_,by rw[hg.wg];omega,λi=>⟨λ⟨v,hv⟩=>(by cases hv),λhh=>A'⟩,AD,λi v hv=>by cases hv⟩;.rw[HQ i A']at h3;exact h.leave.old i g I h3
  .have:=aDy hx;omega
  .let⟨op,ho,hog⟩:=Qf.1 I;have:=h.JG.gs i op ho;omega
  .rwa[KF A,<-G8]
  rcases hb with hb|hb;.exact((hR g b).1 hb).2.2.2.2
  exact absurd hb (N g b)
 let K:Jo X.ty X.Ae {w with heap:=w.heap.push (NV X.ty 0 0)} 0 0:=by show(w.heap.push (NV X.ty 0 0))[X.Ae]?=_;rw[hg.wg,kW]
 have M:=λr=>by have:=rZ (j:=0) (D:=C4 W) (tag:=Jn r 6) trivial (λi hi=>A') AD;simpa[Vc,Ir,Kr]using this
 cases hn:X.n with|zero=>rw[hn]at hs;let⟨τ,hk⟩:=Way.F7 hs;have:=Ef.aR hk;rw[hn]at this;exact⟨_,gsn,_,sl,0,W,Jn 0 6,τ,0,0,a',0,0,_,S0,q,[],rfl,C,this,H,K,M 0,rfl⟩|succ r=>rw[hn]at hs;let⟨τ,hk⟩:=Way.F7 hs;have:=Ef.Km A' hk;rw[hn,aHx]at this;exact⟨_,gsn,_,sl,0,W,Jn (r+1) 6,τ,0,0,a',0,0,_,S0,q,[],rfl,C,this,H,K,M _,rfl⟩
def phase(hM:∀C0,({X with C0:=C0}:GG).MM)(hn:X.n<2147483648)(hX:∀C0,eQ {X with C0:=C0} a w):∀(M:Nat)(h:A1)(gs:Array AY)(sl:Option (Nat×Nat))(t:DT)(q:Nat->Nat),X.c0=gs->Bc (λ_=>False) (Du X.Wb w) w h->h.heap.size=w->(∀C0,eQ {X with C0:=C0} a h)->Ir gs q<=M->Cx X.P X.Wb gs h t q a->∃N m' A C0,EE X.P N (ER gs h sl) t=(DY m',A)/\bT {X with C0:=C0} m' A:=by
 intro M;induction M with
 |zero=>
  intro h gs sl t q B hr li hG Wn hc;let⟨i,g,d,sl',hi,hgr,hst⟩:=Vj (P:=X.P) (w:=h) (sl:=sl) (hc.awake (hX 0).run) ⟨0,a,hc.zero,(hX 0).run⟩;rcases T5 i with rfl|C
  .obtain rfl:g=a:=by rw[hc.zero]at hi;exact(CP hi).symm
   let⟨a',hgo,hs⟩:=(hG t).go (h.at d) (Bc.at ..) rfl;obtain⟨H,hI⟩:=aAi (X:={X with C0:=t}) (hc.at d) ⟨(hG t).run,(hG t).wg,λU h2 h3=>(hG t).go U ((Bc.at _ _ _ d).trans h2) h3,(hG t).ch,(hG t).nM⟩ B rfl hs g.frame.fn g.frame.place (gsn:=(gs.map (Sf X.P g a' {h.at d with heap:=(h.at d).heap.push (NV X.ty 0 0)})).setIfInBounds 0 a') AD (en _ _ _ (B3 hc.zero)) (λk hk=>by rw[Y' _ _ _ _ (Gy hk)];cases K:gs[k]? with|none=>rfl|some x=>rw[Qg,Xz (hc.leave.old k x A' K)]);obtain⟨N,m',A,I,h2⟩:=aAj (hM t) hn H _ _ hI;exact⟨N+1,m',A,t,by simp only[EE,hst,QU (sl:=sl') hi (hgo)];exact I,h2⟩
  let hq:=hc.leave.old i g C hi;have:q i<=Ir gs q:=ep (B3 hi);let Ta:q i=0:=A';rw[Ta]at hq;rw[hq.1]at hgr;cases hgr
 |succ M ih=>
  intro h gs sl t q B hr li hG Wn hc;let⟨i,g,d,sl',hi,hgr,hst⟩:=Vj (P:=X.P) (w:=h) (sl:=sl) (hc.awake (hX 0).run) ⟨0,a,hc.zero,(hX 0).run⟩;rcases T5 i with rfl|C
  .obtain rfl:g=a:=by rw[hc.zero]at hi;exact(CP hi).symm
   let⟨a',hgo,hs⟩:=(hG t).go (h.at d) (Bc.at ..) rfl;obtain⟨H,hI⟩:=aAi (X:={X with C0:=t}) (hc.at d) ⟨(hG t).run,(hG t).wg,λU h2 h3=>(hG t).go U ((Bc.at _ _ _ d).trans h2) h3,(hG t).ch,(hG t).nM⟩ B rfl hs g.frame.fn g.frame.place (gsn:=(gs.map (Sf X.P g a' {h.at d with heap:=(h.at d).heap.push (NV X.ty 0 0)})).setIfInBounds 0 a') AD (en _ _ _ (B3 hc.zero)) (λk hk=>by rw[Y' _ _ _ _ (Gy hk)];cases K:gs[k]? with|none=>rfl|some x=>rw[Qg,Xz (hc.leave.old k x A' K)]);obtain⟨N,m',A,I,h2⟩:=aAj (hM t) hn H _ _ hI;exact⟨N+1,m',A,t,by simp only[EE,hst,QU (sl:=sl') hi (hgo)];exact I,h2⟩
  let hq:=hc.leave.old i g C hi;let K4:(i==0)=A9:=Av;cases Y:q i with
  |zero=>rw[Y]at hq;rw[hq.1]at hgr;cases hgr
  |succ k=>
   rw[Y]at hq;rcases hq with⟨hf,_⟩|⟨_,g',es,hm,V2,hq'⟩;.rw[hf]at hgr;cases hgr
   let ZX:Ir gs (CG q i k)+(k+1)=Ir gs q+k:=by have:=Y0 q k id (B3 hi);simpa[Y]using this
   let⟨N,m',A,C0,I,h2⟩:=ih (h.at d) _ sl' _ (CG q i k) (by simp[B]) (hr.trans (Bc.at _ _ _ d)) li (λC0=>⟨(hG C0).run,(hG C0).wg,λU h2 h3=>(hG C0).go U ((Bc.at _ _ _ d).trans h2) h3,(hG C0).ch,(hG C0).nM⟩) Av ((hc.at d).slip (hX 0).run C hi hm hq' g.frame.fn g.frame.place);exact⟨N+1,m',A,C0,by simp only[EE,hst,QU (sl:=sl') hi (As K4 (V2 (h.at d)))];exact I,h2⟩
end
end
section
open Go.Conc Go.RowKit Go.Conc.Lib Go.ConcR.Gen Go.ConcN.Gen
open Go.ConcN(WgLive)
open Go.ConcR(KK wgBlock WgAt stA smA rd wr mk Payload DC0)
variable{b₀:Ah}
variable[Bg]{L:l4}{X:GG}
omit[Bg]in def Aq{w f5 Y}(h:IQ Y.ty Y.Ae w)(r:Ct Y w f5):IQ Y.ty Y.Ae f5:=r h
omit[Bg]in def CB.more{Stop m g w}(h:CB X Stop m g w):∀k,CB X Stop (m+k) g w|0=>h|k+1=>Goes.more (CB.more h k)
omit[Bg]in def CB.of{Stop}:∀{n}{g}{w},Xx X.P A5 (Ct X) DC0 Stop n g w->CB X Stop n g w
 |0,_,_,h=>h
 |n+1,g,w,h=>by
  rcases h with h|⟨hs,h⟩;.exact AA h
  refine AF ⟨hs,λN I=>?_⟩;have:=h N I;revert this;cases B9 X.P A5 g N with|go U w' es=>exact λ⟨⟨e1,e2⟩,k⟩=>⟨⟨e1,BA⟩,CB.of k⟩|_=>exact id
omit[Bg]in def CB.glue{Stop m}:∀{n}{g}{w},Xx X.P A5 (Ct X) DC0 (λg w=>CB X Stop m g w) n g w->CB X Stop (n+m) g w
 |0,_,w,h=>by rw[My];exact h w id
 |n+1,g,w,h=>by
  rcases h with h|⟨hs,h⟩;.have:=h w id;rw[Nat.add_comm];exact CB.more this (n+1)
  rw[show n+1+m=n+m+1 by omega];refine AF ⟨hs,λN I=>?_⟩;have:=h N I;revert this;cases B9 X.P A5 g N with|go U w' es=>exact λ⟨⟨e1,e2⟩,k⟩=>⟨⟨e1,BA⟩,CB.glue k⟩|_=>exact id
variable{L:l4}{X:GG}
def Bz{p:Prop}{q:World->Prop}(h:∀w,WgLive X.ty X.Ae w->q w)(e:(∀w,WgLive X.ty X.Ae w->q w)->p:=by intro hq;(repeat(first|u_c stepG_seq Aq hF|u_c stepG_region_end Aq hF|u_c stepG_skip Aq hF|u_reg Aq hF));exact hq _ hF):p:=e h
def aIo(H:rI X.P L)(A:X.ty=L.tWg){Hc a₀ ops₀ i₀ rest₀ k₀ cs}(hT:Hc (G (b₀.at (a₀.put (ops₀[i₀]?.bind (·.dst)) (Aj #[])) (Ak ops₀ rest₀::k₀)) cs))(w)(hF:IQ X.ty X.Ae w):CB X (AtKdS X Hc) 12 (G ((Vi L.add).at ⟨#[B2 (Z ⟨X.Ae,0,J⟩),AB AJ 1,AN,AN,AN,AN,AN,AN,AN,AN,AN,AN,AN,AN,AN,AN,AN,AN,AN,AN,AN,AN,AN,AN,AN,AN,AN,AN,AN,AN,AN,AN,AN,AN,AN,AN,AN,AN,AN,AN,AN,AN,AN,AN,AN,AN,AN,AN,AN,AN,AN,AN,AN,AN,AN,AN,AN,AN,AN,AN,AN,AN,AN,AN,AN,AN,AN,AN,AN,AN,AN,AN,AN,AN,AN,AN,AN,AN,AN,AN,AN,AN,AN,AN,AN,AN,AN,AN,AN,AN,AN,AN,AN,AN,AN,AN,AN,AN,AN,AN,AN,AN,AN,AN,AN,AN,AN,AN,AN,AN,AN,AN,AN,AN,AN,AN,AN],[]⟩ [Aw (body_add L)]) (b₀.at a₀ (Ak ops₀ (i₀::rest₀)::k₀)::cs)) w:=by
 lib_facts;simp only[body_add,addFn,MJ];refine CB.of ?_;refine Bz λw hF=>?_;u_cond true Aq hF;refine Bz λw hF=>?_;iterate 2 u_op Aq hF
 refine Bz λw hF=>?_;u_cond false Aq hF;refine Bz λw hF=>?_;refine Jl λf5 h=>?_;replace hF:=Aq hF h;clear h;refine⟨rfl,_,rR b0 AD rfl rfl (by k_ne) rfl H.f_disable (aEN L) (aEL L) (aEO L) (aEM L),40,?_⟩;refine CB.of ?_;walk_nrm;u_c stepG_region_end Aq hF;u_reg Aq hF;u_defer Aq hF;refine Bz λw hF=>?_;u_op Aq hF;refine Bz λw hF=>?_;u_bub Aq hF;refine Bz λw hF=>?_;u_cond false Aq hF;refine Bz λw hF=>?_;iterate 6 u_op Aq hF
 u_call H.f_uAdd(nm_uAdd L)uAddFn Aq hF;refine Bz λw hF=>?_;u_op Aq hF;refine Bz λw hF=>?_;iterate 4 u_op Aq hF
 refine Jl λB C=>?_;replace hF:=Aq hF C;clear C;refine⟨rfl,λv hv hw=>?_⟩;rw[A]at hw;rcases T5 v with rfl|Za
 .replace hw:Jo L.tWg X.Ae B 0 0:=by simpa using hw
  have z:(((0:Nat):Int)+1)*KK=KK:=AD;rw[z];have e0:Da.wrap (0+4294967296)=KK:=Ac;refine⟨_,(aE1 rfl rfl (by k_ne) rfl H.f_addU64 (aEF L) (aED L) (aEG L) Da (aEE L) rfl rfl hw.cellSt (hw.thaw 0)).trans (by rw[e0];rfl),60+60,?_⟩;replace hF:IQ X.ty X.Ae (B.setCell (Dx X.Ae) (AB Da KK)):=by rw[A];exact⟨_,_,hw.setSt _⟩
  clear hw;simp only[KK]at hF⊢;refine CB.glue ?_;walk_nrm;u_op Aq hF;refine Bz λw hF=>?_;u_c stepG_ret' Aq hF;u_leave1 H.f_uAdd Aq hF;u_op Aq hF;refine Bz λw hF=>?_;iterate 4 u_op Aq hF
  iterate 2 u_skip Aq hF
  u_op Aq hF;refine Bz λw hF=>?_;u_cond false Aq hF;refine Bz λw hF=>?_;iterate 4 u_op Aq hF
  refine Bz λw hF=>?_;iterate 4 u_op Aq hF
  refine Bz λw hF=>?_;iterate 10 u_op Aq hF
  refine Bz λw hF=>?_;u_cond true Aq hF;refine Bz λw hF=>?_;iterate 3 u_op Aq hF
  refine ee rfl λ_ hr=>?_;replace hF:=Aq hF hr;clear hr;refine rM rfl rfl (by k_ne) λYT K=>?_;have S8:=sg (P:=X.P) H.underlying_tPU32 H.underlying_tUP H.room_tU32 (rW hF).choose_spec;have Lr:=λes=>rL (P:=X.P) H.underlying_tPU32 H.underlying_tUP H.room_tU32 (rW hF).choose_spec es;go_simp;refine K _ _ ⟨?_,?_⟩;.refine rb ?_;intro ex Ut;have hm:=rN Ut;simp[go_sem, *]at hm
  clear K YT S8 Lr;refine Jl λqh M=>?_;replace hF:=Aq hF M;clear M;refine ee rfl λXi Y=>?_;replace hF:=Aq hF Y;clear Y;rw[rS .read AD rfl rfl (by k_ne) rfl H.f_raceRead (x_raceRead_n L) (x_raceRead_b L) (x_raceRead_x L) (x_raceRead_f L) (ad:=⟨X.Ae,1,J⟩) (by simp[FG])];simp only[goes_go];refine⟨⟨rfl,λe he=>?_⟩,?_⟩;.rw[a'x]at he;exact⟨⟨X.Ae,1,J⟩,rfl,AA he⟩
  refine CB.of ?_;walk_nrm;refine Bz λw hF=>?_;iterate 2 u_op Aq hF
  refine Bz λw hF=>?_;u_cond false Aq hF;refine Bz λw hF=>?_;iterate 3 u_op Aq hF
  iterate 2 u_skip Aq hF
  iterate 2 u_op Aq hF
  iterate 4 u_skip Aq hF
  u_op Aq hF;refine Bz λw hF=>?_;u_cond false Aq hF;refine Bz λw hF=>?_;iterate 3 u_op Aq hF
  iterate 2 u_skip Aq hF
  u_op Aq hF;refine Bz λw hF=>?_;u_cond true Aq hF;u_c stepG_ret' Aq hF;refine Jl λkM U=>?_;replace hF:=Aq hF U;clear U;refine⟨rfl,_,aE4 (v:=Aj #[]) (evs:=#[ON fB]) rfl H.f_enable (rh L) (re L) (ri L) (rf L) (by simp[aEZ]) (by simp[ON]) (by simp[ON]),1,?_⟩;refine CB.of ?_;u_leave0 H.f_add Aq hF;exact Jl λ_ _=>hT
 obtain⟨V,N⟩:∃V:Int,V=(v:Int)+1:=⟨_,rfl⟩;obtain⟨S,I⟩:∃S:Int,S=V*KK:=⟨_,rfl⟩;have cC:Da.wrap ((v:Int)*KK+4294967296)=S:=by rw[a0h,I,N];simp only[KK];omega
 rw[<-N,<-I];have a1:S/4294967296=V:=by rw[I];simp only[KK];omega
 have CW:bits .and Da S 2147483648=0:=by rw[I,N];have:=aE7 (v+1) 0 A' A';simpa[KK]using this
 have b2:bits .and Da S 2147483647=0:=by rw[I,N];have:=aE8 (v+1) 0 A' A';simpa[KK]using this
 have c1:aEj.wrap V=V:=by rw[aEk];omega
 have aNU:1<V:=A';have abz:V<2147483648:=A';have q1:(V==1)=A9:=Av;have q2:BK (V=1)=A9:=decide_eq_false A';have q3:BK (V<0)=A9:=decide_eq_false A';have q4:BK (0<V)=A5:=decide_eq_true A';have q5:(V==0)=A9:=Av;have q6:BK (V=0)=A9:=decide_eq_false A';refine⟨_,(aE1 rfl rfl (by k_ne) rfl H.f_addU64 (aEF L) (aED L) (aEG L) Da (aEE L) rfl rfl hw.cellSt (hw.thaw 0)).trans (by rw[cC];rfl),110,?_⟩;replace hF:IQ X.ty X.Ae (B.setCell (Dx X.Ae) (AB Da S)):=by rw[A];exact⟨_,_,hw.setSt _⟩
 clear hw I N cC;refine CB.of ?_;walk_nrm;u_op Aq hF;refine Bz λw hF=>?_;u_c stepG_ret' Aq hF;u_leave1 H.f_uAdd Aq hF;u_op Aq hF;refine Bz λw hF=>?_;iterate 4 u_op Aq hF
 iterate 2 u_skip Aq hF
 u_op Aq hF;refine Bz λw hF=>?_;u_cnd false Aq hF;refine Bz λw hF=>?_;iterate 4 u_op Aq hF
 refine Bz λw hF=>?_;iterate 4 u_op Aq hF
 refine Bz λw hF=>?_;iterate 10 u_op Aq hF
 refine Bz λw hF=>?_;u_cnd false Aq hF;refine Bz λw hF=>?_;iterate 2 u_op Aq hF
 refine Bz λw hF=>?_;u_cnd false Aq hF;refine Bz λw hF=>?_;iterate 3 u_op Aq hF
 iterate 2 u_skip Aq hF
 iterate 2 u_op Aq hF
 iterate 4 u_skip Aq hF
 u_op Aq hF;refine Bz λw hF=>?_;u_cnd false Aq hF;refine Bz λw hF=>?_;iterate 3 u_op Aq hF
 iterate 2 u_skip Aq hF
 u_op Aq hF;refine Bz λw hF=>?_;u_cnd true Aq hF;u_c stepG_ret' Aq hF;refine Jl λkM U=>?_;replace hF:=Aq hF U;clear U;refine⟨rfl,_,aE4 (v:=Aj #[]) (evs:=#[ON fB]) rfl H.f_enable (rh L) (re L) (ri L) (rf L) (by simp[aEZ]) (by simp[ON]) (by simp[ON]),1,?_⟩;refine CB.of ?_;u_leave0 H.f_add Aq hF;exact Jl λ_ _=>hT
variable{L:l4}{X:GG}
def Head(X:GG)(L:l4)(c:Ah)(cs:List Ah)(g:AY):Prop:=∃T:zw,g=G ((Vi L.wait).at ⟨T,[]⟩ [Aw (L7 L),NW (L7 L),Ks 0]) (c::cs)/\T.size=84/\T[0]?=Z (B2 (Z ⟨X.Ae,0,J⟩))
def kj(X:GG)(h:AY)(g:AY):Prop:=∀w,IQ X.ty X.Ae w->∃m,Xx X.P A5 (Ct X) DC0 (λI _=>I=h) m g w
section
variable{b₀:Ah}{a₀:HL}{ops₀:Array B8}{i₀:Nat}{rest₀:List Nat}{k₀:List Cd}{cs:List Ah}
def a_L(H:rI X.P L)(w)(hF:IQ X.ty X.Ae w):CB X (AtKd X (Head X L (b₀.at a₀ (Ak ops₀ (i₀::rest₀)::k₀)) cs)) 3 (G ((Vi L.wait).at ⟨#[B2 (Z ⟨X.Ae,0,J⟩),AN,AN,AN,AN,AN,AN,AN,AN,AN,AN,AN,AN,AN,AN,AN,AN,AN,AN,AN,AN,AN,AN,AN,AN,AN,AN,AN,AN,AN,AN,AN,AN,AN,AN,AN,AN,AN,AN,AN,AN,AN,AN,AN,AN,AN,AN,AN,AN,AN,AN,AN,AN,AN,AN,AN,AN,AN,AN,AN,AN,AN,AN,AN,AN,AN,AN,AN,AN,AN,AN,AN,AN,AN,AN,AN,AN,AN,AN,AN,AN,AN,AN,AN],[]⟩ [Aw (a0Q L)]) (b₀.at a₀ (Ak ops₀ (i₀::rest₀)::k₀)::cs)) w:=by simp only[a0Q,waitFn,MJ];refine CB.of ?_;u_c stepG_seq Aq hF;u_cond true Aq hF;u_reg Aq hF;refine Jl λN h=>?_;replace hF:=Aq hF h;refine⟨rfl,_,rR b0 AD rfl rfl (by k_ne) rfl H.f_disable (aEN L) (aEL L) (aEO L) (aEM L),3,?_⟩;refine CB.of ?_;u_c stepG_region_end Aq hF;u_c stepG_block Aq hF;u_c stepG_loop Aq hF;exact Jl λU I=>⟨_,rfl,AD,AD⟩
def a_K(H:rI X.P L)(G3:X.ty=L.tWg):YP X (Head X L (b₀.at a₀ (Ak ops₀ (i₀::rest₀)::k₀)) cs) (kj X (G (b₀.at (a₀.put (ops₀[i₀]?.bind (·.dst)) (Aj #[])) (Ak ops₀ rest₀::k₀)) cs)):=by
 rintro g⟨T,rfl,aNQ,G_⟩;refine⟨rfl,λw hF=>?_⟩;lib_facts;obtain⟨Fu,El,EP,Ga,P9,eE,aL,aM,aCr,ael,adb,ade,adf,adg,adh,adi,adj,adk,adl,adm,adn,ado,adp,adq,aCq,adr,ads,adt,v28,adu,adv,adw,adx,ady,adz,ae',ae0,ae1,ae2,ae3,ae4,ae5,ae6,ae7,ae8,ae9,aeA,aeB,aeC,aeD,aeE,aeF,aeG,aeH,aeI,aeJ,aeK,aeL,aeM,aeN,aeO,aeP,aeQ,aeR,aeS,aeT,aeU,aeV,aeW,aeX,aeY,aeZ,ae_,aea,aeb,aec,aed,aee,aef,aeg,aeh,aei,aej,aek,rfl⟩:=array84 T aNQ;simp only[List.getElem?_toArray,List.getElem?_cons_zero,bd]at G_;subst G_;refine⟨30,?_⟩;simp only[L7,a0Q,waitFn,MJ];refine CB.of ?_;u_c stepG_block Aq hF;refine Bz λw hF=>?_;iterate 3 u_op Aq hF
 u_call H.f_uLoad(nm_uLoad L)uLoadFn Aq hF;refine Bz λw hF=>?_;u_op Aq hF;refine Bz λw hF=>?_;iterate 3 u_op Aq hF
 refine Jl λf5 N=>?_;replace hF:=Aq hF N;clear N;refine⟨rfl,λv hv hw=>?_⟩;rw[G3]at hw;rcases T5 v with rfl|Za
 .replace hw:Jo L.tWg X.Ae f5 0 0:=by simpa using hw
  refine⟨_,a0I (v:=0) rfl rfl (by k_ne) rfl H.f_loadU64 (a0T L) (a0R L) (a0U L) Da (a0S L) rfl hw.cellSt,λ_=>⟨50,?_⟩,λh=>absurd rfl h⟩;clear hw;refine CB.of ?_;walk_nrm;u_op Aq hF;refine Bz λw hF=>?_;u_c stepG_ret' Aq hF;u_leave1 H.f_uLoad Aq hF;u_op Aq hF;refine Bz λw hF=>?_;iterate 4 u_op Aq hF
  refine Bz λw hF=>?_;iterate 4 u_op Aq hF
  refine Bz λw hF=>?_;iterate 2 u_op Aq hF
  refine Bz λw hF=>?_;u_cond true Aq hF;refine Bz λw hF=>?_;u_cond true Aq hF;refine Bz λw hF=>?_;refine Jl λkM A=>?_;replace hF:=Aq hF A;clear A;refine⟨rfl,_,rR fB AD rfl rfl (by k_ne) rfl H.f_enable (rh L) (re L) (ri L) (rf L),12,?_⟩;refine CB.of ?_;walk_nrm;refine Bz λw hF=>?_;u_op Aq hF;refine ee rfl λ_ hr=>?_;replace hF:=Aq hF hr;clear hr;refine rM rfl rfl (by k_ne) λB I=>?_;have C:=sg (P:=X.P) H.underlying_tWgP H.underlying_tUP H.room_tWg (rV hF).choose_spec;have K:=λes=>rL (P:=X.P) H.underlying_tWgP H.underlying_tUP H.room_tWg (rV hF).choose_spec es;go_simp;refine I _ _ ⟨?_,?_⟩;.refine rb ?_;intro ex M;have hm:=rN M;simp[go_sem, *]at hm
  clear I B C K;refine Jl λqi Y=>?_;replace hF:=Aq hF Y;clear Y;refine⟨rfl,_,rS ay AD rfl rfl (by k_ne) rfl H.f_acquire (aEB L) (aE9 L) (aEC L) (aEA L) (by simp[FG,Dx]),λaDK hF=>⟨20,?_⟩⟩;walk_nrm;refine Bz λw hF=>?_;iterate 8 u_op Aq hF
  iterate 2 u_skip Aq hF
  u_op Aq hF;refine Bz λw hF=>?_;u_cond false Aq hF;refine Bz λw hF=>?_;u_c stepG_ret' Aq hF;u_leave0 H.f_wait Aq hF;exact Jl λ_ _=>rfl
 obtain⟨S,U⟩:∃S:Int,(v:Int)*KK=S:=⟨_,rfl⟩;have a1:S/4294967296=(v:Int):=by rw[<-U];simp only[KK];omega
 have CW:bits .and Da S 2147483648=0:=by rw[<-U];have:=aE7 v 0 A' A';simpa[KK]using this
 have b2:bits .and Da S 2147483647=0:=by rw[<-U];have:=aE8 v 0 A' A';simpa[KK]using this
 have c1:aEj.wrap (v:Int)=(v:Int):=by rw[aEk];omega
 have w1:Da.wrap (S+1)=S+1:=by rw[a0h,<-U];simp only[KK];omega
 have q3:BK ((v:Int)<0)=A9:=decide_eq_false A';have q4:BK (0<(v:Int))=A5:=decide_eq_true A';have q5:((v:Int)==0)=A9:=Av;have q6:BK ((v:Int)=0)=A9:=decide_eq_false A';rw[U]at hw;refine⟨_,a0I (v:=S) rfl rfl (by k_ne) rfl H.f_loadU64 (a0T L) (a0R L) (a0U L) Da (a0S L) rfl hw.cellSt,λh0=>absurd h0 A',λ_=>⟨60,?_⟩⟩;clear hw;refine CB.of ?_;walk_nrm;u_op Aq hF;refine Bz λw hF=>?_;u_c stepG_ret' Aq hF;u_leave1 H.f_uLoad Aq hF;u_op Aq hF;refine Bz λw hF=>?_;iterate 4 u_op Aq hF
 refine Bz λw hF=>?_;iterate 4 u_op Aq hF
 refine Bz λw hF=>?_;iterate 2 u_op Aq hF
 refine Bz λw hF=>?_;u_cnd false Aq hF;refine Bz λw hF=>?_;iterate 6 u_op Aq hF
 u_call H.f_uCas(nm_uCas L)uCasFn Aq hF;refine Bz λw hF=>?_;u_op Aq hF;refine Bz λw hF=>?_;iterate 5 u_op Aq hF
 refine Jl λE7 Lw=>?_;replace hF:=Aq hF Lw;clear Lw;refine⟨rfl,λv' hv' hw=>⟨λe=>?_,λe=>?_⟩⟩
 .subst e;rw[G3]at hw;rw[U]at hw⊢;refine⟨_,(stepG_cas_hit (v:=S) (n:=S+1) rfl rfl (by k_ne) rfl H.f_casU64 (aEJ L) (aEH L) (aEK L) Da (aEI L) rfl rfl rfl hw.cellSt (hw.thaw 0)).trans (by rfl),40+40,?_⟩;replace hF:IQ X.ty X.Ae (E7.setCell (Dx X.Ae) (AB Da (S+1))):=by rw[G3];exact⟨_,_,hw.setSt _⟩
  clear hw;refine CB.glue ?_;walk_nrm;u_op Aq hF;refine Bz λw hF=>?_;u_c stepG_ret' Aq hF;u_leave1 H.f_uCas Aq hF;refine Bz λw hF=>?_;u_cond true Aq hF;refine Bz λw hF=>?_;iterate 4 u_op Aq hF
  refine Bz λw hF=>?_;u_cond true Aq hF;refine Bz λw hF=>?_;iterate 3 u_op Aq hF
  refine ee rfl λ_ hr=>?_;replace hF:=Aq hF hr;clear hr;refine rM rfl rfl (by k_ne) λB I=>?_;have C:=sg (P:=X.P) H.underlying_tPU32 H.underlying_tUP H.room_tU32 (rW hF).choose_spec;have K:=λes=>rL (P:=X.P) H.underlying_tPU32 H.underlying_tUP H.room_tU32 (rW hF).choose_spec es;go_simp;refine I _ _ ⟨?_,?_⟩;.refine rb ?_;intro ex M;have hm:=rN M;simp[go_sem, *]at hm
  clear I B C K;refine Jl λaDK a89=>?_;replace hF:=Aq hF a89;clear a89;refine ee rfl λaf4 a8A=>?_;replace hF:=Aq hF a8A;clear a8A;rw[rS .write AD rfl rfl (by k_ne) rfl H.f_raceWrite (x_raceWrite_n L) (x_raceWrite_b L) (x_raceWrite_x L) (x_raceWrite_f L) (ad:=⟨X.Ae,1,J⟩) (by simp[FG]<;>rfl)];simp only[goes_go];refine⟨⟨rfl,λe he=>?_⟩,?_⟩;.rw[a'x]at he;exact⟨⟨X.Ae,1,J⟩,rfl,AF he⟩
  refine CB.of ?_;refine Bz λw hF=>?_;u_op Aq hF;refine Bz λw hF=>?_;iterate 4 u_op Aq hF
  iterate 1 u_skip Aq hF
  u_op Aq hF;refine Bz λw hF=>?_;u_cond false Aq hF;refine Bz λw hF=>?_;iterate 4 u_op Aq hF
  refine Jl λqh dM=>?_;replace hF:=Aq hF dM;clear dM;refine⟨rfl,rfl,λ⟨st,hw⟩=>stepG_semacquire_wait rfl rfl rfl H.f_semacquire (aER L) (aEP L) (aES L) (aEQ L) (by simp[FG,Vo]) hw.cellSm,λhf=>?_⟩;refine⟨_,(stepG_semacquire (n:=1) rfl rfl (by k_ne) rfl H.f_semacquire (aER L) (aEP L) (aES L) (aEQ L) (by simp[FG,Vo]) hf.cellSm (by k_ne) (hf.thaw 1)).trans (by rfl),30,?_⟩;replace hF:IQ X.ty X.Ae (qh.setCell (Vo X.Ae) (AB ew 0)):=⟨_,_,hf.setSm 0⟩;clear hf;refine CB.of ?_;walk_nrm;refine Bz λw hF=>?_;iterate 3 u_op Aq hF
  u_call H.f_uLoad(nm_uLoad L)uLoadFn Aq hF;refine Bz λw hF=>?_;u_op Aq hF;refine Bz λw hF=>?_;iterate 3 u_op Aq hF
  refine Jl λXi jA=>?_;replace hF:=Aq hF jA;clear jA;refine⟨rfl,λhw=>⟨_,a0I (v:=0) rfl rfl (by k_ne) rfl H.f_loadU64 (a0T L) (a0R L) (a0U L) Da (a0S L) rfl hw.cellSt,30,?_⟩⟩;clear hw;refine CB.of ?_;walk_nrm;u_op Aq hF;refine Bz λw hF=>?_;u_c stepG_ret' Aq hF;u_leave1 H.f_uLoad Aq hF;iterate 2 u_op Aq hF
  refine Bz λw hF=>?_;u_cond true Aq hF;refine Bz λw hF=>?_;refine Jl λkM A=>?_;replace hF:=Aq hF A;clear A;refine⟨rfl,_,rR fB AD rfl rfl (by k_ne) rfl H.f_enable (rh L) (re L) (ri L) (rf L),12,?_⟩;refine CB.of ?_;walk_nrm;refine Bz λw hF=>?_;u_op Aq hF;refine ee rfl λ_ hr=>?_;replace hF:=Aq hF hr;clear hr;refine rM rfl rfl (by k_ne) λB I=>?_;have C:=sg (P:=X.P) H.underlying_tWgP H.underlying_tUP H.room_tWg (rV hF).choose_spec;have K:=λes=>rL (P:=X.P) H.underlying_tWgP H.underlying_tUP H.room_tWg (rV hF).choose_spec es;go_simp;refine I _ _ ⟨?_,?_⟩;.refine rb ?_;intro ex M;have hm:=rN M;simp[go_sem, *]at hm
  clear I B C K;refine Jl λqi Y=>?_;replace hF:=Aq hF Y;clear Y;refine⟨rfl,_,rS ay AD rfl rfl (by k_ne) rfl H.f_acquire (aEB L) (aE9 L) (aEC L) (aEA L) (by simp[FG,Dx]),λaDK hF=>⟨20,?_⟩⟩;walk_nrm;refine Bz λw hF=>?_;u_op Aq hF;refine Bz λw hF=>?_;u_cond false Aq hF;refine Bz λw hF=>?_;u_c stepG_ret' Aq hF;u_leave0 H.f_wait Aq hF;exact Jl λ_ _=>rfl
 rw[G3]at hw;refine⟨_,stepG_cas_miss (v:=(v':Int)*KK) (old:=S) (n:=S+1) rfl rfl (by k_ne) rfl H.f_casU64 (aEJ L) (aEH L) (aEK L) Da (aEI L) rfl rfl rfl hw.cellSt (hw.thaw 0) (by rw[<-U];simp only[KK];omega),20,?_⟩;clear hw;refine CB.of ?_;walk_nrm;u_op Aq hF;refine Bz λw hF=>?_;u_c stepG_ret' Aq hF;u_leave1 H.f_uCas Aq hF;refine Bz λw hF=>?_;u_cond false Aq hF;refine Bz λw hF=>?_;u_c stepG_inBlock Aq hF;u_c stepG_inLoop Aq hF;exact Jl λqh dM=>⟨_,rfl,AD,AD⟩
end
end
section
open Go.Proofs.YtcfhleenecfghaaGreatDoor
open Go.Conc Go.RowKit Go.Conc.Lib Go.ConcR.Gen Go.ConcN.Gen
open Go.ConcN(WgLive RW DWs AtR0 Has)
open Go.ConcR(KK wgBlock WgAt stA smA rd wr mk Payload DC0)
noncomputable def Ru:Ah:={(DU:Ah)with fn:=A6.funcs.size,defers:=[],mode:=.panicking [aFq]}
abbrev AT(b:Nat):A3:=B2 (Z ⟨b,0,J⟩)
def call198(g s r m:Nat):Vp:={target:=.fn (Bo 198) #[AT g,AT s,AT r,AT m],args:=#[]}
noncomputable def gh:DK:=a1'.body.getD l0
noncomputable def P2:Array B8:=match gh with|Hu _ (HY _ ops _)=>ops|_=>#[]
noncomputable def aAP:Array B8:=match gh with|Hu (HY _ ops _) _=>ops|_=>#[]
noncomputable def I'(j:Nat):B8:=P2.getD j DU
def aJS:gh=Hu (HY 0 aAP A9) (HY 1 P2 A5):=rfl
def aXi:P2.size=5:=rfl
def Wh(j)(h:j<5):P2[j]?=Z (I' j):=by unfold I';rw[QP,G8 TE];rfl
def aTi:SN b6 P2 5 (OG 5 A9)=[[0,1,2,3,4],[0,2,1,3,4],[1,0,2,3,4],[1,2,0,3,4],[1,2,3,0,4],[2,0,1,3,4],[2,1,0,3,4],[2,1,3,0,4]]:=A8
def aUc(T):rJ A6 2 0 (G {(Jm 198).at ⟨T,[]⟩ []with mode:=Mp} [Ru]):=by
 refine aDt (g':=G Ru []) rfl (λw=>?_) ?_;.simp[G,B9,I3,a1X,D5,Frame.at,Jm,Ru,aFK,a1',Fc,KH,aFq]
 refine aDt (g':={G Ru []with status:=.finished}) rfl (λw=>?_) ⟨rfl,rfl⟩;simp;rfl
def aJT(g s r m main w):B9 A6 main (l5 A6 (call198 g s r m)) w=Bl (G ((Jm 198).at ⟨#[AT g,AT s,AT r,AT m,AN,AN,AN,AN],[]⟩ [Aw gh]) [Ru]) w #[]:=by simp[l5,call198,B9,I3,callDeferred,Ra,MA,aFK,a1',Fc,KH,G,Fa,Frame.at,Jm,Ru,gh]
section
variable[Bg]
def aYs{Ae C n val}(T)(w)(hK:IQ LN.tWg Ae w/\Has C 0 val w):Xx A6 A9 (RW LN.tWg Ae C n 0 (1-1)) (DWs Ae R9 R9 C n 1) (AtR0 A6 LN.tWg Ae C n 0 1 val) 26 (G ((Jm 198).at ⟨T,[OM 199 #[AT Ae]]⟩ [Ak P2 []]) [Ru]) w:=by u_c stepG_region_end kn_rely hK;u_c stepG_end kn_rely hK;u_in kn_rely hK;rw[stepG_unwind_enter rfl aFL (nm_done LN) rfl];refine⟨by u_nil,?_⟩;let h:=@doneN _ LN A6 qe R9 R9 Ae C n 0 1 val;exact h rfl (aUc _) _ hK
end
end
section
open Go.Proofs.YtcfhleenecfghaaGreatDoor
open Go.Conc Go.RowKit
open Go.ConcN(WgLive RW DWs AtR0 Has)
open Go.ConcR(Payload)
variable{w:A1}{v:A3}{T:zw}{j:Nat}
def aRB{a:HL}{B5 Bn t p}(I:a.eval (Aa 1)=AT B5)(h:w.heap[B5]?=Z (A7 #[EJ (Z Bn)] t p)):(AM a.eval (I' 0)).runT A6 w #[]=(AP (BB (EJ (Z Bn))) w,#[⟨KJ ⟨B5,0,J⟩,A9,A9⟩]):=by
 let ho:(I' 0).op=ED 316 (Aa 1):=rfl;unfold AM;rw[ho];simp only[I];let hc:w.cell? ⟨B5,0,J⟩=Z (EJ (Z Bn)):=by simp[Cr,h]
 simp[go_sem,hc]
def okO:List Nat->List Nat->Bool|_,[]=>A9|d,0::l=>okO (0::d) l|d,1::l=>!d.contains 3&&okO (1::d) l|d,2::l=>!d.contains 3&&okO (2::d) l|d,3::l=>!d.contains 3&&d.contains 1&&d.contains 2&&okO (3::d) l|d,4::l=>d.contains 0&&d.contains 3&&l.isEmpty|_,_=>A9
section
variable[Bg]
structure mr where
 X:GG
 i:Nat
 RO:zy
 AG:zy
 IB:zy
 E:AZ
 BX:A1
 B5:Nat
 br:Nat
 Ay:Nat
 bz:Nat
 bx:Nat
 Kl:A3
 kI:A3
 Q:A3->A1->Prop
 nC:Nat
 val:A3
structure mr.Ok(R:mr):Prop where
 prog:R.X.P=A6
 ty:R.X.ty=LN.tWg
 Ca:∀b,b<CX->R.E.rel b b
 dt:R.AG R.B5
 aWK:R.E.rel R.bz R.br
 rm:R.E.rel R.bx R.Ay
 Ym:R.IB R.Ay
 y5:∀ρ:BP->A3,ρ (Aa 2)=AT R.bz->∀T,∃es,(AM ρ (I' 1)).runT A6 (on R.BX T) #[]=(AP (BB R.Kl) (on R.BX T),es)
 lm:∀ρ:BP->A3,ρ (Aa 3)=AT R.bx->∀T,∃es,(AM ρ (I' 2)).runT A6 (on R.BX T) #[]=(AP (BB R.kI) (on R.BX T),es)
 call:∀T,Ab A6 200 #[R.Kl,R.kI] (on R.BX T) λe w1=>∃v,e=AV v/\R.Q v w1
 msg:∀E v v' w1 w' S,R.E.le E->AK reads E v v'->R.Q v w1->BC reads (Am (ow R.RO) A5) R.RO E w1 w'->JK R.RO R.AG S E->(∀b,R.IB b->S b)->w'.cell? ⟨R.Ay,0,J⟩=Z R.val/\∃M,(∀b,M b->S b/\b≠R.Ay)/\R.X.Nk R.i v' M w'
structure aIi(R:mr)(d:List Nat)(T:zw)(E:AZ)(BX:A1)(S:zy)(w:A1):Prop where
 size:T.size=8
 t1:T.getD 1 AN=AT R.B5
 t2:T.getD 2 AN=AT R.br
 t3:T.getD 3 AN=AT R.Ay
 d4:0∈d->T.getD 4 AN=EJ (Z R.X.Bn)
 d5:1∈d->AK reads E R.Kl (T.getD 5 AN)
 d6:2∈d->AK reads E R.kI (T.getD 6 AN)
 d7:3∈d->∃v,AK reads E v (T.getD 7 AN)/\R.Q v BX
 first:3∉d->BX=R.BX
 le:R.E.le E
 hr:BC reads (Am (ow R.RO) A5) R.RO E BX w
 cls:JK R.RO R.AG S E
 gl:∃t p,w.heap[R.B5]?=Z (A7 #[EJ (Z R.X.Bn)] t p)
 apart:∀b,R.AG b->¬S b/\b<w
 own:∀b,R.IB b->S b
omit[Bg]in theorem JX{t}(h:j≠t):(T.setIfInBounds j v).getD t AN=T.getD t AN:=by simp_all
omit[Bg]in theorem nh(h:j<T):(T.setIfInBounds j v).getD j AN=v:=by simp_all
omit[Bg]in def BC.on{F so RO E w w' T}(h:BC F so RO E (Twin.on w T) w'):BC F so RO E w w':=by assumption
variable{R:mr}
def a_V(K:R.Ok):∀(l d:List Nat)(T:zw)(E:AZ)(BX:A1)(S:zy)(w:A1),okO d l=A5->aIi R d T E BX S w->Way A6 A9 R.AG (AtSend R.X R.i R.Ay R.nC R.val R.AG) S (G ((Jm 198).at ⟨T,[OM 199 #[AT R.X.Ae]]⟩ [Ak P2 l]) [Ru]) w:=by
 intro l;induction l with
 |nil=>intro d T E BX S w h;cases h
 |cons j l ih=>
  intro d T E BX S w U I;have wU:=λb hb=>I.le _ _ (K.Ca b hb);let oX:∀b,¬R.RO b↔(ow R.RO).ob b:=λb=>Sy;match j with
  |0=>
   let hd:(I' 0).dst=Z 4:=rfl;refine Way.bind (Stop:=λS' g' w'=>S'=S/\g'=G ((Jm 198).at ⟨T.setIfInBounds 4 (EJ (Z R.X.Bn)),[OM 199 #[AT R.X.Ae]]⟩ [Ak P2 l]) [Ru]/\Bc R.AG S w w') ?_ ?_
   .refine .step rfl λB hr=>?_;obtain⟨t,p,hch⟩:=I.gl;let hrun:=aRB (a:=⟨T,[OM 199 #[AT R.X.Ae]]⟩) I.t1 (Ar (hr.same _ (AF K.dt)));let H:((Jm 198).at ⟨T,[OM 199 #[AT R.X.Ae]]⟩ [Ak P2 (0::l)]).finish (EJ (Z R.X.Bn))=(Jm 198).at ⟨T.setIfInBounds 4 (EJ (Z R.X.Bn)),[OM 199 #[AT R.X.Ae]]⟩ [Ak P2 l]:=by rw[Vr,Wh 0 A'];show(Jm 198).at (IP _ (I' 0).dst _) _=_;rw[hd];rfl
    refine⟨_,B,_,S,by rw[Se (Wh 0 A') (rfl),H0 rfl hrun rfl,H];rfl,?_,.stop λE7 Dv=>⟨rfl,rfl,hr.trans Dv⟩⟩;refine⟨Ad _,λ_ _ _=>rfl,rfl,rfl,rfl,λb=>⟨AA,λx=>x.elim (λz=>z) λy=>A'⟩,λe he=>?_⟩;have:=Vl he;simp only[a'x]at this;subst this;exact .cell _ _ (AF ⟨K.dt,rfl⟩)
   rintro S' g' w'⟨rfl,rfl,hr⟩;refine ih (0::d) _ E BX S' w' U ?_;refine⟨Ai I.size,by rw[JX A'];exact I.t1,by rw[JX A'];exact I.t2,by rw[JX A'];exact I.t3,λ_=>nh (by rw[I.size];omega),λh=>by rw[JX A'];exact I.d5 (by simpa using h),λh=>by rw[JX A'];exact I.d6 (by simpa using h),λh=>by rw[JX A'];exact I.d7 (by simpa using h),λh=>I.first (Ai h),I.le,I.hr.rely I.cls hr,I.cls,?_,λb hb=>⟨(I.apart b hb).1,Hw (I.apart b hb).2 hr.size⟩,I.own⟩;obtain⟨t,p,hch⟩:=I.gl;exact⟨t,p,Ar (hr.same _ (AF K.dt))⟩
  |1=>
   let hd:(I' 1).dst=Z 5:=rfl;let N:(I' 1).op=ED 138 (Aa 2):=rfl;obtain⟨A,U⟩:=Cp.1 U;have A:=Ai A;obtain rfl:=I.first A;refine((aD5 (static R.RO) (ow:=[]) (ρ:=λx=>match x with|Aa _=>AT R.bz|KN v=>v|It f=>Br (Bo f) #[] #[]|sG _=>AN) (Q:=λv w1=>v=R.Kl/\∃T,w1=on R.BX T) (Wh 1 A') (rfl) (by simp[Jm]) (Af N) (by unfold Ts;rw[N]) (Af N) (λv=>rfl) (λf=>rfl) ?_ ?_ wU I.hr I.cls ?_).keeps I.apart).bind ?_;.intro x hx;rw[N]at hx;simp only[opsOf,DN,ES]at hx;subst hx;show AK reads E (AT R.bz) (T.getD 2 AN);rw[I.t2];exact .ptr ⟨I.le _ _ K.aWK,rfl,rfl⟩
   .intro x hx;rw[N]at hx;cases hx
   .intro C;obtain⟨es,h⟩:=K.y5 (λx=>match x with|Aa _=>AT R.bz|KN v=>v|It f=>Br (Bo f) #[] #[]|sG _=>AN) rfl C;exact⟨_,_,es,h,rfl,C,rfl⟩
   rintro S' g' w'⟨⟨E1,v,v',w1,rfl,hv,⟨rfl,C,rfl⟩,hle,Y,FT⟩,hk⟩;rw[hd];refine ih (1::d) _ E1 R.BX S' w' U ?_;refine⟨Ai I.size,by rw[JX A'];exact I.t1,by rw[JX A'];exact I.t2,by rw[JX A'];exact I.t3,λh=>by rw[JX A'];exact I.d4 (by simpa using h),λ_=>by rwa[nh (by rw[I.size];omega)],λh=>by rw[JX A'];exact(I.d6 (by simpa using h)).mono hle,λh=>absurd (Ai h) A,λ_=>rfl,AZ.le_trans I.le hle,Y.on,FT,?_,hk.apart,λb hb=>hk.grow b (I.own b hb)⟩;obtain⟨t,p,hch⟩:=I.gl;exact⟨t,p,Ar (hk.same _ K.dt)⟩
  |2=>
   let hd:(I' 2).dst=Z 6:=rfl;let N:(I' 2).op=ED 85 (Aa 3):=rfl;obtain⟨A,U⟩:=Cp.1 U;have A:=Ai A;obtain rfl:=I.first A;refine((aD5 (static R.RO) (ow:=[]) (ρ:=λx=>match x with|Aa _=>AT R.bx|KN v=>v|It f=>Br (Bo f) #[] #[]|sG _=>AN) (Q:=λv w1=>v=R.kI/\∃T,w1=on R.BX T) (Wh 2 A') (rfl) (by simp[Jm]) (Af N) (by unfold Ts;rw[N]) (Af N) (λv=>rfl) (λf=>rfl) ?_ ?_ wU I.hr I.cls ?_).keeps I.apart).bind ?_;.intro x hx;rw[N]at hx;simp only[opsOf,DN,ES]at hx;subst hx;show AK reads E (AT R.bx) (T.getD 3 AN);rw[I.t3];exact .ptr ⟨I.le _ _ K.rm,rfl,rfl⟩
   .intro x hx;rw[N]at hx;cases hx
   .intro C;obtain⟨es,h⟩:=K.lm (λx=>match x with|Aa _=>AT R.bx|KN v=>v|It f=>Br (Bo f) #[] #[]|sG _=>AN) rfl C;exact⟨_,_,es,h,rfl,C,rfl⟩
   rintro S' g' w'⟨⟨E1,v,v',w1,rfl,hv,⟨rfl,C,rfl⟩,hle,Y,FT⟩,hk⟩;rw[hd];refine ih (2::d) _ E1 R.BX S' w' U ?_;refine⟨Ai I.size,by rw[JX A'];exact I.t1,by rw[JX A'];exact I.t2,by rw[JX A'];exact I.t3,λh=>by rw[JX A'];exact I.d4 (by simpa using h),λh=>by rw[JX A'];exact(I.d5 (by simpa using h)).mono hle,λ_=>by rwa[nh (by rw[I.size];omega)],λh=>absurd (Ai h) A,λ_=>rfl,AZ.le_trans I.le hle,Y.on,FT,?_,hk.apart,λb hb=>hk.grow b (I.own b hb)⟩;obtain⟨t,p,hch⟩:=I.gl;exact⟨t,p,Ar (hk.same _ K.dt)⟩
  |3=>
   let hd:(I' 3).dst=Z 7:=rfl;let N:(I' 3).op=Em {callee:=NU (It 200),args:=#[Aa 5,Aa 6],argTypes:=#[138,85]}:=rfl;obtain⟨nj,U⟩:=Cp.1 U;obtain⟨aM_,h2⟩:=Cp.1 nj;obtain⟨h3,h1⟩:=Cp.1 aM_;have A:=Ai h3;let h1:1∈d:=Ai h1;let h2:2∈d:=Ai h2;obtain rfl:=I.first A;obtain⟨c,Wv⟩:∃c,Tryz.f200.body=Z c:=⟨_,rfl⟩;refine Way.ctl rfl (λw=>aYR (Wh 3 A') (rfl) (by simp[Jm]) N sM (rfl) Wv) ?_;refine((a_N (static R.RO) oX A9 sM Wv ((static R.RO).laid 200 _ _ (AA (AA ⟨Ac,rfl⟩)) sM Wv).1 ((static R.RO).laid 200 _ _ (AA (AA ⟨Ac,rfl⟩)) sM Wv).2 (λt ht=>by cases ht) ?_ wU I.hr I.cls K.call).keeps I.apart).bind ?_;.simp only[JO,Ee,Iw];exact .cons (I.d5 h1) (.cons (I.d6 h2) .nil)
   rintro S' g' w'⟨⟨E1,v,v',w1,rfl,hv,hq,hle,Y,FT⟩,hk⟩;let H:((Jm 198).at ⟨T,[OM 199 #[AT R.X.Ae]]⟩ [Ak P2 (3::l)]).finish v'=(Jm 198).at ⟨T.setIfInBounds 7 v',[OM 199 #[AT R.X.Ae]]⟩ [Ak P2 l]:=by rw[Vr,Wh 3 A'];show(Jm 198).at (IP _ (I' 3).dst _) _=_;rw[hd];rfl
   rw[H];refine ih (3::d) _ E1 w1 S' w' U ?_;refine⟨Ai I.size,by rw[JX A'];exact I.t1,by rw[JX A'];exact I.t2,by rw[JX A'];exact I.t3,λh=>by rw[JX A'];exact I.d4 (by simpa using h),λh=>by rw[JX A'];exact(I.d5 (by simpa using h)).mono hle,λh=>by rw[JX A'];exact(I.d6 (by simpa using h)).mono hle,λ_=>⟨v,by rwa[nh (by rw[I.size];omega)],hq⟩,λh=>absurd AD h,AZ.le_trans I.le hle,Y,FT,?_,hk.apart,λb hb=>hk.grow b (I.own b hb)⟩;obtain⟨t,p,hch⟩:=I.gl;exact⟨t,p,by rwa[hk.same _ K.dt]⟩
  |4=>
   let N:(I' 4).op=.send (Aa 4) (Aa 7):=rfl;let oB:(I' 4).dst=J:=rfl;obtain⟨vl,hl⟩:=Cp.1 U;obtain⟨h0,h3⟩:=Cp.1 vl;let h0:0∈d:=by simpa using h0
   let h3:3∈d:=by simpa using h3
   obtain rfl:l=[]:=by simpa using hl
   refine .stop λB hr=>?_;obtain⟨v,hv,hq⟩:=I.d7 h3;obtain⟨Ke,M,hM,hmsg⟩:=K.msg E v _ BX B S I.le hv hq (I.hr.rely I.cls hr) I.cls I.own;let hx:(AM (FG ⟨T,[OM 199 #[AT R.X.Ae]]⟩) (I' 4)).run A6 B=AP (sC #[rQ R.X.Bn (T.getD 7 AN) (Aj #[])] A5 l2) B:=by unfold AM;rw[N];let e4:FG ⟨T,[OM 199 #[AT R.X.Ae]]⟩ (Aa 4)=EJ (Z R.X.Bn):=I.d4 h0;show AP (sC #[{chan:=FG ⟨T,[OM 199 #[AT R.X.Ae]]⟩ (Aa 4),send:=Z (T.getD 7 AN),zero:=Aj #[]}] A5 l2) B=_;rw[e4];rfl
   let NA:(AM (FG ⟨T,[OM 199 #[AT R.X.Ae]]⟩) (I' 4)).events A6 B #[]=#[]:=by unfold AM;rw[N];rfl
   refine⟨rfl,I.own _ K.Ym,T.getD 7 AN,Aj #[],#[],M,?_,AD,hM,hmsg,λw' hs TV=>⟨26,?_⟩⟩
   .rw[K.prog,aE2 (Wh 4 A') (rfl) (by simp[Jm]) hx];have:eg A6 (Jm 198).fn ⟨T,[OM 199 #[AT R.X.Ae]]⟩ (I' 4) B=#[]:=by unfold eg;rw[NA];exact Vm ..
    rw[this]
   let hc:w'.cell? ⟨R.Ay,0,J⟩=Z R.val:=by rw[<-Ke];unfold Cr;rw[hs _ (I.own _ K.Ym)]
   let ht:=aYs (n:=R.nC) T w' ⟨by rwa[K.ty]at TV,hc⟩;rw[K.prog,K.ty];let H:(G ((Jm 198).at ⟨T,[OM 199 #[AT R.X.Ae]]⟩ [Ak P2 [4]]) [Ru]).finishComm A6 #[rQ R.X.Bn (T.getD 7 AN) (Aj #[])] l2 0 AN A9=G ((Jm 198).at ⟨T,[OM 199 #[AT R.X.Ae]]⟩ [Ak P2 []]) [Ru]:=by unfold aa7;show({G ..with frame:=an ..,status:=CZ,offers:=J}:AY)=_;simp only[G];rw[Vr,Wh 4 A'];show({frame:=(Jm 198).at (IP _ (I' 4).dst _) _,..}:AY)=_;rw[oB];rfl
   rwa[H]
  |_+5=>cases U
def a_c(K:R.Ok)(hr:BC reads (Am (ow R.RO) A5) R.RO R.E R.BX w)(N:JK R.RO R.AG R.IB R.E)(hch:∃t p,w.heap[R.B5]?=Z (A7 #[EJ (Z R.X.Bn)] t p))(I:∀b,R.AG b->¬R.IB b/\b<w):Way R.X.P A9 R.AG (AtSend R.X R.i R.Ay R.nC R.val R.AG) R.IB (l5 R.X.P (call198 R.X.Ae R.B5 R.br R.Ay)) w:=by
 rw[K.prog];refine Way.ctl rfl (aJT _ _ _ _ _) ?_;rw[aJS];refine Way.ctl rfl (λ_=>stepG_seq) ?_;refine Way.ctl rfl (λ_=>stepG_region) ?_;let A:(aAP.getD 0 DU).op=b3 {callee:=NU (It 199),args:=#[Aa 0],argTypes:=#[325]}:=rfl;refine Way.ctl rfl (λ_=>stepG_defer A8 (rfl) (by simp[Jm]) A) ?_;let e:#[Aa 0].map (FG ⟨#[AT R.X.Ae,AT R.B5,AT R.br,AT R.Ay,AN,AN,AN,AN],[]⟩)=#[AT R.X.Ae]:=by simp[FG]
 rw[e];refine Way.ctl rfl (λ_=>stepG_region_end) ?_;refine Way.draw (rfl) λo ho=>?_;rw[aXi,aTi]at ho;let U:okO [] o=A5:=by simp at ho;rcases ho with rfl|rfl|rfl|rfl|rfl|rfl|rfl|rfl<;>rfl
 exact a_V K o [] #[AT R.X.Ae,AT R.B5,AT R.br,AT R.Ay,AN,AN,AN,AN] R.E R.BX R.IB w U ⟨rfl,rfl,rfl,rfl,λh=>(by cases h),λh=>(by cases h),λh=>(by cases h),λh=>(by cases h),λ_=>rfl,AZ.le_refl _,hr,N,hch,I,λ_ h=>h⟩
end
end
section
open Go.Proofs.YtcfhleenecfghaaGreatDoor
open Go.Conc Go.RowKit
variable{w:A1}{b:Ah}{ops:Array B8}{ρ:BP->A3}{a:HL}{cs:List Ah}{q:List Cd}{Ay i j:Nat}
section
variable{P:Ao}{main:Bool}{AG S:zy}{Stop:zv}
def Way.oper{i rest o w}(ho:ops[i]?=Z o)(A:Gd o (I4 ops a.tmps)=A5)(U:b.kind≠Jk)(h:∀I,Bc AG S w I->∃v w2 es S',(AM a.eval o).runT P I #[]=(AP (BB v) w2,es)/\F8 AG S I w2 es S'/\Way P main AG Stop S' (G (b.at (a.put o.dst v) (Ak ops rest::q)) cs) w2):Way P main AG Stop S (G (b.at a (Ak ops (i::rest)::q)) cs) w:=by
 refine .step rfl λI hr=>?_;let⟨v,w2,es,S',hrun,hgt,hk⟩:=h I hr;let N:(b.at a (Ak ops (i::rest)::q)).finish v=b.at (a.put o.dst v) (Ak ops rest::q):=by rw[Vr,ho];rfl
 refine⟨_,w2,_,S',by rw[Se ho A,H0 (by simpa[Frame.at]using U) hrun rfl,N];rfl,⟨hgt.size,hgt.same,hgt.os,hgt.output,hgt.tape,hgt.grow,λe he=>hgt.evs e (Vl he)⟩,hk⟩
def Way.pure{i rest o w}(v)(ho:ops[i]?=Z o)(U:Gd o (I4 ops a.tmps)=A5)(N:b.kind≠Jk)(h:∀w,(AM a.eval o).runT P w #[]=(AP (BB v) w,#[]))(hk:Way P main AG Stop S (G (b.at (a.put o.dst v) (Ak ops rest::q)) cs) w):Way P main AG Stop S (G (b.at a (Ak ops (i::rest)::q)) cs) w:=Way.oper ho U N λI hr=>⟨v,I,#[],S,h I,F8.idle ..,hk.rely hr⟩
def Way.adP{i rest o w}(ho:ops[i]?=Z o)(A:Gd o (I4 ops a.tmps)=A5)(U:b.kind≠Jk)(h:∀I,Bc AG S w I->∃w2 es S',(AM a.eval o).runT P I #[]=(AP JN w2,es)/\F8 AG S I w2 es S'/\Way P main AG Stop S' (G (b.at (a.put o.dst AN) (Ak ops rest::q)) cs) w2):Way P main AG Stop S (G (b.at a (Ak ops (i::rest)::q)) cs) w:=by
 refine .step rfl λI hr=>?_;let⟨w2,es,S',hrun,hgt,hk⟩:=h I hr;let N:(b.at a (Ak ops (i::rest)::q)).finish AN=b.at (a.put o.dst AN) (Ak ops rest::q):=by rw[Vr,ho];rfl
 refine⟨_,w2,_,S',by rw[Se ho A,H0 (by simpa[Frame.at]using U) hrun rfl,N];rfl,⟨hgt.size,hgt.same,hgt.os,hgt.output,hgt.tape,hgt.grow,λe he=>hgt.evs e (Vl he)⟩,hk⟩
end
noncomputable def WW:DK:=Tryz.f126.body.getD l0
def fstC:DK->DK|Hu x _=>x|c=>c
def sndC:DK->DK|Hu _ y=>y|c=>c
def R1:DK->DK|ky _ c|ed c=>c|c=>c
def IL:DK->Array B8|HY _ ops _=>ops|_=>#[]
noncomputable def c3:DK:=sndC (sndC (sndC WW))
noncomputable def o2:Array B8:=IL (fstC (sndC (sndC WW)))
noncomputable def Ly:Array B8:=IL (fstC (fstC c3))
noncomputable def ME:DK:=R1 (R1 (sndC (fstC c3)))
noncomputable def KC:Array B8:=IL (fstC ME)
noncomputable def fw:DK:=R1 (fstC (sndC (sndC ME)))
noncomputable def P':Array B8:=IL (fstC fw)
noncomputable def VM:Array B8:=IL (fstC (sndC fw))
noncomputable def LP:Array B8:=IL (sndC (sndC fw))
noncomputable def P0:Array B8:=IL (sndC (sndC (sndC ME)))
noncomputable def XQ:Array B8:=IL (fstC (sndC c3))
noncomputable def Pk:DK:=sndC (sndC c3)
def abG:c3=Hu (Hu (HY 3 Ly A9) (ky 0 (ed ME))) (Hu (HY 9 XQ A9) Pk):=rfl
def aac:ME=Hu (HY 4 KC A9) (Hu (kz (Aa 17) l0 (.exit 0)) (Hu (ky 1 fw) (HY 8 P0 A9))):=rfl
def aab:fw=Hu (HY 5 P' A9) (Hu (HY 6 VM A9) (HY 7 LP A9)):=rfl
noncomputable def SM(n:Nat)(D:List Nat)(s:FC):Option (Op×Option Nat):=match s.2 with
 |Ak ops (i::_)::_=>match ops[i]? with
  |Z o=>if Gd o (kN n s.1 ops)&&To A6 Hh FM [] 8 o.op&&Ts A6 o&&!P8 o.op&&(opsOf o.op).all (XS D)then Z (o.op,o.dst)else J
  |J=>J
 |_=>J
noncomputable def qI(s:FC):FC:=(s.1,(EB s 0 CN).2)
noncomputable def yS(s:FC)(d:Option Nat)(u:A3):FC:=(match d with|Z e=>BQ s.1 e u|J=>s.1,(EB s 0 u).2)
section
variable{Wb R gc:zy}{Post:zv}{f n e g:Nat}{D:List Nat}{cs cs':List Ah}{c':Ah}{w AU:A1}{s:FC}{u:A3}{p:Op}{d:Option Nat}{lc:Option Nat×List Vp}
theorem Ap.op(S:Ap n D AU gc Wb R w s.1)(Q:A3->A1->Prop)(ho:SM n D (BM n D s)=Z (p,d))(hl:∀x N(o:B8),o.op=p->∃U u h,(AM (Ed n (BM n D s).1) o).run A6 (on (w.at x) N)=AP U h/\Sb U u/\Q u h)(k:∀I u h w',AK CK (C7 I) u u->Q u h->lv R I w->w'.heap=h.heap->CC Wb I w'->Fz lc f n cs Wb w' (yS (BM n D s) d u) Post):Fz lc f n cs Wb w s Post:=by
 have A:=S.V.BM;refine Fz.BM (D:=D) λm=>?_;generalize BM n D s=s' at ho hl k A⊢;let⟨v,l⟩:=s';unfold SM at ho;split at ho
 .rename_i ops i rest q B;subst B;split at ho
  .rename_i o hi;split at ho
   .rename_i hb;cases ho;let⟨hb,h4⟩:=Cp.1 hb;let⟨hb,h3⟩:=Cp.1 hb;let⟨hb,h2⟩:=Cp.1 hb;let⟨hw,h1⟩:=Cp.1 hb;let C:∀N,∃U u h,(AM (FG ⟨Ax n v,lc.2⟩) o).run A6 (on (w.at m) N)=AP U h/\Sb U u/\Q u h:=λN=>As Ug (hl m N o rfl);refine .yZ Q (λw=>dx hi (Ar qm) λc e=>by rw[e]at h1;cases h1) rfl h1 h2 (Ai h3) (λx hx=>?_) (S.H.at m) C λI u h w' a b c e g=>?_;.rw[Ug];exact A.op (Ha.1 h4 x hx)
    let hk:=k I u h w' a b c e g;rw[Uh hi rfl];cases hd:o.dst with|none=>rwa[hd]at hk|some d=>rw[hd]at hk;show Ce Wb (G (Fr lc f ((Ax n v).setIfInBounds d u) (Ak ops rest::q)) cs) w' Post;rwa[Qj]
   cases ho
  grind
 grind
def Ap.jZ(S:Ap n D AU gc Wb R w s.1)(Q:A3->A1->Prop)(ho:SM n D (BM n D s)=Z (p,Z e))(hl:∀x U(o:B8),o.op=p->∃N u h,(AM (Ed n (BM n D s).1) o).run A6 (on (w.at x) U)=AP N h/\Sb N u/\Q u h)(hs:∀u h,Q u h->∀b,gc b->h.heap[b]?=w.heap[b]?)(k:∀I u h w',Ap n D AU gc Wb I w' (EB (BM n D s) e u).1->lv R I w->w'.heap=h.heap->Q u h->Fz lc f n cs Wb w' (EB (BM n D s) e u) Post):Fz lc f n cs Wb w s Post:=S.op Q ho hl λI u h w' hv hq hg e A=>k I u h w' ⟨A,(S.V.BM.mono hg.1).upd λ_=>hv,λb hb=>⟨hg.1 b (S.S b hb).1,by rw[e,hs u h hq b hb];exact(S.S b hb).2⟩⟩ hg e hq
def Ap.calm(S:Ap n D AU gc Wb R w s.1)(u)(ho:SM n D (BM n D s)=Z (p,Z e))(hr:∀x N(o:B8),o.op=p->∃I,(AM (Ed n (BM n D s).1) o).run A6 (on (w.at x) N)=AP (BB u) I/\I.heap=w.heap)(k:∀R' w',Ap n D AU gc Wb R' w' (EB (BM n D s) e u).1->(∀b,R b->R' b)->w'.heap=w.heap->Fz lc f n cs Wb w' (EB (BM n D s) e u) Post):Fz lc f n cs Wb w s Post:=S.op (λu' I=>u'=u/\I.heap=w.heap) ho (λx N o h=>let⟨I,h1,h2⟩:=hr x N o h;⟨_,_,I,h1,AA rfl,rfl,h2⟩) λU u' I w' hv⟨e1,e2⟩hg e3 A=>by subst e1;let e4:=e3.trans e2;exact k U w' ⟨A,(S.V.BM.mono hg.1).upd λ_=>hv,λb hb=>⟨hg.1 b (S.S b hb).1,As e4 ((S.S b hb).2)⟩⟩ hg.1 e4
def Ap.g_(S:Ap n D AU gc Wb R w s.1)(c)(U:Nat->A3)(ho:SM n D (BM n D s)=Z (p,Z e))(hr:∀w(o:B8),o.op=p->(AM (Ed n (BM n D s).1) o).run A6 w=AP (BB (U w.heap.size)) (w.alloc c))(k:∀R' w',Ap n D AU gc Wb R' w' (EB (BM n D s) e (U w.heap.size)).1->(∀b,R b->R' b)->w'.heap[w.heap.size]?=Z c->w'.heap.size=w.heap.size+1->(∀b,b<w.heap.size->w'.heap[b]?=w.heap[b]?)->Fz lc f n cs Wb w' (EB (BM n D s) e (U w.heap.size)) Post):Fz lc f n cs Wb w s Post:=S.op (λu' I=>u'=U (AR w)/\I.heap=w.heap.push c) ho (λx T0 o h=>⟨_,_,_,hr _ o h,AA rfl,rfl,rfl⟩) λN u' I w' hv⟨e1,e2⟩hg e3 A=>by subst e1;let hs:∀b,b<AR w->JE b w' w:=λb hb=>BA;exact k N w' ⟨A,(S.V.BM.mono hg.1).upd λ_=>hv,λb hb=>⟨hg.1 b (S.S b hb).1,(hs b (S.H.closed.lt (S.S b hb).1)).trans (S.S b hb).2⟩⟩ hg.1 BA BA hs
def Ap.alloc(S:Ap n D AU gc Wb R w s.1)(c)(ho:SM n D (BM n D s)=Z (p,Z e))(hr:∀w(o:B8),o.op=p->(AM (Ed n (BM n D s).1) o).run A6 w=AP (BB (AT w.heap.size)) (w.alloc c))(k:∀R' w',Ap n D AU gc Wb R' w' (EB (BM n D s) e (AT w.heap.size)).1->(∀b,R b->R' b)->w'.heap[w.heap.size]?=Z c->w'.heap.size=w.heap.size+1->(∀b,b<w.heap.size->w'.heap[b]?=w.heap[b]?)->Fz lc f n cs Wb w' (EB (BM n D s) e (AT w.heap.size)) Post):Fz lc f n cs Wb w s Post:=S.g_ c AT ho hr k
def Ap.store(S:Ap n D AU gc Wb R w s.1)(b)(c)(hn:¬gc b)(ho:SM n D (BM n D s)=Z (p,J))(hr:∀x N(o:B8),o.op=p->∃I,(AM (Ed n (BM n D s).1) o).run A6 (on (w.at x) N)=AP JN I/\I.heap.size=w.heap.size/\(∀z,z≠b->I.heap[z]?=w.heap[z]?)/\I.heap[b]?=Z c)(k:∀R' w',Ap n D AU gc Wb R' w' (qI (BM n D s)).1->(∀b,R b->R' b)->w'.heap.size=w.heap.size->(∀z,z≠b->w'.heap[z]?=w.heap[z]?)->w'.heap[b]?=Z c->Fz lc f n cs Wb w' (qI (BM n D s)) Post):Fz lc f n cs Wb w s Post:=S.op (λ_ I=>I.heap.size=AR w/\(∀z,z≠b->I.heap[z]?=w.heap[z]?)/\I.heap[b]?=Z c) ho (λx N o h=>let⟨I,h1,h2⟩:=hr x N o h;⟨_,_,I,h1,AF ⟨rfl,rfl⟩,h2⟩) λU u' I w' hv⟨e1,e2,e3⟩hg e4 A=>by rw[<-e4]at e1 e2 e3;exact k U w' ⟨A,S.V.BM.mono hg.1,λz hz=>⟨hg.1 z (S.S z hz).1,(e2 z λh=>hn (h▸hz)).trans (S.S z hz).2⟩⟩ hg.1 e1 e2 e3
theorem Cb.qX{v}(h:Cb n [] R v):Ey R (Ax n v):=VY λj u hu=>by
 by_cases hj:j<n;.rw[WS hj]at hu;cases hu;exact h j hj rfl
 rw[Ml (by simp[Ax];omega)]at hu;grind
def Ap.piece(S:Ap n [] AU gc Wb R w s.1)(K){c r}(Q:(Nat->A3)->A1->Prop)(hc:(D2 n [] K s).2=Aw c::r)(hB:(okF f&&J2 A6 Hh FM [] 8 c&&(FM f).isEmpty)=A5)(h:∀x T0,c.wp A6 (λe a' w'=>e=Vq/\a'.defers=[]/\∃v',a'.tmps=Ax n v'/\Q v' w') ⟨Ax n (D2 n [] K s).1,[]⟩ (on (w.at x) T0))(k:∀N U I w',Q U I->w'.heap=I.heap->Cb n [] N U->(∀b,R b->N b)->CC Wb N w'->Be f n cs Wb w' (U,r) Post):Be f n cs Wb w s Post:=by let⟨hB,h3⟩:=Cp.1 hB;let⟨h1,h2⟩:=Cp.1 hB;let⟨fn,c1,hf,_,_⟩:=dX h1;refine du (D:=[]) K w.drawn λm=>?_;show Ce Wb (G ((B5 f).at ⟨Ax n (D2 n [] K s).1,[]⟩ (D2 n [] K s).2) _) _ Post;rw[hc];refine .piece (Q:=λT I=>∃v',T=Ax n v'/\Q v' I) hf (Ai h3) h2 (Cb.D2 K S.V).qX (S.H.at m) (h m) ?_;rintro N B I w'⟨v',rfl,hq⟩e hT hR A;exact k N v' I w' hq e (λj hj _=>Ey.nth hT j (WS hj)) hR A
theorem Ap.tail(S:Ap n [] AU gc Wb R w s.1)(K){c fn}(Q:A3->A1->Prop)(hf:A6.funcs[f]?=Z fn)(hc:(D2 n [] K s).2=[Aw c])(hB:(J2 A6 Hh FM [] 8 c&&(FM f).isEmpty)=A5)(h:∀x U,c.wp A6 (bodyPost A6 fn λe I=>∃v,e=AV v/\Q v I) ⟨Ax n (D2 n [] K s).1,[]⟩ (on (w.at x) U))(k:∀N v I w',Q v I->w'.heap=I.heap->AK CK (C7 N) v v->(∀b,R b->N b)->CC Wb N w'->Ce Wb (G (c'.finish v) cs') w' Post):Be f n (c'::cs') Wb w s Post:=by let⟨h2,h3⟩:=Cp.1 hB;refine du (D:=[]) K w.drawn λm=>?_;show Ce Wb (G ((B5 f).at ⟨Ax n (D2 n [] K s).1,[]⟩ (D2 n [] K s).2) _) _ Post;rw[hc];exact .tail hf (by simp_all) h2 (Cb.D2 K S.V).qX (S.H.at m) (h m) k
end
theorem abE(h:i<ops):ops[i]?=Z (ops.getD i DU):=by simp_all
def aBt{n:Nat}(I:ρ (Aa 16)=j)(h:ρ (Aa 15)=n)(w):(AM ρ (KC.getD 0 DU)).runT A6 w #[]=(AP (BB (Ag (BK (j<n)))) w,#[]):=by let N:(KC.getD 0 DU).op=KM .lss 3 (Aa 16) (Aa 15) 3:=rfl;unfold AM;rw[N];simp[I,h,go_sem]
def aX1{bl off cap n:Nat}(h:ρ (Aa 14)=A0 (Z ⟨bl,off,J⟩) n cap)(I:ρ (Aa 16)=j)(hj:j<n)(w):(AM ρ (P'.getD 0 DU)).runT A6 w #[]=(AP (BB (B2 (Z ⟨bl,off+j*2,J⟩))) w,#[]):=by let N:(P'.getD 0 DU).op=.indexAddr 57 (Aa 14) (Aa 16):=rfl;unfold AM;rw[N];simp[h,I,go_sem,hj]
def run_load{bl off:Nat}{p v:zz}(h:ρ (Aa 18)=B2 (Z ⟨bl,off,J⟩))(hp:w.cell? ⟨bl,off,J⟩=Z (A4 p))(hv:w.cell? ⟨bl,off+1,J⟩=Z (A4 v)):(AM ρ (P'.getD 1 DU)).runT A6 w #[]=(AP (BB (AH #[p,v])) w,#[⟨KJ ⟨bl,off,J⟩,A9,A9⟩,⟨KJ ⟨bl,off+1,J⟩,A9,A9⟩]):=by let I:(P'.getD 1 DU).op=ED 85 (Aa 18):=rfl;unfold AM;rw[I];simp[h,go_sem,hp,hv]
def aW_(w):(AM ρ (P'.getD 2 DU)).runT A6 w #[]=(AP (BB (AT w)) {w with heap:=w.heap.push (A7 #[A4 B7,A4 B7] 85)},#[]):=by rfl
theorem pw{b c t z v}(h:w.heap[b]?=Z (A7 c t z)):(w.setCell ⟨b,i,J⟩ v).heap[b]?=Z (A7 (c.setIfInBounds i v) t z):=by grind[QW,VI]
def RE(w:A1)(Ay:Nat)(p v:zz):A1:=(w.setCell ⟨Ay,0,J⟩ p).setCell ⟨Ay,1,J⟩ v
def aUS{p v:zz}{x y:A3}(hm:w.heap[Ay]?=Z (A7 #[x,y] 85)):(RE w Ay p v).heap[Ay]?=Z (A7 #[p,v] 85):=by unfold RE;rw[pw (pw hm)];simp
theorem aAp{b p v}(h:b≠Ay):(RE w Ay p v).heap[b]?=w.heap[b]?:=by grind[RE,QW,O7]
theorem yp(w)(Ay)(p v):(RE w Ay p v).heap.size=w:=by grind[RE,QW]
def run_store{p v:zz}{x y:A3}(h8:ρ (Aa 8)=AT Ay)(U:ρ (Aa 19)=AH #[p,v])(hm:w.heap[Ay]?=Z (A7 #[x,y] 85)):(AM ρ (P'.getD 3 DU)).runT A6 w #[]=(AP JN (RE w Ay p v),#[⟨KJ ⟨Ay,0,J⟩,A5,A9⟩,⟨KJ ⟨Ay,1,J⟩,A5,A9⟩]):=by
 let A:(P'.getD 3 DU).op=La 85 (Aa 8) (Aa 19):=rfl;let c0:w.cell? ⟨Ay,0,J⟩=x:=by simp[Cr,hm]
 let N:w.frozen? ⟨Ay,0,J⟩=A9:=by simp[fM,hm]
 let I:=pw (i:=0) (v:=p) hm;let c1:(w.setCell ⟨Ay,0,J⟩ p).cell? ⟨Ay,1,J⟩=y:=by simp[Cr,I]
 let z1:(w.setCell ⟨Ay,0,J⟩ p).frozen? ⟨Ay,1,J⟩=A9:=by simp[fM,I]
 unfold AM RE;rw[A];let h:∀(w:A1)(b i:Nat)(x:A3)(s:zz)(es:Array C5),Cf w b i x->w.frozen? ⟨b,i,J⟩=A9->(store ⟨b,i,J⟩ s).events A6 w es=es.push ⟨KJ ⟨b,i,J⟩,A5,A9⟩:=by intro w b i x s es hc hz;unfold a1K store;rw[aK AD AD,hc];simp only[hz];rfl
 simp[h8,U,go_sem,c0,N,c1,z1];rw[h _ _ _ _ _ _ c0 N,h _ _ _ _ _ _ c1 z1];rfl
theorem aWv{x6 x5 x2 A}(h6:ρ (Aa 6)=x6)(h5:ρ (Aa 5)=x5)(h2:ρ (Aa 2)=x2)(h8:ρ (Aa 8)=A)(w):(AM ρ (LP.getD 0 DU)).runT A6 w #[]=(AP (BB (Br (Bo 198) #[] #[x6,x5,x2,A])) w,#[]):=by have h:(LP.getD 0 DU).op=b4 (Bo 198) #[] #[Aa 6,Aa 5,Aa 2,Aa 8]:=rfl;simp_all[AM,Instr.makeFunc]
def aWx{x6 x5 x2 A}(h:ρ (Aa 21)=Br (Bo 198) #[] #[x6,x5,x2,A])(w):(AM ρ (LP.getD 1 DU)).runT A6 w #[]=(AP (.spawn {target:=.fn (Bo 198) #[x6,x5,x2,A],args:=#[]}) w,#[]):=by let I:(LP.getD 1 DU).op=.go {callee:=NU (Aa 21),args:=#[],argTypes:=#[]}:=rfl;unfold AM;rw[I];simp[h,go_sem,U3]
def aWZ(hc:ρ (KN (AB AJ 1))=AB AJ 1)(h:ρ (Aa 16)=j)(hj:j<9223372036854775807)(w):(AM ρ (P0.getD 0 DU)).runT A6 w #[]=(AP (BB (j+1:Nat)) w,#[]):=by let I:(P0.getD 0 DU).op=KM .add 3 (Aa 16) (KN (AX 1)) 3:=rfl;unfold AM;rw[I];simp[h,hc,go_sem];rw[RU];omega
theorem run_move{x}(h:ρ (Aa 22)=x)(w):(AM ρ (P0.getD 1 DU)).runT A6 w #[]=(AP (BB x) w,#[]):=by have I:(P0.getD 1 DU).op=.move (Aa 22):=rfl;simp_all[AM]
theorem Ce.draw{Wb:zy}{id:Nat}{Post:zv}(k:∀o∈SN b6 ops ops (OG ops A9),∀d,Ce Wb (G (b.at a (Ak ops o::q)) cs) (w.at d) Post):Ce Wb (G (b.at a (Aw (HY id ops A5)::q)) cs) w Post:=by
 refine .Km (Stop:=λg1 I=>∃o∈SN b6 ops ops (OG ops A9),g1=G (b.at a (Ak ops o::q)) cs/\∃d,I=w.at d) (.step rfl λd=>⟨_,_,#[],Du Wb (AR w),aE3,⟨Ad _,λ_ _ _=>rfl,rfl,rfl,rfl,λb=>⟨λx=>AA x,λx=>x.elim (λz=>z) λy=>absurd y.2 (a2j.2 y.1)⟩,λe he=>by simp at he⟩,.stop λh=>?_⟩) ?_;.refine⟨_,?_,rfl,h,rfl⟩;exact yb ..
 grind
def dY(Nt:Nat->List Nat)(pre:List Nat)(Pc:List (List Nat))(D:Nat->Bool):List Nat->Bool|[]=>pre.all D&&Pc.contains []|i::r=>if pre.all D then Pc.contains (i::r)else pre.contains i&&(!D i&&((Nt i).all D&&dY Nt pre Pc (λj=>j==i||D j) r))
section
variable{Wb R gc:zy}{Post:zv}{f n e g m id:Nat}{D:List Nat}{cs:List Ah}{w AU:A1}{s:FC}{az:zw}{u:A3}{Q:A3->A1->Prop}{ops:Array B8}{q:List Cd}{Nt:Nat->List Nat}{pre:List Nat}{Pc:List (List Nat)}{Fu:Nat->A3}{dst:Nat->Nat}
def Ap.qn(S:Ap n D AU gc Wb R w s.1)(hc:Lj n s=Z (g,az,e))(hF:okF g=A5)(hk:HJ g az Wb R w Q)(k:∀h R' u w',Ap n D AU gc h R' w' (EB s e u).1->(∀b,R b->R' b/\w'.heap[b]?=w.heap[b]?)->Q u w'->Be f n cs h w' (EB s e u) Post):Be f n cs Wb w s Post:=ui hc hF λx c'=>(hk x c' cs).bind λh I w'⟨R',u,h1,h2,h3,h4,h5,h6⟩=>.here ⟨u,h1,k h R' u w' ⟨h4,(S.V.mono h3).upd λ_=>h2,λb hb=>⟨h3 b (S.S b hb).1,(h5 b (S.S b hb).1).trans (S.S b hb).2⟩⟩ (λb hb=>⟨h3 b hb,h5 b hb⟩) h6⟩
theorem zb(h:RJ n D s=J):BM n D s=s:=by grind[BM,D2]
def Ap.kQ(S:Ap n D AU gc Wb R w s.1)(hz:RJ n D s=J)(hc:Lj n s=Z (g,az,e))(ha:(Rs D s&&Hh g&&okF g)=A5)(h:∀T x,Ab A6 g az (on (w.at x) T) λe I=>∃u,e=AV u/\Q u I/\∀b,b<w.heap.size->I.heap[b]?=w.heap[b]?)(k:∀N R' u w',Ap n D AU gc N R' w' (EB s e u).1->(∀b,R b->R' b/\w'.heap[b]?=w.heap[b]?)->(∃I,w'.heap=I.heap/\Q u I)->Be f n cs N w' (EB s e u) Post):Be f n cs Wb w s Post:=by let e1:=zb hz;exact S.lone (Ar e1) (Ar e1) h (Ar e1)
def Ap.IM{p}(S:Ap n D AU gc Wb R w s.1)(u)(hz:RJ n D s=J)(ho:SM n D s=Z (p,Z e))(hr:∀x I(o:B8),o.op=p->∃h,(AM (Ed n s.1) o).run A6 (on (w.at x) I)=AP (BB u) h/\h.heap=w.heap)(k:∀R' w',Ap n D AU gc Wb R' w' (EB s e u).1->(∀b,R b->R' b)->w'.heap=w.heap->Be f n cs Wb w' (EB s e u) Post):Be f n cs Wb w s Post:=by let e1:=zb hz;exact S.calm u (Ar e1) (Ar e1) BA
def Ap.kR(S:Ap n D AU gc Wb R w s.1)(hz:RJ n D s=Z (EB s e u))(k:∀m,Ap n D AU gc Wb R (w.at m) (EB s e u).1->Be f n cs Wb (w.at m) (EB s e u) Post):Be f n cs Wb w s Post:=aCI hz λm=>k m ⟨S.H.at m,S.V.st hz,S.S⟩
def aDc(n:Nat)(D:List Nat)(AU:A1)(gc:zy)(Fu:Nat->A3)(pre:List Nat)(dst:Nat->Nat)(F:Nat->A3->zy->A1->Prop)(E:Nat->Bool)(Wb R:zy)(w:A1)(v:Nat->A3):Prop:=Ap n D AU gc Wb R w v/\(∀j,(∀i∈pre,j≠dst i)->v j=Fu j)/\∀i∈pre,E i=A5->F i (v (dst i)) R w
theorem Ap.any(F)(hd:∀i∈pre,∀j∈pre,dst i=dst j->i=j)(hF:∀i u R w R' w',F i u R w->(∀b,R b->R' b/\w'.heap[b]?=w.heap[b]?)->F i u R' w')(step:∀i∈pre,∀Wb R w v rest,Ap n D AU gc Wb R w v->(∀j,(∀i∈pre,j≠dst i)->v j=Fu j)->(∀j∈Nt i,F j (v (dst j)) R w)->(∀N R' u w',Ap n D AU gc N R' w' (BQ v (dst i) u)->(∀b,R b->R' b/\w'.heap[b]?=w.heap[b]?)->F i u R' w'->Be f n cs N w' (BQ v (dst i) u,Ak ops rest::q) Post)->Be f n cs Wb w (v,Ak ops (i::rest)::q) Post)(I:∀Wb R w v rest,rest∈Pc->Ap n D AU gc Wb R w v->(∀j,(∀i∈pre,j≠dst i)->v j=Fu j)->(∀i∈pre,F i (v (dst i)) R w)->Be f n cs Wb w (v,Ak ops rest::q) Post)(U:∀i∈pre,∀j∈Nt i,j∈pre):∀(o:List Nat)(E:Nat->Bool)(Wb R:zy)(w:A1)(v:Nat->A3),dY Nt pre Pc E o=A5->aDc n D AU gc Fu pre dst F E Wb R w v->Be f n cs Wb w (v,Ak ops o::q) Post
 |[],E,Wb,R,w,v,ho,⟨h1,h2,h3⟩=>by grind[dY]
 |i::r,E,Wb,R,w,v,ho,⟨h1,h2,h3⟩=>by
  unfold dY at ho;split at ho;.grind
  simp at ho;let⟨hi,_,hdp,ho⟩:=ho;have hi:=Ai hi;refine step i hi Wb R w v r h1 h2 (λj hj=>h3 j (U i hi j hj) (hdp j hj)) λN R' u w' S' hk hf=>Ap.any F hd hF step I U r _ N R' w' _ ho ⟨S',λj hj=>?_,λj hj hE=>?_⟩;.show(if j=dst i then u else v j)=_;rw[if_neg (hj i hi)];exact h2 j hj
  show F j (if dst j=dst i then u else v (dst j)) R' w';by_cases e:j=i;.subst e;rwa[if_pos rfl]
  rw[if_neg λh=>e (hd j hj i hi h)];exact hF _ _ _ _ _ _ (h3 j hj (by simpa[e]using hE)) hk
theorem Ap.drawn(S:Ap n D AU gc Wb R w Fu)(Nt)(pre)(Pc)(dst:Nat->Nat)(hord:(SN b6 ops ops (OG ops A9)).all (dY Nt pre Pc λ_=>A9)=A5)(hd:(pre.all λi=>pre.all λj=>i==j||!dst i==dst j)=A5)(U:(pre.all λi=>(Nt i).all λj=>pre.contains j)=A5)(F:Nat->A3->zy->A1->Prop)(hF:∀i u R w R' w',F i u R w->(∀b,R b->R' b/\w'.heap[b]?=w.heap[b]?)->F i u R' w')(step:∀i∈pre,∀Wb R w v rest,Ap n D AU gc Wb R w v->(∀j,(∀i∈pre,j≠dst i)->v j=Fu j)->(∀j∈Nt i,F j (v (dst j)) R w)->(∀N R' u w',Ap n D AU gc N R' w' (BQ v (dst i) u)->(∀b,R b->R' b/\w'.heap[b]?=w.heap[b]?)->F i u R' w'->Be f n cs N w' (BQ v (dst i) u,Ak ops rest::q) Post)->Be f n cs Wb w (v,Ak ops (i::rest)::q) Post)(I:∀Wb R w v rest,rest∈Pc->Ap n D AU gc Wb R w v->(∀j,(∀i∈pre,j≠dst i)->v j=Fu j)->(∀i∈pre,F i (v (dst i)) R w)->Be f n cs Wb w (v,Ak ops rest::q) Post):Be f n cs Wb w (Fu,Aw (HY id ops A5)::q) Post:=by
 refine Ce.draw (a:=⟨Ax n Fu,[]⟩) λo ho d=>?_;refine Ap.any F (λi hi j hj e=>?_) hF step I (λi hi j hj=>?_) o _ Wb R _ Fu (Ha.1 hord o ho) ⟨⟨S.H.at d,S.V,S.S⟩,λ_ _=>rfl,λi _ h=>BA⟩;.grind
 grind
def Ap.cA(S:Ap n D AU gc Wb R w s.1)(ops)(q)(hs:(BM n D s).2=Aw (HY id ops A5)::q)(Nt)(pre)(Pc)(dst:Nat->Nat)(hord:(SN b6 ops ops (OG ops A9)).all (dY Nt pre Pc λ_=>A9)=A5)(hd:(pre.all λi=>pre.all λj=>i==j||!dst i==dst j)=A5)(N:(pre.all λi=>(Nt i).all λj=>pre.contains j)=A5)(F:Nat->A3->zy->A1->Prop)(hF:∀i u R w R' w',F i u R w->(∀b,R b->R' b/\w'.heap[b]?=w.heap[b]?)->F i u R' w')(step:∀i∈pre,∀Wb R w v rest,Ap n D AU gc Wb R w v->(∀j,(∀i∈pre,j≠dst i)->v j=(BM n D s).1 j)->(∀j∈Nt i,F j (v (dst j)) R w)->(∀I R' u w',Ap n D AU gc I R' w' (BQ v (dst i) u)->(∀b,R b->R' b/\w'.heap[b]?=w.heap[b]?)->F i u R' w'->Be f n cs I w' (BQ v (dst i) u,Ak ops rest::q) Post)->Be f n cs Wb w (v,Ak ops (i::rest)::q) Post)(h:∀Wb R w v rest,rest∈Pc->Ap n D AU gc Wb R w v->(∀j,(∀i∈pre,j≠dst i)->v j=(BM n D s).1 j)->(∀i∈pre,F i (v (dst i)) R w)->Be f n cs Wb w (v,Ak ops rest::q) Post):Be f n cs Wb w s Post:=by refine Fz.BM (D:=D) λm=>?_;rw[show BM n D s=((BM n D s).1,Aw (HY id ops A5)::q)from Ro rfl hs];exact Ap.drawn ⟨S.H.at m,S.V.BM,S.S⟩ Nt pre Pc dst hord hd N F hF step h
end
end
section
open Go.Proofs.YtcfhleenecfghaaGreatDoor
open Go.Conc Go.RowKit Go.Conc.Lib Go.ConcR.Gen Go.ConcN.Gen
open Go.ConcN(WgLive)
open Go.ConcR(Payload)
variable{w:A1}{v:Nat->A3}
def da(v:Nat->A3)(u:A3):Option Nat->Nat->A3|Z e=>BQ v e u|J=>v
section
variable{AG S:zy}{Stop:zv}{f n i e:Nat}{v:Nat->A3}{ops:Array B8}{rest:List Nat}{q:List Cd}{cs:List Ah}{o:B8}{w:A1}{D:List Nat}
def Way.to:∀(K){s s'},D2 n D K s=s'->Way A6 A5 AG Stop S (G (Fr (J,[]) f (Ax n s'.1) s'.2) cs) w->Way A6 A5 AG Stop S (G (Fr (J,[]) f (Ax n s.1) s.2) cs) w
 |0,_,_,h,k=>by subst h;exact k
 |K+1,s,s',h,k=>by
  unfold D2 at h;split at h;.rename_i hs;exact .ctl rfl (λ_=>qL hs) (Way.to K h k)
  subst h;exact k
theorem Way.pR{d:Option Nat}(ho:ops[i]?=o)(hd:(o.dst,o.guard)=(d,J))(hf:∀c,o.op≠b3 c)(h:∀I,Bc AG S w I->∃N u w2 es S',(AM (Ed n v) o).runT A6 I #[]=(AP N w2,es)/\Sb N u/\F8 AG S I w2 es S'/\Way A6 A5 AG Stop S' (G (Fr (J,[]) f (Ax n (da v u d)) (Ak ops rest::q)) cs) w2):Way A6 A5 AG Stop S (G (Fr (J,[]) f (Ax n v) (Ak ops (i::rest)::q)) cs) w:=by
 obtain⟨hd,hg⟩:=a2q hd;refine .step rfl λI hr=>?_;let⟨N,u,w2,es,S',hrun,hu,hgt,hk⟩:=h I hr;let U:(Fr (J,[]) f (Ax n v) (Ak ops (i::rest)::q)).finish u=Fr (J,[]) f (Ax n (da v u d)) (Ak ops rest::q):=by rw[Uh ho hd];cases d<;>simp[IP,Qj,da]
 refine⟨_,w2,Fc A6 f es,S',?_,⟨hgt.size,hgt.same,hgt.os,hgt.output,hgt.tape,hgt.grow,λe he=>hgt.evs e (Vl he)⟩,hk⟩;rw[dx ho (by grind[Gd]) hf,Ug,<-U];rcases hu with rfl|⟨rfl,rfl⟩;.rw[H0 rfl hrun rfl];rfl
 rw[H0 rfl hrun rfl];rfl
def Way.pu(u)(ho:ops[i]?=o)(hd:(o.dst,o.guard)=(Z e,J))(hf:∀c,o.op≠b3 c)(h:∀w,(AM (Ed n v) o).runT A6 w #[]=(AP (BB u) w,#[]))(k:Way A6 A5 AG Stop S (G (Fr (J,[]) f (Ax n (BQ v e u)) (Ak ops rest::q)) cs) w):Way A6 A5 AG Stop S (G (Fr (J,[]) f (Ax n v) (Ak ops (i::rest)::q)) cs) w:=.pR ho hd hf λI hr=>⟨_,u,I,#[],S,h I,AA rfl,F8.idle ..,k.rely hr⟩
end
section
variable[Bg]
structure F3 where
 X:GG
 cs:List Ah
 bl:Nat
 off:Nat
 cap:Nat
 ms:List (zz×zz)
 br:Nat
 B5:Nat
 old:zy
 AU:A1
abbrev G9:List Nat:=[0,2,3,4,6,7,8,11,12,13,14,15,16,17,18,19,20,21,22,23]
def F3.sl(R:F3):A3:=A0 (Z ⟨R.bl,R.off,J⟩) R.ms R.cap
def F3.HM(R:F3):List (Nat×A3):=[(1,R.sl),(2,AT R.br),(5,AT R.B5)]
def F3.H1(R:F3)(j:Nat):List (Nat×A3):=[(6,AT R.X.Ae),(14,R.sl),(15,R.ms.length),(16,j)]++R.HM
structure Au(R:F3)(l:List (Nat×A3))(v:Nat->A3):Prop where
 at_:∀x∈l,v x.1=x.2
 av:∀A:zy,A R.bl->A R.B5->Cb 39 G9 A v
structure Np(R:F3)(AG S:zy)(w:A1):Prop where
 Ub:∀b,R.old b->S b∨AG b
 P6:∀b,AG b->R.old b
 s:∀b,S b->R.old b
 same:∀b,R.old b->w.heap[b]?=R.AU.heap[b]?
 size:R.AU.heap.size<=w
 out:w.os=R.AU.os/\w.output=R.AU.output
omit[Bg]in def Np.rely{R AG S f5}(h:Np R AG S w)(hr:Bc AG S w f5):Np R AG S f5:=⟨h.Ub,h.P6,h.s,λb hb=>(hr.same b (h.Ub b hb)).trans (h.same b hb),Dn h.size hr.size,hr.os.trans h.out.1,hr.output.trans h.out.2⟩
noncomputable def Jp:List Cd:=[NW ME,Ks 0,Aw (sndC c3)]
noncomputable def head(R:F3)(v:Nat->A3):AY:=G (Fr (J,[]) 126 (Ax 39 v) (Aw ME::Jp)) R.cs
noncomputable def waited(R:F3)(v:Nat->A3):AY:=G (Fr (J,[]) 126 (Ax 39 v) [Ak XQ [],Aw Pk]) R.cs
structure F3.Ok(R:F3):Prop where
 prog:R.X.P=A6
 ty:R.X.ty=LN.tWg
 n:R.X.n=R.ms
 small:R.ms.length<2147483648
 Ki:∀j p v,R.ms[j]?=Z (p,v)->R.AU.cell? ⟨R.bl,R.off+j*2,J⟩=Z (A4 p)/\R.AU.cell? ⟨R.bl,R.off+j*2+1,J⟩=Z (A4 v)
 aAJ:R.old R.bl
 lt:∀b,R.old b->b<R.AU
 child:∀j(p v:zz)w Ay,R.ms[j]?=Z (p,v)->(∀b,R.old b->w.heap[b]?=R.AU.heap[b]?)->R.AU.heap.size<=Ay->w.heap[Ay]?=Z (A7 #[p,v] 85)->∃nC val,Way R.X.P A9 R.old (AtSend R.X j Ay nC val R.old) (λb=>b=Ay) (l5 R.X.P (call198 R.X.Ae R.B5 R.br Ay)) w
 goal:∀v AG S g' w',Au R R.HM v->Np R AG S w'->kj R.X (waited R v) g'->R.X.Goal AG S g' w'
omit[Bg]in def Au.set{R l e}(h:Au R l v)(u)(hd:G9.contains e=A5)(hl:l.all λx=>x.1 !=e=A5):Au R l (BQ v e u):=⟨λx hx=>(a3K (Ai (Ha.1 hl x hx))).trans (h.at_ x hx),λA I h2=>(h.av A I h2).upd λx=>by rw[hd]at x;cases x⟩
omit[Bg]in theorem Au.BM{R l s}(h:Au R l s.1)(K)(hl:∀x∈l,(D2 39 G9 K s).1 x.1=s.1 x.1):Au R l (D2 39 G9 K s).1:=⟨λx hx=>(hl x hx).trans (h.at_ x hx),λA I h2=>Cb.D2 K (h.av A I h2)⟩
variable{R:F3}
omit[Payload]in def Au.get{l:List (Nat×Value)}{v:Nat->Value}(h:Au R l v)(i:Nat){u:Value}(hl:(i,u)∈l:=by simp[F3.H1,F3.HM]):v i=u:=h.at_ _ hl
omit[Bg]in def Au.low{j}(h:Au R (R.H1 j) v):Au R R.HM v:=⟨λx hx=>h.at_ x (List.mem_append_right _ hx),h.av⟩
def I_.iff(X)(r AG):∃Stop,∀S g w,I_ X r AG S g w=Way X.P A5 AG Stop S g w:=by cases r<;>exact⟨_,λ_ _ _=>rfl⟩
def aZQ(K:R.Ok){AG S:zy}(hT:Au R (R.H1 R.ms) v)(hI:Np R AG S w):I_ R.X 0 AG S (head R v) w:=by
 show Way R.X.P A5 AG (uF R.X AG) S (G (Fr (J,[]) 126 (Ax 39 v) (Aw ME::Jp)) R.cs) w;rw[K.prog];refine .to (D:=G9) (s:=(v,Aw ME::Jp)) 2 (s':=(v,Ak KC [0]::Aw (sndC ME)::Jp)) A8 ?_;refine .pu (Ag A9) (e:=17) (o:=KC.getD 0 DU) rfl rfl (λc e=>by cases e) (λw=>(aBt (j:=R.ms) (n:=R.ms) (hT.get 16) (hT.get 15) w).trans (by simp)) ?_;refine .to (D:=G9) (s:=(BQ v 17 (Ag A9),Ak KC []::Aw (sndC ME)::Jp)) 6 (s':=(BQ v 17 (Ag A9),[Ak XQ [0],Aw Pk])) A8 ?_;have h:=hT.set (e:=17) (Ag A9) rfl A8;let h6:(BQ v 17 (Ag A9)) 6=AT R.X.Ae:=h.get 6;let N:=c6 (n:=39) (s:=(TN (BQ v 17 (Ag A9)) [(6,AT R.X.Ae)],[Ak XQ [0],Aw Pk])) (f:=126) (cs:=R.cs) (g:=201) (az:=#[AT R.X.Ae]) (e:=23) A8 A8;rw[cH (by simp[h6])]at N;refine .ctl rfl N.1 ?_;refine .stop λU hr=>⟨rfl,λA=>?_⟩;generalize BQ v 17 (Ag A9)=v at h;refine⟨_,_,3,a_K (b₀:=Vi 126) (a₀:=⟨Ax 39 v,[]⟩) (ops₀:=XQ) (i₀:=0) (rest₀:=[]) (k₀:=[Aw Pk]) (cs:=R.cs) (As K.prog qe) K.ty,?_,λI B w' hr'=>?_⟩;.exact a07 (congrArg (λg=>CB R.X _ 3 g U) (by kernel_rfl)) (a_L (b₀:=Vi 126) (a₀:=⟨Ax 39 v,[]⟩) (ops₀:=XQ) (i₀:=0) (rest₀:=[]) (k₀:=[Aw Pk]) (cs:=R.cs) (As K.prog qe) U A)
 refine K.goal (BQ v 23 (Aj #[])) AG S I w' (h.set _ rfl A8).low ((hI.rely hr).rely hr') ?_;unfold waited;rw[<-Qj];exact a07 (congrArg (λg=>kj R.X g I) (by kernel_rfl)) B
noncomputable def bU:List Cd:=Aw (HY 7 LP A9)::Ks 1::Aw (HY 8 P0 A9)::Jp
noncomputable def fy:List Cd:=Ks 1::Aw (HY 8 P0 A9)::Jp
def aZO(K:R.Ok){r j:Nat}{AG S:zy}(hT:Au R (R.H1 j) v)(hj:j<R.ms)(h:∀v,Au R (R.H1 (j+1)) v->I_ R.X r AG S (head R v) w):I_ R.X r AG S (G (Fr (J,[]) 126 (Ax 39 v) (Ak LP []::fy)) R.cs) w:=by
 let B:=K.small;obtain⟨N,I⟩:=I_.iff R.X r AG;rw[I,K.prog];refine .to (D:=G9) (s:=(v,Ak LP []::fy)) 3 (s':=(v,Ak P0 [0,1]::Jp)) A8 ?_;refine .pu (AX (j+1:Nat)) (e:=22) (o:=P0.getD 0 DU) rfl rfl (λc e=>by cases e) (aWZ rfl (hT.get 16) A') ?_;refine .to (D:=G9) (s:=(BQ v 22 (AX (j+1:Nat)),Ak P0 [1]::Jp)) 3 (s':=(BQ (BQ v 22 (AX (j+1:Nat))) 16 (AX (j+1:Nat)),Aw ME::Jp)) A8 ?_;have:=h (BQ (BQ v 22 (AX (j+1:Nat))) 16 (AX (j+1:Nat))) ⟨λx hx=>?_,λA U h2=>((hT.av A U h2).upd λx=>by cases x).upd λx=>by cases x⟩;.rwa[I,K.prog]at this
 simp only[F3.H1,F3.HM,UJ,gB,DO,IX,or_false]at hx;rcases hx with rfl|rfl|rfl|rfl|rfl|rfl|rfl<;>first|rfl|exact hT.get _
def aZN(K:R.Ok){r j Ay:Nat}{AG S:zy}{V:Nat->A3}{p v:zz}(hm:R.ms[j]?=Z (p,v))(hT:Au R (R.H1 j) V)(h8:V 8=AT Ay)(hI:Np R AG (λb=>S b) w)(M:R.AU<=Ay)(EM:w.heap[Ay]?=Z (A7 #[p,v] 85))(ih:∀AG S v w,Au R (R.H1 (j+1)) v->Np R AG S w->I_ R.X r AG S (head R v) w):Way R.X.P A5 AG (AtGo R.X j (I_ R.X r) AG) (λb=>S b∨b=Ay) (G (Fr (J,[]) 126 (Ax 39 V) (Ak VM []::bU)) R.cs) w:=by
 rw[K.prog];refine .to (D:=G9) (s:=(V,Ak VM []::bU)) 2 (s':=(V,Ak LP [0,1]::fy)) A8 ?_;refine .pu (Br (Bo 198) #[] #[AT R.X.Ae,AT R.B5,AT R.br,AT Ay]) (e:=21) (o:=LP.getD 0 DU) rfl rfl (λc e=>by cases e) (aWv (hT.get 6) (hT.get 5) (hT.get 2) h8) ?_;have B:=hT.set (e:=21) (Br (Bo 198) #[] #[AT R.X.Ae,AT R.B5,AT R.br,AT Ay]) rfl A8;have C:BQ V 21 (Br (Bo 198) #[] #[AT R.X.Ae,AT R.B5,AT R.br,AT Ay]) 21=Br (Bo 198) #[] #[AT R.X.Ae,AT R.B5,AT R.br,AT Ay]:=rfl;generalize BQ V 21 (Br (Bo 198) #[] #[AT R.X.Ae,AT R.B5,AT R.br,AT Ay])=N at B C;refine .stop λI hrl=>?_;have h:=hI.rely ⟨hrl.size,λb hb=>hrl.same b (hb.imp AA id),hrl.os,hrl.output⟩;let⟨nC,val,hch⟩:=K.child j p v I Ay hm h.same M (Ar (hrl.same _ (AA (AF rfl))));let H:¬R.old Ay:=λx=>BO (K.lt _ x);let hrun:(AM (FG ⟨Ax 39 N,[]⟩) (LP.getD 1 DU)).runT R.X.P I #[]=(AP (.spawn (call198 R.X.Ae R.B5 R.br Ay)) I,#[]):=by rw[K.prog,Ug];exact aWx C I
 have A:=by have:=X_ (P:=R.X.P) (AM (FG ⟨Ax 39 N,[]⟩) (LP.getD 1 DU)) I #[];rw[hrun]at this;exact this.symm
 let U:eg R.X.P (Vi 126).fn ⟨Ax 39 N,[]⟩ (LP.getD 1 DU) I=#[]:=by unfold eg a1K;rw[hrun];exact Vm ..
 refine⟨rfl,G (Fr (J,[]) 126 (Ax 39 N) (Ak LP []::fy)) R.cs,_,λb=>AG b∨R.old b,λ_=>False,R.old,λb=>b=Ay,Ay,nC,val,?_,rfl,?_,rfl,hch,?_⟩;.have:=stepG_spawn (main:=A5) (b:=Vi 126) (k:=fy) (cs:=R.cs) (rest:=[]) (show LP[1]?=Z (LP.getD 1 DU)from rfl) rfl (by simp[Vi]) A rfl;rwa[U,show(LP.getD 1 DU).dst=J by kernel_rfl]at this
 .refine⟨λb hb=>hb.elim,λb hb=>AF hb,λb=>Sy,λb hb=>(h.Ub b hb).imp AA id,λb hb=>hb.elim,λb hb=>hb.elim,λb hb=>?_⟩;subst hb;exact⟨H,λx=>H (h.P6 _ x)⟩
 exact aZO K B (Po hm) λY K_=>ih _ _ Y I K_ ⟨λb hb=>AF (AF hb),λb hb=>hb.elim (h.P6 b) id,λb hb=>hb.elim,h.same,h.size,h.out⟩
def aZM(K:R.Ok){r j AG S V}(hj:R.X.n-(r+1)=j)(hr:r<R.X.n)(hT:Au R (R.H1 j) V)(hI:Np R AG S w)(ih:∀AG S v w,Au R (R.H1 (j+1)) v->Np R AG S w->I_ R.X r AG S (head R v) w):I_ R.X (r+1) AG S (head R V) w:=by
 show Way R.X.P A5 AG (StopA R.X r (I_ R.X r) AG) S (G (Fr (J,[]) 126 (Ax 39 V) (Aw ME::Jp)) R.cs) w;rw[K.prog];let hn:=K.n;let hlt:j<R.ms.length:=A';obtain⟨⟨p,v⟩,hm⟩:∃x,R.ms[j]?=Z x:=⟨_,En hlt⟩;refine .to (D:=G9) (s:=(V,Aw ME::Jp)) 2 (s':=(V,Ak KC [0]::Aw (sndC ME)::Jp)) A8 ?_;refine .pu (Ag A5) (e:=17) (o:=KC.getD 0 DU) rfl rfl (λc e=>by cases e) (λw=>(aBt (j:=j) (n:=R.ms.length) (hT.get 16) (hT.get 15) w).trans (by simp[hlt])) ?_;refine .to (D:=G9) (s:=(BQ V 17 (Ag A5),Ak KC []::Aw (sndC ME)::Jp)) 8 (s':=(BQ V 17 (Ag A5),Ak P' [0,1,2,3]::Aw (Hu (HY 6 VM A9) (HY 7 LP A9))::Ks 1::Aw (HY 8 P0 A9)::Jp)) A8 ?_;have hT:=hT.set (e:=17) (Ag A5) rfl A8;generalize BQ V 17 (Ag A5)=V at hT;refine .pu (O8 R.bl (R.off+j*2)) (e:=18) (o:=P'.getD 0 DU) rfl rfl (λc e=>by cases e) (aX1 (cap:=R.cap) (hT.get 14 (u:=R.sl)) (hT.get 16) hlt) ?_;have hT:=hT.set (e:=18) (O8 R.bl (R.off+j*2)) rfl A8;have Ys:BQ V 18 (O8 R.bl (R.off+j*2)) 18=O8 R.bl (R.off+j*2):=rfl;generalize BQ V 18 (O8 R.bl (R.off+j*2))=V at hT Ys;refine .pR (d:=Z 19) (o:=P'.getD 1 DU) rfl rfl (λc e=>by cases e) λf5 EX=>?_;have Y:=hI.rely EX;let D':∀i,f5.cell? ⟨R.bl,i,J⟩=R.AU.cell? ⟨R.bl,i,J⟩:=λi=>by unfold Cr;rw[Y.same _ K.aAJ]
 obtain⟨c1,c2⟩:=K.Ki j p v hm;refine⟨_,AH #[A4 p,A4 v],f5,_,S,run_load Ys (Ar D') (Ar D'),AA rfl,?_,?_⟩;.refine⟨Ad _,λ_ _ _=>rfl,rfl,rfl,rfl,λb=>⟨AA,λx=>x.elim (λz=>z) λy=>A'⟩,λe he=>?_⟩;let hown:S R.bl∨AG R.bl/\A9=A9:=(hI.Ub _ K.aAJ).imp id λx=>⟨x,rfl⟩;simp only[a2c,DO,IX,or_false]at he;rcases he with rfl|rfl<;>exact .cell _ _ hown
 have hT:=hT.set (e:=19) (AH #[A4 p,A4 v]) rfl A8;have U:BQ V 19 (AH #[A4 p,A4 v]) 19=AH #[A4 p,A4 v]:=rfl;show Way _ _ _ _ _ (G (Fr (J,[]) 126 (Ax 39 (BQ V 19 (AH #[A4 p,A4 v]))) _) _) _;generalize BQ V 19 (AH #[p,v])=V at hT U;clear D' c1 c2 EX hI;refine .pR (d:=Z 8) (o:=P'.getD 2 DU) rfl rfl (λc e=>by cases e) λh Dv=>?_;let I:=Y.rely Dv;refine⟨_,AT h.heap.size,{h with heap:=h.heap.push (A7 #[A4 B7,A4 B7] 85)},#[],λb=>S b∨b=h.heap.size,aW_ h,AA rfl,?_,?_⟩;.refine⟨AD,λb hb _=>?_,rfl,rfl,rfl,λb=>⟨λx=>x.imp id λy=>by simp only[kZ];omega,λx=>x.imp id λy=>by simp only[kZ]at y;omega⟩,AD⟩;show(h.heap.push _)[b]?=_;rw[KF hb,G8 hb]
 have li:=I.size;generalize Lp:h.heap.size=Ay at li;have hT:=hT.set (e:=8) (AT Ay) rfl A8;have h8:BQ V 8 (AT Ay) 8=AT Ay:=rfl;have U:BQ V 8 (AT Ay) 19=AH #[A4 p,A4 v]:=U;show Way _ _ _ _ _ (G (Fr (J,[]) 126 (Ax 39 (BQ V 8 (AT Ay))) _) _) _;generalize BQ V 8 (AT Ay)=V at hT h8 U;let oQ:∀b,R.old b->b≠Ay:=λb hb x=>BO (K.lt _ hb);have vz:Np R AG S {h with heap:=h.heap.push (A7 #[A4 B7,A4 B7] 85)}:=by refine⟨I.Ub,I.P6,I.s,λb hb=>?_,by simp only[kZ];omega,I.out⟩;let C:b<h.heap.size:=Hw (K.lt b hb) A';show(h.heap.push _)[b]?=_;rw[KF C,<-G8 C];exact I.same b hb
 have EM:Fl ({h with heap:=h.heap.push (A7 #[A4 B7,A4 B7] 85)}) Ay (A7 #[A4 B7,A4 B7] 85):=by show(h.heap.push _)[Ay]?=_;rw[<-Lp,kW]
 generalize{h with heap:=h.heap.push (A7 #[A4 B7,A4 B7] 85)}=qh at vz EM;clear I Y Dv Lp;refine .pR (d:=J) (o:=P'.getD 3 DU) rfl rfl (λc e=>by cases e) λA B=>?_;let N:Np R AG S A:=vz.rely ⟨B.size,λb hb=>B.same b (hb.imp AA id),B.os,B.output⟩;let xK:A.heap[Ay]?=Z (A7 #[A4 B7,A4 B7] 85):=Ar (B.same _ (AA (AF rfl)));refine⟨_,AN,RE A Ay p v,_,λb=>S b∨b=Ay,run_store h8 U xK,AF ⟨rfl,rfl⟩,?_,?_⟩;.refine⟨As yp (Ad _),λb _ hb=>aAp λx=>hb (AF x),rfl,rfl,rfl,λb=>⟨AA,λx=>x.elim (λz=>z) λy=>by rw[yp]at y;omega⟩,λe he=>?_⟩;simp only[a2c,DO,IX,or_false]at he;rcases he with rfl|rfl<;>exact .cell _ _ (AA (AF rfl))
 have H:Np R AG S (RE A Ay p v):=⟨N.Ub,N.P6,N.s,λb hb=>As (aAp (oQ b hb)) (N.same b hb),As yp N.size,N.out⟩;have aPB:Fl (RE A Ay p v) Ay (A7 #[p,v] 85):=aUS xK;generalize RE A Ay p v=kM at H aPB;clear N xK B vz EM U;refine .to (D:=G9) (s:=(V,Ak P' []::Aw (Hu (HY 6 VM A9) (HY 7 LP A9))::Ks 1::Aw (HY 8 P0 A9)::Jp)) 3 (s':=(V,Ak VM [0]::bU)) A8 ?_;let h6:V 6=AT R.X.Ae:=hT.get 6;let Gs:=c6 (n:=39) (s:=(TN V [(6,AT R.X.Ae)],Ak VM [0]::bU)) (f:=126) (cs:=R.cs) (g:=197) (az:=#[AT R.X.Ae,AX 1]) (e:=20) A8 A8;rw[cH (by simp[h6])]at Gs;refine .ctl rfl Gs.1 ?_;refine .stop λqi oW=>⟨rfl,λTV=>?_⟩;refine⟨λg=>g=G (Fr (J,[]) 126 (Ax 39 (BQ V 20 (Aj #[]))) (Ak VM []::bU)) R.cs,12,?_,λg' EV w' hr'=>?_⟩;.exact a07 (congrArg (λg=>CB R.X _ 12 g qi) (by kernel_rfl)) (aIo (b₀:=Vi 126) (a₀:=⟨Ax 39 V,[]⟩) (ops₀:=VM) (i₀:=0) (rest₀:=[]) (k₀:=bU) (cs:=R.cs) (As K.prog qe) K.ty (by rw[<-Qj];kernel_rfl) qi TV)
 subst EV;let M:Bc AG (λb=>S b∨b=Ay) kM w':=oW.trans hr';rw[hj];exact aZN K hm (hT.set _ rfl A8) (by rw[a3K (by decide)];exact h8) (H.rely ⟨M.size,λb hb=>M.same b (hb.imp AA id),M.os,M.output⟩) li (Ar (M.same _ (AA (AF rfl)))) ih
def aBz(K:R.Ok):∀(r)(AG S)(v)(w),r<=R.X.n->Au R (R.H1 (R.X.n-r)) v->Np R AG S w->I_ R.X r AG S (head R v) w|0,AG,S,T,w,_,hT,hI=>aZQ K (by have:=K.n;rwa[aHy,this]at hT) hI|r+1,AG,S,T,w,hr,hT,hI=>aZM K rfl A' hT hI λAG S T w h h2=>aBz K r AG S T w A' (by rwa[show R.X.n-r=R.X.n-(r+1)+1 by omega]) h2
end
end
section
open Go.Proofs.YtcfhleenecfghaaGreatDoor
open Go.Conc Go.RowKit Go.Conc.Lib
open Go.ConcN(WgLive)
open Go.ConcR(Payload wgBlock)
variable{w:A1}{ρ:BP->A3}{v:Nat->A3}
def aWy(w):(AM ρ (o2.getD 0 DU)).runT A6 w #[]=(AP (BB (AT w)) {w with heap:=w.heap.push (A7 #[AB Da 0,AB ew 0] 325)},#[]):=by rfl
def aX8{a:An}{n cap:Nat}(h:ρ (Aa 14)=A0 (Z a) n cap)(w:A1):(AM ρ (Ly.getD 1 DU)).runT A6 w #[]=(AP (BB n) w,#[]):=by let I:(Ly.getD 1 DU).op=Em {callee:=Fw .len,args:=#[Aa 14],argTypes:=#[57]}:=A8;unfold AM;rw[I];simp[h,go_sem]
section
variable[Bg]{R:F3}
def aZP(K:R.Ok){AG S}(hT:Au R R.HM v)(h6:v 6=AT R.X.Ae)(hI:Np R AG S w):I_ R.X R.X.n AG S (G (Fr (J,[]) 126 (Ax 39 v) [Ak o2 [],Aw c3]) R.cs) w:=by
 obtain⟨N,I⟩:=I_.iff R.X R.X.n AG;rw[I,K.prog];let h:v 1=R.sl:=hT.get 1;refine .to (D:=G9) (s:=(v,[Ak o2 [],Aw c3])) 5 (s':=(BQ v 14 (v 1),[Ak Ly [1,2],Aw (sndC (fstC c3)),Aw (sndC c3)])) A8 ?_;refine .pu (AX R.ms) (e:=15) (o:=Ly.getD 1 DU) rfl rfl (λc e=>by cases e) (aX8 (a:=⟨R.bl,R.off,J⟩) (cap:=R.cap) (show v 1=_ from h)) ?_;refine .to (D:=G9) (s:=(BQ (BQ v 14 (v 1)) 15 (AX R.ms),[Ak Ly [2],Aw (sndC (fstC c3)),Aw (sndC c3)])) 4 (s':=(BQ (BQ (BQ v 14 (v 1)) 15 (AX R.ms)) 16 (AX 0),Aw ME::Jp)) A8 ?_;have:=aBz K R.X.n AG S (BQ (BQ (BQ v 14 (v 1)) 15 (AX R.ms)) 16 (AX 0)) w (Ad _) ⟨λx hx=>?_,λA U a2=>(((hT.av A U a2).upd λx=>by cases x).upd λx=>by cases x).upd λx=>by cases x⟩ hI;.rwa[I,K.prog]at this
 rw[aHx]at hx;simp only[F3.H1,F3.HM,UJ,gB,DO,IX,or_false]at hx;rcases hx with rfl|rfl|rfl|rfl|rfl|rfl|rfl<;>first|rfl|exact h6|exact h|exact hT.get _
def aJ7(K:R.Ok)(U:R.X.Ae=w)(h:R.old=WJ R.X.Wb R.X.Ae R.X.Bn (w+1))(N:R.AU={w with heap:=w.heap.push (NV R.X.ty 0 0)})(hT:Au R R.HM v)(hch:∃tm,w.heap[R.X.Bn]?=Z (Is R.X.n #[] A9 0 0 tm))(C:Du R.X.Wb w R.X.Bn):eQ R.X (G (Fr (J,[]) 126 (Ax 39 v) [Ak o2 [0],Aw c3]) R.cs) w:=by
 refine⟨rfl,U,λB hr I=>?_,hch,C⟩;let H:NV R.X.ty 0 0=A7 #[AB Da 0,AB ew 0] 325:=Af K.ty;refine⟨G (Fr (J,[]) 126 (Ax 39 (BQ v 6 (AT B))) [Ak o2 [],Aw c3]) R.cs,?_,?_⟩;.rw[K.prog,<-Qj,H];generalize Ax 39 v=T;rw[dx (o:=o2.getD 0 DU) rfl rfl (λc e=>by cases e),H0 rfl (aWy (ρ:=FG ⟨T,[]⟩) B) rfl,Uh (o:=o2.getD 0 DU) (d:=Z 6) rfl rfl,Vm];rfl
 refine aZP K ⟨λx hx=>?_,λA a1 a2=>(hT.av A a1 a2).upd λx=>by cases x⟩ (by rw[I,U];rfl) ?_;.simp only[F3.HM,DO,IX,or_false]at hx;rcases hx with rfl|rfl|rfl<;>exact hT.get _
 rw[I];refine⟨λb hb=>AA (Ar h.symm),λb hb=>hb.elim,λb hb=>Ar h,λb hb=>?_,?_,by rw[N];exact⟨hr.os,hr.output⟩⟩;.rw[h]at hb;let hlt:b<w:=RB hb.1 hb.2.2.1;rw[N];rw[KF A',KF hlt,<-G8,<-G8];exact hr.same b (AA ⟨hlt,hb.2.1⟩)
 rw[N];simp[I]
end
end
section
open Go.Conc(G solo Deaf QuitsD Goes crowd crowd_pick woken awake awake_of runT_crowd_go woken_quitsD)
open Go.ConcN(upd upd_same upd_ne sumTo)
open Go.ConcR(DC0)
section
variable{P:Ao}{Wb:zy}{R:A1->A1->Prop}{Stop:AY->A1->Prop}
def F8.none{w S}:F8 (λ_=>False) S w w #[] S:=F8.idle ..
def aJK(hR:∀w d,R w (w.at d)):∀(m:Nat)(a:AY)(w:A1),Xx P A5 R DC0 Stop m a w->∀(gs:Array AY)(sl:Option (Nat×Nat))(t:DT)(q:Nat->Nat),Cx P Wb gs w t q a->∃(N:Nat)(I:Array AY)(a':AY)(d:Nat)(sl':Option (Nat×Nat))(A:DT)(q':Nat->Nat),EE P N (ER gs w sl) t=(DY (ER I (w.at d) sl'),A)/\I.size=gs.size/\Cx P Wb I (w.at d) A q' a'/\Stop a' (w.at d):=by
 intro m;induction m with
 |zero=>exact λa w h gs sl t q hc=>⟨0,gs,a,w.drawn,sl,t,q,rfl,rfl,hc,h _ (hR w w.drawn)⟩
 |succ m ih=>
  intro a w h gs sl t q hc;rcases h with h|⟨hrun,h⟩;.exact⟨0,gs,a,w.drawn,sl,t,q,rfl,rfl,hc,h _ (hR w w.drawn)⟩
  let H:∀d,∃g',B9 P A5 a (w.at d)=Bl g' (w.at d) #[]/\Xx P A5 R DC0 Stop m g' (w.at d):=by intro d;let U:=h (w.at d) (hR w d);cases hs:B9 P A5 a (w.at d)with|go g' w' es=>rw[hs]at U;obtain⟨⟨rfl,rfl⟩,h2⟩:=U;exact⟨g',rfl,h2⟩|_=>rw[hs]at U;exact U.elim
  let K:∀(M d:Nat)(gs:Array AY)(sl:Option (Nat×Nat))(t:DT)(q:Nat->Nat),Ir gs.size q<=M->Cx P Wb gs (w.at d) t q a->∃(N:Nat)(I:Array AY)(a':AY)(d':Nat)(sl':Option (Nat×Nat))(A:DT)(q':Nat->Nat),EE P N (ER gs (w.at d) sl) t=(DY (ER I (w.at d') sl'),A)/\I.size=gs.size/\Cx P Wb I (w.at d') A q' a'/\Stop a' (w.at d'):=by
   intro M;induction M with
   |zero=>
    intro d gs sl t q hM hc;let⟨i,g,d1,sl',hi,hg,hst⟩:=Vj (P:=P) (w:=w.at d) (sl:=sl) (hc.awake hrun) ⟨0,a,hc.zero,hrun⟩;rcases T5 i with rfl|B
    .obtain rfl:g=a:=by rw[hc.zero]at hi;exact(CP hi).symm
     let⟨g',hgo,hk⟩:=H d1;obtain⟨_,hc'⟩:=(hc.at d1).own (AF trivial) (F8.none) g.frame.fn g.frame.place;let⟨N,I,a',d',sl'',A,q',U,h2,h3,h4⟩:=ih g' (w.at d1) hk _ sl' _ q hc';exact⟨N+1,I,a',d',sl'',A,q',by simp only[EE,hst,QU (sl:=sl') hi (show B9 P (0==0) g ((w.at d).at d1)=_ from hgo)];exact U,h2.trans AD,h3,h4⟩
    let hq:=hc.leave.old i g B hi;have:q i<=Ir gs.size q:=ep (B3 hi);let Y:q i=0:=A';rw[Y]at hq;rw[hq.1]at hg;cases hg
   |succ M ihM=>
    intro d gs sl t q hM hc;let⟨i,g,d1,sl',hi,hg,hst⟩:=Vj (P:=P) (w:=w.at d) (sl:=sl) (hc.awake hrun) ⟨0,a,hc.zero,hrun⟩;rcases T5 i with rfl|B
    .obtain rfl:g=a:=by rw[hc.zero]at hi;exact(CP hi).symm
     let⟨g',hgo,hk⟩:=H d1;obtain⟨_,hc'⟩:=(hc.at d1).own (AF trivial) (F8.none) g.frame.fn g.frame.place;let⟨N,I,a',d',sl'',A,q',U,h2,h3,h4⟩:=ih g' (w.at d1) hk _ sl' _ q hc';exact⟨N+1,I,a',d',sl'',A,q',by simp only[EE,hst,QU (sl:=sl') hi (show B9 P (0==0) g ((w.at d).at d1)=_ from hgo)];exact U,h2.trans AD,h3,h4⟩
    let hq:=hc.leave.old i g B hi;let K4:(i==0)=A9:=Av;cases C:q i with
    |zero=>rw[C]at hq;rw[hq.1]at hg;cases hg
    |succ k=>
     rw[C]at hq;rcases hq with⟨hf,_⟩|⟨_,g',es,hm,V2,hq'⟩;.rw[hf]at hg;cases hg
     let ZX:Ir gs.size (CG q i k)+(k+1)=Ir gs.size q+k:=by have:=Y0 q k id (B3 hi);simpa[C]using this
     let⟨N,I,a',d',sl'',A,q',U,h2,h3,h4⟩:=ihM d1 _ sl' _ (CG q i k) Av ((hc.at d1).slip hrun B hi hm hq' g.frame.fn g.frame.place);exact⟨N+1,I,a',d',sl'',A,q',by simp only[EE,hst,QU (sl:=sl') hi (As K4 (V2 ((w.at d).at d1)))];exact U,h2.trans AD,h3,h4⟩
  exact K _ w.drawn gs sl t q (Ad _) hc
end
end
section
open Go.Conc(G solo Deaf QuitsD crowd crowd_pick woken awake awake_of runT_crowd_go woken_quitsD rcase crowd_recv_buf crowd_recv_closed partners_nil offersAt_of_not_blocked getElem?_stand ph Deaf_other)
open Go.ConcN(upd upd_same upd_ne sumTo)
variable{z:A3}{tm:Bool}
section
variable{P:Ao}{Wb:zy}{gs:Array AY}{w w':A1}{t:DT}{q:Nat->Nat}{a:AY}
def Cx.comm(h:Cx P Wb gs w t q a){a':AY}(U:w'.heap.size=w){u:DT}(hu:∀I∈u,I.g=0/\I.act.touch?=J)(hd:Sd (t++u) 0=0):Cx P Wb (gs.setIfInBounds 0 a') w' (t++u) q a':=by
 have A:=B3 h.zero;refine⟨BA,⟨λj x hj hx=>?_,λj hj=>?_⟩,?_,?_,hd,λb hb=>As U (h.PC b hb)⟩;.rw[Mm A']at hx;rw[OL t A' _ λI N=>(hu I N).1];exact h.leave.old j x hj hx
 .rw[OL t (by simp at hj;omega) _ λI N=>(hu I N).1];exact h.leave.above j (Ai hj)
 .rw[U];have:=h.JG.O5 h.ro A λI N=>⟨(hu I N).1,λx hx=>by rw[(hu I N).2]at hx;cases hx⟩;simpa using this
 have:=h.O4.app (λI N=>(hu I N).1) (AA rfl);simpa using this
def a3j{a':AY}{w':A1}(hrun:a.status=CZ)(C:w'.heap.size=w)(hgo:∀(d:Nat)(gs:Array AY)(sl:Option (Nat×Nat)),gs[0]?=a->(∀k x,0<k->gs[k]?=Z x->x.status≠lB)->∃u,Ng P (ER gs (w.at d) sl) 0=(DY (ER (gs.setIfInBounds 0 a') (w'.at d) sl),u)/\(∀op∈u,op.g=0/\op.act.touch?=J)/\∀t,Sd (t++u) 0=Sd t 0):∀(M d:Nat)(gs:Array AY)(sl:Option (Nat×Nat))(t:DT)(q:Nat->Nat),Ir gs q<=M->Cx P Wb gs (w.at d) t q a->∃(N:Nat)(I:Array AY)(d':Nat)(sl':Option (Nat×Nat))(A:DT)(q':Nat->Nat),EE P N (ER gs (w.at d) sl) t=(DY (ER I (w'.at d') sl'),A)/\I.size=gs/\Cx P Wb I (w'.at d') A q' a':=by
 let own:∀(d:Nat)(gs:Array AY)(sl:Option (Nat×Nat))(t:DT)(q:Nat->Nat),Cx P Wb gs (w.at d) t q a->∃u,Ng P (ER gs (w.at d) sl) 0=(DY (ER (gs.setIfInBounds 0 a') (w'.at d) sl),u)/\Cx P Wb (gs.setIfInBounds 0 a') (w'.at d) (t++u) q a':=by
  intro d gs sl t q hc;let⟨u,h1,h2,h3⟩:=hgo d gs sl hc.zero λk x hk hx=>by rcases(hc.leave.old k x hk hx).status with h|h<;>rw[h]<;>simp
  exact⟨u,h1,hc.comm (w':=w'.at d) C h2 (As h3 hc.hears)⟩
 intro M;induction M with
 |zero=>
  intro d gs sl t q hM hc;let⟨i,g,d1,sl',hi,hg,hst⟩:=Vj (P:=P) (w:=w.at d) (sl:=sl) (hc.awake hrun) ⟨0,a,hc.zero,hrun⟩;rcases T5 i with rfl|U;.let⟨u,h1,h2⟩:=own d1 gs sl' t q (hc.at d1);exact⟨1,_,d1,sl',_,q,by simp only[EE,hst];rw[show(w.at d).at d1=w.at d1 from rfl,h1],AD,h2⟩
  let hq:=hc.leave.old i g U hi;have hlt:=B3 hi;have:q i<=Ir gs q:=ep hlt;let H:q i=0:=A';rw[H]at hq;rw[hq.1]at hg;cases hg
 |succ M ihM=>
  intro d gs sl t q hM hc;let⟨i,g,d1,sl',hi,hg,hst⟩:=Vj (P:=P) (w:=w.at d) (sl:=sl) (hc.awake hrun) ⟨0,a,hc.zero,hrun⟩;rcases T5 i with rfl|U;.let⟨u,h1,h2⟩:=own d1 gs sl' t q (hc.at d1);exact⟨1,_,d1,sl',_,q,by simp only[EE,hst];rw[show(w.at d).at d1=w.at d1 from rfl,h1],AD,h2⟩
  let hq:=hc.leave.old i g U hi;let K:(i==0)=A9:=Av;have hlt:=B3 hi;cases B:q i with
  |zero=>rw[B]at hq;rw[hq.1]at hg;cases hg
  |succ k=>
   rw[B]at hq;rcases hq with⟨hf,_⟩|⟨_,g',es,hm,Y,hq'⟩;.rw[hf]at hg;cases hg
   let Td:=QU (sl:=sl') hi (As K (Y ((w.at d).at d1)));let ZX:Ir gs (CG q i k)+(k+1)=Ir gs q+k:=by have:=Y0 q k id hlt;simpa[B]using this
   let hc':=(hc.at d1).slip hrun U hi hm hq' g.frame.fn g.frame.place;let⟨N,I,d',sl'',A,q',h1,h2,h3⟩:=ihM d1 _ sl' _ (CG q i k) Av hc';exact⟨N+1,I,d',sl'',A,q',by simp only[EE,hst,Td];exact h1,h2.trans AD,h3⟩
def aAE{c b}{gs:Array AY}(h:∀k x,0<k->gs[k]?=Z x->x.status≠lB):partners (gs.setIfInBounds 0 aE') c b=[]:=by
 refine aDz λk x hx=>?_;rcases aDw gs 0 k x hx with⟨_,rfl⟩|⟨hk,hx⟩;.rfl
 exact rP (h k x A' hx) ..
theorem aJL{c cap s r:Nat}{DW:zw}{closed:Bool}{shape:a0H}(hrun:a.status=CZ)(hcomm:∀d,B9 P A5 a (w.at d)=et a #[QT c z] A5 shape (w.at d) #[])(hc:w.heap[c]?=Z (Is cap DW closed s r tm))(B:0<DW.size)(sl)(U:Cx P Wb gs w t q a):∃(N:Nat)(h:Array AY)(d':Nat)(sl':Option (Nat×Nat))(A:DT)(q':Nat->Nat),EE P N (ER gs w sl) t=(DY (ER h ((w.setChan c cap (DW.extract 1 DW) closed s (r+1) tm).at d') sl'),A)/\h.size=gs/\Cx P Wb h ((w.setChan c cap (DW.extract 1 DW) closed s (r+1) tm).at d') A q' (a.finishComm P #[QT c z] shape 0 (DW.getD 0 AN) A5):=by
 refine a3j hrun (by simp[bA]) (λd gs sl h0 C=>?_) _ w.drawn gs sl t q (Ad _) U;refine⟨_,crowd_recv_buf (sl:=sl) h0 (hcomm d) hc B (aAE C),λop I=>?_,λt=>?_⟩;.rw[eh]at I;simp at I;rcases I with rfl|rfl<;>exact⟨rfl,rfl⟩
 grind[Vn,eh]
theorem aJJ{c cap s r:Nat}{shape:a0H}(hrun:a.status=CZ)(hcomm:∀d,B9 P A5 a (w.at d)=et a #[QT c z] A5 shape (w.at d) #[])(hc:w.heap[c]?=Z (Is cap #[] A5 s r tm))(sl)(U:Cx P Wb gs w t q a):∃(N:Nat)(h:Array AY)(d':Nat)(sl':Option (Nat×Nat))(A:DT)(q':Nat->Nat),EE P N (ER gs w sl) t=(DY (ER h (w.at d') sl'),A)/\h.size=gs/\Cx P Wb h (w.at d') A q' (a.finishComm P #[QT c z] shape 0 z A9):=by
 refine a3j hrun rfl (λd gs sl h0 B=>?_) _ w.drawn gs sl t q (Ad _) U;refine⟨_,crowd_recv_closed (sl:=sl) h0 (hcomm d) hc (aAE B),λop I=>?_,λt=>?_⟩;.rw[eh]at I;simp at I;subst I;exact⟨rfl,rfl⟩
 grind[Vn,eh]
end
end
section
open Go.Proofs.YtcfhleenecfghaaGreatDoor
open Go.Conc(crowd)
open Go.ConcN(WgLive sumTo)
open Go.ConcR(Payload)
section
variable[Bg]
def F3.Goal(R:F3)(AG S:zy)(g:AY)(w:A1):Prop:=∃v,Au R R.HM v/\Np R AG S w/\kj R.X (waited R v) g
structure a3E(R:F3)(m:lJ)(t:DT):Prop where
 at_:∃(gs:Array AY)(w:A1)(sl:Option (Nat×Nat))(T:Nat->A3)(q:Nat->Nat)(sm:List (Nat×A3)),m=ER gs w sl/\gs.size=R.X.c0+R.X.n/\Cx R.X.P R.X.BJ gs w t q (waited R T)/\Au R R.HM T/\(∀b,R.old b->w.heap[b]?=R.AU.heap[b]?)/\R.AU.heap.size<=w/\(w.os=R.AU.os/\w.output=R.AU.output)/\R.X.Bn≠R.X.Ae/\(∃tm,w.heap[R.X.Bn]?=Z (Is R.X.n (sm.map (·.2)).toArray A9 sm 0 tm))/\(∀i,(∃v,(i,v)∈sm)↔i<R.X.n)/\(sm.map (·.1)).Nodup/\∀i v,(i,v)∈sm->∃M,(∀b,M b->b<w.heap.size/\¬R.X.BJ b/\b≠R.X.Bn/\¬R.old b)/\R.X.Nk i v M w
variable{R:F3}
omit[Bg]in def aJC(hst:R.X.MM)(wV:R.X.Goal=R.Goal){m t}(h:bT R.X m t):∃N m' v4,EE R.X.P N m t=(DY m',v4)/\a3E R m' v4:=by obtain⟨gs,w,sl,a,q,AG,S,sm,rfl,li,J5,hg,TV,o8,hch,FD,hnd,hmsg⟩:=h;rw[wV]at hg;let⟨T,hT,hI,hb⟩:=hg;let⟨k,hgoes⟩:=hb w TV;obtain⟨N,I,a',d,sl',v4,q',U,h2,h3,rfl⟩:=aJK (λw d hl=>hl) k a w hgoes gs sl t q J5;refine⟨N,_,v4,U,I,w.at d,sl',T,q',sm,rfl,h2.trans li,h3,hT,hI.same,hI.size,hI.out,o8,hch,FD,hnd,λi v hv=>?_⟩;let⟨M,hM,hm⟩:=hmsg i v hv;exact⟨M,λb hb=>⟨(hM b hb).1,(hM b hb).2.1,(hM b hb).2.2.1,λh=>(hI.Ub b h).elim (hM b hb).2.2.2.1 (hM b hb).2.2.2.2⟩,hst i v M w (w.at d) (λ_ _=>rfl) hm⟩
def F3.from(R:F3)(C0:Nat):F3:={R with X:={R.X with C0:=C0}}
omit[Bg]in theorem aBw{P}:∀{N N'}{m Dq IK}{t qS qT},EE P N m t=(DY Dq,qS)->EE P N' Dq qS=(DY IK,qT)->EE P (N+N') m t=(DY IK,qT)|0,N',m,Dq,IK,t,qS,qT,h,k=>by simp_all[EE,mn,My]|N+1,N',m,Dq,IK,t,qS,qT,h,k=>by rw[Nat.add_right_comm];simp only[EE]at h⊢;cases hs:si P m with|mk e ops=>rw[hs]at h;cases e with|next m'=>exact aBw h k|_=>grind
def aJ8(hK:∀C0,(R.from C0).Ok)(B:∀C0,(R.from C0).X.Goal=(R.from C0).Goal)(hst:∀C0,(R.from C0).X.MM){T:Nat->A3}{w:A1}(C:R.X.Ae=w)(H:R.old=WJ R.X.Wb R.X.Ae R.X.Bn (w+1))(K:R.AU={w with heap:=w.heap.push (NV R.X.ty 0 0)})(hT:Au R R.HM T)(hch:∃tm,w.heap[R.X.Bn]?=Z (Is R.X.n #[] A9 0 0 tm))(U:Du R.X.Wb w R.X.Bn)(gs)(sl)(t)(q)(h:R.X.c0=gs.size)(I:Cx R.X.P R.X.Wb gs w t q (Go.Conc.G (Fr (J,[]) 126 (Ax 39 T) [Ak o2 [0],Aw c3]) R.cs)):∃N m' A C0,EE R.X.P N (ER gs w sl) t=(DY m',A)/\a3E (R.from C0) m' A:=by
 let hG:∀C0,eQ {R.X with C0:=C0} (Go.Conc.G (Fr (J,[]) 126 (Ax 39 T) [Ak o2 [0],Aw c3]) R.cs) w:=λC0=>aJ7 (hK C0) C H K ⟨hT.at_,hT.av⟩ hch U;have hn:=by let h2:=(hK 0).small;rwa[<-(hK 0).n]at h2
 let⟨N,m',A,C0,hr,hj⟩:=phase hst hn hG _ w gs sl t q h (Bc.refl ..) rfl hG (Ad _) I;let⟨N',m'',t'',hr',hw⟩:=aJC (hst C0) (B C0) hj;exact⟨N+N',m'',t'',C0,aBw hr hr',hw⟩
end
end
section
open Go.Proofs.YtcfhleenecfghaaGreatDoor
open Go.Conc Go.RowKit
open Go.ConcR(Payload)
variable{w:A1}{Ay b:Nat}{BE F Wb:zy}{a:Option An}
def Q4:Cq->Cq|A7 c t _=>A7 c t (0,c)|o=>o
noncomputable def Nv(old:zy)(w:A1):A1:=open Classical in{w with heap:=w.heap.mapIdx λb o=>if old b then Q4 o else o}
def ve(old)(w):(Nv old w).heap.size=w:=by simp[Nv]
def vc{old:zy}{o:Cq}(h:old b)(e:w.heap[b]?=o):(Nv old w).heap[b]?=Z (Q4 o):=by simp[Nv,e,h]
theorem vd{old}(h:¬old b):(Nv old w).heap[b]?=w.heap[b]?:=by grind[Nv]
def aPq{o}(h:∀c t p,o≠A7 c t p):Q4 o=o:=by cases o<;>first|rfl|exact absurd rfl (h _ _ _)
structure Pd(F:zy)(old:zy)(w:A1):Prop where
 heap:∀b,old b->∃o,w.heap[b]?=Z o/\Ff F (C7 old) o o/\∀c t p,o=A7 c t p->p.1=p.2
 Ca:∀b,b<CX->old b
 low:CX<=w
theorem Pd.lt{old:zy}(h:Pd F old w)(hb:old b):b<w:=by let⟨o,e,_⟩:=h.heap b hb;grind
theorem Pd.same{old:zy}{w':A1}(h:Pd F old w)(e:∀b,old b->w'.heap[b]?=w.heap[b]?)(hl:CX<=w'):Pd F old w':=⟨λb hb=>As (e b hb) (h.heap b hb),h.Ca,hl⟩
def a'B(old:zy)(Ay:Nat):zy:=λb=>old b∨b=Ay
theorem Ff.Q4{F E o}(h:Ff F E o o)(hz:∀c t p,o=A7 c t p->p.1=p.2):Ff F E (Twin.Q4 o) o:=by
 cases o with
 |cells c t p=>cases h with|cells _ hv _=>exact .cells t hv (AA (hz c t p rfl))
 |_=>exact h
def aMD{old so}(hM:Pd F old w)(U:¬old Ay)(hm:∃p v,w.heap[Ay]?=Z (A7 #[A4 p,A4 v] 85))(N:∀b,old b->¬so.obj b)(I:¬so.J3):BC F so old (C7 (a'B old Ay)) (Nv old w) w:=by
 refine⟨w.tape,λb h x=>?_,λi q=>rfl,λb hb=>?_,⟨by show CX<=Nv old w;rw[ve];exact hM.low,hM.low⟩,λx=>absurd x I⟩
 .obtain⟨rfl,hb⟩:=x;by_cases ho:old h;.let⟨o,e,k,z⟩:=hM.heap h ho;exact⟨_,o,vc ho e,e,(k.mono (Q5 λ_ y=>AA y)).Q4 λc t p y=>z c t p y⟩
  obtain rfl:h=Ay:=hb.resolve_left ho;let⟨p,v,e⟩:=hm;exact⟨_,_,(vd ho).trans e,e,.cells _ (.cons (.string _) (.cons (.string _) .nil)) (.refl _)⟩
 let⟨o,e,k,z⟩:=hM.heap b hb;refine⟨by show b<Nv old w;rw[ve];exact hM.lt hb,?_⟩;let e1:Fl (on (Nv old w) w.tape) b (Q4 o):=vc hb e;by_cases hc:∃c t p,o=A7 c t p;.obtain⟨c,t,p,rfl⟩:=hc;exact AA ⟨c,t,_,e1,λx hx=>⟨Nat.zero_le _,hx,trivial⟩⟩
 have hc':=λc t p y=>hc ⟨c,t,p,y⟩;refine AF ⟨N b hb,λc t p y=>?_⟩;rw[e1,aPq hc']at y;exact hc' c t p (CP y)
section
variable[Bg]
structure gT(R:F3)(BE:zy)(Kl:A3)(Q:zz->zz->Nat->A3->A1->Prop):Prop where
 Gp:Pd reads BE R.AU
 sub:∀b,BE b->R.old b
 br:BE R.br
 B5:R.old R.B5
 ch:∃t p,R.AU.heap[R.B5]?=Z (A7 #[EJ (Z R.X.Bn)] t p)
 y5:∀w:A1,(∀b o,BE b->R.AU.heap[b]?=Z o->w.heap[b]?=Z (Q4 o))->∀ρ:BP->A3,ρ (Aa 2)=AT R.br->∃es,(AM ρ (I' 1)).runT A6 w #[]=(AP (BB Kl) w,es)
 call:∀(j:Nat)p v,R.ms[j]?=Z (p,v)->∀w:A1,(∀b o,BE b->R.AU.heap[b]?=Z o->w.heap[b]?=Z (Q4 o))->Ab A6 200 #[Kl,AH #[p,v]] w λe w1=>∃x,e=AV x/\Q p v w x w1/\∀b,b<w.heap.size->w1.heap[b]?=w.heap[b]?
 msg:∀(j:Nat)p v Ay,R.ms[j]?=Z (p,v)->¬BE Ay->∀n E x x' w1 w' S,Ay<n->(∀b,BE b->b<n)->(C7 (a'B BE Ay)).le E->AK reads E x x'->Q p v n x w1->BC reads (Am (ow BE) A5) BE E w1 w'->JK BE R.old S E->S Ay->∃M,(∀b,M b->S b/\b≠Ay)/\R.X.Nk j x' M w'
omit[Bg]in def aR8{ρ:BP->A3}{p v:zz}(h3:ρ (Aa 3)=AT Ay)(h:w.heap[Ay]?=Z (A7 #[p,v] 85)):∃es,(AM ρ (I' 2)).runT A6 w #[]=(AP (BB (AH #[p,v])) w,es):=by
 let ho:(I' 2).op=ED 85 (Aa 3):=rfl;unfold AM;rw[ho];simp only[h3];let h0:w.cell? ⟨Ay,0,J⟩=Z p:=by simp[Cr,h]
 let I:w.cell? ⟨Ay,1,J⟩=Z v:=by simp[Cr,h]
 exact⟨_,by simp[go_sem,h0,I];rfl⟩
theorem aJu{R:F3}{Kl:A3}{Q:zz->zz->Nat->A3->A1->Prop}(A:R.X.P=A6)(B:R.X.ty=LN.tWg)(K:gT R BE Kl Q){j:Nat}{p v:zz}(hlt:∀b,R.old b->b<R.AU)(hj:R.ms[j]?=Z (p,v))(hsame:∀b,R.old b->w.heap[b]?=R.AU.heap[b]?)(H:R.AU<=Ay)(hm:w.heap[Ay]?=Z (A7 #[p,v] 85)):∃nC val,Way R.X.P A9 R.old (AtSend R.X j Ay nC val R.old) (λb=>b=Ay) (l5 R.X.P (call198 R.X.Ae R.B5 R.br Ay)) w:=by
 let U:¬BE Ay:=λh=>BO (K.Gp.lt h);have hM:=K.Gp.same (λb hb=>hsame b (K.sub b hb)) (by have h1:=K.Gp.low;let h2:=B3 hm;omega);let N:∀T b o,BE b->Fl R.AU b o->Fl (on (Nv BE w) T) b (Q4 o):=λT b o hb e=>vc hb ((hsame b (K.sub b hb)).trans e);refine⟨0,p,a_c (R:={X:=R.X,i:=j,RO:=BE,AG:=R.old,IB:=λb=>b=Ay,E:=C7 (a'B BE Ay),BX:=Nv BE w,B5:=R.B5,br:=R.br,Ay:=Ay,bz:=R.br,bx:=Ay,Kl:=Kl,kI:=AH #[p,v],Q:=λx I=>Q p v (AR w) x I/\∀b,b<AR w->I.heap[b]?=(Nv BE w).heap[b]?,nC:=0,val:=p}) ?_ ?_ ?_ ?_ ?_⟩
 .refine⟨A,B,λb hb=>⟨rfl,AA (K.Gp.Ca b hb)⟩,K.B5,⟨rfl,AA K.br⟩,⟨rfl,AF rfl⟩,rfl,λρ h T=>K.y5 _ (N T) ρ h,λρ h T=>?_,λT=>(K.call j p v hj _ (N T)).mono ?_,?_⟩;.exact aR8 h (by show(Nv BE w).heap[Ay]?=_;rwa[vd U])
  .rintro e I⟨x,rfl,hq,hb⟩;have hz:(on (Nv BE w) T).heap.size=w:=ve BE w;rw[hz]at hq hb;exact⟨x,rfl,hq,λb hl=>hb b hl⟩
  intro E x x' I w' S hE hx hq hr hc C;refine⟨?_,K.msg j p v Ay hj U w E x x' I w' S (B3 hm) (λb hb=>hM.lt hb) hE hx hq.1 hr hc (C _ rfl)⟩;let⟨T,hw⟩:=hr;let⟨o,o',e,e',ho⟩:=hw.heap Ay Ay (hE _ _ ⟨rfl,AF rfl⟩);have e1:I.heap[Ay]?=o:=e;rw[hq.2 Ay (B3 hm),vd U,hm]at e1;obtain rfl:=CP e1;cases ho with
  |cells t hv z=>
   rename_i c' q;have e2:c'=#[A4 p,A4 v]:=by let⟨l'⟩:=c';match l',hv with|[_,_],.cons (.string _) (.cons (.string _) .nil)=>rfl
   subst e2;simp[Cr,e']
 .exact aMD hM U ⟨p,v,hm⟩ (λb hb h=>h hb) λh=>h
 .rintro b b'⟨rfl,hb⟩;rcases hb with hb|hb;.exact AA ⟨hb,K.sub _ hb⟩
  exact AF ⟨λh=>U (hb▸h),hb⟩
 .let⟨t,q,e⟩:=K.ch;exact⟨t,q,(hsame _ K.B5).trans e⟩
 grind
end
noncomputable def b_:DK:=R1 (R1 (sndC (fstC (sndC (sndC Pk)))))
noncomputable def uf:DK:=sndC (sndC (sndC Pk))
noncomputable def Kj:Array B8:=IL (fstC b_)
noncomputable def mV:List Cd:=[NW b_,Ks 2,Aw uf]
noncomputable def Nj:List Cd:=Aw (sndC b_)::mV
def NS:zw:=#[A4 ⟨#[]⟩,A4 ⟨#[]⟩,A4 ⟨#[]⟩,A4 ⟨#[]⟩,A4 ⟨#[]⟩,A0 J 0 0,AB AJ 0,A0 J 0 0]
def xn:(A6.info? 234).map (λi=>(i.zero,i.size,i.bytes))=Z (Z (AH NS),8,136):=rfl
def aYh:∃fs,A6.underlying 234=Z (.struct fs):=⟨_,rfl⟩
def aC9:(A6.info? 234).map (·.size)=Z 8:=rfl
theorem aXY{g cs old t p}(h:w.heap[g]?=Z (A7 old t p)):(w.setRow g cs).heap[g]?=Z (A7 cs t p):=by grind[World.setRow,VI]
theorem eight{α:Type}{a:Array α}(h:a.size=8):∃x0 x1 x2 x3 x4 x5 x6 x7,a=#[x0,x1,x2,x3,x4,x5,x6,x7]:=by let⟨l⟩:=a;match l,h with|[x0,x1,x2,x3,x4,x5,x6,x7],_=>grind
section
variable{ρ:BP->A3}{w:A1}{o:B8}{x y:BP}{b c g n:Nat}{cs old:zw}
def aBo{t p}(ho:o.op=ED 316 x)(hx:ρ x=AT b)(h:w.heap[b]?=Z (A7 #[EJ (Z c)] t p)):(AM ρ o).run A6 w=AP (BB (EJ (Z c))) w:=by unfold AM;rw[ho];simp[go_sem,hx,Cr,h]
def zP(ho:o.op=Em {callee:=Fw .len,args:=#[x],argTypes:=#[57]})(hx:ρ x=A0 a n c):(AM ρ o).run A6 w=AP (BB n) w:=by unfold AM;rw[ho];simp[go_sem,hx]
def aWo{cap s r DW tm}(ho:o.op=Em {callee:=Fw .close,args:=#[x],argTypes:=#[316]})(hx:ρ x=EJ (Z c))(hc:w.heap[c]?=Z (Is cap DW A9 s r tm)):(AM ρ o).runT A6 w #[]=(AP (BB (Aj #[])) (w.setChan c cap DW A5 s r tm),#[⟨FI c,A9,A5⟩,⟨FI c,A5,A5⟩]):=by
 unfold AM;rw[ho];simp only[KQ,JO,Ee,hx];let h:(aDi #[316] o.type #[EJ (Z c)]).runT A6 w #[]=(AP (Aj #[]) (w.setChan c cap DW A5 s r tm),#[⟨FI c,A9,A5⟩,⟨FI c,A5,A5⟩]):=by change(Sn c _).runT A6 w #[]=_;simp only[D4,hc];change(Vy c ..).runT A6 w _=_;simp only[D4,hc];rfl
 change(Dl (aDi #[316] o.type #[EJ (Z c)]) _).runT A6 w #[]=_;rw[LR,h];rfl
def aXF(ho:o.op=lN 130 x y)(hx:ρ x=AB AJ 0)(hy:ρ y=n)(hn:n<2147483648):∃h,(AM ρ o).run A6 w=AP (BB (A0 (Z ⟨w,0,J⟩) 0 n)) h/\h.ownsRow w 234 8 (A0 (Z ⟨w,0,J⟩) 0 n) 0 []/\w.grownBy h J:=by obtain⟨i,hi,hz,h8,N⟩:=FJ xn;obtain⟨h,hr,I,h2⟩:=run_make_own w (AR w) 130 234 i (AH NS) 8 lU hi hz h8 AJ AJ n (by rw[N];omega) (by simp[maxLen];omega) (Ad _);refine⟨h,?_,I,h2⟩;unfold AM;rw[ho];simp[hx,hy,hr]
def aWX(ho:o.op=.alloc 234):(AM ρ o).run A6 w=AP (BB (AT w)) (w.alloc (A7 NS 234)):=by unfold AM;rw[ho];kernel_rfl
def aXM(ho:o.op=La 234 x y)(hx:ρ x=AT g)(hy:ρ y=AH cs)(hg:w.heap[g]?=Z (A7 old 234))(h8:old.size=8)(hc:cs.size=8)(I:cs.all (·.oneCell')=A5):∃h,(AM ρ o).run A6 w=AP JN h/\h.heap.size=w/\(∀z,z≠g->h.heap[z]?=w.heap[z]?)/\h.heap[g]?=Z (A7 cs 234):=by refine⟨w.setRow g cs,?_,AD,λz hz=>O7 _ _ _ hz,aXY hg⟩;unfold AM;rw[ho];have:=run_storeVar_row w g 234 234 old cs hg (As hc aC9) A' I;simp[hx,hy,Instr.storeAt,s3,this]
def aX7(ho:o.op=ED 234 x)(hx:ρ x=AT g)(hg:w.heap[g]?=Z (A7 cs 234))(hc:cs.size=8):(AM ρ o).run A6 w=AP (BB (AH cs)) w:=by let⟨fs,hfs⟩:=aYh;unfold AM;rw[ho];have:=run_loadVar_row w g 234 234 cs (0,0) _ hg hfs rfl (As hc aC9);simp[hx,Instr.loadAt,s3,this]
def aWk(ho:o.op=.buildSlice 130 1 #[(0,x)])(hx:ρ x=AH cs)(hc:cs.size=8):(AM ρ o).run A6 w=AP (BB (A0 (Z ⟨w,0,J⟩) 1 1)) (w.alloc (A7 cs 234)):=by obtain⟨x0,x1,x2,x3,x4,x5,x6,x7,rfl⟩:=eight hc;unfold AM;rw[ho];simp only[JO,Ee,hx];kernel_rfl
def aWb{B k:Nat}{v:A3}{xs:List A3}(ho:o.op=Em {callee:=Fw .append,args:=#[x,y],argTypes:=#[130,130]})(hx:ρ x=v)(hy:ρ y=A0 (Z ⟨g,0,J⟩) 1 1)(hg:w.heap[g]?=Z (A7 cs 234))(hc:cs.size=8)(I:cs.all (·.oneCell')=A5)(hown:w.ownsRow B 234 8 v k xs)(hk:k<2147483648)(hB:B<=w):∃v' h,(AM ρ o).run A6 w=AP (BB v') h/\h.ownsRow B 234 8 v' (k+1) (xs++cs.toList)/\w.heap.size<=h/\∀b,b<B->h.heap[b]?=w.heap[b]?:=by
 obtain⟨i,hi,hz,h8,N⟩:=FJ xn;let U:∀(j:Nat)(u:A3),cs.toList[j]?=u->w.cell? ((⟨g,0,J⟩:An).add j)=u:=by intro j u hu;rw[Addr.add_lit];simp[Cr,hg,Ai hu]
 let⟨v',h,hr,h2,h3,_⟩:=run_append_own w B 130 o.type 234 i (AH NS) 8 136 lU hi hz h8 N rfl A' v k xs hown ⟨g,0,J⟩ 1 1 cs.toList (by simp[hc]) U (λu hu=>(Array.all_eq_true_iff_forall_mem.1 I) u (Ai hu)) (by simp[maxLen];omega) A' hB;refine⟨v',h,?_,h2,h3.size,λb hb=>h3.block b A' λe=>?_⟩;.unfold AM;simp only[ho,KQ,Ra,builtin,Sem.run_bind,Sem.run_pure,Result.andThen_ok,JO,Ee,Iw,hx,hy,hr]
 have:=(hown.lt b e.symm).1;omega
end
structure UL(Ia:zy)(x:A3)(cs:zw):Prop where
 is:x=AH cs
 size:cs.size=8
 one:cs.all (·.oneCell')=A5
 Kl:Al CK (C7 Ia) cs.toList cs.toList
def UL.mono{B A x cs}(h:UL B x cs)(k:∀b,B b->A b):UL A x cs:=⟨h.is,h.size,h.one,h.Kl.mono (Q5 k)⟩
def Zv{w':A1}{B k:Nat}{v:A3}{xs:List A3}(h:w.ownsRow B 234 8 v k xs)(e:∀b,B<=b->b<w->w'.heap[b]?=w.heap[b]?):w'.ownsRow B 234 8 v k xs:=by let⟨x,y⟩:=h;refine⟨x,y.imp id ?_⟩;rintro⟨g,cap,cur,I,h2,h3,h4⟩;exact⟨g,cap,cur,I,h2,Ar (e g h2 (B3 h3)),h4⟩
section
variable{Wb R gc:zy}{Post:zv}{w w' AU:A1}{c cap s r:Nat}{DW:zw}{cl tm:Bool}{a:AY}{z:A3}{shape:a0H}{v:Nat->A3}{cs:List Ah}
theorem k3{b H s' r' A B C}(h:b≠c):(w.setChan c H A B s' r' C).heap[b]?=w.heap[b]?:=by simp_all[bA,Gy]
def Ce.recv(hrun:a.status=CZ)(hcomm:∀w,B9 A6 A5 a w=et a #[QT c z] A5 shape w #[])(hc:w.heap[c]?=Z (Is cap DW cl s r tm))(A:0<DW.size)(B:¬Wb c)(k:∀d,Ce Wb (a.finishComm A6 #[QT c z] shape 0 (DW.getD 0 AN) A5) ((w.setChan c cap (DW.extract 1 DW) cl s (r+1) tm).at d) Post):Ce Wb a w Post:=by intro Wc U I h gs sl t q C;obtain⟨N,H,d,sl',K,q',r1,_,c1⟩:=aJL hrun (λ_=>hcomm _) hc A sl C;obtain⟨N2,M,g2,w2,Y,t2,q2,Li,r2,c2,JH,k2,p2⟩:=k d Wc U I (λb hb=>⟨(h b hb).1,by show b<w.heap.setIfInBounds ..;simpa using(h b hb).2⟩) H sl' K q' c1;exact⟨N+N2,M,g2,w2,Y,t2,q2,Li,Tp r1 r2,c2,JH,KU.trans (w':=(w.setChan c cap (DW.extract 1 DW) cl s (r+1) tm).at d) ⟨rfl,rfl,by show _<=(w.heap.setIfInBounds ..).size;simp,λb hb _=>k3 (by rintro rfl;exact B (I▸AF hb))⟩ k2,p2⟩
def Ce.closed(hrun:a.status=CZ)(hcomm:∀w,B9 A6 A5 a w=et a #[QT c z] A5 shape w #[])(hc:w.heap[c]?=Z (Is cap #[] A5 s r tm))(k:∀d,Ce Wb (a.finishComm A6 #[QT c z] shape 0 z A9) (w.at d) Post):Ce Wb a w Post:=by intro I U A B gs sl t q C;obtain⟨N,H,d,sl',K,q',r1,_,c1⟩:=aJJ hrun (λ_=>hcomm _) hc sl C;obtain⟨N2,M,g2,w2,Y,t2,q2,h,r2,c2,JH,k2,p2⟩:=k d I U A B H sl' K q' c1;exact⟨N+N2,M,g2,w2,Y,t2,q2,h,Tp r1 r2,c2,JH,KU.trans ((KU.refl U w).at d) k2,p2⟩
def CC.chan(h:CC Wb R w)(e:∀b,b≠c->w'.heap[b]?=w.heap[b]?)(I:w'.heap[c]?=Z (Is cap DW cl s r tm))(hb:Ey R DW)(hz:w.heap.size<=w'):CC Wb R w':=⟨⟨λb N=>by
 by_cases hbc:b=c;.subst hbc;exact⟨_,I,.chan _ _ _ _ _ hb⟩
 rw[e b hbc];exact h.closed.heap b N,h.closed.off,h.closed.Ca⟩,λb hb=>Hw (h.low b hb) hz⟩
def aCL(h:v 28=EJ (Z c))(w):B9 A6 A5 (G (Fr (J,[]) 126 (Ax 39 v) (Ak Kj [0,1]::Nj)) cs) w=et (G (Fr (J,[]) 126 (Ax 39 v) (Ak Kj [0,1]::Nj)) cs) #[QT c (AH NS)] A5 (l1 A5) w #[]:=by
 let h0:Kj[0]?=Z (Kj.getD 0 DU):=rfl;let I:(Kj.getD 0 DU).op=.recv 316 (Aa 28) A5:=rfl;let hz:(AM (FG ⟨Ax 39 v,[]⟩) (Kj.getD 0 DU)).runT A6 w #[]=(AP (sC #[QT c (AH NS)] A5 (l1 A5)) w,#[]):=by unfold AM;rw[I,Ug];simp only[show Ed 39 v (Aa 28)=EJ (Z c)from h];kernel_rfl
 let hr:(AM (FG ⟨Ax 39 v,[]⟩) (Kj.getD 0 DU)).run A6 w=AP (sC #[QT c (AH NS)] A5 (l1 A5)) w:=by rw[<-X_ _ w #[],hz]
 have:=aE2 (P:=A6) (main:=A5) (b:=B5 126) (a:=⟨Ax 39 v,[]⟩) (k:=Nj) (cs:=cs) (rest:=[1]) h0 rfl (by simp[B5]) hr;rw[show eg A6 (B5 126).fn ⟨Ax 39 v,[]⟩ (Kj.getD 0 DU) w=#[]by unfold eg a1K;rw[hz];exact Vm ..]at this;exact this
def a4u{u ok}:(G (Fr (J,[]) 126 (Ax 39 v) (Ak Kj [0,1]::Nj)) cs).finishComm A6 #[QT c (AH NS)] (l1 A5) 0 u ok=G (Fr (J,[]) 126 (Ax 39 (BQ v 29 (Aj #[u,Ag ok]))) (Ak Kj [1]::Nj)) cs:=by have:∀T:zw,(G (Fr (J,[]) 126 T (Ak Kj [0,1]::Nj)) cs).finishComm A6 #[QT c (AH NS)] (l1 A5) 0 u ok=G (Fr (J,[]) 126 (T.setIfInBounds 29 (Aj #[u,Ag ok])) (Ak Kj [1]::Nj)) cs:=λ_=>rfl;rw[this,Qj]
def a_8{E}:AK CK E (AH NS) (AH NS):=.agg (.cons (.string _) (.cons (.string _) (.cons (.string _) (.cons (.string _) (.cons (.string _) (.cons (.FZ ..) (.cons (.int ..) (.cons (.FZ ..) .nil))))))))
abbrev no:zy:=λ_=>False
structure a2w(c B:Nat)(W0:A1)(Wb R:zy)(got:List A3)(v:Nat->A3)(w:A1):Prop where
 S:Ap 39 G9 w no Wb R w v
 v28:v 28=EJ (Z c)
 own:w.ownsRow B 234 8 (v 9) got (got.flatMap λv=>v.cells.toList)
 low:∀b,b<B->b≠c->w.heap[b]?=W0.heap[b]?
 a3k:B<=w
def aBW{B W0}(A:c<B)(iG:¬Wb c):∀(DW got:List A3)(R)(v)(w:A1)(r),a2w c B W0 Wb R got v w->(∀x∈DW,∃cs,UL R x cs)->w.heap[c]?=Z (Is cap DW.toArray A5 s r tm)->got.length+DW.length<2147483648->(∀R' v' w',a2w c B W0 Wb R' (got++DW) v' w'->(∀b,R b->R' b)->Be 126 39 cs Wb w' (v',[Aw uf]) Post)->Be 126 39 cs Wb w (v,Aw b_::mV) Post
 |[],got,R,v,w,r,h,hM,hc,hl,k=>by refine h.S.to 2 (q:=Ak Kj [0,1]::Nj) A8 λm S=>?_;show Ce Wb (G (Fr (J,[]) 126 (Ax 39 v) (Ak Kj [0,1]::Nj)) cs) (w.at m) Post;refine .closed rfl (aCL h.v28) hc λd=>?_;rw[a4u];have M:Ap 39 G9 w no Wb R ((w.at m).at d) (BQ v 29 (Aj #[AH NS,Ag A9])):=⟨(h.S.H.at m).at d,h.S.V.upd λ_=>.tuple (.cons a_8 (.cons (.bool _) .nil)),λ_ h=>h.elim⟩;show Be 126 39 cs Wb ((w.at m).at d) (BQ v 29 (Aj #[AH NS,Ag A9]),Ak Kj [1]::Nj) Post;refine M.to 5 (q:=[Aw uf]) A8 λQA K=>?_;have Y:(D2 39 G9 5 (BQ v 29 (Aj #[AH NS,Ag A9]),Ak Kj [1]::Nj)).1 28=v 28:=A8;have KX:(D2 39 G9 5 (BQ v 29 (Aj #[AH NS,Ag A9]),Ak Kj [1]::Nj)).1 9=v 9:=A8;exact k R _ _ ⟨⟨K.H,K.V,λ_ h=>h.elim⟩,Y.trans h.v28,by rw[KX,List.append_nil];exact h.own,h.low,h.a3k⟩ λ_ x=>x
 |x::DW,got,R,v,w,r,h,hM,hc,hl,k=>by
  obtain⟨I,rfl,h8,h1,hv⟩:=hM x (Le ..);refine h.S.to 2 (q:=Ak Kj [0,1]::Nj) A8 λm S=>?_;show Ce Wb (G (Fr (J,[]) 126 (Ax 39 v) (Ak Kj [0,1]::Nj)) cs) (w.at m) Post;refine .recv rfl (aCL h.v28) hc AD iG λd=>?_;rw[a4u,show(AH I::DW).toArray.getD 0 AN=AH I by simp,show(AH I::DW).toArray.extract 1 (AH I::DW).toArray.size=DW.toArray by apply qq;simp];have e1:∀b,b≠c->JE b (((w.at m).setChan c cap DW.toArray A5 s (r+1) tm).at d) w:=λb hb=>k3 (w:=w) hb;have z1:(((w.at m).setChan c cap DW.toArray A5 s (r+1) tm).at d).heap.size=w:=by show(w.heap.setIfInBounds ..).size=_;simp
  have c1:Fl (((w.at m).setChan c cap DW.toArray A5 s (r+1) tm).at d) c (Is cap DW.toArray A5 s (r+1) tm):=aDx w _ _ _ _ _ _ _ (B3 hc);generalize((w.at m).setChan c cap DW.toArray A5 s (r+1) tm).at d=N at e1 z1 c1;have M:Ap 39 G9 N no Wb R N (BQ v 29 (Aj #[AH I,Ag A5])):=⟨h.S.H.chan e1 c1 (VY λj u hu=>by obtain⟨Yk,rfl,_,_,h9⟩:=hM u (G1 _ (Ai (Xk hu)));exact .agg h9) (Nat.le_of_eq z1.symm),h.S.V.upd λ_=>.tuple (.cons (.agg hv) (.cons (.bool _) .nil)),λ_ h=>h.elim⟩;have FM:=Zv (w':=N) h.own λb hb _=>e1 b (by omega);have a6E:=h.a3k;show Be 126 39 cs Wb N (BQ v 29 (Aj #[AH I,Ag A5]),Ak Kj [1]::Nj) Post;refine M.alloc (A7 NS 234) (e:=10) A8 (λ_ _ h=>aWX h) λFg w2 K MR Hj HB Kc=>?_;refine K.store N (A7 I 234) (λh=>h) A8 (λx T o h=>aXM (w:=on (w2.at x) T) (x:=Aa 10) (y:=Aa 31) h A8 A8 Hj rfl h8 h1) λDp w3 Bu K0 Mc LD KZ=>?_;refine Bu.calm (AH I) (e:=33) A8 (λx T o h=>⟨_,aX7 (w:=on (w3.at x) T) (x:=Aa 10) h A8 KZ h8,rfl⟩) λIA w4 Cj Lm e4=>?_;refine Cj.g_ (A7 I 234) (λz=>BG z 0 1 1) (e:=34) A8 (λ_ _ h=>aWk (x:=Aa 33) h A8 h8) λHd C E_ Ln np dE TY=>?_;rw[e4]at np dE TY;have R4:∀b,b<N.heap.size->JE b C N:=λb hb=>(TY b (by omega)).trans ((LD b (by omega)).trans (Kc b hb));refine E_.jZ (λu U=>U.ownsRow B 234 8 u (got+1) ((got.flatMap λv=>v.cells.toList)++I.toList)/\C.heap.size<=U/\∀b,b<B->U.heap[b]?=C.heap[b]?) (e:=35) A8 (λx T o h=>let⟨v',w',a1,a2⟩:=aWb (g:=w4) (w:=on (C.at x) T) (x:=Aa 32) (y:=Aa 34) h A8 A8 (As e4 np) h8 h1 (Zv FM λb _ hb=>R4 b hb) (by simp at hl;omega) (by show B<=C.heap.size;omega);⟨_,v',w',a1,AA rfl,a2⟩) (λ_ _ _ _ h=>h.elim) λJs u CU U Dh On e6⟨q1,q2,q3⟩=>?_;rw[<-e6]at q2 q3;have q1:=Zv (w':=U) q1 λ_ _ _=>by rw[e6]
  generalize hs:EB (BM 39 G9 _) 35 u=zS at Dh⊢;have vU:(D2 39 G9 4 zS).1 9=u:=by rw[<-hs];kernel_rfl
  have vT:(D2 39 G9 4 zS).1 28=v 28:=by rw[<-hs];kernel_rfl
  refine Dh.to 4 (q:=Aw b_::mV) (by rw[<-hs];kernel_rfl) λy8 Fi=>?_;exact aBW A iG DW (got++[AH I]) Js _ _ (r+1) ⟨⟨Fi.H,Fi.V,λ_ h=>h.elim⟩,vT.trans h.v28,by rw[vU];exact Zv (w:=U) (by simpa[Value.cells]using q1) λ_ _ _=>rfl,λb hb hbc=>(q3 b hb).trans ((R4 b (by omega)).trans ((e1 b hbc).trans (h.low b hb hbc))),by show B<=U.heap.size;omega⟩ (λy hy=>let⟨Yk,h9⟩:=hM y (G1 _ hy);⟨Yk,h9.mono λb hb=>On.1 b (Ln b (Lm b (K0 b (MR b hb))))⟩) ((q3 c A).trans ((R4 c (by omega)).trans c1)) (by simp at hl⊢;omega) λR' v' w' s1 hle=>k R' v' w' (Ai s1) λb hb=>hle b (On.1 b (Ln b (Lm b (K0 b (MR b hb)))))
theorem Be.close{f n i:Nat}{ops:Array B8}{rest:List Nat}{q:List Cd}{o:B8}{x:BP}(hi:ops[i]?=o)(hg:o.guard=J)(ho:o.op=Em {callee:=Fw .close,args:=#[x],argTypes:=#[316]})(hd:o.dst=J)(hx:Ed n v x=EJ (Z c))(hc:w.heap[c]?=Z (Is cap DW A9 s r tm))(h:CC Wb R w)(I:¬Wb c)(k:∀d,Be f n cs Wb ((w.setChan c cap DW A5 s r tm).at d) (v,Ak ops rest::q) Post):Be f n cs Wb w (v,Ak ops (i::rest)::q) Post:=by
 refine .own (w2:=w.setChan c cap DW A5 s r tm) (es:=Fc A6 f #[⟨FI c,A9,A5⟩,⟨FI c,A5,A5⟩]) rfl (λd=>?_) h.low (by simp[bA]) (λz _ hz=>k3 (by rintro rfl;exact I hz)) ⟨rfl,rfl,rfl⟩ (λe he=>?_) k;.rw[dx hi (by grind[Gd]) (λc e=>by rw[ho]at e;cases e),Ug,H0 rfl (aWo (w:=w.at d) ho hx hc) rfl,Uh hi hd];rfl
 have:=Vl he;have:=B3 hc;simp at*;grind[bA]
def aJH{bl off n K A t:Nat}{p:Nat×Nat}{c':Ah}{cs':List Ah}{Q:A3->A1->A1->Prop}{DW:List A3}(m2:CC Wb R w)(cW:Cb 39 G9 R v)(CF:¬Wb c)(h1:v 1=A0 (Z ⟨bl,off,J⟩) n K)(h5:v 5=AT A)(hb:w.heap[A]?=Z (A7 #[EJ (Z c)] t p))(hc:w.heap[c]?=Z (Is cap DW.toArray A9 s r tm))(hn:n<2147483648)(hl:DW.length<2147483648)(hM:∀x∈DW,∃cs,UL R x cs)(dG:∀u w2,w2.ownsRow w 234 8 u DW (DW.flatMap λv=>v.cells.toList)->(∀b,b<w.heap.size->b≠c->w2.heap[b]?=w.heap[b]?)->∀T0,Ab A6 128 #[u,Br (Bo 129) #[] #[]] (on w2 T0) λe I=>e=AV (Aj #[])/\Q u w2 I):Be 126 39 (c'::cs') Wb w (v,[Ak XQ [],Aw Pk]) λBJ g' w'=>∃R' u w2 I,g'=G (c'.finish u) cs'/\AK CK (C7 R') u u/\(∀b,R b->R' b)/\CC BJ R' w'/\Q u w2 I/\w'.heap=I.heap:=by
 let S0:Ap 39 G9 w no Wb R w v:=⟨m2,cW,λ_ h=>h.elim⟩;let Ux:=B3 hc;let ia:=B3 hb;let hne:A≠c:=λe=>by rw[e,hc]at hb;cases hb
 refine S0.fix [(1,BG bl off n K),(5,AT A)] (by simp[h1,h5]) λS0=>?_;refine S0.calm (EJ (Z c)) (e:=24) A8 (λx T o h=>⟨_,aBo (w:=on (w.at x) T) (x:=Aa 5) h A8 hb,rfl⟩) λip I C Er e1=>?_;refine C.to 0 (q:=[Ak (IL (fstC Pk)) [1],Aw (sndC Pk)]) A8 λm C=>?_;generalize Kd:(D2 39 G9 0 (EB _ _ _)).1=El at C⊢;have f1:El 1=BG bl off n K:=by rw[<-Kd];kernel_rfl
 have aLc:El 5=AT A:=by rw[<-Kd];kernel_rfl
 have aLb:El 24=EJ (Z c):=by rw[<-Kd];kernel_rfl
 clear Kd S0;rw[<-e1]at hc Ux;have hz1:I.heap.size=w:=by rw[e1]
 refine Be.close (w:=I.at m) (i:=1) (o:=(IL (fstC Pk)).getD 1 DU) rfl rfl rfl rfl (x:=Aa 24) aLb hc C.H CF λd=>?_;have e2:∀b,b≠c->(((I.at m).setChan c cap DW.toArray A5 s r tm).at d).heap[b]?=w.heap[b]?:=λb hb=>As e1.symm (k3 (w:=I) hb);have z2:(((I.at m).setChan c cap DW.toArray A5 s r tm).at d).heap.size=w:=by show(I.heap.setIfInBounds ..).size=_;simp[e1]
 have c2:Fl (((I.at m).setChan c cap DW.toArray A5 s r tm).at d) c (Is cap DW.toArray A5 s r tm):=aDx I _ _ _ _ _ _ _ Ux;have hM1:=λx hx=>let⟨Yk,h9⟩:=hM x hx;(⟨Yk,h9.mono Er⟩:∃cs,UL ip x cs);have Hv:=C.H.chan (w':=((I.at m).setChan c cap DW.toArray A5 s r tm).at d) (λb hb=>k3 (w:=I) hb) c2 (VY λj u hu=>by obtain⟨Yk,rfl,_,_,h9⟩:=hM1 u (Ai (Xk hu));exact .agg h9) (by rw[z2,<-hz1];exact Ad _);generalize((I.at m).setChan c cap DW.toArray A5 s r tm).at d=w2 at e2 z2 c2 Hv;have v9:Ap 39 G9 w no Wb ip w2 El:=⟨Hv,C.V,λ_ h=>h.elim⟩;refine v9.fix [(1,BG bl off n K),(5,AT A)] (by simp[f1,aLc]) λv9=>?_;refine v9.calm (AX n) (e:=26) A8 (λx T o h=>⟨_,zP (a:=Z ⟨bl,off,J⟩) (c:=K) (x:=Aa 25) h A8,rfl⟩) λDp N Bu K0 e3=>?_;have j9:N.heap.size=w:=by rw[e3,z2]
 refine Bu.jZ (λu U=>u=A0 (Z ⟨N,0,J⟩) 0 n/\U.ownsRow N 234 8 u 0 []/\N.heap.size<=U/\∀b,b<N.heap.size->U.heap[b]?=N.heap[b]?) (p:=lN 130 (KN (AX 0)) (Aa 26)) (e:=27) A8 (λx T o h=>let⟨w',a1,a2,a3⟩:=aXF (w:=on (N.at x) T) (n:=n) (x:=KN (AX 0)) (y:=Aa 26) h A8 A8 hn;⟨_,_,w',a1,AA rfl,rfl,a2,a3.size,λb hb=>a3.block b hb AD⟩) (λ_ _ _ _ h=>h.elim) λIA u CU U Cj Lm e4 hq=>?_;rw[j9,e3]at hq;obtain⟨rfl,q1,q2,q3⟩:=hq;rw[<-e4]at q2 q3;have q1:=Zv (w':=U) q1 λ_ _ _=>by rw[e4]
 refine Cj.calm (EJ (Z c)) (e:=28) A8 (λx T o h=>⟨_,aBo (w:=on (U.at x) T) (x:=Aa 5) h A8 ((q3 A ia).trans ((e2 A hne).trans hb)),rfl⟩) λHd Bd E_ Ln e5=>?_;have M:∀b,R b->Hd b:=λb hb=>Ln b (Lm.1 b (K0 b (Er b hb)));generalize hs:EB (BM 39 G9 _) 28 _=zR at E_⊢;have vU:(D2 39 G9 3 zR).1 9=BG (AR w) 0 0 n:=by rw[<-hs];kernel_rfl
 have vT:(D2 39 G9 3 zR).1 28=EJ (Z c):=by rw[<-hs];kernel_rfl
 refine E_.to 3 (q:=Aw b_::mV) (by rw[<-hs];kernel_rfl) λy8 Y=>?_;refine aBW (B:=w) (W0:=w) (by omega) CF DW [] Hd _ _ r ⟨⟨Y.H,Y.V,λ_ h=>h.elim⟩,vT,by rw[vU];exact Zv (w:=U) q1 λ_ _ _=>Af e5.symm,λb hb hbc=>?_,?_⟩ (λx hx=>?_) (cap:=cap) (s:=s) (tm:=tm) ?_ (Ai hl) λR' v' w' s1 hle=>?_;.show Bd.heap[b]?=_;rw[e5,q3 b hb];exact e2 b hbc
 .show _<=Bd.heap.size;rwa[e5]
 .let⟨Yk,h9⟩:=hM x hx;exact⟨Yk,h9.mono λb hb=>M b hb⟩
 .show Bd.heap[c]?=_;rw[e5,q3 c (by omega)];exact c2
 refine s1.S.dT (Q:=λu I=>u=Aj #[]/\∃x,Q (v' 9) (w'.at x) I) (g:=128) (az:=#[v' 9,Br (Bo 129) #[] #[]]) (e:=37) A8 A8 (λT x=>(dG _ (w'.at x) (Zv s1.own λ_ _ _=>rfl) s1.low T).mono ?_) (λ_ _ _ _ h=>h.elim) λBJ Js u w1' EC Y On e6 hq=>?_;.rintro e Iq⟨rfl,hz⟩;exact⟨_,rfl,rfl,_,hz⟩
 obtain⟨_,y,hq⟩:=hq;exact Y.back (u:=v' 9) A8 λm=>.here ⟨Js,v' 9,_,w1',rfl,(s1.S.V 9 (by decide) rfl).mono (Q5 On),λb hb=>On b (hle b (M b hb)),Y.H.at m,hq,e6⟩
end
def be(A B:zy):zy:=λb=>A b∨B b
structure WO(BE:zy)(C:Nat->A3->zy->A1->Prop)(j:Nat)(x:A3)(M:zy)(w:A1):Prop where
 a9c:∃cs,UL (be BE M) x cs
 own:∀b,M b->∃o,w.heap[b]?=Z o/\Ff CK (C7 (be BE M)) o o
 aBy:C j x M w
def aK2{rc}{A Bn n s r t:Nat}{p tm C}{sm:List (Nat×A3)}(B:Closed CK Wb rc w)(hrc:∀b,BE b->rc b)(h5:w.heap[A]?=Z (A7 #[EJ (Z Bn)] t p))(hch:w.heap[Bn]?=Z (Is n (sm.map (·.2)).toArray A9 s r tm))(U:¬Wb A)(H:¬Wb Bn)(K:∀i v,(i,v)∈sm->∃M,(∀b,M b->¬Wb b)/\WO BE C i v M w):∃I,Closed CK Wb I w/\I A/\I Bn/\(∀b,rc b->I b)/\∀x∈sm.map (·.2),∃cs,UL I x cs:=by
 generalize N:(λb=>rc b∨b=A∨b=Bn∨∃i v M,(i,v)∈sm/\(∀b,M b->¬Wb b)/\WO BE C i v M w/\M b)=I;let c1:∀b,rc b->I b:=λb hb=>N▸AA hb;let c2:I A:=N▸AF (AA rfl);let c3:I Bn:=N▸AF (AF (AA rfl));let c4:∀i v M,(i,v)∈sm->(∀b,M b->¬Wb b)->WO BE C i v M w->∀b,be BE M b->I b:=λi v M h1 h2 h3 b hb=>hb.elim (λh=>c1 b (hrc b h)) λh=>N▸AF (AF (AF ⟨i,v,M,h1,h2,h3,h⟩));let hm:∀x∈sm.map (·.2),∃cs,UL I x cs:=λx hx=>by obtain⟨⟨i,v⟩,h,rfl⟩:=Bt.1 hx;let⟨M,h1,h2⟩:=K i v h;let⟨cs,h3⟩:=h2.a9c;exact⟨cs,h3.mono (c4 i v M h h1 h2)⟩
 refine⟨I,⟨λb hb=>?_,λb hb=>?_,λb hb=>c1 b (B.Ca b hb)⟩,c2,c3,c1,hm⟩
 .rw[<-N]at hb;rcases hb with hb|rfl|rfl|⟨i,v,M,a1,a2,a3,a4⟩;.let⟨o,e,k⟩:=B.heap b hb;exact⟨o,e,k.mono (Q5 c1)⟩
  .exact⟨_,h5,.cells t (.cons (.chan ⟨rfl,c3⟩) .nil) (.refl _)⟩
  .exact⟨_,hch,.chan _ _ _ _ _ (VY λj u hu=>by obtain⟨cs,rfl,_,_,h⟩:=hm u (Ai (Xk hu));exact .agg h)⟩
  let⟨o,e,k⟩:=a3.own b a4;exact⟨o,e,k.mono (Q5 (c4 i v M a1 a2 a3))⟩
 rw[<-N]at hb;rcases hb with hb|rfl|rfl|⟨i,v,M,_,a2,_,a4⟩;.exact B.off b hb
 .exact U
 .exact H
 exact a2 b a4
def uH{n T}(h:T.size=n):T=Ax n λi=>T.getD i AN:=by apply Array.ext (by simp[Ax,h]);intro i I h2;simp[Ax,QP,I]
noncomputable def RA:Array B8:=IL (fstC WW)
noncomputable def o1:Array B8:=IL (fstC (sndC WW))
theorem aWU{P t i es}(h:P.info? t=Z i):(typeInfo t).runT P w es=(AP i w,es):=by change(match P.info? t with|Z i=>Sem.pure i|J=>UB _).runT P w es=_;simp_all
section
variable{ρ:BP->A3}{w:A1}{o:B8}{x y:BP}{c g n:Nat}{cs:zw}
def aWS(ho:o.op=Em {callee:=Fw .len,args:=#[x],argTypes:=#[57]})(hx:ρ x=A0 a n c):(AM ρ o).runT A6 w #[]=(AP (BB n) w,#[]):=by unfold AM;rw[ho];simp[hx,go_sem]
def aWQ(ho:o.op=.box 138 x)(hx:ρ x=AH cs):(AM ρ o).runT A6 w #[]=(AP (BB (AT w)) {w with heap:=w.heap.push (A7 cs 138)},#[]):=by unfold AM;rw[ho];simp only[hx];rfl
def aWR(ho:o.op=.makeChan 316 x)(hx:ρ x=n)(hn:n<2147483648):(AM ρ o).runT A6 w #[]=(AP (BB (EJ (Z w))) {w with heap:=w.heap.push (Is n #[] A9 0 0 A9)},#[]):=by
 obtain⟨i,hi,_,_,h⟩:=FJ xn;unfold AM;rw[ho];simp only[hx];let e:(aEe 316 (AX n)).runT A6 w #[]=(AP (EJ (Z (AR w))) {w with heap:=w.heap.push (Is n #[] A9 0 0 A9)},#[]):=by
  let hb:¬((n:Int)<0∨n>AJ.max∨(i.bytes:Int)*n>2^48-112):=by rw[h];have:AJ.max=9223372036854775807:=Ac;omega
  change(Dl (typeInfo 234) _).runT A6 w #[]=_;rw[LR,aWU hi];dsimp only;rw[if_neg hb];rfl
 change(Dl (aEe 316 (AX n)) _).runT A6 w #[]=_;rw[LR,e];rfl
def aWT{u}(ho:o.op=La 316 x y)(hx:ρ x=AT g)(hy:ρ y=EJ (Z c))(hg:w.heap[g]?=Z (A7 #[u] 316)):(AM ρ o).runT A6 w #[]=(AP JN (w.setCell ⟨g,0,J⟩ (EJ (Z c))),#[⟨KJ ⟨g,0,J⟩,A5,A9⟩]):=by unfold AM;rw[ho];simp[hx,hy,go_sem,Cr,fM,hg]
end
section
variable{Wb:zy}{Stop:AY->A1->Prop}{f n i:Nat}{v:Nat->A3}{ops:Array B8}{rest:List Nat}{q:List Cd}{cs:List Ah}{o:B8}{w w2:A1}{s:FC}{D:List Nat}
def Cy.to:∀(K){s}{q},(D2 n D K s).2=q->Cy A6 Wb Stop (G (Fr (J,[]) f (Ax n (D2 n D K s).1) q) cs) w->Cy A6 Wb Stop (G (Fr (J,[]) f (Ax n s.1) s.2) cs) w
 |0,_,_,h,k=>by subst h;exact k
 |K+1,s,q,h,k=>by
  unfold D2 at h k;split at h;.rename_i hs;rw[hs]at k;exact .ctl rfl (λ_=>qL hs) (Cy.to K h k)
  rename_i hs;rw[hs]at k;subst h;exact k
theorem Cy.y_{d:Option Nat}{A:JM}{u:A3}{es:Array C5}(ho:ops[i]?=Z o)(hd:o.dst=d)(hg:o.guard=J)(hf:∀c,o.op≠b3 c)(h:∀d,(AM (Ed n v) o).runT A6 (w.at d) #[]=(AP A (w2.at d),es))(hu:Sb A u)(B:w.heap.size<=w2)(hsame:∀x,x<w.heap.size->¬Du Wb w x->w2.heap[x]?=w.heap[x]?)(I:w2.os=w.os/\w2.output=w.output/\w2.tape=w.tape)(N:∀e∈es,Ko (λ_=>False) (λb=>Du Wb w b∨w<=b/\b<w2) e)(k:Cy A6 Wb Stop (G (Fr (J,[]) f (Ax n (da v u d)) (Ak ops rest::q)) cs) w2):Cy A6 Wb Stop (G (Fr (J,[]) f (Ax n v) (Ak ops (i::rest)::q)) cs) w:=by
 let U:(Fr (J,[]) f (Ax n v) (Ak ops (i::rest)::q)).finish u=Fr (J,[]) f (Ax n (da v u d)) (Ak ops rest::q):=by rw[Uh ho hd];cases d<;>simp[IP,Qj,da]
 refine .step rfl λd=>⟨_,w2.at d,Fc A6 f es,_,?_,⟨B,λx hx hn=>hsame x hx hn,I.1,I.2.1,I.2.2,λx=>Sy,λe he=>N e (Vl he)⟩,k.at d⟩;rw[dx ho (by grind[Gd]) hf,Ug,<-U];rcases hu with rfl|⟨rfl,rfl⟩;.rw[H0 rfl (h d) rfl];rfl
 rw[H0 rfl (h d) rfl];rfl
theorem Cy.push{e:Nat}{c:Cq}(U:Nat->A3)(ho:ops[i]?=Z o)(hd:(o.dst,o.guard)=(Z e,J))(hf:∀c,o.op≠b3 c)(h:∀w,(AM (Ed n v) o).runT A6 w #[]=(AP (BB (U w)) {w with heap:=w.heap.push c},#[]))(k:∀w2:A1,w2.heap=w.heap.push c->Cy A6 Wb Stop (G (Fr (J,[]) f (Ax n (BQ v e (U w))) (Ak ops rest::q)) cs) w2):Cy A6 Wb Stop (G (Fr (J,[]) f (Ax n v) (Ak ops (i::rest)::q)) cs) w:=.y_ (w2:={w with heap:=w.heap.push c}) (u:=U (AR w)) (d:=Z e) ho (a2q hd).1 (a2q hd).2 hf (λd=>h (w.at d)) (AA rfl) AD λx hx _=>by show(w.heap.push c)[x]?=_;grind ⟨rfl,rfl,rfl⟩ (λe he=>by simp at he) (k _ rfl)
end
def aL7{cs:List Ah}{rc:zw}{bl off n cap:Nat}(B:∀b,Wb b->b<w)(hn:n<2147483648):Cy A6 Wb (λg w'=>∃v,g=G (Fr (J,[]) 126 (Ax 39 v) [Ak o2 [0],Aw c3]) cs/\(v 1=A0 (Z ⟨bl,off,J⟩) n cap/\v 2=AT w/\v 5=AT (w+2))/\(∀A:zy,A bl->A (w+2)->Cb 39 G9 A v)/\w'.heap=((w.heap.push (A7 rc 138)).push (Is n #[] A9 0 0 A9)).push (A7 #[EJ (Z (w+1))] 316)) (G (Fa A6 126 #[AH rc,A0 (Z ⟨bl,off,J⟩) n cap] EI) cs) w:=by
 rw[vM 39 rfl];refine Cy.to (D:=[]) 2 (q:=[Ak RA [0,1],Aw (sndC WW)]) A8 ?_;refine .push AT (e:=2) (c:=A7 rc 138) (o:=RA.getD 0 DU) rfl rfl (λc e=>by cases e) (λw=>aWQ (x:=Aa 0) rfl A8) λN e1=>?_;refine Cy.to (D:=[]) (s:=(_,[Ak RA [1],Aw (sndC WW)])) 5 (q:=[Ak o1 [1,2,3,4],Aw (sndC (sndC WW))]) A8 ?_;refine .y_ (w2:=N) (u:=AX n) (d:=Z 12) (o:=o1.getD 1 DU) rfl rfl rfl (λc e=>by cases e) (λd=>aWS (x:=Aa 11) (a:=Z ⟨bl,off,J⟩) (c:=cap) rfl A8) (AA rfl) (Ad _) (λ_ _ _=>rfl) ⟨rfl,rfl,rfl⟩ (λe he=>by simp at he) ?_;refine .push (λz=>EJ (Z z)) (e:=13) (c:=Is n #[] A9 0 0 A9) (o:=o1.getD 2 DU) rfl rfl (λc e=>by cases e) (λw=>aWR (x:=Aa 12) rfl A8 hn) λw2 e2=>?_;refine .push AT (e:=5) (c:=A7 #[EJ J] 316) (o:=o1.getD 3 DU) rfl rfl (λc e=>by cases e) (λw=>rfl) λh e3=>?_;let z1:N=AR w+1:=by rw[e1];simp
 let z2:w2.heap.size=w+2:=by rw[e2];simp[z1]
 have I:h.heap[w.heap.size+2]?=Z (A7 #[EJ J] 316):=by rw[e3,<-z2];simp
 have hM:Du Wb h (w+2):=⟨B3 I,λhb=>BO (B _ hb)⟩;rw[z1,z2];refine .y_ (w2:=h.setCell ⟨w+2,0,J⟩ (EJ (Z (w+1)))) (u:=AN) (d:=J) (o:=o1.getD 4 DU) rfl rfl rfl (λc e=>by cases e) (λd=>aWT (w:=h.at d) (x:=Aa 5) (y:=Aa 13) rfl A8 A8 I) (AF ⟨rfl,rfl⟩) (by simp[QW]) (λx _ hx=>O7 _ _ _ λe=>hx (e▸hM)) ⟨rfl,rfl,rfl⟩ (λe he=>?_) ?_;.simp only[a2c,ES]at he;subst he;exact .cell _ _ (AA (AA hM))
 refine Cy.to (D:=[]) (s:=(_,[Ak o1 [],Aw (sndC (sndC WW))])) 3 (q:=[Ak o2 [0],Aw c3]) A8 (.stop λd=>?_);generalize hv:(D2 39 [] 3 _).1=v;have hv:v=BQ (BQ (BQ (BQ (BQ (BQ (λj=>(#[AH rc,BG bl off n cap]:zw).getD j AN) 2 (AT w)) 4 (A0 J 0 0)) 11 (BG bl off n cap)) 12 (AX n)) 13 (EJ (Z (w+1)))) 5 (AT (w+2)):=by rw[<-hv];kernel_rfl
 subst hv;refine⟨_,rfl,⟨rfl,rfl,rfl⟩,λA U a2=>?_,?_⟩;.refine Cb.upd (Cb.upd (Cb.upd (Cb.upd (Cb.upd (Cb.upd (λj _ hd=>?_) λx=>by cases x) λx=>by cases x) λx=>by cases x) λx=>by cases x) λx=>by cases x) λ_=>.ptr ⟨⟨rfl,a2⟩,rfl,rfl⟩;match j,hd with|1,_=>exact .slice _ _ ⟨⟨rfl,U⟩,rfl,rfl⟩|j+2,_=>exact AK.undef
 apply eL;intro x;show(h.setCell ⟨w+2,0,J⟩ (EJ (Z (w+1)))).heap[x]?=_;by_cases hx:x=w+2;.subst hx;rw[pw (i:=0) I,eN,if_pos AD];rfl
 rw[show JE x (h.setCell ⟨w+2,0,J⟩ (EJ (Z (w+1)))) h from O7 _ _ _ hx,e3,e2,e1,eN,eN (xs:=(w.heap.push (A7 rc 138)).push (Is n #[] A9 0 0 A9))];simp only[kZ];rw[if_neg hx,if_neg hx]
end
end Go.Proofs.YtcfhleenecfghaaGreatDoor.Twin
