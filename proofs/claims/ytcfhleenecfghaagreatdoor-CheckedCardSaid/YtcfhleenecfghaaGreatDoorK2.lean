import Derived.Conc.LoneCalls
import Derived.Conc.CompanyDraw
import Derived.Conc.CrowdRun
import Derived.Conc.CrowdComm
import Derived.Conc.WgArith
import Derived.Laws.MakeOwn
import Derived.Test.YtcfhleenecfghaaGreatDoorK1
set_option linter.all false
set_option maxHeartbeats 4000000
set_option maxRecDepth 100000
open Array renaming append_assoc->aCj,append_empty->V8,ext'->aCk,getD_eq_getD_getElem?->Iv,getElem?_eq_getElem->EP,getElem?_map->zm,getElem?_push_lt->H_,getElem?_push_size->zn,getElem?_setIfInBounds->HM,getElem?_setIfInBounds_ne->Gp,getElem?_setIfInBounds_self_of_lt->SE,mem_of_getElem?->fN,mem_singleton->zo,replicate->MU,replicate_succ->aCn,replicate_zero->aCo,size_push->bq
open Bool renaming and_eq_true->G0,false->A9,false_eq_true->EJ,not_eq_true'->Qw,not_false->VB,not_true->Tn,true->A3
open ByteArray renaming empty->B8
open Classical renaming byContradiction->bs,choose->Z5,choose_spec->To
open Decidable renaming decide->Bz
open False renaming elim->a'3
open Go renaming Act->Nu,Addr->Ak,Calls->Ai,Code->Bg,Event->C5,Frame->Ag,Func->Jy,FuncId->ZG,Goroutine->AR,HappensBefore->aDp,Item->Cb,Machine->Tt,Next->LH,Oper->BR,Operand->C',Program->Ap,Trace->Dh,TypeId->Aj,Value->A1,World->A0,callFunc->Me,choose->Ty,deafBehind->Mf,execOp->Ab,exitTo->R6,goexitEntry->a1U,invoke->a1V,mayWake->a1Z,resolve->U',results->D_,runN->Ex,runNT->Ey,runT->N9,run_convert_to_unsafe->sV,seen->Iz,stepG->Bi,stepT->gP,undef->A',unwind->I5,yielded->I6
open Go.Act renaming eval->Cg,put->Z8
open Go.Builtin renaming close_->a'7
open Go.CallKind renaming early->Ki,normal->GG
open Go.Callee renaming builtin->Kj,value->N7
open Go.Code renaming block->Wq,loop->r5,region->Ej,seq->Bh,skip->VG
open Go.CommShape renaming send->kq
open Go.Conc renaming Aside->kr,Deaf->Om,Deaf_other->On,Deaf_own->fc,Goes->Z9,QuitsD->ku,again_running->aDC,aside_setCell->cA,awake->aDD,awake_of->ff,base->B5,baseD->KH,born->kv,counts_old->aZn,crowd->EV,crowd_pick->Wr,dcall->Oo,deafBehind_still->fg,deaf_old->aZo,events_convert_to_unsafe->r7,g?_old->fh,getElem?_append_cases->Ws,getElem?_stand->aDE,goes_go->a'G,goes_oper_k->r8,hb_app->aZp,listed->r9,lt_of_act?->aDF,lt_size_of_getElem?->aZq,mem_listed->rA,mem_ofEvents->Kl,mem_seen->cB,noRace_append->a'H,ofEvents_eq->fi,offersAt->aZr,offersAt_of_not_blocked->rB,partners_nil->aDG,ph->aDH,rcase->ZA,runT_crowd_go->Qz,runT_solo_go->aDI,scase->rC,seen_none->rD,semEvents->ZB,solo->Dr,stepG_add_atomic->aDJ,stepG_block->kx,stepG_cond->cC,stepG_load_atomic->a'I,stepG_loop->aDK,stepG_mark0->rE,stepG_markAt->rF,stepG_oper->Tq,stepG_region->II,stepG_region_end->Hs,stepG_seq->FT,stepG_unwind_entry->aDL,stepT_solo->a'K,touchAt->cD,touchAt_of->ky,touch_mute->rG,touch_of->fj,woken->Po,woken_quitsD->ZC
open Go.Conc.Aside renaming refl->MX
open Go.Conc.Goes renaming cases->LC,rely->SG,running->c9,step->fe,stop->KG
open Go.Conc.Lib renaming WgLink->kt
open Go.Conc.QuitsD renaming ctl->aDB
open Go.ConcN renaming AsideCell->aZs,CTag->Pp,Deaf_absent->a'L,Deaf_still->Wt,Mode->KI,OpenSt->a'N,Ssum->fl,WgLive->JD,bk_cell->a'O,bk_dis->rM,bk_rd->rN,cell_of_block->aZt,cnt->GH,fork_knows->aDN,get_map_set->ZD,get_map_set_same->fo,le_sumTo->fp,norel_of->a'P,pend->LD,phi->Ht,st_flag->aDO,st_waiters->aDP,sumTo->J_,sumTo_le->aZu,sumTo_upd->Wu,sumTo_upd_out->a'Q,upd->CP,upd_ne->Ga,upd_same->Fs
open Go.ConcN.CTag renaming blk->VH,sp->Jx
open Go.ConcN.Gen.WgLive renaming cell0->rH,cell1->rI
open Go.ConcN.Mode renaming fin->rJ,last->rK,opn->rL,reg->a'M,retag->aDM
open Go.ConcN.RW renaming refl->MY
open Go.ConcR renaming Payload->CV,WgAt->Ja,mk->Oq,ofEvent_loc_mark->aDj,ofEvent_mk->aZv,smA->Wv,stA->Ee,wgBlock->Nw
open Go.ConcR.Gen renaming body_add->a'R,body_wait->rO,dc0_none->rP,x_acquire_b->aDQ,x_acquire_f->aDR,x_acquire_n->aDS,x_acquire_x->aDT,x_addU64_b->aDU,x_addU64_f->aDV,x_addU64_n->aDW,x_addU64_x->aDX,x_casU64_b->aDY,x_casU64_f->aDZ,x_casU64_n->aD_,x_casU64_x->aDa,x_disable_b->aDb,x_disable_f->aDc,x_disable_n->aDd,x_disable_x->aDe,x_enable_b->rQ,x_enable_f->rR,x_enable_n->rS,x_enable_x->rT,x_loadU64_b->a'S,x_loadU64_f->a'T,x_loadU64_n->a'U,x_loadU64_x->a'V,x_semacquire_b->aDf,x_semacquire_f->aDg,x_semacquire_n->aDh,x_semacquire_x->aDi
open Go.Deferred renaming ofValue->cE
open Go.Departure renaming mixedOrders->fq
open Go.Ending renaming returned->AZ
open Go.Extern renaming find->cF,findNext->ZF
open Go.Extern.AbiNoEscape renaming same->kz
open Go.Extern.BytealgCompare renaming compare->rU
open Go.Extern.BytealgMakeNoZero renaming makeNoZero->rY
open Go.Extern.Race renaming none_->aDl
open Go.Fn renaming func->Ek
open Go.Frame renaming enter->HO,finish->cG,finish_at->LF
open Go.FrameMode renaming returning->MZ,run->Lw
open Go.GStep renaming after->Ot,ended->cH,go->Cw
open Go.GoStatus renaming blocked->l0,running->DJ
open Go.Goroutine renaming finishComm->aDo
open Go.Goroutine.mk renaming injEq->VI
open Go.IntKind renaming i32->aDs,i64->A8,u32->fy,u64->EK,wrap_i32->aDt,wrap_i64->VK,wrap_u64->a'q
open Go.Item renaming code->BS,inBlock->cL,inLoop->Wx,inRegion->B1
open Go.Loc renaming cell->Ie,mark->Ny,obj->Nz
open Go.Mark renaming acquire->ZN,disable->ZO,enable->gA,release->Ou
open Go.MemAct renaming low_mono->aDz,mark->Pt,ofEvent->LG,touch?->cN
open Go.MemOp renaming ofEvents->Km
open Go.Next renaming comm->aE',spawn->a'w,value->D6
open Go.Obj renaming cells->AF,chan->Jb
open Go.Op renaming call->If,load->R0,makeSlice->lL,move->Mb,operands->Dg
open Go.Operand renaming const->Iy,func->JE,global->rs,tmp->An
open Go.Proofs.Tryz renaming f197->rv,f198->a0D,f201->ry,f267->aEG,f328->aEH,f422->rz,func197->aEN,func198->aEO,func200->s3,func201->aEQ,func267->aET,func328->aEV,func351->cQ,func407->gG,func409->cR,func422->aEa,prog->A6
open Go.Question renaming order->X9
open Go.Region renaming Mode->aF9,ready->Py,schedule->a15,wanted->Gt
open Go.Region.linearise renaming go->sG
open Go.Result renaming ok->Ac
open Go.Sem renaming bind->Dx,events->sH,run->ca,runT->DQ
open Go.Stepped renaming next->Ds
open Go.Stepped.next renaming inj->ZT,injEq->SN
open Go.Steps renaming trans->aFJ
open Go.Trace renaming act?->sO,g?->gJ
open Go.Value renaming agg->A_,bool->Af,chan->Cl,func->FU,int->A7,pointer->Ad,slice->A4,string->J,tuple->Ay
open Go.World renaming cell?->FB,frozen?->cf,setCell->LK,setChan->gL
open Go.stepG renaming apply->NA,exec->CE
open Iff renaming rfl->VW
open Inhabited renaming default->Aw
open List renaming append_toArray->aGm,cons_append->Kq,length_cons->Kr,length_nil->tR,map_cons->Gd,map_nil->Kt,map_toArray->M',mem_cons->JG,mem_cons_of_mem->Jd,mem_cons_self->Je,mem_singleton->cz,mem_toArray->XW,nil_append->U9,not_mem_nil->He,push_toArray->aH8,range->Hf,size_toArray->I7
open List.cons renaming inj->Q5
open Nat renaming eq_zero_or_pos->UB,exists_eq_add_of_le->tZ,le_of_not_lt->mf,le_refl->Ae,le_trans->G3,lt_of_lt_of_le->Ku,lt_or_ge->J2,lt_succ_self->R8,lt_wfRel->aHO,sub_self->aHR,zero_add->LO
open Ne renaming symm->Gu
open Option renaming bind_some->SZ,getD_some->G4,isNone_eq_false_iff->aHV,map_some->LQ,none->Z,some->Y
open Option.some renaming inj->CH,injEq->Xa
open Or renaming inl->AD,inr->AJ
open Prod renaming Lex->aHW,lex->aHX
open Prod.Lex renaming left->td,right->a2r
open Prod.mk renaming injEq->Q8
open Pure renaming pure->FX
open Relation.TransGen renaming single->a2z
namespace Go.Proofs.YtcfhleenecfghaaGreatDoor.Twin
section
open Go.Conc(G solo Knows Perm Quiet touchAt touch_of touchAt_of touchAt_old getElem?_append_cases knows_own noRace_append Deaf NoRelease)
open Go.ConcN(PermW RelBy)
variable{a:Ak}
section
variable{Wb:zy}{n B:Nat}{S Sh:Nat->zy}{t:Dh}
def aGf(Wb:zy)(g:Nat)(h:MemOp):Prop:=h.g=g/\∀x,h.act.touch?=Y x->(∃b,Wb b/\G2 x.loc b)/\x.kind≠.plain/\(x.kind=.said->g=0)
def JK.OP(R:Mj Wb n B S Sh)(h:JK Wb n B S Sh t){g:Nat}(AI:g<n){u:Dh}(hu:∀s∈u,aGf Wb g s):JK Wb n B S Sh (t++u):=by
 have I:∀s∈u,∀x,s.act.touch?=Y x->∀M b,S M b∨Sh M b->¬G2 x.loc b:=λs y x hx M b hs m=>by
  obtain⟨⟨N,z,h2⟩,_⟩:=(hu s y).2 x hx;have:=G2.one h2 m;subst this;have:=R.wg M N z;rcases hs with hs|hs;·exact this.1 hs
  exact this.2 hs
 refine⟨λK=>?_,λa b hs l H=>?_,λa b hs l H=>?_,h.quiet.app λs y x hx C=>?_,λs y=>?_,λi s hi=>?_⟩;·refine a'H (h.nr K) (λs y=>(hu s y).1) λi a Q s y b U hc=>?_;obtain⟨z,h2,h3⟩:=(hu s y).2 b U;exact h.quiet.known z h2 h3 i a Q hc
 ·exact(h.own a b hs l H).app λs y x hx e=>absurd (e▸H) (I s y x hx a b (AD hs))
 ·exact(h.shr a b hs l H).app λs y x hx e _=>absurd (e▸H) (I s y x hx a b (AJ hs))
 ·obtain⟨_,h2,h3⟩:=(hu s y).2 x hx;exact⟨h2,λe=>(hu s y).1.trans (h3 e)⟩
 ·rcases Array.mem_append.1 y with y|y;·exact h.low s y
  intro x hx;obtain⟨⟨N,z,h2⟩,_⟩:=(hu s y).2 x hx;exact h2.of_low (R.Pb N z)
 rcases Ws hi with⟨_,p⟩|⟨_,A⟩;·exact h.gs i s p
 rw[(hu s A).1];exact AI
def JK.hand(h:JK Wb n B S Sh t){BW:zy}{m B':Nat}{S' Sh':Nat->zy}(hn:n<=m)(z:B<=B')(K:∀b,BW b->Wb b∨B<=b)(H:∀g b,S' g b->∀l,G2 l b->Perm t g l)(hs:∀g b,Sh' g b->∀l,G2 l b->PermW t g l):JK BW m B' S' Sh' t:=by
 refine⟨h.nr,H,hs,λi s x hi hx M=>?_,λs I x hx=>Loc.low_mono z (h.low s I x hx),λi s hi=>Ku (h.gs i s hi) hn⟩;obtain⟨b,y,h2⟩:=M;rcases K b y with h3|h3;·exact h.quiet i s x hi hx ⟨b,h3,h2⟩
 exfalso;have:=h2.low (h.low s (fN hi) x hx);omega
def JK.spawn(h:JK Wb n B S Sh t){S' Sh':Nat->zy}{x y:MemOp}(hx:x.g=0/\x.act=.go n)(hy:y.g=n/\y.act=.start)(AV:Om t 0=0)(hn:0<n)(Rk:∀b,S' 0 b->S 0 b)(bQ:∀b,S' n b->S 0 b)(A:∀g b,g≠0->g≠n->S' g b->S g b)(N1:∀b,Sh' 0 b->S 0 b∨Sh 0 b)(C:∀b,Sh' n b->S 0 b∨Sh 0 b)(Tf:∀g b,g≠0->g≠n->Sh' g b->Sh g b):JK Wb (n+1) B S' Sh' (t++#[x,y]):=by
 have hk:Om t n=0:=a'L λi I hi e=>by have:=h.gs i I hi;omega
 have M:∀I∈#[x,y],∀b,I.act.touch?=Y b->False:=by
  intro I s b H;simp only[XW,JG,He,or_false]at s;rcases s with rfl|rfl;·rw[hx.2]at H;cases H
  rw[hy.2]at H;cases H
 have old:∀{i:Nat}{a:Touch},cD (t++#[x,y]) i=Y a->cD t i=Y a:=by
  intro i a U;obtain⟨z,el,m⟩:=fj U;rcases Ws el with⟨_,oW⟩|⟨_,D⟩;·rw[ky oW];exact m
  exact(M z D a m).elim
 have p:∀b,S 0 b∨Sh 0 b->∀l,G2 l b->PermW t 0 l:=λb H l K=>by
  rcases H with H|H;·exact PermW.of (h.own 0 b H l K)
  exact h.shr 0 b H l K
 refine⟨λsaid=>?_,λg b hs l K=>?_,λg b hs l K=>?_,h.quiet.app λI s b H _=>(M I s b H).elim,λI s=>?_,λi I hi=>?_⟩
 ·have e:t++#[x,y]=t++#[x]++#[y]:=by apply aCk;simp
  rw[e];refine a'H (g:=n) (a'H (g:=0) (h.nr said) (λI s=>by simp at s;rw[s];exact hx.1) λi a _ I s b H _=>(M I (by simp at s⊢;exact AD s) b H).elim) (λI s=>by simp at s;rw[s];exact hy.1) λi a _ I s b H _=>(M I (by simp at s⊢;exact AJ s) b H).elim
 ·by_cases N:g=0;·subst N;exact(h.own 0 b (Rk b hs) l K).app λI s b H _=>(M I s b H).elim
  by_cases Q:g=n;·subst Q;exact λi a U e=>aDN hx hy AV hk (h.own 0 b (bQ b hs) l K i a (old U) e)
  exact(h.own g b (A g b N Q hs) l K).app λI s b H _=>(M I s b H).elim
 ·by_cases N:g=0;·subst N;exact(p b (N1 b hs) l K).app λI s b H _ _=>(M I s b H).elim
  by_cases Q:g=n;·subst Q;exact λi a U e bi=>aDN hx hy AV hk (p b (C b hs) l K i a (old U) e bi)
  exact(h.shr g b (Tf g b N Q hs) l K).app λI s b H _ _=>(M I s b H).elim
 ·rcases Array.mem_append.1 s with s|s;·exact h.low I s
  simp only[XW,JG,He,or_false]at s;exact λb H=>(M I (by simpa using s) b H).elim
 rcases Ws hi with⟨_,CR⟩|⟨_,dx⟩;·exact Nat.lt_succ_of_lt (h.gs i I CR)
 simp only[XW,JG,He,or_false]at dx;rcases dx with rfl|rfl;·rw[hx.1];omega
 rw[hy.1];omega
end
section
variable(Wb:zy)(c:Nat)(t:Dh)
structure U6:Prop where
 known:∀i a,cD t i=Y a->a.loc.isMemory=A3->(¬∃b,Wb b/\G2 a.loc b)->Knows t 0 i∨∃g,c<=g/\t.g? i=Y g
 over:∀i g,t.g? i=Y g->g≠0->t.counts i->(∃j,t.g? j=Y 0/\aDp t i j)∨c<=g
structure Q9(a:Ak)(k r:Nat):Prop where
 rel:RelBy a t k r
 before:∀i x,cD t i=Y x->t.g? i=Y k->(¬∃b,Wb b/\G2 x.loc b)->i<r
end
section
variable{Wb:zy}{c:Nat}{t u:Dh}
def U6.app(h:U6 Wb c t){g:Nat}(hu:∀y∈u,y.g=g)(b:g=0∨c<=g∨∀y∈u,y.act.touch?=Z):U6 Wb c (t++u):=by
 refine⟨λi a AB hm hn=>?_,λi H M N hc=>?_⟩
 ·obtain⟨x,hx,I⟩:=fj AB;rcases Ws hx with⟨hi,l⟩|⟨_,K⟩
  ·rcases h.known i a (by rw[ky l];exact I) hm hn with s|⟨H,s,h2⟩;·exact AD (s.app u)
   exact AJ ⟨H,s,by rw[fh hi];exact h2⟩
  rcases b with rfl|b|b;·have:=knows_own hx;rw[hu x K]at this;exact AD this
  ·exact AJ ⟨g,b,by simp[gJ,hx,hu x K]⟩
  rw[b x K]at I;cases I
 obtain⟨y,Q,m⟩:=Option.map_eq_some_iff.1 M;rcases Ws Q with⟨hi,C⟩|⟨_,U⟩
 ·rcases h.over i H (by rw[<-fh (u:=u) hi];exact M) N ((aZn hi).1 hc)with⟨j,s,h2⟩|s
  ·have p:j<t.size:=by obtain⟨z,A,_⟩:=Option.map_eq_some_iff.1 s;exact aZq A
   exact AD ⟨j,by rw[fh p];exact s,aZp u h2⟩
  exact AJ s
 have e:H=g:=by rw[<-m,hu y U]
 rcases b with rfl|b|b;·exact absurd e N
 ·exact AJ (e▸b)
 obtain⟨x,hx,_⟩:=hc;have:cD (t++u) i=Y x:=hx;rw[ky Q,b y U]at this;cases this
def Q9.other{k r g:Nat}(h:Q9 Wb t a k r)(hu:∀s∈u,s.g=g)(y:g≠k):Q9 Wb (t++u) a k r:=by
 refine⟨h.rel.appOther hu y,λi x hx b hn=>?_⟩;obtain⟨s,z,I⟩:=fj hx;rcases Ws z with⟨hi,H⟩|⟨_,K⟩;·exact h.before i x (by rw[ky H];exact I) (by rw[<-fh (u:=u) hi];exact b) hn
 exfalso;simp[gJ,z]at b;exact y ((hu s K).symm.trans b)
def U6.join{n q:Nat}(h:U6 Wb c t)(H:∀g,c<=g->(∃i,t.g? i=Y g)->∃r,Q9 Wb t a g r/\r<q){N0:Nat}(hn:∀i,N0<=i->t.act? i≠Y (Pt (Ou a)))(hy:∀i g,t.g? i=Y g->c<=g->N0<=i)(AH:t.act? q=Y (Pt (ZN a)))(N:t.g? q=Y 0)(C7:t.heard q)(c0:0<c):U6 Wb n t:=by
 have K:∀g r,c<=g->Q9 Wb t a g r->r<q->aDp t r q:=λg r M b y=>a2z (AJ ⟨.marked y (AJ b.rel.act) AH λk s _=>hn k (by have:=hy r g b.rel.g M;omega),b.rel.heard,C7⟩);have l:∃z,t[q]?=Y z/\z.g=0:=by obtain⟨z,Q,U⟩:=Option.map_eq_some_iff.1 N;exact⟨z,Q,U⟩
 obtain⟨z,Q,U⟩:=l;refine⟨λi x hx hm m=>?_,λi g I p hc=>?_⟩
 ·rcases h.known i x hx hm m with s|⟨g,s,h2⟩;·exact AD s
  obtain⟨r,b,y⟩:=H g s ⟨i,h2⟩;have hlt:=b.before i x hx h2 m;exact AD ⟨q,z,Q,U,AJ (.trans (a2z (AD ⟨hlt,g,h2,b.rel.g⟩)) (K g r s b y))⟩
 rcases h.over i g I p hc with s|s;·exact AD s
 obtain⟨r,b,y⟩:=H g s ⟨i,I⟩;have A:i<=r:=mf λhlt=>b.rel.after i hlt I hc;rcases J2 i r with hlt|C;·exact AD ⟨q,N,.trans (a2z (AD ⟨hlt,g,I,b.rel.g⟩)) (K g r s b y)⟩
 obtain rfl:i=r:=by omega
 exact AD ⟨q,N,K g i s b y⟩
end
end
section
open Go.Conc(G solo Deaf Leavers QuitsD crowd crowd_pick runT_crowd_go awake_of woken_quitsD woken_run Deaf_other Deaf_own touch_mute low_mute deafBehind_still woken)
open Go.ConcN(sumTo upd sumTo_upd upd_ne upd_same)
def EW(Wb:zy)(B:Nat):zy:=λb=>b<B/\¬Wb b
def gw(X:zy):Nat->zy:=λg b=>g=0/\X b
def a2n:Nat->zy:=λ_ _=>False
structure De(P:Ap)(Wb:zy)(gs:Array AR)(w:A0)(t:Dh)(q:Nat->Nat)(a:AR):Prop where
 zero:gs[0]?=Y a
 leave:Leavers P t gs q
 Jt:JK Wb gs.size w.heap.size (gw (EW Wb w.heap.size)) a2n t
 OO:U6 Wb gs.size t
 hears:Om t 0=0
 Pb:∀b,Wb b->b<w.heap.size
section
variable{P:Ap}{Wb:zy}{gs:Array AR}{w w':A0}{t:Dh}{q:Nat->Nat}{a:AR}
def De.ro(h:De P Wb gs w t q a):Mj Wb gs.size w.heap.size (gw (EW Wb w.heap.size)) a2n:=by
 have z:0<gs.size:=(Array.getElem?_eq_some_iff.1 h.zero).1;refine⟨λg h b x y=>x.1.trans y.1.symm,λ_ _ _ _ x=>x,λg b s=>⟨λx=>x.2.2 s,λx=>x⟩,λg b x=>?_,λg b x=>?_,h.Pb⟩
 ·rcases x with x|x;·exact x.2.1
  exact x.elim
 rcases x with x|x;·rw[x.1];exact z
 exact x.elim
def nM{Sh S:zy}{e:C5}(h:LB Sh S e):e.loc≠Ny ZO/\e.loc≠Ny .enable:=by cases h<;>refine⟨?_,?_⟩<;>intro x<;>cases x
def De.own(h:De P Wb gs w t q a){a':AR}{es:Array C5}{S':zy}(hs:a'.status=DJ∨True)(s:Gb (λ_=>False) (EW Wb w.heap.size) w w' es S')(fn:ZG)(pos:String):S'=EW Wb w'.heap.size/\De P Wb ((gs.map (Po P a a' w')).setIfInBounds 0 a') w' (t++Km 0 fn pos es) q a':=by
 have N:0<gs.size:=(Array.getElem?_eq_some_iff.1 h.zero).1;have M:S'=EW Wb w'.heap.size:=by
  funext b;refine propext ((s.grow b).trans ⟨λx=>?_,λx=>?_⟩)
  ·rcases x with x|x;·exact⟨by have:=x.1;have:=s.size;omega,x.2⟩
   exact⟨x.2,λy=>by have:=h.Pb b y;omega⟩
  by_cases K:b<w.heap.size;·exact AD ⟨K,x.2⟩
  exact AJ ⟨by omega,x.1⟩
 refine⟨M,⟨by simp[N],⟨λj x I hx=>?_,λj I=>?_⟩,?_,?_,?_,λb K=>by have:=h.Pb b K;have:=s.size;omega⟩⟩
 ·have l:0≠j:=by omega
  rw[Gp l,zm]at hx;obtain⟨y,hy,rfl⟩:=Option.map_eq_some_iff.1 hx;have Q:=h.leave.old j y I hy;rw[ZC Q,On t (by omega) _ λU H=>by obtain⟨e,_,rfl⟩:=Kl H;rfl];exact Q
 ·rw[On t (g':=0) (by simp at I;omega) _ λU H=>by obtain⟨e,_,rfl⟩:=Kl H;rfl];exact h.leave.above j (by simpa using I)
 ·have:=(h.Jt.step (g:=0) h.ro N s.size (X:=S') (λb=>by rw[s.grow b];exact⟨λx=>x.imp (λy=>⟨rfl,y⟩) id,λx=>x.imp (λy=>y.2) id⟩) (fn:=fn) (pos:=pos) (es:=es) s.evs).2;have e:Qs (gw (EW Wb w.heap.size)) 0 S'=gw (EW Wb w'.heap.size):=by
   funext g b;unfold Qs gw;by_cases z:g=0;·rw[if_pos z,M];exact propext ⟨λx=>⟨z,x⟩,λx=>x.2⟩
   rw[if_neg z];exact propext ⟨λx=>absurd x.1 z,λx=>absurd x.1 z⟩
  rw[e]at this;simpa using this
 ·have:=h.OO.app (u:=Km 0 fn pos es) (g:=0) λU H=>by obtain⟨e,_,rfl⟩:=Kl H;rfl (AD rfl);simpa using this
 rw[fc];exact(fg (λe he=>nM (s.evs e he)) _).trans h.hears
def aBR{n B:Nat}{S Sh:Nat->zy}(R:Mj Wb n B S Sh)(h:JK Wb n B S Sh t){g:Nat}(b:g<n){fn:ZG}{pos:String}{es:Array C5}(s:∀e∈es,e.mute=A3):JK Wb n B S Sh (t++Km g fn pos es):=by refine h.OP R b λz y=>?_;obtain⟨e,he,rfl⟩:=Kl y;exact⟨rfl,λx hx=>by rw[rG (s e he)]at hx;cases hx⟩
def De.slip(h:De P Wb gs w t q a)(Q:a.status=DJ){i k:Nat}(U:0<i){g g':AR}{es:Array C5}(hi:gs[i]?=Y g)(I:∀e∈es,e.mute=A3)(N:ku P k (Mf (Om t i) es) g')(fn:ZG)(pos:String):De P Wb ((gs.map (Po P g g' w)).setIfInBounds i g') w (t++Km i fn pos es) (CP q i k) a:=by
 have hlt:i<gs.size:=(Array.getElem?_eq_some_iff.1 hi).1;refine⟨?_,⟨λj x s hx=>?_,λj s=>?_⟩,?_,?_,?_,h.Pb⟩
 ·have M:i≠0:=by omega
  rw[Gp M,zm,h.zero];simp[woken_run Q]
 ·by_cases z:i=j;·subst z;rw[SE (by simpa using hlt)]at hx;obtain rfl:=CH hx;rw[Fs,fc];exact N
  rw[Gp z,zm]at hx;obtain⟨y,hy,rfl⟩:=Option.map_eq_some_iff.1 hx;have K:=h.leave.old j y s hy;rw[ZC K,Ga q k (Gu z),On t z _ λH b=>by obtain⟨e,_,rfl⟩:=Kl b;rfl];exact K
 ·rw[On t (g':=i) (by simp at s;omega) _ λH b=>by obtain⟨e,_,rfl⟩:=Kl b;rfl];exact h.leave.above j (by simpa using s)
 ·have:=aBR h.ro h.Jt hlt (fn:=fn) (pos:=pos) I;simpa using this
 ·have:=h.OO.app (u:=Km i fn pos es) (g:=i) λH b=>by obtain⟨e,_,rfl⟩:=Kl b;rfl (AJ (AJ λH b=>by obtain⟨e,he,rfl⟩:=Kl b;exact rG (I e he)));simpa using this
 rw[On t (g:=0) (g':=i) (by omega) _ λH b=>by obtain⟨e,_,rfl⟩:=Kl b;rfl];exact h.hears
def De.at(h:De P Wb gs w t q a)(d:Nat):De P Wb gs (w.at d) t q a:=⟨h.zero,h.leave,h.Jt,h.OO,h.hears,h.Pb⟩
def CB.at(Sh S:zy)(w:A0)(d:Nat):CB Sh S w (w.at d):=⟨Ae _,λ_ _=>rfl,rfl,rfl⟩
def De.awake(h:De P Wb gs w t q a)(y:a.status=DJ):∀g∈gs,aDD g:=by
 intro g b;obtain⟨i,hi,rfl⟩:=Array.mem_iff_getElem.1 b;rcases UB i with rfl|s
 ·have:gs[0]=a:=by simpa[EP hi]using h.zero
  rw[this];exact ff (AD y)
 exact ff ((h.leave.old i _ s (EP hi)).status.elim AD λx=>AJ (AJ x))
end
end
section
open Go.Conc(G solo Deaf Leavers QuitsD crowd crowd_pick runT_crowd_go)
open Go.ConcN(sumTo upd sumTo_upd)
inductive CZ(P:Ap)(Wb:zy)(Stop:AR->A0->Prop):AR->A0->Prop|stop{g:AR}{w:A0}:(∀d,Stop g (w.at d))->CZ P Wb Stop g w|go{g:AR}{w:A0}(C0:Nat->Leaves):g.status=DJ->(∀d,Bi P A3 g (w.at d)=Cw (C0 d).g (C0 d).w (C0 d).es/\Gb (λ_=>False) (EW Wb w.heap.size) (w.at d) (C0 d).w (C0 d).es (C0 d).S)->(∀d,CZ P Wb Stop (C0 d).g (C0 d).w)->CZ P Wb Stop g w
section
variable{P:Ap}{Wb:zy}{Stop UE:AR->A0->Prop}{gs:Array AR}{g:AR}{w:A0}{t:Dh}{q:Nat->Nat}{a:AR}
def CZ.step(hs:g.status=DJ)(h:∀d,∃b w' es s,Bi P A3 g (w.at d)=Cw b w' es/\Gb (λ_=>False) (EW Wb w.heap.size) (w.at d) w' es s/\CZ P Wb Stop b w'):CZ P Wb Stop g w:=by
 have h2:∀d,∃l:Leaves,Bi P A3 g (w.at d)=Cw l.g l.w l.es/\Gb (λ_=>False) (EW Wb w.heap.size) (w.at d) l.w l.es l.S/\CZ P Wb Stop l.g l.w:=by intro d;obtain⟨b,w',es,s,x,y,z⟩:=h d;exact⟨⟨b,w',es,s⟩,x,y,z⟩
 exact .go (λd=>Z5 (h2 d)) hs (λd=>⟨(To (h2 d)).1,(To (h2 d)).2.1⟩) λd=>(To (h2 d)).2.2
def CZ.at(h:CZ P Wb Stop g w)(d:Nat):CZ P Wb Stop g (w.at d):=by cases h with|stop h=>exact .stop λb=>h b|go s hs h k=>exact .go s hs (λb=>h b) k
def CZ.bind(h:CZ P Wb Stop g w)(k:∀g w,Stop g w->CZ P Wb UE g w):CZ P Wb UE g w:=by induction h with|stop h=>rename_i g w;exact k g w (h w.drawn)|go s hs h _ b=>exact .go s hs h b
def CZ.mono(h:CZ P Wb Stop g w)(k:∀g w,Stop g w->UE g w):CZ P Wb UE g w:=by induction h with|stop h=>exact .stop λd=>k _ _ (h d)|go s hs h _ b=>exact .go s hs h b
def pI{w w':A0}{es:Array C5}{S':zy}(z:∀b,Wb b->b<w.heap.size)(h:Gb (λ_=>False) (EW Wb w.heap.size) w w' es S'):S'=EW Wb w'.heap.size:=by
 funext b;refine propext ((h.grow b).trans ⟨λx=>?_,λx=>?_⟩)
 ·rcases x with x|x;·exact⟨by have:=x.1;have:=h.size;omega,x.2⟩
  exact⟨x.2,λy=>by have:=z b y;omega⟩
 by_cases s:b<w.heap.size;·exact AD ⟨s,x.2⟩
 exact AJ ⟨by omega,x.1⟩
structure K0(Wb:zy)(w w':A0):Prop where
 os:w'.os=w.os
 output:w'.output=w.output
 size:w.heap.size<=w'.heap.size
 same:∀b,Wb b->b<w.heap.size->w'.heap[b]?=w.heap[b]?
def K0.refl(Wb:zy)(w:A0):K0 Wb w w:=⟨rfl,rfl,Ae _,λ_ _ _=>rfl⟩
def K0.trans{Wb:zy}{w w' l:A0}(h:K0 Wb w w')(k:K0 Wb w' l):K0 Wb w l:=⟨k.os.trans h.os,k.output.trans h.output,G3 h.size k.size,λb s y=>(k.same b s (Ku y h.size)).trans (h.same b s y)⟩
def K0.at{Wb:zy}{w w':A0}(h:K0 Wb w w')(d:Nat):K0 Wb w (w'.at d):=⟨h.os,h.output,h.size,h.same⟩
def CZ.Am(h:CZ P Wb Stop g w):CZ P Wb (λy w'=>Stop y w'/\K0 Wb w w') g w:=by induction h with|stop h=>exact .stop λd=>⟨h d,(K0.refl _ _).at d⟩|go K hs h _ I=>rename_i g w _;refine .go K hs h λd=>(I d).mono λy w'⟨a,b⟩=>⟨a,K0.trans ?_ b⟩;obtain⟨_,s⟩:=h d;exact⟨s.os,s.output,s.size,λb z H=>s.same b H λx=>x.2 z⟩
def LB.wide{Sh S S':zy}{e:C5}(h:LB Sh S e)(k:∀b,S b->S' b):LB Sh S' e:=by cases h<;>first|(constructor;done)|(constructor;first|assumption|exact k _ (by assumption)|exact Or.imp (k _) id (by assumption))
def CZ.wide{Wc:zy}(h:CZ P Wb Stop g w)(H:∀b,Wc b->Wb b):CZ P Wc Stop g w:=by
 induction h with
 |stop h=>exact .stop h
 |go I hs h _ K=>
  rename_i g w _;refine .go (λd=>{I d with S:=λb=>EW Wc w.heap.size b∨w.heap.size<=b/\b<(I d).w.heap.size}) hs (λd=>⟨(h d).1,?_⟩) K;obtain⟨_,s⟩:=h d;refine⟨s.size,λb z hn=>s.same b z λx=>hn ⟨x.1,λy=>x.2 (H b y)⟩,s.os,s.output,s.tape,λb=>VW,λe he=>(s.evs e he).wide λb z=>?_⟩;rcases(s.grow b).1 z with x|x;·exact AD ⟨x.1,λy=>x.2 (H b y)⟩
  exact AJ x
def CZ.beside(h:CZ P Wb Stop a w):∀(gs:Array AR)(sl:Option (Nat×Nat))(t:Dh)(q:Nat->Nat),De P Wb gs w t q a->∃(N:Nat)(s:Array AR)(a':AR)(w':A0)(b:Option (Nat×Nat))(y:Dh)(z:Nat->Nat),Ey P N (EV gs w sl) t=(Ds (EV s w' b),y)/\s.size=gs.size/\De P Wb s w' y z a'/\Stop a' w':=by
 induction h with
 |stop h=>rename_i a w;intro gs sl t q hc;exact⟨0,gs,a,w,sl,t,q,rfl,rfl,hc,h w.drawn⟩
 |go C K h hk ih=>
  rename_i a w;intro gs sl t q hc;have D:∀(M:Nat)(BC:Nat)(gs:Array AR)(sl:Option (Nat×Nat))(t:Dh)(q:Nat->Nat),J_ gs.size q<=M->De P Wb gs (w.at BC) t q a->∃(N:Nat)(s:Array AR)(a':AR)(w':A0)(b:Option (Nat×Nat))(y:Dh)(z:Nat->Nat),Ey P N (EV gs (w.at BC) sl) t=(Ds (EV s w' b),y)/\s.size=gs.size/\De P Wb s w' y z a'/\Stop a' w':=by
   intro M;have own:∀(BC d:Nat)(gs:Array AR)(sl b:Option (Nat×Nat))(t:Dh)(q:Nat->Nat),De P Wb gs (w.at BC) t q a->gP P (EV gs (w.at BC) sl)=N9 P (EV gs (w.at d) b) 0->∃(N:Nat)(s:Array AR)(a':AR)(w':A0)(b:Option (Nat×Nat))(y:Dh)(z:Nat->Nat),Ey P N (EV gs (w.at BC) sl) t=(Ds (EV s w' b),y)/\s.size=gs.size/\De P Wb s w' y z a'/\Stop a' w':=by intro BC d gs sl b t q hc I;obtain⟨m0,Bn⟩:=h d;have l:=Qz (P:=P) (sl:=b) (i:=0) hc.zero (show Bi P (0==0) a (w.at d)=_ from m0);obtain⟨aa8,m⟩:=De.own (w:=w.at d) (hc.at d) (a':=(C d).g) (AJ trivial) Bn a.frame.fn a.frame.place;obtain⟨N,s,a',w',p,y,z,U,h2,h3,h4⟩:=ih d _ b _ q m;exact⟨N+1,s,a',w',p,y,z,by simp only[Ey,I,l];exact U,h2.trans (by simp),h3,h4⟩
   induction M with
   |zero=>
    intro BC gs sl t q Al hc;obtain⟨i,g,d,b,hi,H,I⟩:=Wr (P:=P) (w:=w.at BC) (sl:=sl) (hc.awake K) ⟨0,a,hc.zero,K⟩;rcases UB i with rfl|Q;·exact own BC d gs sl b t q hc I
    have AH:=hc.leave.old i g Q hi;have hlt:i<gs.size:=(Array.getElem?_eq_some_iff.1 hi).1;have:q i<=J_ gs.size q:=fp hlt;have TE:q i=0:=by omega
    rw[TE]at AH;rw[AH.1]at H;cases H
   |succ M jX=>
    intro BC gs sl t q Al hc;obtain⟨i,g,d,b,hi,H,I⟩:=Wr (P:=P) (w:=w.at BC) (sl:=sl) (hc.awake K) ⟨0,a,hc.zero,K⟩;rcases UB i with rfl|Q;·exact own BC d gs sl b t q hc I
    have AH:=hc.leave.old i g Q hi;have MB:(i==0)=A9:=by simp;omega
    have hlt:i<gs.size:=(Array.getElem?_eq_some_iff.1 hi).1;cases A:q i with
    |zero=>rw[A]at AH;rw[AH.1]at H;cases H
    |succ k=>
     rw[A]at AH;rcases AH with⟨AK,_⟩|⟨_,g',es,hm,WC,NV⟩;·rw[AK]at H;cases H
     have l:=Qz (P:=P) (sl:=b) (i:=i) hi (by rw[MB];exact WC (w.at d));have jN:gP P (EV gs (w.at BC) sl)=_:=I.trans l;have K6:J_ gs.size (CP q i k)+(k+1)=J_ gs.size q+k:=by have:=Wu q k id hlt;simpa[A]using this
     have m:=De.slip (w:=w.at d) (hc.at d) K Q hi hm NV g.frame.fn g.frame.place;obtain⟨N,s,a',w',p,y,z,U,h2,h3,h4⟩:=jX d _ b _ (CP q i k) (by simp;omega) m;exact⟨N+1,s,a',w',p,y,z,by simp only[Ey,jN];exact U,h2.trans (by simp),h3,h4⟩
  exact D _ w.drawn gs sl t q (Ae _) hc
end
end
section
open Go.Conc(G solo)
variable{w w' wL:A0}{E:AT}{c' fr fr0:Ag}{args:zw}{es:Array C5}{code:Bg}{fn:Jy}
section
variable{P:Ap}{F:zy}{fb:Nat->Bool}{f1:Hg}{k:Nat}{RO Sh:zy}{so:Dj}{r:List Cb}
structure Static(P:Ap)(F:zy)(fb:Nat->Bool)(f1:Hg)(k:Nat):Prop where
 fit:Fit P F
 EX:P.globals.size=Ci
 calm:∀z,Calm P F (B0 f1 z)
 sub:∀f,fb f=A3->F f
 laid:Laid P F fb f1 k
def C2(F:zy)(so:Dj)(RO:zy)(E:AT)(w w':A0):Prop:=∃T,CC F so RO E (on w T) w'
def C2.rely{E:AT}{S:zy}{wL w l:A0}(h:C2 F so RO E wL w)(hc:KD RO Sh S E)(b:CB Sh S w l):C2 F so RO E wL l:=by obtain⟨T,h⟩:=h;exact⟨_,h.rely hc b T⟩
def CC.A2(h:CC F so RO E w w'):C2 F so RO E w w':=⟨w.tape,h⟩
def aZ3(X:Static P F fb f1 k)(m:∀b,¬RO b↔f1.Jp b)(main ret:Bool)(p:ret=A3->r=[]){l:Ag}{base':List Ag}{S:zy}{Q:Ag->A0->Prop}(K:Ei P F fb f1 k E r fr0 l)(hm:fr0.mode=Lw)(M:∀b,b<Ci->E.rel b b)(y:C2 F (B0 f1 A3) RO E wL w')(I:KD RO Sh S E)(z:∀T,∃N h s,Ex P N (Dr (G fr0 [bot]) (on wL T))=Ds (Dr (G h [bot]) s)/\Fin ret h/\Q h s):Way P main Sh (qs P F fb f1 k (B0 f1 A3) RO Sh E r base' ret Q) S (G l base') w':=by obtain⟨T0,y⟩:=y;have H:=aAh (P:=P) (fr0:=fr0) (w0:=wL) (ret:=ret) (λT=>let⟨N,h,s,a,b,_⟩:=z T;⟨N,h,s,a,b⟩) ⟨wL.tape,0,wL.drawn⟩;exact aYW X.fit X.EX X.calm ⟨rfl,m⟩ X.sub X.laid main p z _ H (λT _=>rfl) (λT _ j U=>by cases U) rfl (Ae _) K (AD hm) .base M (AT.le_refl _) y I
def Rs{l:Type}(s:Sem l):∀(w:A0)(es:Array C5),(s.runT P w es).1=s.run P w:=by
 induction s with
 |pure a=>intro w es;rfl
 |load m a k b=>
  intro w es;simp only[DQ,ca];split;·exact b _ _ _
  split;·exact b _ _ _
  rfl
 |store m a v k b=>
  intro w es;cases v<;>simp only[DQ,ca];all_goals
   split
   ·split;·rfl
    exact b _ _
   split;·exact b _ _
   rfl
 |new o k b=>intro w es;exact b _ _ _
 |shape r k b=>intro w es;exact b _ _ _
 |freeze a n k b=>intro w es;exact b _ _
 |frozen a k b=>intro w es;exact b _ _ _
 |getObj r k b=>
  intro w es;simp only[DQ,ca];split;·rfl
  ·exact b _ _ _
  rfl
 |setObj r o k b=>
  intro w es;simp only[DQ,ca];split;·rfl
  ·exact b _ _
  rfl
 |choose q k b=>
  intro w es;simp only[DQ,ca];split;·exact b _ _ _
  exact b _ _ _
 |sys c k b=>intro w es;exact b _ _ _
 |program k b=>intro w es;exact b _ _ _
 |mark m k b=>intro w es;exact b _ _
 |halt h=>intro w es;rfl
def aCs(F:zy)(so:Dj)(RO Sh:zy)(E:AT)(c':Ag)(cs':List Ag)(Q:A1->A0->Prop)(S:zy)(g:AR)(w':A0):Prop:=∃l v b h,g=G (c'.finish b) cs'/\AN F l v b/\Q v h/\E.le l/\C2 F so RO l h w'/\KD RO Sh S l
def aZ2(X:Static P F fb f1 k)(T9:∀b,¬RO b↔f1.Jp b)(main:Bool){f:Nat}{l:zw}{cs':List Ag}{S:zy}{Q:A1->A0->Prop}(Bl:P.funcs[f]?=Y fn)(hb:fn.body=Y code)(hc:ES P fb f1.own (f1.own f) k code=A3)(ak:IS (f1.own f)=[])(rg:∀t∈f1.own f,args.size<=t)(L':Aq F E args.toList l.toList)(AI:∀b,b<Ci->E.rel b b)(bi:C2 F (B0 f1 A3) RO E wL w')(HC:KD RO Sh S E)(UX:∀T,Ai P f args (on wL T) λe h=>∃v,e=AZ v/\Q v h):Way P main Sh (aCs F (B0 f1 A3) RO Sh E c' cs' Q) S (G (HO P f l GG) (c'::cs')) w':=by
 have HV:∀T,∃N z h,Ex P N (Dr (G (HO P f args GG) [bot]) (on wL T))=Ds (Dr (G z [bot]) h)/\Fin A3 z/\∃v,Q v h/\z.fn=f/\z.leaving P h (AZ v):=by intro T;obtain⟨e,h,z,⟨v,rfl,AH⟩,Bm,AK,AE⟩:=UX T [bot];obtain⟨N,G7⟩:=Bm;exact⟨N,z,h,G7,AE.1,v,AH,AK,AE⟩
 refine(aZ3 X T9 main A3 (λ_=>rfl) (r:=[]) (Ei.enter Bl hb hc ak rg L') rfl AI bi HC HV).bind ?_;rintro ti g C⟨m,fr,s,h,rfl,BG,DR,⟨v,AH,Y4,hm,AS,hk,I,D,F'⟩,d9,M,K⟩;refine .step rfl λy A2=>?_;have H:CC F (B0 f1 A3) RO m (on h (join h.tape h.drawn y.tape y.drawn)) y:=(M:CC F (B0 f1 A3) RO m (on h h.tape) C).rely K A2 _;have hs:AO P F ⟨f1.Jp,False,f1.own,f1.Hx⟩ (CL F) m (D_ I fr.tmps) (D_ I s.tmps):=BG.results D;have p:∃es,(D_ I fr.tmps).runT P h #[]=(Ac v h,es):=by have:=Rs (P:=P) (D_ I fr.tmps) h #[];rw[F']at this;exact⟨((D_ I fr.tmps).runT P h #[]).2,by rw[<-this]⟩
 obtain⟨es,p⟩:=p;have jK:=(AO.tape X.fit.Ju hs (w':=C) ⟨M.heap,M.tape,λ_ x=>x.elim,M.low,M.even⟩ p).2 (join h.tape h.drawn y.tape y.drawn) (λi q h1 h2=>by omega);obtain⟨C4,v',A,es',r1,r2,U,EH,HJ⟩:=AO.runs X.fit.Ju (Pr:=RO) (RO:=RO) (λ_ x=>x) (λx=>a'3 x) hs (⟨H.heap,H.tape,H.kept,H.low,H.even⟩:CC F ⟨f1.Jp,False,f1.own,f1.Hx⟩ RO m _ y) (es:=#[]) (es':=#[]) .nil jK;have m0:Bi P main (G s (c'::cs')) y=Cw (G (c'.finish v') cs') A (Iz P s.fn es'):=by rw[Qp rfl (BG.mode.trans hm)];exact Rz BG.defers.2 (BG.mode.trans hm) BG.kind.2 (by show P.funcs[s.fn]?=_;rw[BG.fn];exact D) r1
 obtain⟨QA,Bn,Sw⟩:=aR (P:=P) (fn:=s.fn) K (λb hb=>(H.kept b hb).1) EH HJ;refine⟨_,A,_,QA,m0,Bn,.stop λEt Fe=>?_⟩;have C7:C2 F (B0 f1 A3) RO C4 h A:=⟨_,⟨U.heap,U.tape,U.kept,U.low,U.even⟩⟩;exact⟨C4,v,v',h,rfl,r2,AH,AT.le_trans d9 EH.le,C7.rely Sw Fe,Sw⟩
end
section
variable{P:Ap}{F:zy}{fb:Nat->Bool}{f1:Hg}{k:Nat}{so:Dj}{r:List Cb}
def Zt(Wb:zy)(E:AT):Prop:=∀b h,E.rel b h->¬Wb h
def qt(P:Ap)(F:zy)(fb:Nat->Bool)(f1:Hg)(k:Nat)(so:Dj)(Wb:zy)(I:Nat)(z:AT)(r:List Cb)(base':List Ag)(ret:Bool)(Q:Ag->A0->Prop)(g:AR)(w':A0):Prop:=∃E s h y,g=G h base'/\Ei P F fb f1 k E r s h/\Fin ret s/\Q s y/\z.le E/\CC F so (λ_=>False) E y w'/\cr E y w'/\Zt Wb E/\(∀b,Wb b->b<w'.heap.size)/\∀b H,E.rel b H->z.rel b H∨I<=b
def aYX(CW:Fit P F)(Ce:P.globals.size=Ci)(hC:∀z,Calm P F (B0 f1 z))(MD:so=B0 f1 A3/\∀b,¬(λ_:Nat=>False) b↔f1.Jp b)(RC:∀f,fb f=A3->F f)(Ar:Laid P F fb f1 k){Wb:zy}{I2:Nat}{w0:A0}{ret:Bool}(TF:ret=A3->r=[]){base':List Ag}{Pm:AT}{Q:Ag->A0->Prop}(HV:∀T,∃N Bd w1,At P fr0 w0 T N (Dr (G Bd [bot]) w1)/\Fin ret Bd/\Q Bd w1):∀(p:Zv),Acc (Nx P fr0 w0 ret) p->∀{E:AT}{fr fr':Ag}{cs cs':List Ag}{wL w':A0}{T0:Tape},(∀T,Oh w0.drawn p.d T p.τ->At P fr0 w0 T p.n (Dr (G fr cs) (on wL T)))->p.ok P fr0 w0 ret->p.d=wL.drawn->w0.drawn<=p.d->Ei P F fb f1 k E (OV cs r) fr fr'->fr.mode=Lw∨fr.mode=.returning->Lv P F fb f1 k E r base' cs cs'->(∀b,b<Ci->E.rel b b)->Pm.le E->CC F so (λ_=>False) E (on wL T0) w'->cr E wL w'->Zt Wb E->(∀b,Wb b->b<w'.heap.size)->(∀b b',E.rel b b'->Pm.rel b b'∨I2<=b)->I2<=wL.heap.size->CZ P Wb (qt P F fb f1 k so Wb I2 Pm r base' ret Q) (G fr' cs') w':=by
 intro p hp;induction hp with
 |intro p _ ih=>
  intro E fr fr' cs cs' wL w' T0 v1 B3 AS Sy BG CX hc EU iB F5 hid NU Du Bw NT;have HC:KD (λ_=>False) (λ_=>False) (EW Wb w'.heap.size) E:=λb b' x=>AJ ⟨λy=>y,(F5.lt x).2,NU b b' x⟩;by_cases DR:cs=[bot]/\Fin ret fr
  ·obtain⟨rfl,DR⟩:=DR;have KU:cs'=base':=by
    cases hc with
    |base=>rfl
    |cons _ _ _ t=>cases t
   subst KU;refine .stop λd=>?_;have A2:=CB.at (λ_=>False) (EW Wb w'.heap.size) w' d;generalize CK:w'.at d=s at A2;have D:Oh w0.drawn p.d (join p.τ wL.drawn s.tape s.drawn) p.τ:=by intro i q _ h2;unfold join;rw[if_pos (by omega)]
   have A:=F5.rely HC A2 p.τ;obtain⟨N,Bd,w1,G7,Fu,AH⟩:=HV (join p.τ wL.drawn s.tape s.drawn);have Cy:=v1 _ D;have a_:p.n<=N:=by refine mf λhlt=>?_;exact B3 _ D N hlt Bd w1 G7 Fu
   obtain⟨j,rfl⟩:=tZ a_;obtain⟨m1,h1,h2⟩:=q9 G7;have:m1=Dr (G fr [bot]) (on wL (join p.τ wL.drawn s.tape s.drawn)):=by unfold At at Cy;rw[Cy]at h1;exact(ZT h1).symm
   subst this;have H1:=a8c CW.Ju BG DR Fu A h2;subst H1;simp only[Ex,SN]at h2;obtain⟨h3,h4⟩:=Rx h2;simp only[G,VI]at h3;obtain⟨rfl,_⟩:=h3;subst h4;refine⟨E,fr,fr',_,rfl,BG,DR,AH,iB,A,⟨hid.1,?_⟩,NU,?_,Bw⟩;·rw[<-CK];exact hid.2
   rw[<-CK];exact Du
  refine .step rfl λd=>?_;have A2:=CB.at (λ_=>False) (EW Wb w'.heap.size) w' d;have Ip:(w'.at d).heap=w'.heap:=rfl;generalize CK:w'.at d=s at A2 Ip;have D:Oh w0.drawn p.d (join p.τ wL.drawn s.tape s.drawn) p.τ:=by intro i q _ h2;unfold join;rw[if_pos (by omega)]
  have A:=F5.rely HC A2 p.τ;generalize g9:join p.τ wL.drawn s.tape s.drawn=T at D A;obtain⟨N,Bd,w1,G7,Fu,AH⟩:=HV T;have Cy:=v1 _ D;have a_:p.n<=N:=by refine mf λhlt=>?_;exact B3 _ D N hlt Bd w1 G7 Fu
  obtain⟨j,rfl⟩:=tZ a_;obtain⟨m1,h1,h2⟩:=q9 G7;have:m1=Dr (G fr cs) (on wL T):=by unfold At at Cy;rw[Cy]at h1;exact(ZT h1).symm
  subst this;obtain⟨j,rfl⟩:∃i,j=i+1:=by
   cases j with
   |succ j=>exact⟨j,rfl⟩
   |zero=>simp only[Ex,SN]at h2;obtain⟨h3,_⟩:=Rx h2;simp only[G,VI]at h3;obtain⟨rfl,rfl,_⟩:=h3;exact absurd ⟨rfl,Fu⟩ DR
  have ar:∀b,(λ_:Nat=>False) b->b<(on wL T).heap.size:=λb hb=>hb.elim;have bQ:∀{C9:GStep}{fn:Nat},(∀v,Bi P A3 (G fr cs) v=Bi P A3 (G fr cs) v)->Zi (λw=>Bi P A3 (G fr cs) w) (on wL T)->KC P F fb f1 k so (λ_=>False) E r base' fn (on wL T) s (Bi P A3 (G fr cs) (on wL T)) C9->Bi P A3 (G fr' cs') s=C9->∃g' H es S',Bi P A3 (G fr' cs') s=Cw g' H es/\Gb (λ_=>False) (EW Wb w'.heap.size) s H es S'/\CZ P Wb (qt P F fb f1 k so Wb I2 Pm r base' ret Q) g' H:=by
   intro C9 fn _ QU Su KZ;obtain⟨g1,H,Ky,m0,xG,w7,xF⟩:=QU;obtain⟨hW,uh,aLP,u9,aJl,I,qR,es,es',Bp,C8,E',HY,Jq,Kd,Jr,bX⟩:=Su.both;have ig:Bi P A3 (G fr cs) (on wL T)=Cw g1 H Ky:=m0;rw[Bp]at ig;injection ig with AM fk g0;subst AM fk;obtain⟨S',Bn,vx⟩:=aR (P:=P) (fn:=fn) HC ar Jr bX;refine⟨_,qR,_,S',KZ.trans C8,Bn,?_⟩;have aN9:wL.drawn<=I.drawn:=w7;have Vz:∀m,Oh w0.drawn I.drawn m T->Oh w0.drawn p.d m p.τ:=λm h i q h3 h4=>(h i q h3 (by omega)).trans (D i q h3 h4);have xH:I.tape=T:=xG;refine ih ⟨T,p.n+1,I.drawn⟩ ⟨rfl,by show p.d<=I.drawn;omega,D,?_⟩ (wL:=I) (T0:=T) ?_ ?_ rfl (by show w0.drawn<=I.drawn;omega) E' HY Jq (λb hb=>Jr.le _ _ (EU b hb)) (AT.le_trans iB Jr.le) ?_ (Jr.YK ⟨hid.1,Ip.trans hid.2⟩) (λb b' x=>?_) (λb hb=>?_) (λb b' x=>?_) ?_
   ·intro m K;intro i hi aO w4 C T1;have GK:=Vz m K;rcases J2 i p.n with hlt|OF;·exact B3 m GK i hlt aO w4 C T1
    obtain rfl:i=p.n:=by simp only at hi;omega
    have:=v1 m GK;unfold At at this C;rw[this]at C;obtain⟨h3,_⟩:=Rx (ZT C);simp only[G,VI]at h3;obtain⟨rfl,rfl,_⟩:=h3;exact DR ⟨rfl,T1⟩
   ·intro m K;have GK:=Vz m K;have Bm:=xF m λi q h3 h4=>K i q (by have:wL.drawn<=i:=h3;omega) h4;have jN:Bi P A3 (G fr cs) (on wL m)=Cw {frame:=uh,callers:=u9,status:=DJ,dying:=Z} (on I m) Ky:=Bm;have:=v1 m GK;unfold At at this⊢;rw[ym,this];simp only[Ex,Qq rfl jN];rfl
   ·intro m K;intro i hi aO w4 C T1;have GK:=Vz m K;rcases J2 i p.n with hlt|OF;·exact B3 m GK i hlt aO w4 C T1
    obtain rfl:i=p.n:=by simp only at hi;omega
    have:=v1 m GK;unfold At at this C;rw[this]at C;obtain⟨h3,_⟩:=Rx (ZT C);simp only[G,VI]at h3;obtain⟨rfl,rfl,_⟩:=h3;exact DR ⟨rfl,T1⟩
   ·have:on I T=I:=by rw[<-xH];rfl
    rw[this];exact Kd
   ·have al:Gb (λ_=>False) (EW Wb s.heap.size) s qR (Iz P fn es') S':=by rw[Ip];exact Bn
    have Bj:=pI (λb hb=>by rw[Ip];exact Du b hb) al;rcases vx b b' x with⟨y,_⟩|⟨_,y⟩;·exact y.elim
    rw[Bj]at y;exact y.2
   ·have:=Du b hb;have li:=Bn.size;rw[Ip]at li;omega
   ·rcases Jr.fresh b b' x with y|⟨y,_⟩;·exact Bw b b' y
    have y':wL.heap.size<=b:=y;exact AJ (by omega)
   have y:wL.heap.size<=I.heap.size:=Jr.size;omega
  rcases CX with U|U
  ·have M:∀v,Bi P A3 (G fr cs) v=CE P A3 A3 fr cs Z v:=λv=>eo rfl U;have Ct:Bi P A3 (G fr' cs') s=CE P A3 A3 fr' cs' Z s:=eo rfl (BG.mode.trans U);have RN:fr.todo=[]->OV cs r=[]:=by
    intro AP;cases hc with
    |base=>
     cases ret with
     |true=>exact TF rfl
     |false=>exact absurd ⟨rfl,by unfold Fin;exact⟨U,AP⟩⟩ DR
    |cons _ _ _ t=>obtain⟨c,l,rfl⟩:=t.ne;rfl
   rcases a4r (cs:=cs) CW Ce hC MD RC EU A3 BG A with⟨QU,d0⟩|⟨he⟩|⟨he⟩;·have m0:=QU;obtain⟨g1,H,Ky,m0,_⟩:=m0;have Su:=a4s CW Ce hC MD RC Ar EU A3 A3 BG U RN hc A ⟨g1,H,Ky,m0⟩ d0;refine bQ (λ_=>rfl) ?_ (by rw[M];exact Su) Ct;obtain⟨g1,H,Ky,a,b,c,d⟩:=QU;exact⟨g1,H,Ky,(M _).trans a,b,c,λm K=>(M _).trans (d m K)⟩
   ·rename_i H es ch;unfold Ex at h2;rw[Qq rfl ((M _).trans he)]at h2;simp only at h2;obtain⟨aH,h3,h4⟩:=raised fr ch;obtain⟨a3y,li⟩:=uE hc.yR h3 (h4.trans BG.defers.1) h2;exfalso;unfold Fin at Fu;simp only[G]at li;split at Fu;·rw[li]at Fu;cases Fu
    rw[li]at Fu;cases Fu.1
   unfold Ex at h2;rw[Th rfl ((M _).trans he)]at h2;cases h2
  have M:∀v,Bi P A3 (G fr cs) v=I5 P A3 fr cs Z v:=λv=>Qp rfl U;have Ct:Bi P A3 (G fr' cs') s=I5 P A3 fr' cs' Z s:=Qp rfl (BG.mode.trans U);cases hc with
  |base=>have:=p9 CW.Ju BG U A h2;omega
  |cons vq Mq dr t=>
   rename_i c c' l hH;rcases zQ CW.Ju A3 (c:=c) (cs:=l) BG U A with⟨fn,v,H,es,Bl,F',QU⟩|⟨o,H,es,he⟩;·have Su:=aBO CW.Ju A3 A3 BG U vq Mq dr t A Bl F';refine bQ (λ_=>rfl) ?_ (by rw[M];exact Su) Ct;obtain⟨g1,H,Ky,a,b,c,d⟩:=QU;exact⟨g1,H,Ky,(M _).trans a,b,c,λm K=>(M _).trans (d m K)⟩
   unfold Ex at h2;rw[Th rfl ((M _).trans he)]at h2;cases h2
def C_(R:zy):AT where
 rel:=λb s=>s=b/\R b
 one:=λb c y h k=>by rw[h.1,k.1]
 other:=λb s c h k=>by rw[<-h.1,<-k.1]
 low:=λb c h=>by rw[h.1]
def a8B(R:zy):(C_ R).Self:=λ_ _ h=>h.1
def OM{R R':zy}(h:∀b,R b->R' b):(C_ R).le (C_ R'):=λb s x=>⟨x.1,h b x.2⟩
structure Closed(F:zy)(Wb R:zy)(w:A0):Prop where
 heap:∀b,R b->∃o,w.heap[b]?=Y o/\Ge F (C_ R) o o
 off:∀b,R b->¬Wb b
 EX:∀b,b<Ci->R b
def Closed.lt{Wb R:zy}(h:Closed F Wb R w){b:Nat}(s:R b):b<w.heap.size:=by obtain⟨o,e,_⟩:=h.heap b s;exact(Array.getElem?_eq_some_iff.1 e).1
def Closed.low{Wb R:zy}(h:Closed F Wb R w):Ci<=w.heap.size:=by
 have:Ci-1<Ci:=by decide
 have:=h.lt (h.EX _ this);have:Ci=6:=rfl;omega
def Closed.same{Wb R:zy}(h:Closed F Wb R w)(e:∀b,R b->w'.heap[b]?=w.heap[b]?):Closed F Wb R w':=⟨λb s=>by rw[e b s];exact h.heap b s,h.off,h.EX⟩
def Closed.wr{Wb R:zy}(h:Closed F Wb R w)(so:Dj)(T:Tape):CC F so (λ_=>False) (C_ R) (on w (join T w.drawn w.tape w.drawn)) w:=by
 refine⟨λb s x=>?_,λi q=>?_,λ_ x=>x.elim,⟨h.low,h.low⟩,λ_ b s x o K e z=>?_⟩;·obtain⟨rfl,I⟩:=x;obtain⟨o,e,k⟩:=h.heap s I;exact⟨o,o,e,e,k⟩
 ·show w.tape (w.drawn+i) q=join T w.drawn w.tape w.drawn (w.drawn+i) q;unfold join;rw[if_neg (by omega)];congr 2;omega
 obtain⟨rfl,_⟩:=x;have e1:w.heap[s]?=Y o:=e;rw[e1]at z;obtain rfl:=CH z;intro _ _ _ _ _ _ y H;rw[y]at H;injection H with _ _ l;exact l.symm
def hT{Wb:zy}(h:CC F so (λ_=>False) E wL w)(hi:cr E wL w)(I:Zt Wb E)(H:∀b,b<Ci->E.rel b b):∃R,E=C_ R/\Closed F Wb R w:=by
 have he:E=C_ λb=>E.rel b b:=by
  obtain⟨rel,a,b,c⟩:=E;have:rel=λb s=>s=b/\rel b b:=by
   funext b s;refine propext ⟨λx=>?_,λx=>?_⟩;·have e:=hi.1 b s x;subst e;exact⟨rfl,x⟩
   rw[x.1];exact x.2
  unfold C_;congr
 refine⟨_,he,λb y=>?_,λb y=>I b b y,H⟩;obtain⟨o,K,e,z,k⟩:=h.heap b b y;rw[hi.2,e]at z;obtain rfl:=CH z;refine⟨o,by rw[hi.2];exact e,?_⟩;rw[<-he];exact k
def kG(X:Static P F fb f1 k)(m:∀b,f1.Jp b){Wb R:zy}(ret:Bool)(p:ret=A3->r=[]){l:Ag}{base':List Ag}{Q:Ag->A0->Prop}(M:Ei P F fb f1 k (C_ R) r fr0 l)(hm:fr0.mode=Lw)(y:Closed F Wb R w)(A:∀b,Wb b->b<w.heap.size)(z:∀T,∃N h s,Ex P N (Dr (G fr0 [bot]) (on w T))=Ds (Dr (G h [bot]) s)/\Fin ret h/\Q h s):CZ P Wb (qt P F fb f1 k (B0 f1 A3) Wb w.heap.size (C_ R) r base' ret Q) (G l base') w:=by have I:=aAh (P:=P) (fr0:=fr0) (w0:=w) (ret:=ret) (λT=>let⟨N,h,s,a,b,_⟩:=z T;⟨N,h,s,a,b⟩) ⟨w.tape,0,w.drawn⟩;exact aYX X.fit X.EX X.calm ⟨rfl,λb=>⟨λ_=>m b,λ_ x=>x⟩⟩ X.sub X.laid p z _ I (λT _=>rfl) (λT _ j U=>by cases U) rfl (Ae _) M (AD hm) .base (λb K=>⟨rfl,y.EX b K⟩) (AT.le_refl _) (y.wr _ w.tape) ⟨a8B R,rfl⟩ (λb H x=>by rw[x.1];exact y.off b x.2) A (λb H x=>AD x) (Ae _)
def zu(F:zy)(Wb R:zy)(y:Nat)(c':Ag)(cs':List Ag)(Q:A1->A0->Prop)(g:AR)(w':A0):Prop:=∃h v s,g=G (c'.finish v) cs'/\AN F (C_ h) v v/\Q v s/\(∀b,R b->h b)/\w'.heap=s.heap/\Closed F Wb h w'/\(∀b,Wb b->b<w'.heap.size)/\∀b,h b->R b∨y<=b
def tx(X:Static P F fb f1 k)(T9:∀b,f1.Jp b){Wb R:zy}{f:Nat}{cs':List Ag}{Q:A1->A0->Prop}(Bl:P.funcs[f]?=Y fn)(z:fn.body=Y code)(hc:ES P fb f1.own (f1.own f) k code=A3)(ak:IS (f1.own f)=[])(rg:∀t∈f1.own f,args.size<=t)(L':Aq F (C_ R) args.toList args.toList)(s2:Closed F Wb R w)(Du:∀b,Wb b->b<w.heap.size)(UX:∀T,Ai P f args (on w T) λe h=>∃v,e=AZ v/\Q v h):CZ P Wb (zu F Wb R w.heap.size c' cs' Q) (G (HO P f args GG) (c'::cs')) w:=by
 have HV:∀T,∃N K h,Ex P N (Dr (G (HO P f args GG) [bot]) (on w T))=Ds (Dr (G K [bot]) h)/\Fin A3 K/\∃v,Q v h/\K.fn=f/\K.leaving P h (AZ v):=by intro T;obtain⟨e,h,K,⟨v,rfl,AH⟩,Bm,AK,AE⟩:=UX T [bot];obtain⟨N,G7⟩:=Bm;exact⟨N,K,h,G7,AE.1,v,AH,AK,AE⟩
 refine(kG X T9 A3 (λ_=>rfl) (r:=[]) (Ei.enter Bl z hc ak rg L') rfl s2 Du HV).bind ?_;rintro g I⟨l,fr,s,h,rfl,BG,DR,⟨v,AH,Y4,hm,AS,hk,U,QS,F'⟩,d9,M,hid,NU,e3,Bw⟩;refine .step rfl λd=>?_;have HC:KD (λ_=>False) (λ_=>False) (EW Wb I.heap.size) l:=λb b' x=>AJ ⟨λy=>y,(M.lt x).2,NU b b' x⟩;have A2:=CB.at (λ_=>False) (EW Wb I.heap.size) I d;have m:(I.at d).heap=I.heap:=rfl;generalize a7z:I.at d=H at A2 m;have p:CC F (B0 f1 A3) (λ_=>False) l (on h (join h.tape h.drawn H.tape H.drawn)) H:=(M:CC F (B0 f1 A3) (λ_=>False) l (on h h.tape) I).rely HC A2 _;have hs:AO P F ⟨f1.Jp,False,f1.own,f1.Hx⟩ (CL F) l (D_ U fr.tmps) (D_ U s.tmps):=BG.results QS;have D:∃es,(D_ U fr.tmps).runT P h #[]=(Ac v h,es):=by have:=Rs (P:=P) (D_ U fr.tmps) h #[];rw[F']at this;exact⟨((D_ U fr.tmps).runT P h #[]).2,by rw[<-this]⟩
 obtain⟨es,D⟩:=D;have jK:=(AO.tape X.fit.Ju hs (w':=I) ⟨M.heap,M.tape,λ_ x=>x.elim,M.low,M.even⟩ D).2 (join h.tape h.drawn H.tape H.drawn) (λi q h1 h2=>by omega);obtain⟨C4,v',C,es',r1,r2,Ea,A,HJ⟩:=AO.runs X.fit.Ju (Pr:=λ_=>False) (RO:=λ_=>False) (λ_ x=>x) (λx=>a'3 x) hs (⟨p.heap,p.tape,p.kept,p.low,p.even⟩:CC F ⟨f1.Jp,False,f1.own,f1.Hx⟩ (λ_=>False) l _ H) (es:=#[]) (es':=#[]) .nil jK;have m0:Bi P A3 (G s (c'::cs')) H=Cw (G (c'.finish v') cs') C (Iz P s.fn es'):=by rw[Qp rfl (BG.mode.trans hm)];exact Rz BG.defers.2 (BG.mode.trans hm) BG.kind.2 (by show P.funcs[s.fn]?=_;rw[BG.fn];exact QS) r1
 obtain⟨QA,Bn,Sw⟩:=aR (P:=P) (fn:=s.fn) HC (λb z=>z.elim) A HJ;have RQ:=A.YK ⟨hid.1,m.trans hid.2⟩;have Ub:∀b,Wb b->b<C.heap.size:=λb z=>by have:=e3 b z;have li:=Bn.size;rw[m]at li;omega
 have jA:Zt Wb C4:=λb b' x=>by
  have al:Gb (λ_=>False) (EW Wb H.heap.size) H C (Iz P s.fn es') QA:=by rw[m];exact Bn
  have Bj:=pI (λb z=>by rw[m];exact e3 b z) al;rcases Sw b b' x with⟨y,_⟩|⟨_,y⟩;·exact y.elim
  rw[Bj]at y;exact y.2
 refine⟨_,C,_,QA,m0,Bn,.stop λd2=>?_⟩;have NR:∀b,b<Ci->C4.rel b b:=λb z=>A.le _ _ (d9 _ _ ⟨rfl,s2.EX b z⟩);obtain⟨Bb,rfl,Er⟩:=hT Ea RQ jA NR;obtain rfl:=r2.same RQ.1;refine⟨Bb,v',h,rfl,r2,AH,λb z=>(A.le _ _ (d9 b b ⟨rfl,z⟩)).2,?_,Er.same λ_ _=>rfl,Ub,λb z=>?_⟩;·exact RQ.2
 rcases A.fresh b b ⟨rfl,z⟩with y|⟨y,_⟩;·exact(Bw b b y).imp (·.2) id
 right;have y':h.heap.size<=b:=y;omega
end
section
variable{P:Ap}{tb:Nat->Bool}
def pe(P:Ap)(tb:Nat->Bool)(o:BR):Bool:=aAA P o.op||match o.op with|If {callee:=N7 (JE f),..}=>tb f|_=>A9
def hU(P:Ap)(tb:Nat->Bool):Bg->Bool|VG|.exit _|.label _|.ret|.refuse _=>A3|Ej _ ops _=>ops.toList.all (pe P tb)|Bh a b|.cond _ a b=>hU P tb a&&hU P tb b|Wq _ b|r5 b|.scope b=>hU P tb b|_=>A9
def WJ(P:Ap)(tb:Nat->Bool):Cb->Bool|BS c|Wx c|.inScope c=>hU P tb c|cL _=>A3|B1 ops _=>ops.toList.all (pe P tb)|_=>A9
def mS(P:Ap)(tb:Nat->Bool):Prop:=∀f,tb f=A3->∃b c,P.funcs[f]?=Y b/\(b.name== "runtime.NumGoroutine")=A9/\b.body=Y c/\hU P tb c=A3
structure Ml(P:Ap)(tb:Nat->Bool)(fr:Ag):Prop where
 ok:∀i∈fr.todo,WJ P tb i=A3
 defers:fr.defers=[]
 kind:fr.kind=GG
 round:fr.roundOf=Z
 has:∃fn,P.funcs[fr.fn]?=Y fn
def Ml.to(h:Ml P tb fr){l:List Cb}(b:∀i∈l,WJ P tb i=A3):Ml P tb {fr with todo:=l}:=⟨b,h.defers,h.kind,h.round,h.has⟩
def Ml.finish{fr:Ag}(h:Ml P tb fr)(v:A1):Ml P tb (fr.finish v):=by
 unfold cG;split
 ·rename_i ops j rest l e;refine⟨λi hi=>?_,h.defers,h.kind,h.round,h.has⟩;have b:=h.ok;rw[e]at b;rcases List.mem_cons.1 hi with rfl|hi;·exact(b (B1 ops (j::rest)) (Je ..):ops.toList.all (pe P tb)=A3)
  exact b i (Jd _ hi)
 all_goals first|exact h|(rename_i e;have b:=h.ok;rw[e]at b;exact absurd (b _ (Je ..)) (by simp[WJ]))
def nN(fr:Ag)(v:A1):(fr.finish v).mode=fr.mode:=by unfold cG;split<;>rfl
def Ml.enter(s:mS P tb){f:Nat}(y:tb f=A3)(args:zw):Ml P tb (HO P f args GG):=by obtain⟨h,c,b,_,h2,h3⟩:=s f y;unfold HO;refine⟨λi hi=>?_,rfl,rfl,rfl,⟨h,b⟩⟩;simp only[b,h2,SZ,G4,cz]at hi;subst hi;exact h3
def uX{id:Nat}:∀{l m:List Cb},R6 id l=Y m->∀i∈m,i∈l
 |[],_,h=>by simp[R6]at h
 |i::l,m,h=>by
  unfold R6 at h;split at h
  ·rename_i s;obtain⟨rfl,rfl⟩:=Q5 s;split at h;·cases h;exact λj b=>Jd _ b
   exact λj b=>Jd _ (uX h j b)
  ·rename_i s;obtain⟨rfl,rfl⟩:=Q5 s;exact λj b=>Jd _ (uX h j b)
  cases h
inductive Xf(P:Ap)(tb:Nat->Bool)(fr:Ag)(w:A0)(s:List Ag->GStep):Prop|here{fr':Ag}{w':A0}{es:Array C5}:(∀cs,s cs=Cw (G fr' cs) w' es)->Ml P tb fr'->fr'.mode=Lw∨fr'.mode=.returning->EB w w' #[] es->Xf P tb fr w s|call{f:Nat}{args:zw}{es:Array C5}:(∀cs,s cs=Cw (G (HO P f args GG) (fr::cs)) w es)->Ml P tb (HO P f args GG)->EB w w #[] es->Xf P tb fr w s|raise{ch:List PanicEntry}{w':A0}{es:Array C5}:(∀cs,s cs=Cw (G (fr.raise ch) cs) w' es)->Xf P tb fr w s|ends:(∀cs,∃o w' es,s cs=cH o w' es)->Xf P tb fr w s
def EB.seen{w w':A0}{es:Array C5}(h:EB w w' #[] es)(fn:ZG):EB w w' #[] (seen P fn es):=⟨h.size,h.os,h.output,h.tape,λe he=>h.evs e (cB he)⟩
def aHr(N:∀g,P.stepOf g=Z)(h:Ml P tb fr)(I:fr.mode=Lw){s:Sem LH}(hs:AU P e_ s)(w:A0):Xf P tb fr w λcs=>NA P A3 fr cs Z s w:=by
 have H:(fr.kind==Ki)=A9:=by rw[h.kind];rfl
 have b:=hs.runs w #[];have he:=hs.ends w #[];cases z:s.runT P w #[]with
 |mk r es=>
  rw[z]at b he;cases r with
  |ok M y=>
   have b:EB w y #[] es:=b;have he:e_ M:=he;cases M with
   |value v=>exact .here (λcs=>Jh H z rfl) (h.finish v) (by rw[nN];exact AD I) (b.seen _)
   |skip=>exact .here (λcs=>Jh H z rfl) (h.finish A') (by rw[nN];exact AD I) (b.seen _)
   |_=>exact he.elim
  |halt x y=>
   have b:EB w y #[] es:=b;have he:fR y x:=he;rcases he with he|⟨g,c,t,rfl,Q⟩
   ·cases x with
    |panic v=>refine .raise (ch:=[{v,recovered:=A9}]) (w':=y) (es:=Iz P fr.fn es) λcs=>?_;unfold NA;simp only[↓reduceIte,z,H,EJ,Ot,V8,G]
    |stuck m=>refine .ends λcs=>?_;unfold NA;simp only[↓reduceIte,z,H,EJ,Ot];exact⟨_,_,_,rfl⟩
    |unsupported u=>
     refine .ends λcs=>?_;unfold NA;cases u with
     |initOrder g=>exact absurd rfl (he g)
     |_=>simp only[↓reduceIte,z,H,EJ,Ot];exact⟨_,_,_,rfl⟩
    |_=>exact he.elim
   by_cases K:P.follows .staticDataAhead=A3;·refine .ends λcs=>?_;unfold NA;simp only[↓reduceIte,z,H,EJ];unfold early;simp only[K,N,Tn,EJ,↓reduceIte,Ot];exact⟨_,_,_,rfl⟩
   refine .here (fr':=fr) (w':={y with heap:=y.heap.setIfInBounds g (AF c t)}) (es:=Iz P fr.fn #[]) (λcs=>?_) h (AD I) ?_;·unfold NA;simp only[↓reduceIte,z,H,EJ];unfold early;simp only[K,Q,VB,↓reduceIte,Ot,V8,G]
   have U:EB w {y with heap:=y.heap.setIfInBounds g (AF c t)} #[] #[]:=⟨by have:=b.size;simpa[q7]using this,b.os,b.output,b.tape,λe he=>AD he⟩;exact U.seen _
def aKk(s2:∀g,P.stepOf g=Z)(Ar:mS P tb)(h:Ml P tb fr)(U:fr.mode=Lw)(w:A0):Xf P tb fr w λcs=>CE P A3 A3 fr cs Z w:=by
 have B3:=h.ok;have m:=h.round;have I:∀(l:List Cb),(∀i∈l,WJ P tb i=A3)->(∀cs,CE P A3 A3 fr cs Z w=Cw (G {fr with todo:=l} cs) w #[])->Xf P tb fr w λcs=>CE P A3 A3 fr cs Z w:=λl K e=>.here e (h.to K) (AD U) (EB.refl w #[]);have D:(∀cs,CE P A3 A3 fr cs Z w=Cw (G {fr with mode:=MZ} cs) w #[])->Xf P tb fr w λcs=>CE P A3 A3 fr cs Z w:=λe=>.here e ⟨h.ok,h.defers,h.kind,h.round,h.has⟩ (AJ rfl) (EB.refl w #[]);cases s:fr.todo with
 |nil=>refine D λcs=>?_;unfold CE;simp only[s,m,↓reduceIte,G]
 |cons i l=>
  rw[s]at B3;have hi:=B3 i (by simp);have K:∀j∈l,WJ P tb j=A3:=λj z=>B3 j (by simp[z]);have two:∀(a b:Cb),WJ P tb a=A3->WJ P tb b=A3->∀j∈a::b::l,WJ P tb j=A3:=by
   intro a b AB hb j z;rcases List.mem_cons.1 z with rfl|z;·exact AB
   rcases List.mem_cons.1 z with rfl|z;·exact hb
   exact K j z
  cases i with
  |inBlock b=>refine I l K λcs=>?_;unfold CE;simp only[s,G]
  |inScope b=>refine I l K λcs=>?_;unfold CE;simp only[s,G]
  |inLoop b=>refine I _ (two (BS b) (Wx b) hi hi) λcs=>?_;unfold CE;simp only[s,G]
  |code c=>
   cases c with
   |skip=>refine I l K λcs=>?_;unfold CE;simp only[s,G]
   |label n=>refine I l K λcs=>?_;unfold CE;simp only[s,G]
   |ret=>refine D λcs=>?_;unfold CE;simp only[s,m,↓reduceIte,G]
   |seq a b=>obtain⟨H,h2⟩:=Bool.and_eq_true_iff.1 hi;refine I _ (two (BS a) (BS b) H h2) λcs=>?_;unfold CE;simp only[s,G]
   |cond c a b=>
    obtain⟨H,h2⟩:=Bool.and_eq_true_iff.1 hi;cases hv:fr.eval c with
    |bool v=>
     refine I (BS (if v then a else b)::l) (λj z=>?_) λcs=>?_
     ·rcases List.mem_cons.1 z with rfl|z
      ·cases v;·exact h2
       exact H
      exact K j z
     unfold CE;simp only[s,hv,G]
    |_=>refine .ends λcs=>?_;unfold CE;simp only[s,hv];exact⟨_,_,_,rfl⟩
   |block n b=>refine I _ (two (BS b) (cL n) hi rfl) λcs=>?_;unfold CE;simp only[s,G]
   |loop b=>refine I _ (two (BS b) (Wx b) hi hi) λcs=>?_;unfold CE;simp only[s,G]
   |scope b=>refine I _ (two (BS b) (.inScope b) hi hi) λcs=>?_;unfold CE;simp only[s,G]
   |exit n=>cases e:R6 n l with|none=>refine .ends λcs=>?_;unfold CE;simp only[s,m,e,Option.elim_none,EJ,↓reduceIte];exact⟨_,_,_,rfl⟩|some hH=>refine I hH (λj z=>K j (uX e j z)) λcs=>?_;unfold CE;simp only[s,e,Option.elim_some,G]
   |goto n=>cases hi
   |rangeFunc f a b c=>cases hi
   |refuse y=>refine .ends λcs=>?_;unfold CE;simp only[s];exact⟨_,_,_,rfl⟩
   |region n ops Q=>
    have Gk:∀(t:List Nat),∀j∈B1 ops t::l,WJ P tb j=A3:=by
     intro t j z;rcases List.mem_cons.1 z with rfl|z;·exact hi
     exact K j z
    cases Q with|false=>refine I _ (Gk (Hf ops.size)) λcs=>?_;unfold CE;simp only[s,VB,↓reduceIte,G]|true=>have hc:AU P any (Ty (X9 fr.fn n)):=pF _;have H:=hc.runs w #[];have h2:=hc.ends w #[];have h3:=Rs (P:=P) (Ty (X9 fr.fn n)) w #[];cases A:(Ty (X9 fr.fn n)).run P w with|ok t w2=>rw[h3,A]at H;have H:EB w w2 #[] _:=H;refine .here (fr':={fr with todo:=B1 ops (a15 (P.follows fq) ops t)::l}) (w':=w2) (es:=#[]) (λcs=>?_) (h.to (Gk _)) (AD U) ⟨H.size,H.os,H.output,H.tape,λe he=>AD he⟩;unfold CE;simp only[s,A,Tn,EJ,↓reduceIte,G]|halt x w2=>refine .ends λcs=>?_;unfold CE;simp only[s,A,Tn,EJ,↓reduceIte];exact⟨_,_,_,rfl⟩
  |inRegion ops todo=>
   cases todo with
   |nil=>refine I l K λcs=>?_;unfold CE;simp only[s,G]
   |cons j rest=>
    have NJ:fr.oper?=ops[j]?:=by unfold Frame.oper?;rw[s]
    by_cases p:(ops[j]?.map (Gt · (I6 ops fr.tmps))).getD A9=A3
    ·cases e:ops[j]? with
     |none=>rw[e]at p;cases p
     |some o=>
      have M:pe P tb o=A3:=List.all_eq_true.1 hi o (by obtain⟨hlt,rfl⟩:=Array.getElem?_eq_some_iff.1 e;simp);have e1:∀cs,CE P A3 A3 fr cs Z w=NA P A3 fr cs Z (Ab fr.eval o) w:=by intro cs;unfold CE;simp only[s,p,↓reduceIte];unfold stepG.oper;rw[NJ,e];simp only[m]
      rcases Bool.or_eq_true_iff.1 M with M|M;·have:=aHr (tb:=tb) s2 h U (aRw (ρ:=fr.eval) M) w;simpa only[e1]using this
      cases C:o.op with
      |call c=>
       rw[C]at M;obtain⟨N,args,ts⟩:=c;cases N with
       |value x=>
        cases x with
        |func f=>
         have AK:tb f=A3:=M;obtain⟨fn,c,H,hn,h2,h3⟩:=Ar f AK;have Ud:¬fn.name= "runtime.NumGoroutine":=by simpa using hn
         have hY:fr.eval (JE f)=FU (Ek f) #[] #[]:=rfl;have A2:(Ab fr.eval o).runT P w #[]=(Ac (.enter f (args.map fr.eval)) w,#[]):=by unfold Ab;rw[C];show(Dx _ _).runT P w #[]=_;simp[cE,hY,Me,H,Ud,h2,U',a1V,FX,Dx]
         have hk:(fr.kind==Ki)=A9:=by rw[h.kind];rfl
         refine .call (f:=f) (args:=args.map fr.eval) (es:=Iz P fr.fn #[]) (λcs=>?_) (Ml.enter Ar AK _) ((EB.refl w #[]).seen _);rw[e1,Jh hk A2 rfl];simp only[s,G]
        |_=>cases M
       |_=>cases M
      |_=>rw[C]at M;cases M
    refine .here (fr':=fr.finish A') (w':=w) (es:=#[]) (λcs=>?_) (h.finish A') (by rw[nN];exact AD U) (EB.refl w #[]);unfold CE;simp only[s,p,EJ,↓reduceIte,G]
  |_=>cases hi
end
section
variable{P:Ap}{tb:Nat->Bool}
def aRP(v:A1):AU P any (asAddr v):=by unfold asAddr;repeat' first|(with_reducible exact AU.ret _)|(with_reducible exact HG _)|(with_reducible exact je ..)|((with_reducible refine MI λg e=>?_);cases e)|split
def a9F(fn:Jy)(T:zw):AU P any (D_ fn T):=by unfold D_;refine AU.Cn (a8x (λx=>?_) _) λ_=>trivial;cases x with|tmp t=>exact trivial|cell a t=>exact AU.Cn (aRP _) λ_=>a9A _ _
def EB.gt(h:EB w w' #[] es):Gb (λ_=>False) (EW (λ_=>False) w.heap.size) w w' es (EW (λ_=>False) w'.heap.size):=by
 refine⟨h.size,λb H hn=>absurd ⟨H,λx=>x⟩ hn,h.os,h.output,h.tape,λb=>⟨λx=>?_,λx=>?_⟩,λe he=>?_⟩
 ·by_cases H:b<w.heap.size;·exact AD ⟨H,λx=>x⟩
  exact AJ ⟨by omega,x.1⟩
 ·rcases x with x|x;·exact⟨by have:=x.1;have:=h.size;omega,λx=>x⟩
  exact⟨x.2,λx=>x⟩
 rcases h.evs e he with x|x;·simp at x
 cases x with|cell w s x=>exact .cell w s (x.imp (λy=>⟨y,λz=>z⟩) id)|obj w s x=>exact .obj w s (x.imp (λy=>⟨y,λz=>z⟩) id)|extern f=>exact .extern f|noRoom=>exact .noRoom
def kL{a a':AR}{t:Dh}{q:Nat->Nat}(hs:a.status=DJ)(s:Bi P A3 a w=Cw a' w' es)(h:EB w w' #[] es)(hc:De P (λ_=>False) #[a] w t q a):gP P (Dr a w)=(Ds (Dr a' w'),Km 0 a.frame.fn a.frame.place es)/\De P (λ_=>False) #[a'] w' (t++Km 0 a.frame.fn a.frame.place es) q a':=by
 refine⟨(a'K hs).trans (aDI s),?_⟩;have b:=(De.own hc (a':=a') (AJ trivial) h.gt a.frame.fn a.frame.place).2;have e:(#[a].map (Po P a a' w')).setIfInBounds 0 a'=#[a']:=by simp
 rw[e]at b;exact b
def a3C(P:Ap)(tb:Nat->Bool)(l:List Ag):Prop:=∀c∈l,Ml P tb c/\c.mode=.run
def aCP:∀{l:List Ag},a3C P tb l->Passes (l++[bot])|[],_=>.bot|c::l,h=>.cons (h c (by simp)).1.defers (aCP λx hx=>h x (by simp[hx]))
def aY0(s2:∀g,P.stepOf g=Z)(Ar:mS P tb):∀(N:Nat){fr m:Ag}{l base:List Ag}{w w1:A0}{t:Dh}{q:Nat->Nat},Ml P tb fr->fr.mode=Lw∨fr.mode=.returning->a3C P tb l->Ex P N (Dr (G fr (l++[bot])) w)=Ds (Dr (G m [bot]) w1)->m.mode=MZ->De P (λ_=>False) #[G fr (l++base)] w t q (G fr (l++base))->∃H,Ey P N (Dr (G fr (l++base)) w) t=(Ds (Dr (G m base) w1),H)/\De P (λ_=>False) #[G m base] w1 H q (G m base):=by
 intro N;induction N with
 |zero=>
  intro fr m l base w w1 t q y C I b K hc;simp only[Ex,SN]at b;obtain⟨h1,rfl⟩:=Rx b;simp only[G,VI]at h1;obtain⟨rfl,h2,_⟩:=h1;have:l=[]:=by cases l with|nil=>rfl|cons c l=>simp at h2
  subst this;exact⟨t,rfl,hc⟩
 |succ N ih=>
  intro fr m l base w w1 t q y C I b K hc;unfold Ex at b;rcases C with z|z
  ·have s:∀cs,Bi P A3 (G fr cs) w=CE P A3 A3 fr cs Z w:=λcs=>eo rfl z;rcases aKk s2 Ar y z w with⟨hs,h2,h3,h4⟩|⟨hs,h2,h4⟩|⟨hs⟩|⟨hs⟩;·rw[Qq rfl ((s _).trans (hs _))]at b;obtain⟨e1,c1⟩:=kL rfl ((s _).trans (hs (l++base))) h4 hc;obtain⟨H,e2,c2⟩:=ih h2 h3 I b K c1;refine⟨H,?_,c2⟩;rw[Ey,e1];exact e2
   ·rw[Qq rfl ((s _).trans (hs _))]at b;obtain⟨e1,c1⟩:=kL rfl ((s _).trans (hs (l++base))) h4 hc;obtain⟨H,e2,c2⟩:=ih (l:=fr::l) h2 (AD rfl) (λc hc=>by
     rcases List.mem_cons.1 hc with rfl|hc;·exact⟨y,z⟩
     exact I c hc) b K c1;refine⟨H,?_,c2⟩;rw[Ey,e1];exact e2
   ·rename_i ch M Q;exfalso;rw[Qq rfl ((s _).trans (hs _))]at b;obtain⟨aH,h3,h4⟩:=raised fr ch;obtain⟨a3y,A⟩:=uE (aCP I) h3 (h4.trans y.defers) b;simp only[G]at A;rw[K]at A;cases A
   exfalso;obtain⟨o,M,Q,he⟩:=hs (l++[bot]);rw[Th rfl ((s _).trans he)]at b;cases b
  have s:∀cs,Bi P A3 (G fr cs) w=I5 P A3 fr cs Z w:=λcs=>Qp rfl z;cases U:P.funcs[fr.fn]? with
  |none=>obtain⟨fn,h⟩:=y.has;rw[U]at h;cases h
  |some fn=>
   have D:=a9F (P:=P) fn fr.tmps;have A2:=D.runs w #[];have he:=D.ends w #[];cases p:(D_ fn fr.tmps).runT P w #[]with
   |mk r Q=>
    rw[p]at A2 he;cases r with
    |halt x M=>
     exfalso;have:∃o w3 nL,I5 P A3 fr (l++[bot]) Z w=cH o w3 nL:=by unfold I5;simp only[y.defers,z,U,p];cases x<;>exact⟨_,_,_,rfl⟩
     obtain⟨o,w3,nL,h3⟩:=this;rw[Th rfl ((s _).trans h3)]at b;cases b
    |ok v M=>have A2:EB w M #[] Q:=A2;cases l with|nil=>exfalso;have h3:I5 P A3 fr [bot] Z w=_:=Rz (c:=bot) (cs:=[]) y.defers z y.kind U p;rw[U9,Qq (a1:=G (bot.finish v) []) rfl ((s _).trans h3)]at b;have:=a4d b;subst this;simp only[Ex,SN]at b;have:=(Rx b).1;simp[G]at this|cons c l=>have h3:∀cs,I5 P A3 fr (c::cs) Z w=Cw (G (c.finish v) cs) M (Iz P fr.fn Q):=λcs=>Rz y.defers z y.kind U p;rw[Kq,Qq rfl ((s _).trans (h3 _))]at b;obtain⟨e1,c1⟩:=kL rfl ((s _).trans (h3 (l++base))) (A2.seen _) hc;have Y1:=I c (by simp);obtain⟨H,e2,c2⟩:=ih (Y1.1.finish v) (by rw[nN];exact AD Y1.2) (λx hx=>I x (by simp[hx])) b K c1;refine⟨H,?_,c2⟩;rw[Ey,Kq,e1];exact e2
end
end
def ow(RO:zy):Hg:=⟨TX,λb=>¬RO b,λh=>absurd rfl h,False,λh=>absurd rfl h⟩
def static(RO:zy):Static A6 reads kE (ow RO) 8:=⟨fit _,by kernel_rfl,calm rfl,aVo,laid rfl⟩
section
open Go.Proofs.YtcfhleenecfghaaGreatDoor
variable{f:Nat}
def dO:List Nat:=[13,14,15,16,17,19,20,21,22,27,28,29,31,32,33,38,43,44,45,46,49,50,51,57,58,59,60,62,63,64,65,66,67,68,69,70,71,85,86,87,88,89,90,91,92,93,94,95,96,97,98,99,100,101,102,103,105,118,119,120,121,122,123,124,125,127,128,129,130,131,132,133,134,135,136,137,138,139,140,141,142,143,145,146,147,148,149,150,151,152,153,154,155,168,169,170,171,172,173,174,175,176,177,178,179,180,181,182,183,184,194,195,196,200,202,203,204,205,206,207,208,209,210,211,212,213,214,215,216,217,218,219,221,222,223,224,225,226,227,228,242,243,244,245,246,247,248,249,250,251,252,253,254,255,256,257,258,259,260,261,262,263,264,265,266,273,274,275,289,295,296,297,298,299,300,301,302,303,304,305,306,307,308,309,310,311,312,313,314,315,316,317,320,321,322,323,324,325,326,327,329,339,340,341,342,343,344,345,346,347,348,350,352,353,354,360,361,362,363,364,365,366,367,368,369,370,371,372,373,374,375,376,377,378,379,380,381,382,384,386,387,388,405,406,408,410,411,412,413,414,415,416,417,418,419,420,421,424,425,434,435,436,437,438,439,440,441,442,443,444,445,446,450,451,452,455,472,474,475,476]
def eO:List Nat:=[267,328,351,407,409,422]
def CM(f:Nat):Prop:=f∈dO∨f∈eO
def DV(f:Nat):Bool:=dO.contains f||eO.contains f
def UI(f:Nat)(h:DV f=A3):CM f:=by unfold DV at h;simpa[CM]using h
def E5:Nat->List Nat:=λf=>if f=4294967296 then[0]else[]
def bT:Hg:=⟨E5,λ_=>True,λ_ _=>trivial,True,λ_=>trivial⟩
def a3c:dO.all (hL A6)=A3:=by kernel_rfl
def aBq:(dO++eO).all (λf=>Bz (f<4294967296))=A3:=by kernel_rfl
def k2(h:CM f):E5 f=[]:=by have:=List.all_eq_true.1 aBq f (List.mem_append.2 h);have hlt:f<4294967296:=of_decide_eq_true this;unfold E5;rw[if_neg (by omega)]
def pU:A6.funcs[4294967296]?.isNone=A3:=by kernel_rfl
def a4y:cF aEG=Y kz:=by kernel_rfl
def a4z:cF aEH=Y rU:=by kernel_rfl
def a5':cF rz=Y (rY rz.params rz.resultTypes):=by kernel_rfl
def a9u:(ZF aEG).isNone=A3:=by kernel_rfl
def a9v:(ZF aEH).isNone=A3:=by kernel_rfl
def a9w:(ZF rz).isNone=A3:=by kernel_rfl
section
variable{P:Ap}{F:zy}{so:Dj}{E:AT}
def aB5{row:zw->Sem A1}(s:∀l:List A1,l.length≠1->∃m,row ⟨l⟩=Go.stuck m)(y:∀{x x':A1},AN F E x x'->AO P F so (CL F) E (row #[x]) (row #[x'])){a a':zw}(h:Aq F E a.toList a'.toList):AO P F so (CL F) E (row a) (row a'):=by
 obtain⟨l⟩:=a;obtain⟨z⟩:=a';by_cases b:l.length=1;·match l,z,b,h with|[x],[x'],_,.cons hx .nil=>exact y hx
 obtain⟨m,e⟩:=s l b;rw[e];exact .stuck
end
def aIc(z:Bool):Calm A6 CM (B0 bT z):=by
 refine⟨λf AK=>k2 AK,λf AK E K a N M h=>?_⟩;rcases AK with(AK|AK)|AK;·have hb:=List.all_eq_true.1 a3c f AK;unfold hL at hb;cases e:A6.funcs[f]? with|none=>rw[e]at hb;cases hb|some Q=>rw[e]at hb;simp only[G0,Qw]at hb;exact yY (AD (AD AK)) e hb.1 (by rw[aHV];exact hb.2) M h
 ·simp only[eO,JG,He,or_false]at AK;rcases AK with rfl|rfl|rfl|rfl|rfl|rfl;·exact OT aET (by kernel_rfl) (by kernel_rfl) a9u a4y λH s=>aB3 (h.mono s)
  ·exact OT aEV (by kernel_rfl) (by kernel_rfl) a9v a4z λH s=>TZ (λl y=>match l,y with|[],_=>⟨_,rfl⟩|[_],_=>⟨_,rfl⟩|[_,_],h=>absurd rfl h|_::_::_::_,_=>⟨_,rfl⟩) (λhx hy=>aAq hx hy) (h.mono s)
  ·exact OT cQ (by kernel_rfl) (by kernel_rfl) yB uc λH s=>TZ (λl y=>match l,y with|[],_=>⟨_,rfl⟩|[_],_=>⟨_,rfl⟩|[_,_],h=>absurd rfl h|_::_::_::_,_=>⟨_,rfl⟩) (λhx hy=>yd (by kernel_rfl) (λb hb=>s _ _ (K b hb)) hx hy) (h.mono s)
  ·exact OT gG (by kernel_rfl) (by kernel_rfl) yC ud λH s=>TZ (λl y=>match l,y with|[],_=>⟨_,rfl⟩|[_],_=>⟨_,rfl⟩|[_,_],h=>absurd rfl h|_::_::_::_,_=>⟨_,rfl⟩) (λhx hy=>yZ hx hy) (h.mono s)
  ·exact OT cR (by kernel_rfl) (by kernel_rfl) yD ue λH s=>TZ (λl y=>match l,y with|[],_=>⟨_,rfl⟩|[_],_=>⟨_,rfl⟩|[_,_],h=>absurd rfl h|_::_::_::_,_=>⟨_,rfl⟩) (λhx hy=>yc hx hy) (h.mono s)
  exact OT aEa (by kernel_rfl) (by kernel_rfl) a9w a5' λH s=>aB5 (λl y=>match l,y with|[],_=>⟨_,rfl⟩|[_],h=>absurd rfl h|_::_::_,_=>⟨_,rfl⟩) (λhx=>aAy _ _ hx) (h.mono s)
 have I:E5 f≠[]:=AK.1;unfold E5 at I;split at I
 ·rename_i e;subst e;have hn:A6.funcs[4294967296]?=Z:=by simpa using pU
  unfold Me;refine .prog ?_;rw[hn];exact .stuck
 exact absurd rfl I
def a4L(P:Ap)(f:Nat):Bool:=match P.funcs[f]? with
 |Y fn=>match fn.body with
  |Y c=>ES P DV E5 (E5 f) 8 c
  |Z=>A9
 |Z=>A9
def aJi:dO.all (a4L A6)=A3:=by kernel_rfl
def a9O:eO.all (λf=>match A6.funcs[f]? with|Y fn=>fn.body.isNone|Z=>A3)=A3:=by kernel_rfl
def bI:Laid A6 CM DV bT 8:=by
 intro f z c AK b y;rcases AK with(AK|AK)|AK;·have h:=List.all_eq_true.1 aJi f AK;unfold a4L at h;simp only[b,y]at h;exact⟨h,by show IS (E5 f)=[];rw[k2 (AD AK)];rfl⟩
 ·have h:=List.all_eq_true.1 a9O f AK;rw[b]at h;simp only[y]at h;cases h
 have s:E5 f≠[]:=AK.1;unfold E5 at s;split at s
 ·rename_i e;subst e;have hn:A6.funcs[4294967296]?=Z:=by simpa using pU
  rw[hn]at b;cases b
 exact absurd rfl s
def Ry:Static A6 CM DV bT 8:=⟨fit _,by kernel_rfl,aIc,UI,bI⟩
def IE:Nat->List Nat:=λf=>if f=4294967296 then[0]else if f=8 then[1000007,1000008]else[]
def WX:Hg:=⟨IE,λ_=>True,λ_ _=>trivial,True,λ_=>trivial⟩
def aT4:DV 8=A9:=by kernel_rfl
def aAO(h:CM f):IE f=[]:=by
 have:=List.all_eq_true.1 aBq f (List.mem_append.2 h);have hlt:f<4294967296:=of_decide_eq_true this;have s:f≠8:=λe=>by
  subst e;have b:=aT4;unfold DV at b;simp only[Bool.or_eq_false_iff]at b;rcases h with h|h;·simp[h]at b
  simp[h]at b
 unfold IE;rw[if_neg (by omega),if_neg s]
def dR(z:Bool):Calm A6 CM (B0 WX z):=by
 refine⟨λf y=>aAO y,λf y E M a Q N h=>?_⟩;rcases y with(y|y)|y;·have hb:=List.all_eq_true.1 a3c f y;unfold hL at hb;cases e:A6.funcs[f]? with|none=>rw[e]at hb;cases hb|some U=>rw[e]at hb;simp only[G0,Qw]at hb;exact yY (AD (AD y)) e hb.1 (by rw[aHV];exact hb.2) N h
 ·simp only[eO,JG,He,or_false]at y;rcases y with rfl|rfl|rfl|rfl|rfl|rfl;·exact OT aET (by kernel_rfl) (by kernel_rfl) a9u a4y λI s=>aB3 (h.mono s)
  ·exact OT aEV (by kernel_rfl) (by kernel_rfl) a9v a4z λI s=>TZ (λl H=>match l,H with|[],_=>⟨_,rfl⟩|[_],_=>⟨_,rfl⟩|[_,_],h=>absurd rfl h|_::_::_::_,_=>⟨_,rfl⟩) (λhx hy=>aAq hx hy) (h.mono s)
  ·exact OT cQ (by kernel_rfl) (by kernel_rfl) yB uc λI s=>TZ (λl H=>match l,H with|[],_=>⟨_,rfl⟩|[_],_=>⟨_,rfl⟩|[_,_],h=>absurd rfl h|_::_::_::_,_=>⟨_,rfl⟩) (λhx hy=>yd (by kernel_rfl) (λb hb=>s _ _ (M b hb)) hx hy) (h.mono s)
  ·exact OT gG (by kernel_rfl) (by kernel_rfl) yC ud λI s=>TZ (λl H=>match l,H with|[],_=>⟨_,rfl⟩|[_],_=>⟨_,rfl⟩|[_,_],h=>absurd rfl h|_::_::_::_,_=>⟨_,rfl⟩) (λhx hy=>yZ hx hy) (h.mono s)
  ·exact OT cR (by kernel_rfl) (by kernel_rfl) yD ue λI s=>TZ (λl H=>match l,H with|[],_=>⟨_,rfl⟩|[_],_=>⟨_,rfl⟩|[_,_],h=>absurd rfl h|_::_::_::_,_=>⟨_,rfl⟩) (λhx hy=>yc hx hy) (h.mono s)
  exact OT aEa (by kernel_rfl) (by kernel_rfl) a9w a5' λI s=>aB5 (λl H=>match l,H with|[],_=>⟨_,rfl⟩|[_],h=>absurd rfl h|_::_::_,_=>⟨_,rfl⟩) (λhx=>aAy _ _ hx) (h.mono s)
 have OD:Zp (IE f):=y;have K:IE f≠[]:=OD.1;unfold IE at K;split at K
 ·rename_i e;subst e;have hn:A6.funcs[4294967296]?=Z:=by simpa using pU
  unfold Me;refine .prog ?_;rw[hn];exact .stuck
 split at K;·rename_i e;subst e;exact absurd OD.2 (by decide)
 exact absurd rfl K
def a4M(P:Ap)(f:Nat):Bool:=match P.funcs[f]? with
 |Y fn=>match fn.body with
  |Y c=>ES P DV IE (IE f) 8 c
  |Z=>A9
 |Z=>A9
def aJj:dO.all (a4M A6)=A3:=by kernel_rfl
def aQN:Laid A6 CM DV WX 8:=by
 intro f H c b y z;rcases b with(b|b)|b;·have h:=List.all_eq_true.1 aJj f b;unfold a4M at h;simp only[y,z]at h;exact⟨h,by show IS (IE f)=[];rw[aAO (AD b)];rfl⟩
 ·have h:=List.all_eq_true.1 a9O f b;rw[y]at h;simp only[z]at h;cases h
 have OD:Zp (IE f):=b;have s:IE f≠[]:=OD.1;unfold IE at s;split at s
 ·rename_i e;subst e;have hn:A6.funcs[4294967296]?=Z:=by simpa using pU
  rw[hn]at y;cases y
 split at s;·rename_i e;subst e;exact absurd OD.2 (by decide)
 exact absurd rfl s
def qH:Static A6 CM DV WX 8:=⟨fit _,by kernel_rfl,dR,UI,aQN⟩
end
section
open Go.Conc(G solo stepG_region_draw stepG_oper)
variable{b:Ag}{ops:Array BR}{o:BR}{cs:List Ag}{q:List Cb}{a:Nu}
section
variable{P:Ap}{main:Bool}{Sh S:zy}{Stop:zv}{F:zy}{fb:Nat->Bool}{f1:Hg}{k:Nat}{RO:zy}
def Gb.idle(Sh S:zy)(w:A0):Gb Sh S w w #[] S:=⟨Ae _,λ_ _ _=>rfl,rfl,rfl,rfl,λb=>⟨AD,λx=>x.elim id λy=>by omega⟩,by simp⟩
def Way.ctl{g g':AR}{w:A0}(hs:g.status=DJ)(h:∀w,Bi P main g w=Cw g' w #[])(q:Way P main Sh Stop S g' w):Way P main Sh Stop S g w:=.step hs λb s=>⟨g',b,#[],S,h b,Gb.idle _ _ _,q.rely s⟩
def Way.mono{UE:zv}{g:AR}{w:A0}(h:Way P main Sh Stop S g w)(k:∀S g w,Stop S g w->UE S g w):Way P main Sh UE S g w:=by induction h with|stop h=>exact .stop λz b=>k _ _ _ (h z b)|go y hs h _ s=>exact .go y hs h s
structure Kept(Sh S:zy)(w:A0)(S':zy)(w':A0):Prop where
 same:∀b,Sh b->w'.heap[b]?=w.heap[b]?
 apart:∀b,Sh b->¬S' b/\b<w'.heap.size
 grow:∀b,S b->S' b
def Way.keeps{g:AR}{w:A0}(h:Way P main Sh Stop S g w)(H:∀b,Sh b->¬S b/\b<w.heap.size):Way P main Sh (λM N w'=>Stop M N w'/\Kept Sh S w M w') S g w:=by
 induction h with
 |stop h=>exact .stop λI z=>⟨h I z,λb s=>z.same b (AJ s),λb s=>⟨(H b s).1,Ku (H b s).2 z.size⟩,λ_ x=>x⟩
 |go U hs h _ Q=>
  refine .go U hs h λI z=>?_;have K:=(h I z).2;have hlt:∀b,Sh b->b<I.heap.size:=λb s=>Ku (H b s).2 z.size;refine(Q I z λb s=>⟨λx=>?_,Ku (hlt b s) K.size⟩).mono λM N w' Bm=>⟨Bm.1,λb s=>?_,Bm.2.apart,λb s=>Bm.2.grow b ((K.grow b).2 (AD s))⟩
  ·rcases(K.grow b).1 x with y|y;·exact(H b s).1 y
   have:=hlt b s;omega
  rw[Bm.2.same b s,K.same b (hlt b s) (H b s).1,z.same b (AJ s)]
def PW(b:aF9)(ops:Array BR):Nat->Array Bool->List (List Nat)|0,_=>[[]]|n+1,listed=>if(Py b ops listed).isEmpty then[[]]else(Py b ops listed).flatMap λi=>(PW b ops n (listed.setIfInBounds i A3)).map (i::·)
def yL(h:aF9)(ops:Array BR):∀(n t:Nat)(b:Array Bool),sG h ops n t b []∈PW h ops n b
 |0,t,b=>by simp[sG,PW]
 |n+1,t,b=>by
  simp only[sG,PW];change(match(Py h ops b)[t%(Py h ops b).length]? with|Y i=>sG h ops n (t/(Py h ops b).length) (b.setIfInBounds i A3) [i]|Z=>[].reverse)∈_;cases hi:(Py h ops b)[t%(Py h ops b).length]? with
  |none=>
   have I:Py h ops b=[]:=by cases y:Py h ops b with|nil=>rfl|cons x z=>rw[y]at hi;have hlt:t%(x::z).length<(x::z).length:=Nat.mod_lt _ (by simp);simp at hi;simp at hlt;omega
   simp[I]
  |some i=>
   have s:=List.mem_of_getElem? hi;have H:(Py h ops b).isEmpty=A9:=by cases y:Py h ops b with|nil=>rw[y]at s;cases s|cons x z=>rfl
   simp only[H,EJ,↓reduceIte];rw[linearise_go_acc,List.reverse_singleton,List.singleton_append];refine List.mem_flatMap.2 ⟨i,s,List.mem_map.2 ⟨_,yL h ops n _ _,rfl⟩⟩
def Way.draw{id:Nat}{w:A0}(H:P.follows fq=A3)(h:∀o∈PW .any ops ops.size (MU ops.size A9),Way P main Sh Stop S (G (b.at a (B1 ops o::q)) cs) w):Way P main Sh Stop S (G (b.at a (BS (Ej id ops A3)::q)) cs) w:=.step rfl λs I=>by
 refine⟨_,_,#[],S,stepG_region_draw,⟨Ae _,λ_ _ _=>rfl,rfl,rfl,rfl,λb=>⟨AD,λx=>x.elim (λz=>z) λy=>by have:=y.1;have:=y.2;simp only at*;omega⟩,by simp⟩,?_⟩;have hs:a15 (P.follows fq) ops (s.tape s.drawn (X9 b.fn id))∈PW .any ops ops.size (MU ops.size A9):=by unfold a15;rw[H];exact yL _ _ _ _ _
 exact(h _ hs).rely (I.trans ⟨Ae _,λ_ _=>rfl,rfl,rfl⟩)
def aHS(F:zy)(so:Dj)(RO Sh:zy)(E:AT)(b:Ag)(a:Nu)(h:Option Tmp)(ops:Array BR)(rest:List Nat)(q:List Cb)(cs:List Ag)(Q:A1->A0->Prop)(S:zy)(g:AR)(w':A0):Prop:=∃l v s y,g=G (b.at (a.put h s) (B1 ops rest::q)) cs/\AN F l v s/\Q v y/\E.le l/\C2 F so RO l y w'/\KD RO Sh S l
def aCQ(X:Static P F fb f1 k){i:Nat}{rest:List Nat}{ow:List Nat}{ρ:C'->A1}{E:AT}{wL w':A0}{Q:A1->A0->Prop}(U:ops[i]?=Y o)(p:Gt o (I6 ops a.tmps)=A3)(A:b.kind≠Ki)(B3:Qn P fb f1.own ow k o.op=A3)(C:Lu P o=A3)(D:MR o.op=A9)(hc:∀v,ρ (Iy v)=v)(AK:∀f,ρ (JE f)=FU (Ek f) #[] #[])(BI:∀x∈opsOf o.op,AN F E (ρ x) (a.eval x))(bC:∀x,setOf o.op=Y x->∀b,Mz (ρ x)=Y b->f1.Jp b)(AI:∀b,b<Ci->E.rel b b)(I:C2 F (B0 f1 A3) RO E wL w')(M:KD RO Sh S E)(HV:∀T,∃v s es,(Ab ρ o).runT P (on wL T) #[]=(Ac (D6 v) s,es)/\Q v s):Way P main Sh (aHS F (B0 f1 A3) RO Sh E b a o.dst ops rest q cs Q) S (G (b.at a (B1 ops (i::rest)::q)) cs) w':=by
 obtain⟨T0,I⟩:=I;refine .step rfl λH A2=>?_;have h:=I.rely M A2 T0;obtain⟨v,s,es,v1,AH⟩:=HV (join T0 wL.drawn H.tape H.drawn);have hs:AO P F (B0 f1 A9) (M1 P F f1.own) E (Ab ρ o) (Ab a.eval o):=by have:=q' X.fit X.EX (X.calm (MR o.op)) AI hc AK (ρ':=a.eval) (λf=>rfl) o k (pb X.sub B3) (qM C) BI bC;rw[D]at this;exact this
 obtain⟨l,YU,K,es',r1,r2,y,m,HJ⟩:=AO.runs X.fit.Ju (Pr:=RO) (λ_ x=>x) (λx=>by cases x) hs (⟨h.heap,h.tape,h.kept,h.low,h.even⟩:CC F (B0 f1 A9) RO E _ H) (es:=#[]) (es':=#[]) .nil v1;cases r2 with
 |value hv=>
  rename_i z;obtain⟨QA,Bn,N⟩:=aR (P:=P) (fn:=b.fn) M (λb hb=>(h.kept b hb).1) m HJ;have Dl:Bi P main (G (b.at a (B1 ops (i::rest)::q)) cs) H=Cw (G (b.at (a.put o.dst z) (B1 ops rest::q)) cs) K (Iz P b.fn es'):=by
   have Fc:((b.at a (B1 ops (i::rest)::q)).kind==Ki)=A9:=by simpa[Frame.at]using A
   have DR:(b.at a (B1 ops (i::rest)::q)).finish z=b.at (a.put o.dst z) (B1 ops rest::q):=by rw[LF,U];rfl
   rw[Tq U p,Jh Fc r1 rfl,DR];rfl
  refine⟨_,K,_,QA,Dl,Bn,.stop λEt Fe=>?_⟩;have C7:C2 F (B0 f1 A3) RO l s K:=⟨s.tape,⟨y.heap,y.tape,y.kept,y.low,y.even⟩⟩;exact⟨l,v,z,s,rfl,hv,AH,m.le,C7.rely N Fe,N⟩
def Tg{i:Nat}{rest:List Nat}{f:ZG}{fn:Jy}{c:Bg}{az:Array C'}{ats:Array Aj}{w:A0}(M:ops[i]?=Y o)(U:Gt o (I6 ops a.tmps)=A3)(I:b.kind≠Ki)(N:o.op=If {callee:=N7 (JE f),args:=az,argTypes:=ats})(z:P.funcs[f]?=Y fn)(K:(fn.name== "runtime.NumGoroutine")=A9)(y:fn.body=Y c):Bi P main (G (b.at a (B1 ops (i::rest)::q)) cs) w=Cw (G (HO P f (az.map a.eval) GG) (b.at a (B1 ops (i::rest)::q)::cs)) w #[]:=by
 have h:a.eval (JE f)=FU (Ek f) #[] #[]:=rfl;have s:¬fn.name= "runtime.NumGoroutine":=by simpa using K
 have Q:(Ab a.eval o).runT P w #[]=(Ac (.enter f (az.map a.eval)) w,#[]):=by unfold Ab;rw[N];show(Dx _ _).runT P w #[]=_;simp[cE,h,Me,z,s,y,U',a1V,FX,Dx]
 have H:((b.at a (B1 ops (i::rest)::q)).kind==Ki)=A9:=by simpa[Frame.at]using I
 rw[Tq M U,Jh H Q rfl,rD];rfl
end
end
section
open Go.Conc
variable{w:A0}{b:Ag}{ops:Array BR}{o:BR}{cs:List Ag}{q:List Cb}{a:Nu}
section
variable{P:Ap}{F:zy}{fb:Nat->Bool}{f1:Hg}{k:Nat}{Wb R:zy}
def aHT(F:zy)(Wb R:zy)(z:Nat)(b:Ag)(a:Nu)(s:Option Tmp)(ops:Array BR)(rest:List Nat)(q:List Cb)(cs:List Ag)(Q:A1->A0->Prop)(g:AR)(w':A0):Prop:=∃h v y,g=G (b.at (a.put s v) (B1 ops rest::q)) cs/\AN F (C_ h) v v/\Q v y/\(∀b,R b->h b)/\w'.heap=y.heap/\Closed F Wb h w'/\(∀b,Wb b->b<w'.heap.size)/\∀b,h b->R b∨z<=b
def a'5(b:LH)(v:A1):Prop:=b=D6 v∨b=.skip/\v=A'
def WV(X:Static P F fb f1 k)(T9:∀b,f1.Jp b){b0:Ag}{i:Nat}{rest:List Nat}{ow:List Nat}{Q:A1->A0->Prop}(AA:ops[i]?=Y o)(Dm:Gt o (I6 ops a.tmps)=A3)(Ld:b0.kind≠Ki)(B3:Qn P fb f1.own ow k o.op=A3)(GD:Lu P o=A3)(PM:MR o.op=A9)(BI:∀x∈opsOf o.op,AN F (C_ R) (a.eval x) (a.eval x))(p:Closed F Wb R w)(Du:∀b,Wb b->b<w.heap.size)(HV:∀T,∃A v K es,(Ab a.eval o).runT P (on w T) #[]=(Ac A K,es)/\a'5 A v/\Q v K):CZ P Wb (aHT F Wb R w.heap.size b0 a o.dst ops rest q cs Q) (G (b0.at a (B1 ops (i::rest)::q)) cs) w:=by
 refine .step rfl λd=>?_;have F5:=p.wr (B0 f1 A3) w.tape;have NU:Zt Wb (C_ R):=λb U x=>by rw[x.1];exact p.off b x.2
 have HC:KD (λ_=>False) (λ_=>False) (EW Wb w.heap.size) (C_ R):=λb U x=>AJ ⟨λy=>y,(F5.lt x).2,NU b U x⟩;have A2:=CB.at (λ_=>False) (EW Wb w.heap.size) w d;have s:(w.at d).heap=w.heap:=rfl;generalize a7z:w.at d=M at A2 s;have z:=F5.rely HC A2 (join w.tape w.drawn w.tape w.drawn);obtain⟨A,v,K,es,v1,C,AH⟩:=HV (join (join w.tape w.drawn w.tape w.drawn) w.drawn M.tape M.drawn);have AI:∀b,b<Ci->(C_ R).rel b b:=λb h=>⟨rfl,p.EX b h⟩;have hs:AO P F (B0 f1 A9) (M1 P F f1.own) (C_ R) (Ab a.eval o) (Ab a.eval o):=by have:=q' X.fit X.EX (X.calm (MR o.op)) AI (ρ:=a.eval) (ρ':=a.eval) (λv=>rfl) (λf=>rfl) (λf=>rfl) o k (pb X.sub B3) (qM GD) BI λx _ b _=>T9 b;rw[PM]at this;exact this
 obtain⟨hW,YU,l,es',r1,r2,Ea,H,HJ⟩:=AO.runs X.fit.Ju (Pr:=λ_=>False) (RO:=λ_=>False) (λ_ x=>x) (λx=>by cases x) hs (⟨z.heap,z.tape,z.kept,z.low,z.even⟩:CC F (B0 f1 A9) (λ_=>False) (C_ R) _ M) (es:=#[]) (es':=#[]) .nil v1;have RQ:=H.YK ⟨a8B R,s⟩;obtain⟨D,m,Sw⟩:=aR (P:=P) (fn:=b0.fn) HC (λb h=>h.elim) H HJ;have Ub:∀b,Wb b->b<l.heap.size:=λb h=>by have:=Du b h;have li:=m.size;rw[s]at li;omega
 have jA:Zt Wb hW:=λb U x=>by
  have al:Gb (λ_=>False) (EW Wb M.heap.size) M l (Iz P b0.fn es') D:=by rw[s];exact m
  have Bj:=pI (λb h=>by rw[s];exact Du b h) al;rcases Sw b U x with⟨y,_⟩|⟨_,y⟩;·exact y.elim
  rw[Bj]at y;exact y.2
 have NR:∀b,b<Ci->hW.rel b b:=λb h=>H.le _ _ (AI b h);have Fc:((b0.at a (B1 ops (i::rest)::q)).kind==Ki)=A9:=by simpa[Frame.at]using Ld
 have DR:∀I,(b0.at a (B1 ops (i::rest)::q)).finish I=b0.at (a.put o.dst I) (B1 ops rest::q):=λI=>by rw[LF,AA];rfl
 obtain⟨N,rfl,Er⟩:=hT Ea RQ jA NR;have Eg:∀b,R b->N b:=λb h=>(H.le b b ⟨rfl,h⟩).2;have Bw:∀b,N b->R b∨w.heap.size<=b:=λb h=>(H.fresh b b ⟨rfl,h⟩).imp (·.2) (·.1);rcases C with rfl|⟨rfl,rfl⟩;·cases r2 with|value hv=>rename_i I;obtain rfl:=hv.same RQ.1;refine⟨_,l,_,D,?_,m,.stop λd2=>⟨N,I,K,rfl,hv,AH,Eg,RQ.2,Er.same λ_ _=>rfl,Ub,Bw⟩⟩;rw[Tq AA Dm,Jh Fc r1 rfl,DR];rfl
 cases r2;refine⟨_,l,_,D,?_,m,.stop λd2=>⟨N,A',K,rfl,.tuple .nil,AH,Eg,RQ.2,Er.same λ_ _=>rfl,Ub,Bw⟩⟩;rw[Tq AA Dm,Jh Fc r1 rfl,DR];rfl
def CZ.ctl{Stop:AR->A0->Prop}{g g':AR}(hs:g.status=DJ)(h:∀w,Bi P A3 g w=Cw g' w #[])(k:CZ P Wb Stop g' w):CZ P Wb Stop g w:=by refine .step hs λd=>⟨g',w.at d,#[],EW Wb w.heap.size,h _,⟨Ae _,λ_ _ _=>rfl,rfl,rfl,rfl,λb=>⟨λx=>AD x,λx=>x.elim id λy=>absurd y.2 (Nat.not_lt.2 y.1)⟩,λe he=>by simp at he⟩,k.at d⟩
def CZ.oper{Stop:AR->A0->Prop}{i:Nat}{rest:List Nat}{w2:A0}{v:A1}{es:Array C5}(s:ops[i]?=Y o)(Q:Gt o (I6 ops a.tmps)=A3)(M:b.kind≠Ki)(h:∀d,(Ab a.eval o).runT P (w.at d) #[]=(Ac (D6 v) (w2.at d),es))(U:w2.heap.size=w.heap.size)(N:∀x,¬EW Wb w.heap.size x->w2.heap[x]?=w.heap[x]?)(TA:w2.os=w.os/\w2.output=w.output/\w2.tape=w.tape)(H:∀e∈es,LB (λ_=>False) (EW Wb w.heap.size) e)(k:CZ P Wb Stop (G (b.at (a.put o.dst v) (B1 ops rest::q)) cs) w2):CZ P Wb Stop (G (b.at a (B1 ops (i::rest)::q)) cs) w:=by
 have K:((b.at a (B1 ops (i::rest)::q)).kind==Ki)=A9:=by simpa[Frame.at]using M
 have I:(b.at a (B1 ops (i::rest)::q)).finish v=b.at (a.put o.dst v) (B1 ops rest::q):=by rw[LF,s];rfl
 refine .step rfl λd=>⟨G (b.at (a.put o.dst v) (B1 ops rest::q)) cs,w2.at d,Iz P b.fn es,EW Wb w.heap.size,?_,⟨?_,λx _ hn=>N x hn,TA.1,TA.2.1,TA.2.2,λx=>⟨λy=>AD y,λy=>y.elim id λz=>?_⟩,λe he=>H e (cB he)⟩,k.at d⟩;·rw[Tq s Q,Jh K (h d) rfl,I];rfl
 ·show w.heap.size<=w2.heap.size;omega
 have Ew:w.heap.size<=x:=z.1;have z2:x<w2.heap.size:=z.2;omega
def CZ.pure{Stop:AR->A0->Prop}{i:Nat}{rest:List Nat}(v:A1)(y:ops[i]?=Y o)(z:Gt o (I6 ops a.tmps)=A3)(s:b.kind≠Ki)(h:∀w,(Ab a.eval o).runT P w #[]=(Ac (D6 v) w,#[]))(k:CZ P Wb Stop (G (b.at (a.put o.dst v) (B1 ops rest::q)) cs) w):CZ P Wb Stop (G (b.at a (B1 ops (i::rest)::q)) cs) w:=.oper y z s (λd=>h _) rfl (λ_ _=>rfl) ⟨rfl,rfl,rfl⟩ (λe he=>by simp at he) k
end
end
section
open Go.Proofs.YtcfhleenecfghaaGreatDoor
open Go.Conc Go.RowKit
variable{Post:zv}{w:A0}{v:A1}{Q S_:A1->A0->Prop}{g:AR}{c':Ag}{P:Ap}{T args:zw}{c:Bg}{fn:Jy}{cs':List Ag}{f r:Nat}{R Wb:zy}
def Goes(Wb:zy)(g:AR)(w:A0)(Post:zv):Prop:=∀(Wc U:zy),Wb=(λb=>Wc b∨U b)->(∀b,U b->¬Wc b/\b<w.heap.size)->∀(gs:Array AR)(sl:Option (Nat×Nat))(t:Dh)(q:Nat->Nat),De A6 Wc gs w t q g->∃(N:Nat)(y:Array AR)(s:AR)(w':A0)(I:Option (Nat×Nat))(z:Dh)(H:Nat->Nat)(h:zy),Ey A6 N (EV gs w sl) t=(Ds (EV y w' I),z)/\De A6 h y w' z H s/\(∀b,U b->¬h b)/\K0 U w w'/\Post (λb=>h b∨U b) s w'
def bf{P:Ap}:∀{l N2:Nat}{m m1:Tt}{t t1:Dh}{r:Stepped×Dh},Ey P l m t=(Ds m1,t1)->Ey P N2 m1 t1=r->Ey P (l+N2) m t=r|0,N2,m,m1,t,t1,r,h1,h2=>by simp only[Ey,Q8,SN]at h1;obtain⟨rfl,rfl⟩:=h1;simpa using h2|l+1,N2,m,m1,t,t1,r,h1,h2=>by rw[show l+1+N2=l+N2+1 by omega];simp only[Ey]at h1⊢;cases hs:gP P m with|mk s b=>rw[hs]at h1;cases s with|next h=>exact bf h1 h2|ended e w=>simp only[Q8]at h1;exact absurd h1.1 (by simp)
def Goes.bind{l:zv}(h:Goes Wb g w Post)(k:∀y z w',Post y z w'->Goes y z w' l):Goes Wb g w l:=by intro Wc U m H gs sl t q hc;obtain⟨N,p,g1,w1,A,t1,C,s,r1,c1,D,K,Lr⟩:=h Wc U m H gs sl t q hc;obtain⟨M,Sn,Cx,w2,Te,t2,C8,Q,r2,c2,Qr,Cu,K8⟩:=k _ g1 w1 Lr s U rfl (λb I=>⟨D b I,Ku (H b I).2 K.size⟩) p A t1 C c1;exact⟨N+M,Sn,Cx,w2,Te,t2,C8,Q,bf r1 r2,c2,Qr,K.trans Cu,K8⟩
def Goes.here(h:Post Wb g w):Goes Wb g w Post:=λs U z y gs sl t q hc=>⟨0,gs,g,w,sl,t,q,s,rfl,hc,λb H=>(y b H).1,K0.refl _ _,z▸h⟩
def Goes.KB{Stop:AR->A0->Prop}(h:CZ A6 Wb Stop g w)(k:∀z w',Stop z w'->Goes Wb z w' Post):Goes Wb g w Post:=by intro Wc U l H gs sl t q hc;subst l;obtain⟨N,m,Q,I,p,t1,A,r1,_,c1,C,s⟩:=(h.Am.wide (Wc:=Wc) λb=>AD).beside gs sl t q hc;have s:K0 U w I:=⟨s.os,s.output,s.size,λb y AE=>s.same b (AJ y) AE⟩;obtain⟨K,D,Cx,w2,Te,t2,C8,M,r2,c2,Qr,Cu,K8⟩:=k Q I C Wc U rfl (λb y=>⟨(H b y).1,Ku (H b y).2 s.size⟩) m p t1 A c1;exact⟨N+K,D,Cx,w2,Te,t2,C8,M,bf r1 r2,c2,Qr,s.trans Cu,K8⟩
def Goes.ctl{Wb:zy}{g g':AR}{w:A0}{Post:zv}(hs:g.status=DJ)(h:∀w,Bi A6 A3 g w=Cw g' w #[])(k:∀d,Goes Wb g' (w.at d) Post):Goes Wb g w Post:=.KB (Stop:=λb s=>b=g'/\∃d,s=w.at d) (.ctl hs h (.stop λd=>⟨rfl,d,rfl⟩)) λb s⟨e,d,e2⟩=>by subst e e2;exact k d
structure Holds(Wb R:zy)(w:A0):Prop where
 closed:Closed CM Wb R w
 low:∀b,Wb b->b<w.heap.size
def Holds.heap{Wb R:zy}{w w':A0}(h:Holds Wb R w)(e:w'.heap=w.heap):Holds Wb R w':=⟨h.closed.same λb _=>by rw[e],λb s=>by rw[e];exact h.low b s⟩
def Holds.at{Wb R:zy}{w:A0}(h:Holds Wb R w)(d:Nat):Holds Wb R (w.at d):=h.heap rfl
abbrev Ax(R:zy)(T:zw):Prop:=Aq CM (C_ R) T.toList T.toList
def Ax.mono{R R':zy}{T:zw}(h:Ax R T)(k:∀b,R b->R' b):Ax R' T:=Aq.mono (OM k) h
def aCt(R:zy)(c':Ag)(cs':List Ag)(Q:A1->A0->Prop)(h:zy)(g':AR)(w':A0):Prop:=∃R' v,g'=G (c'.finish v) cs'/\AN CM (C_ R') v v/\Q v w'/\(∀b,R b->R' b)/\Holds h R' w'
def CallsC(f:Nat)(args:zw)(w:A0)(Q:A1->A0->Prop):Prop:=∀(Wb R:zy)(c':Ag)(cs':List Ag),Holds Wb R w->Ax R args->Goes Wb (G (HO A6 f args GG) (c'::cs')) w (aCt R c' cs' Q)
def CallsC.mono(h:CallsC f args w Q)(k:∀v w',Q v w'->S_ v w'):CallsC f args w S_:=λWb R y s z h2=>(h Wb R y s z h2).bind λH I w'⟨R',v,a,b,c,d,e⟩=>.here ⟨R',v,a,b,k v w' c,d,e⟩
def CallsC.lone(z:CM f)(H:A6.funcs[f]?=Y fn)(U:fn.body.isSome=A3)(h:∀T,Ai A6 f args (on w T) λe b=>∃v,e=AZ v/\Q v b):CallsC f args w λv w'=>∃b,w'.heap=b.heap/\Q v b:=by
 intro Wb R c' cs' K N;obtain⟨I,y⟩:=Option.isSome_iff_exists.1 U;refine .KB (tx Ry (λ_=>trivial) (Wb:=Wb) (R:=R) (c':=c') (cs':=cs') (Q:=Q) H y (bI f _ _ (AD z) H y).1 (bI f _ _ (AD z) H y).2 (λt s=>?_) N K.closed K.low h) ?_;·have e:E5 f=[]:=k2 z;have s:t∈E5 f:=s;rw[e]at s;cases s
 rintro g w2⟨M,v,b,rfl,hv,AH,l,C7,Hm,m,_⟩;exact .here ⟨M,v,rfl,hv,⟨b,C7,AH⟩,l,Hm,m⟩
noncomputable def AW(f:Nat):Ag:={(Aw:Ag)with fn:=f,kind:=GG}
def uT(h:A6.funcs[f]?=Y fn)(b:fn.body=Y c):HO A6 f args GG=(AW f).at ⟨args++MU (fn.ntmps-args.size) A',[]⟩ [BS c]:=by simp[HO,Frame.at,h,b,AW]
def aD'(Wb R:zy)(f:Nat)(r:List Cb)(cs:List Ag)(Q:zw->A0->Prop)(g:AR)(w':A0):Prop:=∃h s y,g=G ((AW f).at ⟨s,[]⟩ r) cs/\Q s y/\w'.heap=y.heap/\Ax h s/\(∀b,R b->h b)/\Holds Wb h w'
def aUC{r:List Cb}{cs:List Ag}{Q:zw->A0->Prop}(C:A6.funcs[f]?=Y fn)(GM:f<4294967296)(hc:ES A6 DV E5 [] 8 c=A3)(D:Ax R T)(l:Holds Wb R w)(h:∀T0,c.wp A6 (λe U w'=>e=.normal/\U.defers=[]/\Q U.tmps w') ⟨T,[]⟩ (on w T0)):CZ A6 Wb (aD' Wb R f r cs Q) (G ((AW f).at ⟨T,[]⟩ (BS c::r)) cs) w:=by
 have I:E5 f=[]:=by unfold E5;rw[if_neg (by omega)]
 have BG:Ei A6 CM DV bT 8 (C_ R) r ((AW f).at ⟨T,[]⟩ [BS c]) ((AW f).at ⟨T,[]⟩ (BS c::r)):=by
  refine⟨rfl,⟨fn,C,by show Ta (IS (E5 f)) fn=A3;rw[I];exact q6 fn⟩,rfl,λi hi=>?_,⟨rfl,rfl⟩,rfl,⟨rfl,rfl⟩,⟨rfl,rfl⟩,Aq.jS D _,λt y=>?_⟩;·obtain rfl:=List.mem_singleton.1 hi;show ES A6 DV E5 (E5 f) 8 c=A3;rw[I];exact hc
  have y:t∈E5 f:=y;rw[I]at y;cases y
 have HV:∀T0,∃N H M,Ex A6 N (Dr (G ((AW f).at ⟨T,[]⟩ [BS c]) [bot]) (on w T0))=Ds (Dr (G H [bot]) M)/\Fin A9 H/\H.fn=f/\Q H.tmps M:=by intro T0;obtain⟨e,U,w',⟨rfl,AS,AH⟩,Bm⟩:=h T0 (AW f) [] [bot];obtain⟨N,G7⟩:=Bm;exact⟨N,_,w',G7,⟨rfl,rfl⟩,rfl,AH⟩
 refine(kG Ry (λ_=>trivial) (Wb:=Wb) (R:=R) (r:=r) (base':=cs) (Q:=λs M=>s.fn=f/\Q s.tmps M) A9 (λh=>by cases h) BG rfl l.closed l.low HV).mono ?_;rintro g w'⟨E,s,z,wL,rfl,OE,DR,⟨m,AH⟩,p,F5,hid,NU,Du,_⟩;obtain⟨Bb,rfl,Er⟩:=hT F5 hid NU λb hb=>p _ _ ⟨rfl,l.closed.EX b hb⟩;have K:=OE.tmps;rw[show IS (bT.own s.fn)=[]by rw[m];show IS (E5 f)=[];rw[I];rfl,a7q,a7q]at K;have y:z.tmps=s.tmps:=by have:=K.same hid.1;exact Array.toList_inj.1 this
 have DR:s.mode=Lw/\s.todo=[]:=DR;refine⟨Bb,s.tmps,wL,?_,AH,hid.2,?_,λb hb=>(p b b ⟨rfl,hb⟩).2,Er,Du⟩;·have h1:=OE.fn;have h2:=OE.todo;have h3:=OE.defers.2;have h4:=OE.mode;have A:=OE.kind.2;have CN:=OE.round.2;rw[DR.2,U9]at h2;rw[DR.1]at h4;rw[m]at h1;obtain⟨a1,FY,a3,a4,a5,KP,Se⟩:=z;simp only at h1 h2 h3 h4 A CN y;subst h1 h2 h3 h4 A CN y;rfl
 rw[y]at K;exact K
def Aq.put{F:zy}{E:AT}{v:A1}(hv:AN F E v v):∀{l:List A1}(d:Nat),Aq F E l l->Aq F E (l.set d v) (l.set d v)|_,_,.nil=>.nil|_,0,.cons _ t=>.cons hv t|_,d+1,.cons h t=>.cons h (Aq.put hv d t)
def Ax.set(h:Ax R T)(hv:AN CM (C_ R) v v)(d:Nat):Ax R (T.setIfInBounds d v):=by show Aq CM (C_ R) (T.setIfInBounds d v).toList (T.setIfInBounds d v).toList;rw[Array.toList_setIfInBounds];exact Aq.put hv d h
section
variable{Wb R:zy}{f0:Nat}{ops:Array BR}{i:Nat}{rest:List Nat}{q:List Cb}{cs:List Ag}{o:BR}{T:zw}{w:A0}{d:Nat}{Post:zv}
def Goes.a3p{f:Nat}{opd:Array C'}{ats:Array Aj}{args:zw}{Q:A1->A0->Prop}(z:ops[i]?=Y o)(l:Gt o (I6 ops T)=A3)(m:o.op=If {callee:=N7 (JE f),args:=opd,argTypes:=ats})(p:o.dst=Y d)(A:A6.funcs[f]?=Y fn)(C:(fn.name== "runtime.NumGoroutine")=A9)(N:fn.body.isSome=A3)(M:opd.map (Cg ⟨T,[]⟩)=args)(H:Holds Wb R w)(K:Ax R T)(D:Ax R args)(UX:∀x,CallsC f args (w.at x) Q)(k:∀h R' v w',Q v w'->(∀b,R b->R' b)->Holds h R' w'->Ax R' (T.setIfInBounds d v)->Goes h (G ((AW f0).at ⟨T.setIfInBounds d v,[]⟩ (B1 ops rest::q)) cs) w' Post):Goes Wb (G ((AW f0).at ⟨T,[]⟩ (B1 ops (i::rest)::q)) cs) w Post:=by obtain⟨s,U⟩:=Option.isSome_iff_exists.1 N;refine .ctl rfl (λw=>Tg z l (by simp[AW]) m A C U) λx=>?_;rw[M];refine(UX x Wb R _ cs (H.at x) D).bind ?_;rintro h g' w'⟨R',v,rfl,hv,AH,y,I⟩;rw[LF,z,SZ,p];exact k h R' v w' AH y I ((K.mono y).set hv d)
def Goes.op{Q:A1->A0->Prop}(AA:ops[i]?=Y o)(l:Gt o (I6 ops T)=A3)(B3:Qn A6 DV E5 [] 8 o.op=A3)(m:Lu A6 o=A3)(p:MR o.op=A9)(A:(opsOf o.op).all (Uy DV [])=A3)(C:o.dst=Y d)(H:A6.funcs[f0]?.isSome=A3)(GM:f0<4294967296)(z:Holds Wb R w)(K:Ax R T)(D:∀T0,∃v h,(Ab (Cg ⟨T,[]⟩) o).run A6 (on w T0)=Ac (D6 v) h/\Q v h)(k:∀R' v h w',Q v h->w'.heap=h.heap->(∀b,R b->R' b)->Holds Wb R' w'->Ax R' (T.setIfInBounds d v)->Goes Wb (G ((AW f0).at ⟨T.setIfInBounds d v,[]⟩ (B1 ops rest::q)) cs) w' Post):Goes Wb (G ((AW f0).at ⟨T,[]⟩ (B1 ops (i::rest)::q)) cs) w Post:=by
 obtain⟨y,H⟩:=Option.isSome_iff_exists.1 H;have I:E5 f0=[]:=by unfold E5;rw[if_neg (by omega)]
 have BG:Ei A6 CM DV bT 8 (C_ R) [] ((AW f0).at ⟨T,[]⟩ []) ((AW f0).at ⟨T,[]⟩ []):=by refine⟨rfl,⟨y,H,by show Ta (IS (E5 f0)) y=A3;rw[I];exact q6 y⟩,rfl,λi hi=>(by cases hi),⟨rfl,rfl⟩,rfl,⟨rfl,rfl⟩,⟨rfl,rfl⟩,Aq.jS K _,λt s=>?_⟩;have s:t∈E5 f0:=s;rw[I]at s;cases s
 have AI:∀b,b<Ci->(C_ R).rel b b:=λb hb=>⟨rfl,z.closed.EX b hb⟩;refine .KB (WV Ry (λ_=>trivial) (b0:=AW f0) (a:=⟨T,[]⟩) (rest:=rest) (q:=q) (cs:=cs) (ow:=[]) (Q:=Q) AA l (by simp[AW]) B3 m p (λx hx=>?_) z.closed z.low λT0=>?_) ?_;·have:=BG.eval AI UI x (by show Uy DV (E5 f0) x=A3;rw[I];exact List.all_eq_true.1 A x hx);rw[Frame.eval_at]at this;exact this
 ·obtain⟨v,h,U,h2⟩:=D T0;have h3:=Rs (P:=A6) (Ab (Cg ⟨T,[]⟩) o) (on w T0) #[];rw[U]at h3;exact⟨D6 v,v,h,_,Prod.ext h3 rfl,AD rfl,h2⟩
 rintro g w'⟨N,v,h,rfl,hv,AH,M,C7,Hm,Du,_⟩;have e:Z8 ⟨T,[]⟩ o.dst v=⟨T.setIfInBounds d v,[]⟩:=by rw[C];rfl
 rw[e];exact k N v h w' AH C7 M ⟨Hm,Du⟩ ((K.mono M).set hv d)
def Goes.piece{f:Nat}{r:List Cb}{Q:zw->A0->Prop}(M:A6.funcs[f]?=Y fn)(N:f<4294967296)(hc:ES A6 DV E5 [] 8 c=A3)(K:Ax R T)(I:Holds Wb R w)(h:∀T0,c.wp A6 (λe H w'=>e=.normal/\H.defers=[]/\Q H.tmps w') ⟨T,[]⟩ (on w T0))(k:∀s y z w',Q y z->w'.heap=z.heap->Ax s y->(∀b,R b->s b)->Holds Wb s w'->Goes Wb (G ((AW f).at ⟨y,[]⟩ r) cs) w' Post):Goes Wb (G ((AW f).at ⟨T,[]⟩ (BS c::r)) cs) w Post:=.KB (aUC M N hc K I h) λg w'⟨s,y,z,e,a,b,c,d,x⟩=>by subst e;exact k s y z w' a b c d x
end
def aRF(l:Loc):∃B,l.low B:=by cases l with|cell a=>exact⟨a.block+1,R8 _⟩|obj r=>exact⟨r+1,R8 _⟩|output=>exact⟨0,trivial⟩|goroutines=>exact⟨0,trivial⟩|mark _=>exact⟨0,trivial⟩
def aHf(x:MemAct):∃B,x.low B:=by
 cases x with
 |access e=>exact aRF e.loc
 |mark m=>
  cases m with
  |acquire a=>exact⟨a.block+1,R8 _⟩
  |release a=>exact⟨a.block+1,R8 _⟩
  |releaseMerge a=>exact⟨a.block+1,R8 _⟩
  |read a=>exact⟨a.block+1,R8 _⟩
  |write a=>exact⟨a.block+1,R8 _⟩
  |disable=>exact⟨0,trivial⟩
  |enable=>exact⟨0,trivial⟩
  |extern=>exact⟨0,trivial⟩
  |noRoom=>exact⟨0,trivial⟩
 |go _=>exact⟨0,trivial⟩
 |start=>exact⟨0,trivial⟩
 |send c _=>exact⟨c+1,R8 _⟩
 |sendDone c _=>exact⟨c+1,R8 _⟩
 |recv c _ _=>exact⟨c+1,R8 _⟩
 |recvDone c _=>exact⟨c+1,R8 _⟩
 |close c=>exact⟨c+1,R8 _⟩
 |recvClosed c=>exact⟨c+1,R8 _⟩
def aYT(t:Dh):∃B,∀b∈t,b.act.low B:=by
 obtain⟨l⟩:=t;induction l with
 |nil=>exact⟨0,λb h=>by simp at h⟩
 |cons x l z=>
  obtain⟨B,s⟩:=z;obtain⟨C,y⟩:=aHf x.act;refine⟨max B C,λb h=>?_⟩;rcases List.mem_cons.1 (Array.mem_toList_iff.2 h)with rfl|h;·exact aDz (Nat.le_max_right _ _) y
  exact aDz (Nat.le_max_left _ _) (s b (Array.mem_toList_iff.1 h))
section
variable{P:Ap}{Wb:zy}{gs:Array AR}{w:A0}{t:Dh}{q:Nat->Nat}{a:AR}
def De.past(h:De P Wb gs w t q a):∃B,Past (λl=>∃b,Wb b/\G2 l b) B t:=by
 obtain⟨B,Q⟩:=aYT t;have K:∀i g,t.g? i=Y g->¬gs.size<=g:=λi g e p=>by unfold gJ at e;obtain⟨I,s,rfl⟩:=Option.map_eq_some_iff.1 e;have:=h.Jt.gs i I s;omega
 refine⟨B,h.Jt.nr,λi x hx U=>?_,λi g e m hc=>?_,h.hears,Q⟩
 ·by_cases hs:∃b,Wb b/\G2 x.loc b;·obtain⟨I,s,H⟩:=fj hx;obtain⟨N,h2⟩:=h.Jt.quiet i I x s H hs;cases M:x.kind with|plain=>exact absurd M N|said=>have:=knows_own s;rw[h2 M]at this;exact AD this|atomic=>exact AJ ⟨hs,rfl⟩
  rcases h.OO.known i x hx U hs with y|⟨g,y,z⟩;·exact AD y
  exact absurd y (K i g z)
 exact(h.OO.over i g e m hc).resolve_right (K i g e)
end
def fQ(P:Ap)(Post:A1->A0->Prop)(a:AR)(w:A0):Prop:=a.status=DJ/\∀b,AtRel w b->∃v,Bi P A3 a b=cH (.done v) b #[]/\Post v b
def aId(P:Ap)(a:AR)(w:A0):De P (λ_=>False) #[a] w #[] (λ_=>0) a:=by refine⟨rfl,leavers_one P a,⟨past_nil.clean,λg b s l H=>?_,λg b s=>s.elim,λi y x hi=>by simp at hi,λy h=>by simp at h,λi y hi=>by simp at hi⟩,⟨λi x hx=>by simp[cD,sO]at hx,λi g z=>by simp[gJ]at z⟩,rfl,λb s=>s.elim⟩;intro i x hx;simp[cD,sO]at hx
section
variable{P:Ap}{F:zy}{fb:Nat->Bool}{f1:Hg}{k:Nat}
def aXq(X:Static P F fb f1 k)(T9:∀b,f1.Jp b){Wb R:zy}{f:Nat}{fr0 Xp:Ag}{Q:A1->A0->Prop}(D:Ei P F fb f1 k (C_ R) [] fr0 Xp)(RS:fr0.mode=Lw)(s2:Closed F Wb R w)(Du:∀b,Wb b->b<w.heap.size)(HV:∀T,∃N A h,Ex P N (Dr (G fr0 [bot]) (on w T))=Ds (Dr (G A [bot]) h)/\Fin A3 A/\∃v,Q v h/\A.fn=f/\A.leaving P h (AZ v)):CZ P Wb (zu F Wb R w.heap.size c' cs' Q) (G Xp (c'::cs')) w:=by
 refine(kG X T9 A3 (λ_=>rfl) (r:=[]) D RS s2 Du HV).bind ?_;rintro g I⟨l,fr,s,h,rfl,BG,DR,⟨v,AH,Y4,hm,AS,hk,M,QS,F'⟩,d9,K,hid,NU,e3,Bw⟩;refine .step rfl λd=>?_;have HC:KD (λ_=>False) (λ_=>False) (EW Wb I.heap.size) l:=λb b' x=>AJ ⟨λy=>y,(K.lt x).2,NU b b' x⟩;have A2:=CB.at (λ_=>False) (EW Wb I.heap.size) I d;have U:(I.at d).heap=I.heap:=rfl;generalize a7z:I.at d=H at A2 U;have m:CC F (B0 f1 A3) (λ_=>False) l (on h (join h.tape h.drawn H.tape H.drawn)) H:=(K:CC F (B0 f1 A3) (λ_=>False) l (on h h.tape) I).rely HC A2 _;have hs:AO P F ⟨f1.Jp,False,f1.own,f1.Hx⟩ (CL F) l (D_ M fr.tmps) (D_ M s.tmps):=BG.results QS;have v1:∃es,(D_ M fr.tmps).runT P h #[]=(Ac v h,es):=by have:=Rs (P:=P) (D_ M fr.tmps) h #[];rw[F']at this;exact⟨((D_ M fr.tmps).runT P h #[]).2,by rw[<-this]⟩
 obtain⟨es,v1⟩:=v1;have jK:=(AO.tape X.fit.Ju hs (w':=I) ⟨K.heap,K.tape,λ_ x=>x.elim,K.low,K.even⟩ v1).2 (join h.tape h.drawn H.tape H.drawn) (λi q h1 h2=>by omega);obtain⟨C4,v',C,es',r1,r2,Ea,p,HJ⟩:=AO.runs X.fit.Ju (Pr:=λ_=>False) (RO:=λ_=>False) (λ_ x=>x) (λx=>a'3 x) hs (⟨m.heap,m.tape,m.kept,m.low,m.even⟩:CC F ⟨f1.Jp,False,f1.own,f1.Hx⟩ (λ_=>False) l _ H) (es:=#[]) (es':=#[]) .nil jK;have m0:Bi P A3 (G s (c'::cs')) H=Cw (G (c'.finish v') cs') C (Iz P s.fn es'):=by rw[Qp rfl (BG.mode.trans hm)];exact Rz BG.defers.2 (BG.mode.trans hm) BG.kind.2 (by show P.funcs[s.fn]?=_;rw[BG.fn];exact QS) r1
 obtain⟨QA,Bn,Sw⟩:=aR (P:=P) (fn:=s.fn) HC (λb z=>z.elim) p HJ;have RQ:=p.YK ⟨hid.1,U.trans hid.2⟩;have Ub:∀b,Wb b->b<C.heap.size:=λb z=>by have:=e3 b z;have li:=Bn.size;rw[U]at li;omega
 have jA:Zt Wb C4:=λb b' x=>by
  have al:Gb (λ_=>False) (EW Wb H.heap.size) H C (Iz P s.fn es') QA:=by rw[U];exact Bn
  have Bj:=pI (λb z=>by rw[U];exact e3 b z) al;rcases Sw b b' x with⟨y,_⟩|⟨_,y⟩;·exact y.elim
  rw[Bj]at y;exact y.2
 refine⟨_,C,_,QA,m0,Bn,.stop λd2=>?_⟩;have NR:∀b,b<Ci->C4.rel b b:=λb z=>p.le _ _ (d9 _ _ ⟨rfl,s2.EX b z⟩);obtain⟨Bb,rfl,Er⟩:=hT Ea RQ jA NR;obtain rfl:=r2.same RQ.1;refine⟨Bb,v',h,rfl,r2,AH,λb z=>(p.le _ _ (d9 b b ⟨rfl,z⟩)).2,?_,Er.same λ_ _=>rfl,Ub,λb z=>?_⟩;·exact RQ.2
 rcases p.fresh b b ⟨rfl,z⟩with y|⟨y,_⟩;·exact(Bw b b y).imp (·.2) id
 right;have y':h.heap.size<=b:=y;omega
end
def Goes.tail(U:A6.funcs[f]?=Y fn)(GM:f<4294967296)(hc:ES A6 DV E5 [] 8 c=A3)(p:Ax R T)(m:Holds Wb R w)(h:∀T0,c.wp A6 (bodyPost A6 fn λe y=>∃v,e=AZ v/\Q v y) ⟨T,[]⟩ (on w T0))(k:∀z v y w',Q v y->w'.heap=y.heap->AN CM (C_ z) v v->(∀b,R b->z b)->Holds Wb z w'->Goes Wb (G (c'.finish v) cs') w' Post):Goes Wb (G ((AW f).at ⟨T,[]⟩ [BS c]) (c'::cs')) w Post:=by
 have Aa:E5 f=[]:=by unfold E5;rw[if_neg (by omega)]
 have BG:Ei A6 CM DV bT 8 (C_ R) [] ((AW f).at ⟨T,[]⟩ [BS c]) ((AW f).at ⟨T,[]⟩ [BS c]):=by
  refine⟨rfl,⟨fn,U,by show Ta (IS (E5 f)) fn=A3;rw[Aa];exact q6 fn⟩,rfl,λi hi=>?_,⟨rfl,rfl⟩,rfl,⟨rfl,rfl⟩,⟨rfl,rfl⟩,Aq.jS p _,λt H=>?_⟩;·obtain rfl:=List.mem_singleton.1 hi;show ES A6 DV E5 (E5 f) 8 c=A3;rw[Aa];exact hc
  have H:t∈E5 f:=H;rw[Aa]at H;cases H
 refine .KB (aXq Ry (λ_=>trivial) (f:=f) (Q:=Q) (c':=c') (cs':=cs') BG rfl m.closed m.low λT0=>?_) ?_;·obtain⟨e,a',w',s,Bm⟩:=h T0 (AW f) [] [bot];cases e with|normal=>obtain⟨M,v,A2,u,hu,K⟩:=s;obtain⟨N,I⟩:=aFJ Bm (.one step_end);cases hu;exact⟨N,_,w',I,rfl,v,K,rfl,rfl,M,rfl,fn,U,A2⟩|ret=>obtain⟨M,v,A2,u,hu,K⟩:=s;obtain⟨todo,N,I⟩:=Bm;cases hu;exact⟨N,_,w',I,rfl,v,K,rfl,rfl,M,rfl,fn,U,A2⟩|panic A=>obtain⟨_,u,hu,_⟩:=s;cases hu|exit id=>exact s.elim|goto l=>exact s.elim|outgrown=>obtain⟨u,hu,_⟩:=s;cases hu
 rintro g w'⟨z,v,y,rfl,hv,s,C,C7,Hm,D,_⟩;exact k z v y w' s C7 hv C ⟨Hm,D⟩
def aBN(b:fn.results=#[.tmp r])(T:zw)(w:A0)(es:Array C5):(D_ fn T).runT P w es=(Ac (T.getD r A') w,es):=by unfold D_;rw[b];rw[Array.mapM_eq_foldlM,<-Array.foldlM_toList];rfl
def aTB{a b:A1}(h:(Ac a w:Result A1)=Ac b w):a=b:=by injection h
def aCH{fr:Ag}{w1:A0}(b:fr.defers=[])(z:fr.mode=MZ)(y:fr.kind=GG)(h:P.funcs[fr.fn]?=Y fn)(s:P.inits.idxOf? fr.fn=Z)(H:(D_ fn fr.tmps).runT P w #[]=(Ac v w1,#[])):I5 P A3 fr [] Z w=cH (.done v) w1 #[]:=by unfold I5;simp only[b,z,h,H,doReturn,y,Ot,V8,s];simp[Iz]
def Goes.a8b(I:A6.funcs[8]?=Y fn)(hc:ES A6 DV IE [1000007,1000008] 8 c=A3)(g9:Ax R (Cd [0,25] T))(m2:Holds Wb R w)(m:fn.results=#[.tmp r])(p:[0,25].contains r=A9)(Fi:A6.inits.idxOf? 8=Z)(h:∀T0,c.wp A6 (bodyPost A6 fn λe s=>∃v,e=AZ v/\Q v s) ⟨T,[]⟩ (on w T0))(k:∀v s w',Q v s->w'.heap=s.heap->S_ v w'):Goes Wb (G ((AW 8).at ⟨T,[]⟩ [BS c]) []) w λ_ g' w'=>fQ A6 S_ g' w':=by
 have BG:Ei A6 CM DV WX 8 (C_ R) [] ((AW 8).at ⟨T,[]⟩ [BS c]) ((AW 8).at ⟨T,[]⟩ [BS c]):=by
  refine⟨rfl,⟨fn,I,by show Ta [0,25] fn=A3;unfold Ta;rw[m];simp only[List.all_toArray,List.all_cons,List.all_nil,p,VB,Bool.and_true]⟩,rfl,λi hi=>?_,⟨rfl,rfl⟩,rfl,⟨rfl,rfl⟩,⟨rfl,rfl⟩,g9,λt AP=>?_⟩;·obtain rfl:=List.mem_singleton.1 hi;exact hc
  exact λ_ _=>trivial
 refine .KB (kG qH (λ_=>trivial) A3 (λ_=>rfl) (r:=[]) (Q:=λBd s=>∃v,Q v s/\Bd.fn=8/\Bd.leaving A6 s (AZ v)) BG rfl m2.closed m2.low λT0=>?_) ?_;·obtain⟨e,a',w',y,Bm⟩:=h T0 (AW 8) [] [bot];cases e with|normal=>obtain⟨K,v,H,u,hu,A⟩:=y;obtain⟨N,C⟩:=aFJ Bm (.one step_end);cases hu;exact⟨N,_,w',C,rfl,v,A,rfl,rfl,K,rfl,fn,I,H⟩|ret=>obtain⟨K,v,H,u,hu,A⟩:=y;obtain⟨todo,N,C⟩:=Bm;cases hu;exact⟨N,_,w',C,rfl,v,A,rfl,rfl,K,rfl,fn,I,H⟩|panic aIr=>obtain⟨_,u,hu,_⟩:=y;cases hu|exit id=>exact y.elim|goto l=>exact y.elim|outgrown=>obtain⟨u,hu,_⟩:=y;cases hu
 rintro g w'⟨hW,z,b,s,rfl,BG,DR,⟨v,y,M,hm,K,hk,U,QS,H⟩,d9,F5,hid,NU,e3,Bw⟩;have e1:U=fn:=by rw[M,I]at QS;exact(CH QS).symm
 subst e1;have hv:v=z.tmps.getD r A':=by
  have h1:(D_ U z.tmps).run A6 s=Ac (z.tmps.getD r A') s:=by simp[D_,m]
  rw[h1]at H;exact(aTB H).symm
 have AP:=BG.tmps;rw[show IS (WX.own z.fn)=[0,25]by rw[M];rfl]at AP;have D:=Array.toList_inj.1 (Aq.same hid.1 AP);have YG:b.tmps.getD r A'=z.tmps.getD r A':=by rw[Iv,Iv,<-RX p b.tmps,<-RX p z.tmps,D]
 refine .here ⟨rfl,λd8 bi=>⟨v,?_,?_⟩⟩;·rw[Qp rfl (BG.mode.trans hm)];refine aCH BG.defers.2 (BG.mode.trans hm) BG.kind.2 (by show A6.funcs[b.fn]?=_;rw[BG.fn,M];exact I) (by show A6.inits.idxOf? b.fn=_;rw[BG.fn,M];exact Fi) ?_;show(D_ U b.tmps).runT A6 d8 #[]=_;rw[aBN m,YG,hv]
 obtain⟨d,rfl⟩:=bi;exact k v s _ y hid.2
end
section
open Go.Conc(G solo Deaf QuitsD Goes scase semEvents NoRelease)
open Go.ConcN(WgLive RW DWs AtR0 WSit WD CTag Mode Vc Ssum Fsum cnt pend phi)
open Go.ConcR(KK WgAt stA smA rd wr mk Payload)
variable{Stop:zv}{w:A0}{g:AR}{P:Ap}{main:Bool}{S Sh:zy}
inductive EC|leaf|node(f:A0->EC)
inductive EC.lt:EC->EC->Prop|mk(f:A0->EC)(w:A0):EC.lt (f w) (.node f)
def EC.wf:WellFounded EC.lt:=⟨λt=>by induction t with|leaf=>exact⟨_,λy h=>by cases h⟩|node f b=>exact⟨_,λy h=>by cases h;exact b _⟩⟩
def LV(P:Ap)(main:Bool)(Sh:zy)(Stop:zv):EC->zv|.leaf,S,g,w=>∀b,CB Sh S w b->Stop S g b|.node f,S,g,w=>g.status=DJ/\∀b,CB Sh S w b->∃y w' s h,Bi P main g b=Cw y w' s/\Gb Sh S b w' s h/\LV P main Sh Stop (f b) h y w'
def Way.G'(h:Way P main Sh Stop S g w):∃τ,LV P main Sh Stop τ S g w:=by induction h with|stop h=>exact⟨.leaf,h⟩|go y hs h H z=>rename_i S g w;classical refine⟨.node λb=>if s:CB Sh S w b then Z5 (z b s)else .leaf,hs,λb s=>⟨(y b).g,(y b).w,(y b).es,(y b).S,(h b s).1,(h b s).2,?_⟩⟩;simp only[s,↓reduceDIte];exact To (z b s)
def LV.rely{τ:EC}{l:A0}(h:LV P main Sh Stop τ S g w)(y:CB Sh S w l):LV P main Sh Stop τ S g l:=by cases τ with|leaf=>exact λs b=>h s (y.trans b)|node f=>exact⟨h.1,λs b=>h.2 s (y.trans b)⟩
def c6(h:Nat)(b D:Nat->EC):Prop:=∃i,i<h/\EC.lt (b i) (D i)/\∀a,a≠i->b a=D a
def a4w:∀(b:Nat)(D:Nat->EC),Acc (c6 b) D
 |0,D=>⟨_,λy⟨i,hi,_⟩=>by omega⟩
 |b+1,D=>by
  have I:∀x:EC,∀D:Nat->EC,D b=x->Acc (c6 (b+1)) D:=by
   intro x;induction x using EC.wf.induction with
   |h x H=>
    intro D K;have:=a4w b D;induction this with
    |intro D _ z=>
     refine⟨_,λs⟨i,hi,hlt,hs⟩=>?_⟩;rcases J2 i b with M|M;·exact z s ⟨i,M,hlt,hs⟩ ((hs b (by omega)).trans K)
     obtain rfl:i=b:=by omega
     exact H (s i) (K▸hlt) s rfl
  exact I _ D rfl
def Xe:Type:=Nat×(Nat->EC)×Nat
def LS(b:Nat):Xe->Xe->Prop:=aHW (·<·) (aHW (c6 b) (·<·))
def aW7(b:Nat):WellFounded (LS b):=(aHX ⟨_,aHO.wf⟩ (aHX ⟨c6 b,⟨a4w b⟩⟩ ⟨_,aHO.wf⟩)).wf
section
variable[CV]
structure HQ where
 P:Ap
 ty:Aj
 Wg:Nat
 Ch:Nat
 c0:Nat
 N0:Nat
 n:Nat
 Wb:zy
 ND:Nat->A1->zy->A0->Prop
 Goal:zy->zv
def HQ.BW(X:HQ)(b:Nat):Prop:=X.Wb b∨b=X.Wg
def Rj:Nat->Loc->Prop:=λ_ _=>False
structure Em where
 wd:WD
 G':Option EC
 S:zy
 Sh:zy
 C:Nat
 I3:Nat
 val:A1
variable(X:HQ)
def AtSend(i C h:Nat)(val:A1)(Sh S:zy)(g:AR)(w:A0):Prop:=g.status=DJ/\S C/\∃v z s M,Bi X.P A9 g w=.comm g #[rC X.Ch v z] A3 kq w s/\(∀e∈s,LB Sh S e)/\(∀b,M b->S b/\b≠C)/\X.ND i v M w/\∀w',(∀b,S b->w'.heap[b]?=w.heap[b]?)->JD X.ty X.Wg w'->∃m,Z9 X.P A9 (RW X.ty X.Wg C h 0 (1-1)) (DWs X.Wg Rj Rj C h 1) (AtR0 X.P X.ty X.Wg C h 0 1 val) m (g.finishComm X.P #[rC X.Ch v z] kq 0 A' A9) w'
def Jg(i:Nat)(e:Em)(g:AR)(w:A0):Prop:=match e.G' with|Y τ=>e.wd.stage=7/\e.wd.deaf=0/\e.wd.fuel=0/\LV X.P A9 e.Sh (AtSend X i e.C e.I3 e.val e.Sh) τ e.S g w|Z=>WSit X.P X.ty X.Wg e.C e.I3 Rj Rj 0 1 e.val e.wd.stage e.wd.fuel e.wd.deaf g w/\e.S e.C
def Da(w b:A0):Prop:=JD X.ty X.Wg w->JD X.ty X.Wg b
def a'2(w w':A0)(es:Array C5):Prop:=w'=w/\∀e∈es,∃a:Ak,a.block=X.Wg/\(e=⟨Ny (.read a),A9,A3⟩∨e=⟨Ny (.write a),A9,A3⟩)
abbrev Cp(Stop:AR->A0->Prop)(m:Nat)(g:AR)(w:A0):Prop:=Z9 X.P A3 (Da X) (a'2 X) Stop m g w
section
variable(Ic Ed:AR->Prop)
def AtAcq(g:AR)(w:A0):Prop:=g.status=DJ/\∃b,Bi X.P A3 g w=Cw b w #[Oq (ZN (Ee X.Wg))]/\Ed b
def AtKe(g:AR)(w:A0):Prop:=g.status=DJ/\∃b,Bi X.P A3 g w=Cw b w #[Oq gA]/\∃m,Cp X (AtAcq X Ed) m b w
def AtW4(g:AR)(w:A0):Prop:=g.status=DJ/\(Ja X.ty X.Wg w 0 0->∃b,Bi X.P A3 g w=Cw b w #[rd (Ee X.Wg)]/\∃m,Cp X (AtKe X Ed) m b w)
def AtW3(g:AR)(w:A0):Prop:=g.status=DJ/\g.offers=Z/\((∃st,Ja X.ty X.Wg w st 0)->Bi X.P A3 g w=Cw {g with status:=l0} w #[])/\(Ja X.ty X.Wg w 0 1->∃b,Bi X.P A3 g w=Cw b (w.setCell (Wv X.Wg) (A7 fy 0)) (ZB (Wv X.Wg))/\∃m,Cp X (AtW4 X Ed) m b (w.setCell (Wv X.Wg) (A7 fy 0)))
def AtW2(h:Nat)(g:AR)(w:A0):Prop:=g.status=DJ/\∀v:Nat,v<2147483648->Ja X.ty X.Wg w (v*KK) 0->(v=h->∃b,Bi X.P A3 g w=Cw b (w.setCell (Ee X.Wg) (A7 EK (v*KK+1))) #[rd (Ee X.Wg),wr (Ee X.Wg)]/\∃m,Cp X (AtW3 X Ed) m b (w.setCell (Ee X.Wg) (A7 EK (v*KK+1))))/\(v≠h->∃b,Bi X.P A3 g w=Cw b w #[rd (Ee X.Wg)]/\∃m,Cp X (λg _=>Ic g) m b w)
def AtW1(g:AR)(w:A0):Prop:=g.status=DJ/\∀v:Nat,v<2147483648->Ja X.ty X.Wg w (v*KK) 0->∃b,Bi X.P A3 g w=Cw b w #[rd (Ee X.Wg)]/\(v=0->∃m,Cp X (AtKe X Ed) m b w)/\(v≠0->∃m,Cp X (AtW2 X Ic Ed v) m b w)
def AtKd(g:AR)(w:A0):Prop:=g.status=DJ/\∃b,Bi X.P A3 g w=Cw b w #[Oq ZO]/\∃m,Cp X (λg _=>Ic g) m b w
def Zh:Prop:=∀g,Ic g->g.status=DJ/\∀w,JD X.ty X.Wg w->∃m,Cp X (AtW1 X Ic Ed) m g w
end
section
variable(Nx:AR->Prop)
def AtKeS(g:AR)(w:A0):Prop:=g.status=DJ/\∃b,Bi X.P A3 g w=Cw b w #[Oq gA]/\∃m,Cp X (λg _=>Nx g) m b w
def AtA1(g:AR)(w:A0):Prop:=g.status=DJ/\∀v:Nat,v<2147483647->Ja X.ty X.Wg w (v*KK) 0->∃b,Bi X.P A3 g w=Cw b (w.setCell (Ee X.Wg) (A7 EK ((v+1)*KK))) #[rd (Ee X.Wg),wr (Ee X.Wg)]/\∃m,Cp X (AtKeS X Nx) m b (w.setCell (Ee X.Wg) (A7 EK ((v+1)*KK)))
def AtKdS(g:AR)(w:A0):Prop:=g.status=DJ/\∃b,Bi X.P A3 g w=Cw b w #[Oq ZO]/\∃m,Cp X (AtA1 X Nx) m b w
end
structure Split(Sh S Sh0 S0 LU J4:zy):Prop where
 N1:∀b,S0 b->S b
 yt:∀b,J4 b->S b
 yy:∀b,Sh0 b↔Sh b∨LU b
 Wa:∀b,LU b->S b∨Sh b
 apart:∀b,S0 b->¬J4 b
 a0:∀b,S0 b->¬LU b
 ac:∀b,J4 b->¬LU b/\¬Sh b
def AtGo(i:Nat)(LH:zy->zv)(Sh S:zy)(g:AR)(w:A0):Prop:=g.status=DJ/\∃s b Sh0 S0 LU J4 C y h,Bi X.P A3 g w=.spawn s b w #[]/\b.status=DJ/\Split Sh S Sh0 S0 LU J4/\J4 C/\Way X.P A9 LU (AtSend X i C y h LU) J4 b w/\LH Sh0 S0 s w
def mj(Sh S:zy)(g:AR)(w:A0):Prop:=g.status=DJ/\(JD X.ty X.Wg w->∃Ic Ed m,Zh X Ic Ed/\Cp X (AtKd X Ic) m g w/\∀b,Ed b->∀w',CB Sh S w w'->X.Goal Sh S b w')
def StopA(r:Nat)(LH:zy->zv)(Sh S:zy)(g:AR)(w:A0):Prop:=g.status=DJ/\(JD X.ty X.Wg w->∃Nx m,Cp X (AtKdS X Nx) m g w/\∀b,Nx b->∀w',CB Sh S w w'->Way X.P A3 Sh (AtGo X (X.n-(r+1)) LH Sh) S b w')
def E7:Nat->zy->zv|0,Sh,S,g,w=>Way X.P A3 Sh (mj X Sh) S g w|r+1,Sh,S,g,w=>Way X.P A3 Sh (StopA X r (E7 r) Sh) S g w
inductive FM:Pp->Nat->EC->Nat->Nat->zy->zv|KB{r:Nat}{τ:EC}{Sh S:zy}{g:AR}{w:A0}:r<X.n->LV X.P A3 Sh (StopA X r (E7 X r) Sh) τ S g w->FM (Jx (r+1) 6) (X.n-(r+1)) τ 0 0 Sh S g w|bk{τ:EC}{Sh S:zy}{g:AR}{w:A0}:LV X.P A3 Sh (mj X Sh) τ S g w->FM (Jx 0 6) X.n τ 0 0 Sh S g w|skd{r m:Nat}{Nx:AR->Prop}{Sh S:zy}{g:AR}{w:A0}:r<X.n->Cp X (AtKdS X Nx) m g w->(∀g',Nx g'->∀w',CB Sh S w w'->Way X.P A3 Sh (AtGo X (X.n-(r+1)) (E7 X r) Sh) S g' w')->FM (Jx (r+1) 5) (X.n-(r+1)) .leaf m 0 Sh S g w|sa1{r m:Nat}{Nx:AR->Prop}{Sh S:zy}{g:AR}{w:A0}:r<X.n->Cp X (AtA1 X Nx) m g w->(∀g',Nx g'->∀w',CB Sh S w w'->Way X.P A3 Sh (AtGo X (X.n-(r+1)) (E7 X r) Sh) S g' w')->FM (Jx (r+1) 4) (X.n-(r+1)) .leaf m 1 Sh S g w|ske{r m:Nat}{Nx:AR->Prop}{Sh S:zy}{g:AR}{w:A0}:r<X.n->Cp X (AtKeS X Nx) m g w->(∀g',Nx g'->∀w',CB Sh S w w'->Way X.P A3 Sh (AtGo X (X.n-(r+1)) (E7 X r) Sh) S g' w')->FM (Jx (r+1) 3) (X.n-(r+1)) .leaf m 1 Sh S g w|ek{r m:Nat}{Nx:AR->Prop}{Sh S:zy}{g:AR}{w:A0}:r<X.n->Cp X (λg _=>Nx g) m g w->(∀g',Nx g'->∀w',CB Sh S w w'->Way X.P A3 Sh (AtGo X (X.n-(r+1)) (E7 X r) Sh) S g' w')->FM (Jx (r+1) 2) (X.n-(r+1)) .leaf m 0 Sh S g w|sgo{r:Nat}{τ:EC}{Sh S:zy}{g:AR}{w:A0}:r<X.n->LV X.P A3 Sh (AtGo X (X.n-(r+1)) (E7 X r) Sh) τ S g w->FM (Jx (r+1) 1) (X.n-(r+1)) τ 0 0 Sh S g w|kd{m:Nat}{Ic Ed:AR->Prop}{Sh S:zy}{g:AR}{w:A0}:Zh X Ic Ed->Cp X (AtKd X Ic) m g w->(∀g',Ed g'->∀w',CB Sh S w w'->X.Goal Sh S g' w')->FM .kd X.n .leaf m 0 Sh S g w|anch{m:Nat}{Ic Ed:AR->Prop}{Sh S:zy}{g:AR}{w:A0}:Zh X Ic Ed->Cp X (λg _=>Ic g) m g w->(∀g',Ed g'->∀w',CB Sh S w w'->X.Goal Sh S g' w')->FM .anch X.n .leaf m 1 Sh S g w|w1{m:Nat}{Ic Ed:AR->Prop}{Sh S:zy}{g:AR}{w:A0}:Zh X Ic Ed->Cp X (AtW1 X Ic Ed) m g w->(∀g',Ed g'->∀w',CB Sh S w w'->X.Goal Sh S g' w')->FM .w1 X.n .leaf m 1 Sh S g w|w2{Ib m:Nat}{Ic Ed:AR->Prop}{Sh S:zy}{g:AR}{w:A0}:Zh X Ic Ed->Cp X (AtW2 X Ic Ed Ib) m g w->(∀g',Ed g'->∀w',CB Sh S w w'->X.Goal Sh S g' w')->FM (.w2 Ib) X.n .leaf m 1 Sh S g w|w3{m:Nat}{Ed:AR->Prop}{Sh S:zy}{g:AR}{w:A0}:Cp X (AtW3 X Ed) m g w->(∀g',Ed g'->∀w',CB Sh S w w'->X.Goal Sh S g' w')->FM .w3 X.n .leaf (m+1) 1 Sh S g w|blk{Ed:AR->Prop}{Sh S:zy}{g:AR}{w:A0}:(∀d8,Da X w d8->AtW3 X Ed g d8)->(∀g',Ed g'->∀w',CB Sh S w w'->X.Goal Sh S g' w')->FM VH X.n .leaf 0 1 Sh S {g with status:=l0} w|w4{m:Nat}{Ed:AR->Prop}{Sh S:zy}{g:AR}{w:A0}:Cp X (AtW4 X Ed) m g w->(∀g',Ed g'->∀w',CB Sh S w w'->X.Goal Sh S g' w')->FM .w4 X.n .leaf m 1 Sh S g w|ke{m:Nat}{Ed:AR->Prop}{Sh S:zy}{g:AR}{w:A0}:Cp X (AtKe X Ed) m g w->(∀g',Ed g'->∀w',CB Sh S w w'->X.Goal Sh S g' w')->FM .ke X.n .leaf m 1 Sh S g w|acq{m:Nat}{Ed:AR->Prop}{Sh S:zy}{g:AR}{w:A0}:Cp X (AtAcq X Ed) m g w->(∀g',Ed g'->∀w',CB Sh S w w'->X.Goal Sh S g' w')->FM .acq X.n .leaf m 0 Sh S g w
end
end
section
open Go.Conc(G solo Deaf QuitsD Goes scase semEvents NoRelease crowd woken Aside again_running)
open Go.ConcN(WgLive RW DWs AtR0 WSit WD CTag Mode Vc Ssum Fsum cnt pend phi sumTo PayAt)
open Go.ConcR(KK WgAt stA smA rd wr mk Payload again_blocked)
variable[CV]
def B2(X:HQ)(j:Nat)(S0:zy)(W:Nat->Em):Nat->zy:=λg b=>g=0/\S0 b∨∃i,i<j/\g=X.c0+i/\(W i).S b
def Bt(X:HQ)(j:Nat)(Sh0:zy)(W:Nat->Em):Nat->zy:=λg b=>g=0/\Sh0 b∨∃i,i<j/\g=X.c0+i/\(W i).Sh b
structure G5(X:HQ)(j:Nat)(gs:Array AR)(w:A0)(t:Dh)(W:Nat->Em)(Sh0 S0:zy)(q:Nat->Nat)(BC:Nat)(B9:List (Nat×A1)):Prop where
 size:gs.size=X.c0+j
 pos:0<X.c0
 old:∀i g,0<i->i<X.c0->gs[i]?=Y g->ku X.P (q i) (Om t i) g
 wk:∀i,i<j->∃g,gs[X.c0+i]?=Y g/\Jg X i (W i) g w
 ro:Mj X.BW (X.c0+j) w.heap.size (B2 X j S0 W) (Bt X j Sh0 W)
 Jt:JK X.BW (X.c0+j) w.heap.size (B2 X j S0 W) (Bt X j Sh0 W) t
 OO:U6 X.BW X.c0 t
 deaf0:Om t 0=BC
 deafW:∀i,i<j->Om t (X.c0+i)=(W i).wd.deaf
 norel:∀i,X.N0<=i->t.act? i≠Y (Pt (Ou (Ee X.Wg)))
 fI:X.N0<=t.size/\∀i g,t.g? i=Y g->X.c0<=g->X.N0<=i
 rel:∀i,i<j->(W i).wd.stage<=6->∃r,Q9 X.BW t (Ee X.Wg) (X.c0+i) r
 chan:∃tm,w.heap[X.Ch]?=Y (Jb X.n (B9.map (·.2)).toArray A9 B9.length 0 tm)
 KR:∀g b,B2 X j S0 W g b∨Bt X j Sh0 W g b->b≠X.Ch
 Vg:X.Ch≠X.Wg
 Ni:∀i,(∃v,(i,v)∈B9)↔i<j/\(W i).G'=Z
 nodup:(B9.map (·.1)).Nodup
 msg:∀i v,(i,v)∈B9->∃M,(∀b,M b->(W i).S b/\b≠(W i).C)/\X.ND i v M w
def HQ.M2(X:HQ):Prop:=∀i v M w w',(∀b,M b->w'.heap[b]?=w.heap[b]?)->X.ND i v M w->X.ND i v M w'
section
variable{X:HQ}{j:Nat}{gs:Array AR}{w w':A0}{t:Dh}{W:Nat->Em}{Sh0 S0:zy}{q:Nat->Nat}{BC:Nat}{B9:List (Nat×A1)}
omit[CV]in def B2.zero(s:0<X.c0)(b:Nat):B2 X j S0 W 0 b↔S0 b:=by
 refine⟨λh=>?_,λh=>AD ⟨rfl,h⟩⟩;rcases h with h|⟨i,_,h,_⟩;·exact h.2
 omega
omit[CV]in def Bt.zero(s:0<X.c0)(b:Nat):Bt X j Sh0 W 0 b↔Sh0 b:=by
 refine⟨λh=>?_,λh=>AD ⟨rfl,h⟩⟩;rcases h with h|⟨i,_,h,_⟩;·exact h.2
 omega
omit[CV]in def B2.at(y:0<X.c0){i:Nat}(hi:i<j)(b:Nat):B2 X j S0 W (X.c0+i) b↔(W i).S b:=by
 refine⟨λh=>?_,λh=>AJ ⟨i,hi,rfl,h⟩⟩;rcases h with h|⟨s,_,h,hs⟩;·omega
 obtain rfl:i=s:=by omega
 exact hs
omit[CV]in def Bt.at(y:0<X.c0){i:Nat}(hi:i<j)(b:Nat):Bt X j Sh0 W (X.c0+i) b↔(W i).Sh b:=by
 refine⟨λh=>?_,λh=>AJ ⟨i,hi,rfl,h⟩⟩;rcases h with h|⟨s,_,h,hs⟩;·omega
 obtain rfl:i=s:=by omega
 exact hs
omit[CV]in def yk{Wb:zy}{n B:Nat}{S Sh:Nat->zy}(R:Mj Wb n w.heap.size S Sh){g h:Nat}(z:h≠g){es:Array C5}{S':zy}(y:Gb (Sh g) (S g) w w' es S'):CB (Sh h) (S h) w w':=by
 refine⟨y.size,λb s=>y.same b (R.low h b s) λhs=>?_,y.os,y.output⟩;rcases s with s|s;·exact z (R.apart _ _ b s hs)
 exact R.Tc _ _ b hs s
omit[CV]in def ef{c:Nat}(h:kr c w w'){Sh S:zy}(hc:∀b,S b∨Sh b->b≠c):CB Sh S w w':=⟨by rw[h.size];exact Ae _,λb s=>h.block b (hc b s),h.os,h.output⟩
def aWk{Sh S:zy}{C I3:Nat}{ty:Aj}{Wg:Nat}(h:CB Sh S w w')(s:S C)(y:JD ty Wg w->JD ty Wg w'):RW ty Wg C I3 0 (1-1) w w':=by have e:=h.same C (AD s);exact⟨λb z=>by omega,y,λ⟨cs,hc,hn⟩=>⟨cs,e.trans hc,hn⟩,aZt e _⟩
def Jg.rely{i:Nat}{e:Em}{g:AR}(h:Jg X i e g w)(s:CB e.Sh e.S w w')(z:JD X.ty X.Wg w->JD X.ty X.Wg w'):Jg X i e g w':=by unfold Jg at h⊢;cases b:e.G' with|some τ=>rw[b]at h;obtain⟨y,h2,h3,h4⟩:=h;exact⟨y,h2,h3,h4.rely s⟩|none=>rw[b]at h;exact⟨h.1.rely (aWk s h.2 z),h.2⟩
omit[CV]in def LV.status{P:Ap}{main:Bool}{Sh:zy}{Stop:zv}{τ:EC}{S:zy}{g:AR}(hs:∀S g w,Stop S g w->g.status=DJ)(h:LV P main Sh Stop τ S g w):g.status=DJ:=by cases τ with|leaf=>exact hs _ _ _ (h w (CB.refl _ _ _))|node f=>exact h.1
def Jg.status{i:Nat}{e:Em}{g:AR}(h:Jg X i e g w):g.status=DJ∨g.status=.finished:=by
 unfold Jg at h;split at h;·exact AD (LV.status (λ_ _ _ x=>x.1) h.2.2.2)
 exact h.1.status
def Jg.woken{i:Nat}{e:Em}{g:AR}(h:Jg X i e g w)(a a':AR)(b:A0):Po X.P a a' b g=g:=by
 unfold Po;split;·exact aDC _ h.status
 rfl
omit[CV]in def Da.trans:∀a b c,Da X a b->Da X b c->Da X a c:=λ_ _ _ h k=>k∘h
omit[CV]in def Da.refl(w:A0):Da X w w:=id
def FM.rely{tag:Pp}{τ:EC}{f d:Nat}{Sh S:zy}{a:AR}(h:FM X tag j τ f d Sh S a w)(y:CB Sh S w w')(z:Da X w w'):FM X tag j τ f d Sh S a w':=by cases h with|KB hn h=>exact .KB hn (h.rely y)|bk h=>exact .bk (h.rely y)|skd hn h k=>exact .skd hn (SG Da.trans h z) λb s w2 h2=>k b s w2 (y.trans h2)|sa1 hn h k=>exact .sa1 hn (SG Da.trans h z) λb s w2 h2=>k b s w2 (y.trans h2)|ske hn h k=>exact .ske hn (SG Da.trans h z) λb s w2 h2=>k b s w2 (y.trans h2)|ek hn h k=>exact .ek hn (SG Da.trans h z) λb s w2 h2=>k b s w2 (y.trans h2)|sgo hn h=>exact .sgo hn (h.rely y)|kd H h k=>exact .kd H (SG Da.trans h z) λb s w2 h2=>k b s w2 (y.trans h2)|anch H h k=>exact .anch H (SG Da.trans h z) λb s w2 h2=>k b s w2 (y.trans h2)|w1 H h k=>exact .w1 H (SG Da.trans h z) λb s w2 h2=>k b s w2 (y.trans h2)|w2 H h k=>exact .w2 H (SG Da.trans h z) λb s w2 h2=>k b s w2 (y.trans h2)|w3 h k=>exact .w3 (SG Da.trans h z) λb s w2 h2=>k b s w2 (y.trans h2)|blk h k=>exact .blk (λK I=>h K (Da.trans _ _ _ z I)) λb s w2 h2=>k b s w2 (y.trans h2)|w4 h k=>exact .w4 (SG Da.trans h z) λb s w2 h2=>k b s w2 (y.trans h2)|ke h k=>exact .ke (SG Da.trans h z) λb s w2 h2=>k b s w2 (y.trans h2)|acq h k=>exact .acq (SG Da.trans h z) λb s w2 h2=>k b s w2 (y.trans h2)
omit[CV]in def Cp.status{Stop:AR->A0->Prop}{m:Nat}{g:AR}(hs:∀g w,Stop g w->g.status=DJ)(h:Cp X Stop m g w):g.status=DJ:=c9 hs w (Da.refl w) h
def FM.status{tag:Pp}{τ:EC}{f d:Nat}{Sh S:zy}{a:AR}(s:∀r,tag≠Jx (r+1) 2∨True)(h:FM X tag j τ f d Sh S a w):a.status=DJ/\tag≠.blk∨a.status=l0/\tag=VH/\a.offers=Z:=by
 have z:∀{i:Nat}{LH:zy->zv}{Sh S:zy}{g:AR}{w:A0},Way X.P A3 Sh (AtGo X i LH Sh) S g w->g.status=DJ:=by intro i Next Sh S g w h;obtain⟨τ,h⟩:=h.G';exact LV.status (λ_ _ _ x=>x.1) h
 cases h with|KB hn h=>exact AD ⟨LV.status (λ_ _ _ x=>x.1) h,by simp⟩|bk h=>exact AD ⟨LV.status (λ_ _ _ x=>x.1) h,by simp⟩|skd hn h k=>exact AD ⟨Cp.status (λ_ _ y=>y.1) h,by simp⟩|sa1 hn h k=>exact AD ⟨Cp.status (λ_ _ y=>y.1) h,by simp⟩|ske hn h k=>exact AD ⟨Cp.status (λ_ _ y=>y.1) h,by simp⟩|ek hn h k=>exact AD ⟨Cp.status (λg _ y=>z (k g y w (CB.refl _ _ _))) h,by simp⟩|sgo hn h=>exact AD ⟨LV.status (λ_ _ _ x=>x.1) h,by simp⟩|kd b h k=>exact AD ⟨Cp.status (λ_ _ y=>y.1) h,by simp⟩|anch b h k=>exact AD ⟨Cp.status (λg _ y=>(b g y).1) h,by simp⟩|w1 b h k=>exact AD ⟨Cp.status (λ_ _ y=>y.1) h,by simp⟩|w2 b h k=>exact AD ⟨Cp.status (λ_ _ y=>y.1) h,by simp⟩|w3 h k=>exact AD ⟨Cp.status (λ_ _ y=>y.1) h,by simp⟩|blk h k=>exact AJ ⟨rfl,rfl,(h w (Da.refl w)).2.1⟩|w4 h k=>exact AD ⟨Cp.status (λ_ _ y=>y.1) h,by simp⟩|ke h k=>exact AD ⟨Cp.status (λ_ _ y=>y.1) h,by simp⟩|acq h k=>exact AD ⟨Cp.status (λ_ _ y=>y.1) h,by simp⟩
def FM.wokenBy{tag:Pp}{τ:EC}{f d:Nat}{Sh S:zy}{a:AR}(h:FM X tag j τ f d Sh S a w)(K:CB Sh S w w')(H:Da X w w')(g g':AR):∃b f',FM X b j τ f' d Sh S (Po X.P g g' w' a) w'/\f'<=f+1/\(b=tag∨tag=VH/\b=.w3)/\(a1Z X.P g=A3->g'.status=DJ->b≠VH):=by
 have s:=h.rely K H;unfold Po;split
 ·rcases s.status λ_=>AJ trivial with⟨hs,I⟩|⟨_,rfl,_⟩;·exact⟨tag,f,by rw[aDC _ (AD hs)];exact s,by omega,AD rfl,λ_ _=>I⟩
  cases s with|blk y k=>rename_i Ed M;have h3:=y w' (Da.refl w');exact⟨.w3,0+1,by rw[again_blocked h3.1 h3.2.1];exact .w3 (KG y) k,by omega,AJ ⟨rfl,rfl⟩,λ_ _=>by simp⟩
 rename_i hc;exact⟨tag,f,s,by omega,AD rfl,λz h2=>absurd (by simp[z,h2]) hc⟩
end
end
section
open Go.Conc(G solo Deaf QuitsD Goes scase semEvents NoRelease crowd woken Aside Deaf_other woken_quitsD)
open Go.ConcN(WgLive upd upd_same upd_ne)
open Go.ConcR(KK WgAt stA smA rd wr mk Payload)
variable[CV]
section
variable{X:HQ}{j:Nat}{gs gsn:Array AR}{w w':A0}{t u:Dh}{W:Nat->Em}{Sh0 S0:zy}{q:Nat->Nat}{BC:Nat}{B9 dG:List (Nat×A1)}
omit[CV]in def jo{N0:Nat}{a:Ak}{t u:Dh}(h:∀i,N0<=i->t.act? i≠Y (Pt (Ou a)))(hu:∀b∈u,b.act≠Pt (Ou a)):∀i,N0<=i->(t++u).act? i≠Y (Pt (Ou a)):=by
 intro i hi hx;obtain⟨b,y,s⟩:=Option.map_eq_some_iff.1 hx;rcases Ws y with⟨_,z⟩|⟨_,H⟩;·exact h i hi (by simp[sO,z,s])
 exact hu b H s
omit[CV]in def kU{N0 c0:Nat}{t u:Dh}(h:N0<=t.size/\∀i g,t.g? i=Y g->c0<=g->N0<=i):N0<=(t++u).size/\∀i g,(t++u).g? i=Y g->c0<=g->N0<=i:=by
 refine⟨by simp only[Array.size_append];omega,λi g b hc=>?_⟩;rcases J2 i t.size with hlt|s;·exact h.2 i g (by rw[<-fh (u:=u) hlt];exact b) hc
 omega
def G5.at(h:G5 X j gs w t W Sh0 S0 q BC B9)(s:X.M2)(d:Nat):G5 X j gs (w.at d) t W Sh0 S0 q BC B9:=⟨h.size,h.pos,h.old,λi hi=>let⟨g,a,b⟩:=h.wk i hi;⟨g,a,b.rely (CB.at _ _ _ _) id⟩,h.ro,h.Jt,h.OO,h.deaf0,h.deafW,h.norel,h.fI,h.rel,h.chan,h.KR,h.Vg,h.Ni,h.nodup,λi v hv=>let⟨M,a,b⟩:=h.msg i v hv;⟨M,a,s i v M w _ (λ_ _=>rfl) b⟩⟩
def G5.a3e(h:G5 X j gs w t W Sh0 S0 q BC B9){i:Nat}(hi:i<j){g':AR}{e':Em}(l:gsn.size=gs.size)(KY:gsn[X.c0+i]?=Y g')(U:∀k,k≠X.c0+i->k≠0->gsn[k]?=gs[k]?)(hu:∀N∈u,N.g=X.c0+i)(m:∀s,s<j->s≠i->CB (W s).Sh (W s).S w w')(p:JD X.ty X.Wg w->JD X.ty X.Wg w')(A:Jg X i e' g' w')(D:Mj X.BW (X.c0+j) w'.heap.size (B2 X j S0 (CP W i e')) (Bt X j Sh0 (CP W i e')))(QX:JK X.BW (X.c0+j) w'.heap.size (B2 X j S0 (CP W i e')) (Bt X j Sh0 (CP W i e')) (t++u))(iZ:Om (t++u) (X.c0+i)=e'.wd.deaf)(b6:∀N∈u,N.act≠Pt (Ou (Ee X.Wg)))(hrel:e'.wd.stage<=6->∃r,Q9 X.BW (t++u) (Ee X.Wg) (X.c0+i) r)(Sv:∃tm,w'.heap[X.Ch]?=Y (Jb X.n (dG.map (·.2)).toArray A9 dG.length 0 tm))(Fa:∀b,e'.S b∨e'.Sh b->b≠X.Ch)(K:∀s,(∃v,(s,v)∈dG)↔s<j/\(CP W i e' s).G'=Z)(GC:(dG.map (·.1)).Nodup)(NS:∀s v,(s,v)∈dG->∃M,(∀b,M b->(CP W i e' s).S b/\b≠(CP W i e' s).C)/\X.ND s v M w'):G5 X j gsn w' (t++u) (CP W i e') Sh0 S0 q BC dG:=by
 have H:=h.pos;refine⟨l.trans h.size,h.pos,λk g Fv hk Q=>?_,λs z=>?_,D,QX,h.OO.app hu (AJ (AD (by omega))),?_,λs z=>?_,jo h.norel b6,kU h.fI,λs z I=>?_,Sv,λg b hb=>?_,h.Vg,K,GC,NS⟩;·rw[U k (by omega) (by omega)]at Q;rw[On t (g':=X.c0+i) (by omega) u hu];exact h.old k g Fv hk Q
 ·by_cases e:s=i;·subst e;exact⟨g',KY,by rw[Fs];exact A⟩
  obtain⟨x,hx,jP⟩:=h.wk s z;refine⟨x,by rw[U _ (by omega) (by omega)];exact hx,?_⟩;rw[Ga W _ e];exact jP.rely (m s z e) p
 ·rw[On t (g':=X.c0+i) (by omega) u hu];exact h.deaf0
 ·by_cases e:s=i;·subst e;rw[Fs];exact iZ
  rw[On t (g':=X.c0+i) (by omega) u hu,h.deafW s z,Ga W _ e]
 ·by_cases e:s=i;·subst e;rw[Fs]at I;exact hrel I
  rw[Ga W _ e]at I;obtain⟨r,A2⟩:=h.rel s z I;exact⟨r,A2.other hu (by omega)⟩
 have Bj:(∃s,s<j/\g=X.c0+s/\((CP W i e' s).S b∨(CP W i e' s).Sh b))∨g=0/\(S0 b∨Sh0 b):=by
  rcases hb with(⟨y,h2⟩|⟨s,y,h2,h3⟩)|(⟨y,h2⟩|⟨s,y,h2,h3⟩);·exact AJ ⟨y,AD h2⟩
  ·exact AD ⟨s,y,h2,AD h3⟩
  ·exact AJ ⟨y,AJ h2⟩
  exact AD ⟨s,y,h2,AJ h3⟩
 rcases Bj with⟨s,y,_,h3⟩|⟨_,h2⟩
 ·by_cases e:s=i;·subst e;rw[Fs]at h3;exact Fa b h3
  rw[Ga W _ e]at h3;refine h.KR (X.c0+s) b ?_;rcases h3 with h3|h3;·exact AD ((B2.at H y b).2 h3)
  exact AJ ((Bt.at H y b).2 h3)
 refine h.KR 0 b ?_;rcases h2 with h2|h2;·exact AD ((B2.zero H b).2 h2)
 exact AJ ((Bt.zero H b).2 h2)
def G5.aIX(h:G5 X j gs w t W Sh0 S0 q BC B9)(U:X.M2){a':AR}{l:zy}{m:Nat}(p:gsn.size=gs.size)(N:∀k,k≠0->gsn[k]?=gs[k]?)(hu:∀H∈u,H.g=0)(Q:∀s,s<j->CB (W s).Sh (W s).S w w')(A:JD X.ty X.Wg w->JD X.ty X.Wg w')(C:Mj X.BW (X.c0+j) w'.heap.size (B2 X j l W) (Bt X j Sh0 W))(D:JK X.BW (X.c0+j) w'.heap.size (B2 X j l W) (Bt X j Sh0 W) (t++u))(iZ:Om (t++u) 0=m)(b6:∀H∈u,H.act≠Pt (Ou (Ee X.Wg)))(Sv:w'.heap[X.Ch]?=w.heap[X.Ch]?)(Fa:∀b,l b->b≠X.Ch):G5 X j gsn w' (t++u) W Sh0 l q m B9:=by
 have i7:=h.pos;refine⟨p.trans h.size,h.pos,λk g Fv hk K=>?_,λs y=>?_,C,D,h.OO.app hu (AD rfl),iZ,λs y=>?_,jo h.norel b6,kU h.fI,λs y Bm=>?_,?_,λg b z=>?_,h.Vg,h.Ni,h.nodup,λi v hv=>?_⟩;·rw[N k (by omega)]at K;rw[On t (g':=0) (by omega) u hu];exact h.old k g Fv hk K
 ·obtain⟨x,hx,jP⟩:=h.wk s y;exact⟨x,by rw[N _ (by omega)];exact hx,jP.rely (Q s y) A⟩
 ·rw[On t (g':=0) (by omega) u hu,h.deafW s y]
 ·obtain⟨r,A2⟩:=h.rel s y Bm;exact⟨r,A2.other hu (by omega)⟩
 ·rw[Sv];exact h.chan
 ·rcases z with(⟨I,h2⟩|⟨s,I,h2,h3⟩)|z;·exact Fa b h2
  ·exact h.KR (X.c0+s) b (AD ((B2.at i7 I b).2 h3))
  exact h.KR g b (AJ z)
 obtain⟨M,a,b⟩:=h.msg i v hv;refine⟨M,a,U i v M w w' (λx hx=>?_) b⟩;obtain⟨GS,_⟩:=(h.Ni i).1 ⟨v,hv⟩;exact(Q i GS).same x (AD (a x hx).1)
def G5.aIW(h:G5 X j gs w t W Sh0 S0 q BC B9){i k:Nat}(MB:0<i)(o0:i<X.c0){g':AR}{fn:ZG}{pos:String}{es:Array C5}(p:gsn.size=gs.size)(KY:gsn[i]?=Y g')(N:∀k,k≠i->k≠0->gsn[k]?=gs[k]?)(I:∀e∈es,e.mute=A3)(A:ku X.P k (Mf (Om t i) es) g'):G5 X j gsn w (t++Km i fn pos es) W Sh0 S0 (CP q i k) BC B9:=by
 have i7:=h.pos;have hu:∀H∈Km i fn pos es,H.g=i:=λH s=>by obtain⟨e,_,rfl⟩:=Kl s;rfl
 refine⟨p.trans h.size,h.pos,λl g U Q z=>?_,λy b=>?_,h.ro,aBR h.ro h.Jt (by omega) I,h.OO.app hu (AJ (AJ λH s=>by obtain⟨e,he,rfl⟩:=Kl s;exact rG (I e he))),?_,λy b=>?_,jo h.norel λH s=>?_,kU h.fI,λy b Bm=>?_,h.chan,h.KR,h.Vg,h.Ni,h.nodup,h.msg⟩
 ·by_cases e:l=i;·subst e;rw[KY]at z;obtain rfl:=CH z;rw[Fs,fc];exact A
  rw[N l e (by omega)]at z;rw[Ga q k e,On t (g':=i) (λx=>e x.symm) _ hu];exact h.old l g U Q z
 ·obtain⟨x,hx,C⟩:=h.wk y b;exact⟨x,by rw[N _ (by omega) (by omega)];exact hx,C⟩
 ·rw[On t (g':=i) (by omega) _ hu];exact h.deaf0
 ·rw[On t (g':=i) (by omega) _ hu];exact h.deafW y b
 ·obtain⟨e,he,rfl⟩:=Kl s;intro hx;have D:=I e he;obtain⟨K,wr,M⟩:=e;cases K with|mark m=>simp[LG]at hx;subst hx;simp[Event.mute]at D|cell a=>simp[LG]at hx|obj r=>cases wr<;>cases M<;>simp[LG]at hx|_=>simp[LG]at hx
 obtain⟨r,A2⟩:=h.rel y b Bm;exact⟨r,A2.other hu (by omega)⟩
omit[CV]in def B2.S1(z:0<X.c0){i:Nat}(hi:i<j)(e':Em):B2 X j S0 (CP W i e')=Qs (B2 X j S0 W) (X.c0+i) e'.S:=by
 funext g b;unfold Qs;by_cases y:g=X.c0+i;·subst y;rw[if_pos rfl];refine propext ((B2.at z hi b).trans ?_);rw[Fs]
 rw[if_neg y];unfold B2;refine propext (or_congr VW ⟨?_,?_⟩);·rintro⟨s,h,h2,h3⟩;rw[Ga W _ (by omega)]at h3;exact⟨s,h,h2,h3⟩
 rintro⟨s,h,h2,h3⟩;exact⟨s,h,h2,by rw[Ga W _ (by omega)];exact h3⟩
omit[CV]in def Bt.S1{i:Nat}(e':Em)(he:e'.Sh=(W i).Sh):Bt X j Sh0 (CP W i e')=Bt X j Sh0 W:=by
 funext g b;unfold Bt;refine propext (or_congr VW ⟨?_,?_⟩)
 ·rintro⟨h,s,h2,h3⟩;refine⟨h,s,h2,?_⟩;by_cases e:h=i;·subst e;rw[Fs,he]at h3;exact h3
  rw[Ga W _ e]at h3;exact h3
 rintro⟨h,s,h2,h3⟩;refine⟨h,s,h2,?_⟩;by_cases e:h=i;·subst e;rw[Fs,he];exact h3
 rw[Ga W _ e];exact h3
omit[CV]in def B2.a9M(s:0<X.c0)(S':zy):B2 X j S' W=Qs (B2 X j S0 W) 0 S':=by
 funext g b;unfold Qs;by_cases h:g=0;·subst h;rw[if_pos rfl];exact propext (B2.zero s b)
 rw[if_neg h];unfold B2;refine propext (or_congr ⟨λx=>absurd x.1 h,λx=>absurd x.1 h⟩ VW)
omit[CV]in def B2.V4{i:Nat}(e':Em)(he:e'.S=(W i).S):B2 X j S0 (CP W i e')=B2 X j S0 W:=by
 funext g b;unfold B2;refine propext (or_congr VW ⟨?_,?_⟩)
 ·rintro⟨h,s,h2,h3⟩;refine⟨h,s,h2,?_⟩;by_cases e:h=i;·subst e;rw[Fs,he]at h3;exact h3
  rw[Ga W _ e]at h3;exact h3
 rintro⟨h,s,h2,h3⟩;refine⟨h,s,h2,?_⟩;by_cases e:h=i;·subst e;rw[Fs,he];exact h3
 rw[Ga W _ e];exact h3
end
end
section
open Go.Conc(G solo Deaf QuitsD Goes scase semEvents NoRelease crowd woken Aside Deaf_other woken_quitsD runT_crowd_go)
open Go.ConcN(WgLive upd upd_same upd_ne WD CTag Vc Ssum Fsum cnt pend phi sumTo sumTo_upd phi_mono phi_retag)
open Go.ConcR(KK WgAt stA smA rd wr mk Payload)
variable[CV]
def CU(W:Nat->Em):Nat->WD:=λi=>(W i).wd
def Ke(e:Em):Nat:=if e.G'.isSome then 1 else 0
def eu(j:Nat)(W:Nat->Em):Nat:=J_ j λi=>Ke (W i)
def VE(j:Nat)(τ:EC)(W:Nat->Em):Nat->EC|0=>τ|k+1=>if k<j then((W k).G').getD .leaf else .leaf
def HK(X:HQ)(j:Nat)(W:Nat->Em)(tag:Pp)(τ:EC)(f0:Nat)(q:Nat->Nat):Xe:=(Ht X.n (Vc j (CU W)) tag+fl j (CU W)+eu j W,VE j τ W,f0+2*Fsum j (CU W)+2*J_ X.c0 q)
def Inv(X:HQ)(b:Xe)(m:Tt)(t:Dh):Prop:=∃(gs:Array AR)(w:A0)(sl:Option (Nat×Nat))(j:Nat)(W:Nat->Em)(tag:Pp)(τ:EC)(f0 BC:Nat)(a:AR)(st Gn:Int)(Sh0 S0:zy)(q:Nat->Nat)(B9:List (Nat×A1)),m=EV gs w sl/\gs[0]?=Y a/\FM X tag j τ f0 BC Sh0 S0 a w/\G5 X j gs w t W Sh0 S0 q BC B9/\Ja X.ty X.Wg w st Gn/\KI j (CU W) tag st Gn/\b=HK X j W tag τ f0 q
section
variable{X:HQ}{j:Nat}{gs:Array AR}{w w':A0}{sl:Option (Nat×Nat)}{t:Dh}{W:Nat->Em}{tag:Pp}{τ:EC}{f0 BC:Nat}{a:AR}{Sh0 S0:zy}{q:Nat->Nat}{B9:List (Nat×A1)}
omit[CV]in def kP(W:Nat->Em)(i:Nat)(e:Em):CU (CP W i e)=CP (CU W) i e.wd:=by
 funext a;unfold CU;by_cases h:a=i;·subst h;rw[Fs,Fs]
 rw[Ga _ _ h,Ga _ _ h]
omit[CV]in def pC{E0 A G_ B B':Nat}{F SF:Nat->EC}(h:G_<A):LS E0 (G_,SF,B') (A,F,B):=td _ _ h
omit[CV]in def a8u{E0 A G_ B B':Nat}{F SF:Nat->EC}(b:G_=A)(h:c6 E0 SF F):LS E0 (G_,SF,B') (A,F,B):=by subst b;exact a2r _ (td _ _ h)
omit[CV]in def xk{E0 A G_ B B':Nat}{F SF:Nat->EC}(b:G_=A)(s:SF=F)(h:B'<B):LS E0 (G_,SF,B') (A,F,B):=by subst b s;exact a2r _ (a2r _ h)
def FM.bound(h:FM X tag j τ f0 BC Sh0 S0 a w):j+LD tag<=X.n:=by cases h<;>simp only[LD]<;>(try simp)<;>omega
omit[CV]in def aKp{i:Nat}(hi:i<j){e':Em}{SB Qv:EC}(b:(W i).G'=Y SB)(h2:e'.G'=Y Qv)(hlt:EC.lt Qv SB)(hn:j<=X.n):c6 (X.n+1) (VE j τ (CP W i e')) (VE j τ W):=by
 refine⟨i+1,by omega,?_,λk h=>?_⟩;·simp only[VE,hi,↓reduceIte,Fs,b,h2,G4];exact hlt
 cases k with
 |zero=>rfl
 |succ k=>
  have:k≠i:=by omega
  simp only[VE,Ga W e' this]
omit[CV]in def aKo{i:Nat}{e':Em}(h:e'.G'=(W i).G'):VE j τ (CP W i e')=VE j τ W:=by
 funext k;cases k with
 |zero=>rfl
 |succ k=>
  by_cases e:k=i;·subst e;simp only[VE,Fs,h]
  simp only[VE,Ga W e' e]
inductive fX(e e':Em):Prop|stage:e'.wd.stage+Ke e'<e.wd.stage+Ke e->GH e'.wd<=GH e.wd->fX e e'|KB{SB Qv:EC}:e'.wd.stage=e.wd.stage->e.G'=Y SB->e'.G'=Y Qv->EC.lt Qv SB->fX e e'|fuel:e'.wd.stage=e.wd.stage->e'.G'=e.G'->e'.wd.fuel+1=e.wd.fuel->fX e e'
omit[CV]in def aBC{i:Nat}(hi:i<j){e':Em}(y:fX (W i) e')(hn:j<=X.n){tag':Pp}{f':Nat}(z:tag'=tag∨tag=VH/\tag'=.w3)(M:f'<=f0+1):LS (X.n+1) (HK X j (CP W i e') tag' τ f' q) (HK X j W tag τ f0 q):=by
 have H:fl j (CU (CP W i e'))+(W i).wd.stage=fl j (CU W)+e'.wd.stage:=Wu W e' (λe=>e.wd.stage) hi;have s:Fsum j (CU (CP W i e'))+(W i).wd.fuel=Fsum j (CU W)+e'.wd.fuel:=Wu W e' (λe=>e.wd.fuel) hi;have K:Vc j (CU (CP W i e'))+GH (W i).wd=Vc j (CU W)+GH e'.wd:=Wu W e' (λe=>GH e.wd) hi;have I:eu j (CP W i e')+Ke (W i)=eu j W+Ke e':=Wu W e' Ke hi;have h:∀v,Ht X.n v tag'=Ht X.n v tag:=λv=>phi_retag X.n v z;unfold HK;cases y with
 |stage b h2=>refine pC ?_;rw[h];have:=phi_mono X.n (v:=Vc j (CU W)) (v':=Vc j (CU (CP W i e'))) (by omega) tag;omega
 |KB b h2 h3 h4=>
  have hc:GH e'.wd=GH (W i).wd:=by simp only[GH,b]
  have hu:Ke e'=Ke (W i):=by simp only[Ke,h2,h3,Option.isSome_some]
  refine a8u ?_ (aKp hi h2 h3 h4 hn);rw[h,show Vc j (CU (CP W i e'))=Vc j (CU W)by omega];omega
 |fuel b h2 h3=>
  have hc:GH e'.wd=GH (W i).wd:=by simp only[GH,b]
  have hu:Ke e'=Ke (W i):=by simp only[Ke,h2]
  refine xk ?_ (aKo h2) (by omega);rw[h,show Vc j (CU (CP W i e'))=Vc j (CU W)by omega];omega
def workerStep(Al:X.M2)(AB:gs[0]?=Y a)(p:FM X tag j τ f0 BC Sh0 S0 a w)(z:G5 X j gs w t W Sh0 S0 q BC B9){i:Nat}(hi:i<j){g g':AR}{es:Array C5}{e':Em}{l m:Int}(AI:gs[X.c0+i]?=Y g)(m0:Bi X.P A9 g w=Cw g' w' es)(jI:CB Sh0 S0 w w')(A:∀s,s<j->s≠i->CB (W s).Sh (W s).S w w')(KZ:Jg X i e' g' w')(FJ:Mj X.BW (X.c0+j) w'.heap.size (B2 X j S0 (CP W i e')) (Bt X j Sh0 (CP W i e')))(QX:JK X.BW (X.c0+j) w'.heap.size (B2 X j S0 (CP W i e')) (Bt X j Sh0 (CP W i e')) (t++Km (X.c0+i) g.frame.fn g.frame.place es))(iZ:Mf (W i).wd.deaf es=e'.wd.deaf)(b6:∀e∈es,e.loc≠Ny (Ou (Ee X.Wg)))(hrel:e'.wd.stage<=6->∃r,Q9 X.BW (t++Km (X.c0+i) g.frame.fn g.frame.place es) (Ee X.Wg) (X.c0+i) r)(Sv:w'.heap[X.Ch]?=w.heap[X.Ch]?)(Fa:∀b,e'.S b∨e'.Sh b->b≠X.Ch)(I1:e'.G'=Z↔(W i).G'=Z)(NS:∀v M,(∀b,M b->(W i).S b/\b≠(W i).C)->X.ND i v M w->(i,v)∈B9->(∀b,M b->e'.S b/\b≠e'.C)/\X.ND i v M w')(D:Ja X.ty X.Wg w' l m)(CX:∀h,h=tag∨tag=VH/\h=.w3->(a1Z X.P g=A3->g'.status=DJ->h≠VH)->KI j (CP (CU W) i e'.wd) h l m)(AK:fX (W i) e'):∃E_ ops H,N9 X.P (EV gs w sl) (X.c0+i)=(Ds E_,ops)/\LS (X.n+1) H (HK X j W tag τ f0 q)/\Inv X H E_ (t++ops):=by
 have i7:=z.pos;have U:=p.bound;have hlt:X.c0+i<gs.size:=by rw[z.size];omega
 have MB:(X.c0+i==0)=A9:=by simp;omega
 have v1:=Qz (P:=X.P) (sl:=sl) (i:=X.c0+i) AI (by rw[MB];exact m0);have T6:Da X w w':=λ_=>⟨_,_,D⟩;obtain⟨h,f',Lf,KX,jQ,Q⟩:=p.wokenBy jI T6 g g';have IB:∀k,k≠X.c0+i->k≠0->((gs.map (Po X.P g g' w')).setIfInBounds (X.c0+i) g')[k]?=gs[k]?:=by
  intro k hk Fv;rw[ZD _ _ _ _ (Gu hk)];rcases J2 k X.c0 with hlt|OF;·cases I:gs[k]? with|none=>rfl|some x=>rw[LQ,ZC (z.old k x (by omega) hlt I)]
  cases I:gs[k]? with
  |none=>rfl
  |some x=>
   have Fc:k-X.c0<j:=by have:=(Array.getElem?_eq_some_iff.1 I).1;rw[z.size]at this;omega
   obtain⟨y,hy,PL⟩:=z.wk (k-X.c0) Fc;rw[show X.c0+(k-X.c0)=k by omega,I]at hy;obtain rfl:=CH hy;rw[LQ,PL.woken]
 refine⟨_,_,HK X j (CP W i e') h τ f' q,v1,aBC hi AK (by omega) jQ KX,_,w',sl,j,CP W i e',h,τ,f',BC,_,l,m,Sh0,S0,q,B9,rfl,?_,Lf,?_,D,?_,rfl⟩;·rw[ZD _ _ _ _ (by omega),AB,LQ]
 ·refine z.a3e hi (by simp) (fo _ _ _ hlt) IB λop N=>by obtain⟨e,_,rfl⟩:=Kl N;rfl A T6 KZ FJ QX ?_ (λop N=>?_) hrel ?_ Fa (λs=>?_) z.nodup λs v hv=>?_;·rw[fc,z.deafW i hi];exact iZ
  ·exact a'P b6 op N
  ·rw[Sv];exact z.chan
  ·rw[z.Ni s];by_cases e:s=i;·subst e;rw[Fs];exact and_congr VW I1.symm
   rw[Ga W _ e]
  obtain⟨M,K,h2⟩:=z.msg s v hv;by_cases e:s=i;·subst e;rw[Fs];obtain⟨h3,h4⟩:=NS v M K h2 hv;exact⟨M,h3,h4⟩
  rw[Ga W _ e];refine⟨M,K,Al s v M w w' (λb U=>?_) h2⟩;obtain⟨GS,_⟩:=(z.Ni s).1 ⟨v,hv⟩;exact(A s GS e).same b (AD (K b U).1)
 rw[kP];exact CX h jQ Q
def a9L(Al:X.M2)(AB:gs[0]?=Y a)(s:G5 X j gs w t W Sh0 S0 q BC B9){a':AR}{es:Array C5}{tag':Pp}{l:EC}{f':Nat}{m:zy}{p A:Int}(C:Bi X.P A3 a w=Cw a' w' es)(D:∀M,M<j->CB (W M).Sh (W M).S w w')(FJ:Mj X.BW (X.c0+j) w'.heap.size (B2 X j m W) (Bt X j Sh0 W))(QX:JK X.BW (X.c0+j) w'.heap.size (B2 X j m W) (Bt X j Sh0 W) (t++Km 0 a.frame.fn a.frame.place es))(b6:∀e∈es,e.loc≠Ny (Ou (Ee X.Wg)))(Sv:w'.heap[X.Ch]?=w.heap[X.Ch]?)(Fa:∀b,m b->b≠X.Ch)(Lf:FM X tag' j l f' (Mf BC es) Sh0 m a' w')(N:Ja X.ty X.Wg w' p A)(CX:KI j (CU W) tag' p A)(hlt:Ht X.n (Vc j (CU W)) tag'<Ht X.n (Vc j (CU W)) tag∨Ht X.n (Vc j (CU W)) tag'=Ht X.n (Vc j (CU W)) tag/\(EC.lt l τ∨l=τ/\f'<f0)):∃Q ops z,N9 X.P (EV gs w sl) 0=(Ds Q,ops)/\LS (X.n+1) z (HK X j W tag τ f0 q)/\Inv X z Q (t++ops):=by
 have i7:=s.pos;have v1:=Qz (P:=X.P) (sl:=sl) (i:=0) AB (by simpa using C);have IB:∀k,k≠0->((gs.map (Po X.P a a' w')).setIfInBounds 0 a')[k]?=gs[k]?:=by
  intro k Fv;rw[ZD _ _ _ _ (Gu Fv)];rcases J2 k X.c0 with hlt|OF;·cases H:gs[k]? with|none=>rfl|some x=>rw[LQ,ZC (s.old k x (by omega) hlt H)]
  cases H:gs[k]? with
  |none=>rfl
  |some x=>
   have Fc:k-X.c0<j:=by have:=(Array.getElem?_eq_some_iff.1 H).1;rw[s.size]at this;omega
   obtain⟨y,hy,PL⟩:=s.wk (k-X.c0) Fc;rw[show X.c0+(k-X.c0)=k by omega,H]at hy;obtain rfl:=CH hy;rw[LQ,PL.woken]
 refine⟨_,_,HK X j W tag' l f' q,v1,?_,_,w',sl,j,W,tag',l,f',Mf BC es,a',p,A,Sh0,m,q,B9,rfl,fo _ _ _ (by rw[s.size];omega),Lf,?_,N,CX,rfl⟩
 ·unfold HK;rcases hlt with h|⟨h,I|⟨I,h2⟩⟩;·exact pC (by omega)
  ·refine a8u (by omega) ⟨0,by omega,I,λk hk=>?_⟩;cases k with|zero=>exact absurd rfl hk|succ k=>rfl
  exact xk (by omega) (by rw[I]) (by omega)
 exact s.aIX Al (a':=a') (by simp) IB λU K=>by obtain⟨e,_,rfl⟩:=Kl K;rfl D (λ_=>⟨_,_,N⟩) FJ QX (by rw[fc,s.deaf0]) (λU K=>a'P b6 U K) Sv Fa
def aQi(AB:gs[0]?=Y a)(A:FM X tag j τ f0 BC Sh0 S0 a w)(h:G5 X j gs w t W Sh0 S0 q BC B9){st Gn:Int}(C:Ja X.ty X.Wg w st Gn)(CX:KI j (CU W) tag st Gn){i:Nat}(l:0<i)(N:i<X.c0){g:AR}(K:gs[i]?=Y g)(H:g.status=DJ)(Q:∀b,b=tag∨tag=VH/\b=.w3->KI j (CU W) b st Gn):∃m ops s,N9 X.P (EV gs w sl) i=(Ds m,ops)/\LS (X.n+1) s (HK X j W tag τ f0 q)/\Inv X s m (t++ops):=by
 have i7:=h.pos;have AH:=h.old i g l N K;have M:(i==0)=A9:=by simp;omega
 have hlt:i<gs.size:=(Array.getElem?_eq_some_iff.1 K).1;cases U:q i with
 |zero=>rw[U]at AH;rw[AH.1]at H;cases H
 |succ k=>
  rw[U]at AH;rcases AH with⟨AK,_⟩|⟨_,I,es,hm,D,NV⟩;·rw[AK]at H;cases H
  have HE:=Qz (P:=X.P) (sl:=sl) (i:=i) K (by rw[M];exact D w);have K6:J_ X.c0 (CP q i k)+(k+1)=J_ X.c0 q+k:=by have:=Wu q k id N;simpa[U]using this
  obtain⟨b,f',Lf,KX,p,a7w⟩:=A.wokenBy (CB.refl _ _ w) (Da.refl w) g I;have IB:∀k,k≠i->k≠0->((gs.map (Po X.P g I w)).setIfInBounds i I)[k]?=gs[k]?:=by
   intro k hk Fv;rw[ZD _ _ _ _ (Gu hk)];rcases J2 k X.c0 with hlt|OF;·cases z:gs[k]? with|none=>rfl|some x=>rw[LQ,ZC (h.old k x (by omega) hlt z)]
   cases z:gs[k]? with
   |none=>rfl
   |some x=>
    have Fc:k-X.c0<j:=by have:=(Array.getElem?_eq_some_iff.1 z).1;rw[h.size]at this;omega
    obtain⟨y,hy,PL⟩:=h.wk (k-X.c0) Fc;rw[show X.c0+(k-X.c0)=k by omega,z]at hy;obtain rfl:=CH hy;rw[LQ,PL.woken]
  refine⟨_,_,HK X j W b τ f' (CP q i k),HE,?_,_,w,sl,j,W,b,τ,f',BC,_,st,Gn,Sh0,S0,CP q i k,B9,rfl,?_,Lf,?_,C,Q b p,rfl⟩;·unfold HK;exact xk (by rw[phi_retag X.n _ p]) rfl (by omega)
  ·rw[ZD _ _ _ _ (by omega),AB,LQ]
  exact h.aIW l N (by simp) (fo _ _ _ hlt) IB hm NV
end
end
section
open Go.Conc(G solo Deaf QuitsD Goes scase semEvents NoRelease crowd woken Aside Deaf_other woken_quitsD runT_crowd_go crowd_send_room partners_nil offersAt_of_not_blocked getElem?_stand)
open Go.ConcN(WgLive upd upd_same upd_ne WD CTag Vc Ssum Fsum cnt pend phi sumTo sumTo_upd)
open Go.ConcR(KK WgAt stA smA rd wr mk Payload)
variable[CV]
section
variable{X:HQ}{j:Nat}{gs:Array AR}{w w':A0}{sl:Option (Nat×Nat)}{t:Dh}{W:Nat->Em}{tag:Pp}{τ:EC}{f0 BC:Nat}{a:AR}{Sh0 S0:zy}{q:Nat->Nat}{B9:List (Nat×A1)}{st Gn:Int}
omit[CV]in def B2.Vr(h:0<X.c0){i:Nat}(hi:i<j):B2 X j S0 W (X.c0+i)=(W i).S:=funext λb=>propext (B2.at h hi b)
omit[CV]in def Bt.Vr(h:0<X.c0){i:Nat}(hi:i<j):Bt X j Sh0 W (X.c0+i)=(W i).Sh:=funext λb=>propext (Bt.at h hi b)
omit[CV]in def B2.dc(h:0<X.c0):B2 X j S0 W 0=S0:=funext λb=>propext (B2.zero h b)
omit[CV]in def Bt.dc(h:0<X.c0):Bt X j Sh0 W 0=Sh0:=funext λb=>propext (Bt.zero h b)
omit[CV]in def aCI{bv:Type}(f:Nat->bv)(i:Nat):CP f i (f i)=f:=by
 funext a;by_cases h:a=i;·subst h;rw[Fs]
 rw[Ga f _ h]
omit[CV]in def uV{Sh S:zy}{e:C5}(h:LB Sh S e)(a:Ak):e.loc≠Ny (Ou a):=by cases h<;>intro x<;>cases x
def G5.hP(h:G5 X j gs w t W Sh0 S0 q BC B9):X.Ch<w.heap.size:=by obtain⟨b,e⟩:=h.chan;exact(Array.getElem?_eq_some_iff.1 e).1
omit[CV]in def aCR(h:Ja X.ty X.Wg w st Gn):X.Wg<w.heap.size:=(Array.getElem?_eq_some_iff.1 h).1
def G5.aTi(h:G5 X j gs w t W Sh0 S0 q BC B9){i:Nat}(hi:i<j){es:Array C5}{S':zy}(H:Gb (W i).Sh (W i).S w w' es S'):CB Sh0 S0 w w'/\∀s,s<j->s≠i->CB (W s).Sh (W s).S w w':=by
 have b:=h.pos;have y:Gb (Bt X j Sh0 W (X.c0+i)) (B2 X j S0 W (X.c0+i)) w w' es S':=by rw[B2.Vr b hi,Bt.Vr b hi];exact H
 refine⟨?_,λs z I=>?_⟩;·have:=yk (B:=0) h.ro (g:=X.c0+i) (h:=0) (by omega) y;rw[B2.dc b,Bt.dc b]at this;exact this
 have:=yk (B:=0) h.ro (g:=X.c0+i) (h:=X.c0+s) (by omega) y;rw[B2.Vr b z,Bt.Vr b z]at this;exact this
omit[CV]in def pS:∀(j:Nat)(l:List Nat),l.Nodup->(∀x∈l,x<j)->l.length<=j
 |0,[],_,_=>Ae _
 |0,x::l,_,h=>absurd (h x (by simp)) (by omega)
 |j+1,l,hn,h=>by
  by_cases s:j∈l
  ·have b:=pS j (l.erase j) (hn.erase j) λx hx=>by have:=hn.mem_erase_iff.1 hx;have:=h x this.2;omega
   rw[List.length_erase_of_mem s]at b;omega
  have:=pS j l hn λx hx=>by have b:=h x hx;have:x≠j:=λe=>s (e▸hx);omega
  omega
def aXT(Al:X.M2)(AB:gs[0]?=Y a)(A:FM X tag j τ f0 BC Sh0 S0 a w)(s:G5 X j gs w t W Sh0 S0 q BC B9)(U:Ja X.ty X.Wg w st Gn)(D:KI j (CU W) tag st Gn){i:Nat}(hi:i<j){g g':AR}{es:Array C5}{S':zy}{m l:EC}(AI:gs[X.c0+i]?=Y g)(K:(W i).G'=Y m)(ED:(W i).wd.stage=7)(Q:(W i).wd.deaf=0)(OD:(W i).wd.fuel=0)(m0:Bi X.P A9 g w=Cw g' w' es)(y:Gb (W i).Sh (W i).S w w' es S')(hlt:EC.lt l m)(Ui:LV X.P A9 (W i).Sh (AtSend X i (W i).C (W i).I3 (W i).val (W i).Sh) l S' g' w'):∃p ops I,N9 X.P (EV gs w sl) (X.c0+i)=(Ds p,ops)/\LS (X.n+1) I (HK X j W tag τ f0 q)/\Inv X I p (t++ops):=by
 have z:=s.pos;obtain⟨jI,IW⟩:=s.aTi hi y;have xL:¬(W i).S X.Wg:=λx=>(s.ro.wg (X.c0+i) X.Wg (AJ rfl)).1 ((B2.at z hi _).2 x);have vs:¬(W i).S X.Ch:=λx=>s.KR (X.c0+i) X.Ch (AD ((B2.at z hi _).2 x)) rfl;have Dl:=s.Jt.step (g:=X.c0+i) s.ro (by omega) y.size (X:=S') λb=>by rw[y.grow b,B2.at z hi b] (fn:=g.frame.fn) (pos:=g.frame.place) (es:=es) (by rw[Bt.Vr z hi];exact y.evs);refine workerStep (sl:=sl) (e':={W i with G':=Y l,S:=S'}) Al AB A s hi AI m0 jI IW ⟨ED,Q,OD,Ui⟩ ?_ ?_ ?_ (λe he=>uV (y.evs e he) _) λh=>by simp only at h;omega (y.same _ s.hP vs) (λb H=>?_) (by simp[K]) (λv M _ _ hv=>?_) (U.of_block (y.same _ (aCR U) xL)) (λtag' AP _=>?_) (.KB rfl K rfl hlt);·rw[B2.S1 z hi,Bt.S1 ({W i with G':=Y l,S:=S'}:Em) rfl];exact Dl.1
 ·rw[B2.S1 z hi,Bt.S1 ({W i with G':=Y l,S:=S'}:Em) rfl];exact Dl.2
 ·simp only[Q];exact fg (λe he=>nM (y.evs e he)) _
 ·rcases H with H|H
  ·rcases(y.grow b).1 H with N|N;·exact s.KR (X.c0+i) b (AD ((B2.at z hi _).2 N))
   have:=s.hP;omega
  exact s.KR (X.c0+i) b (AJ ((Bt.at z hi _).2 H))
 ·obtain⟨_,h2⟩:=(s.Ni i).1 ⟨v,hv⟩;rw[K]at h2;cases h2
 have:CP (CU W) i ({W i with G':=Y l,S:=S'}:Em).wd=CU W:=aCI (CU W) i;rw[this];exact D.retag AP
def aXS(Al:X.M2)(AB:gs[0]?=Y a)(HW:FM X tag j τ f0 BC Sh0 S0 a w)(s:G5 X j gs w t W Sh0 S0 q BC B9)(Bq:Ja X.ty X.Wg w st Gn)(CX:KI j (CU W) tag st Gn){i:Nat}(hi:i<j){g:AR}{SB:EC}(AI:gs[X.c0+i]?=Y g)(A:(W i).G'=Y SB)(ED:(W i).wd.stage=7)(Sy:(W i).wd.deaf=0)(Cy:AtSend X i (W i).C (W i).I3 (W i).val (W i).Sh (W i).S g w):∃E_ ops μ',N9 X.P (EV gs w sl) (X.c0+i)=(Ds E_,ops)/\LS (X.n+1) μ' (HK X j W tag τ f0 q)/\Inv X μ' E_ (t++ops):=by
 have U:=s.pos;have N:=HW.bound;obtain⟨v1,hC,v,z,es,M,iX,FF,p,NS,oB⟩:=Cy;obtain⟨tm,Sv⟩:=s.chan;have MB:(X.c0+i==0)=A9:=by simp;omega
 have hlt:X.c0+i<gs.size:=by rw[s.size];omega
 have jJ:(B9.map (·.2)).toArray.size<X.n:=by
  have QW:∀x∈B9.map (·.1),x<j/\x≠i:=by intro x hx;obtain⟨⟨x',K⟩,hm,rfl⟩:=List.mem_map.1 hx;obtain⟨h1,h2⟩:=(s.Ni x').1 ⟨K,hm⟩;refine⟨h1,λe=>?_⟩;subst e;rw[A]at h2;cases h2
  have Bv:(B9.map (·.1)).length+1<=j:=by
   have GC:(i::B9.map (·.1)).Nodup:=List.nodup_cons.2 ⟨λhx=>(QW i hx).2 rfl,s.nodup⟩;have xC:i::B9.map (·.1)⊆Hf j:=by
    intro x hx;rcases List.mem_cons.1 hx with rfl|hx;·exact List.mem_range.2 hi
    exact List.mem_range.2 (QW x hx).1
   have:=pS j _ GC λx hx=>List.mem_range.1 (xC hx);simpa using this
  simp at Bv⊢;omega
 have hp:partners (gs.setIfInBounds (X.c0+i) aDH) X.Ch A9=[]:=by
  refine aDG λk x hx=>?_;rcases aDE gs (X.c0+i) k x hx with⟨_,rfl⟩|⟨_,hx⟩;·rfl
  by_cases Fv:k=0
  ·subst Fv;rw[AB]at hx;obtain rfl:=CH hx;rcases HW.status λ_=>AJ trivial with⟨hs,_⟩|⟨_,_,AA⟩;·exact rB (by rw[hs];simp) _ _
   unfold aZr;simp[AA]
  rcases J2 k X.c0 with hlt|OF;·have:=(s.old k x (by omega) hlt hx).status;exact rB (by rcases this with h|h<;>rw[h]<;>simp) _ _
  have Fc:k-X.c0<j:=by have:=(Array.getElem?_eq_some_iff.1 hx).1;rw[s.size]at this;omega
  obtain⟨y,hy,PL⟩:=s.wk (k-X.c0) Fc;rw[show X.c0+(k-X.c0)=k by omega,hx]at hy;obtain rfl:=CH hy;exact rB (by rcases PL.status with h|h<;>rw[h]<;>simp) _ _
 have HE:=crowd_send_room (P:=X.P) (sl:=sl) (i:=X.c0+i) AI (by rw[MB];exact iX) Sv jJ hp;have l:kr X.Ch w (w.setChan X.Ch X.n ((B9.map (·.2)).toArray.push v) A9 (B9.length+1) 0 tm):=⟨rfl,rfl,rfl,by simp[gL],λk hk=>by simp only[gL];rw[Gp (Gu hk)]⟩;generalize JU:w.setChan X.Ch X.n ((B9.map (·.2)).toArray.push v) A9 (B9.length+1) 0 tm=w' at l HE;have Dz:∀g b,B2 X j S0 W g b∨Bt X j Sh0 W g b->b≠X.Ch:=s.KR;have D:∀I,I<j->CB (W I).Sh (W I).S w w':=λI CR=>ef l λb N=>s.KR (X.c0+I) b (N.imp (B2.at U CR b).2 (Bt.at U CR b).2);have jI:CB Sh0 S0 w w':=ef l λb N=>s.KR 0 b (N.imp (B2.zero U b).2 (Bt.zero U b).2);have RZ:Ja X.ty X.Wg w' st Gn:=Bq.of_block (l.block _ (Gu s.Vg));obtain⟨m,wH⟩:=oB w' (λb N=>(D i hi).same b (AD N)) ⟨_,_,RZ⟩;have Lf:=HW.rely jI λ_=>⟨_,_,RZ⟩;let Q:Em:={W i with G':=Z,wd:=⟨7,m,0⟩};have FJ:Mj X.BW (X.c0+j) w'.heap.size (B2 X j S0 (CP W i Q)) (Bt X j Sh0 (CP W i Q)):=by rw[B2.V4 Q rfl,Bt.S1 Q rfl,l.size];exact s.ro
 have Bm:=s.Jt.step (g:=X.c0+i) s.ro (by omega) (Ae _) (X:=(W i).S) (λb=>by rw[B2.at U hi b];exact⟨AD,λh=>h.elim id λh=>by omega⟩) (fn:=g.frame.fn) (pos:=g.frame.place) (es:=es) (by rw[Bt.Vr U hi];exact FF);have Er:Qs (B2 X j S0 W) (X.c0+i) (W i).S=B2 X j S0 W:=by have:=B2.S1 (S0:=S0) (W:=W) U hi (W i);rw[<-this,aCI]
 rw[Er]at Bm;refine⟨_,_,HK X j (CP W i Q) tag τ f0 q,HE,aBC hi (.stage ?_ ?_) (by omega) (AD rfl) (by omega),_,w',sl,j,CP W i Q,tag,τ,f0,BC,a,st,Gn,Sh0,S0,q,B9++[(i,v)],rfl,?_,Lf,?_,RZ,?_,rfl⟩
 ·show 7+Ke Q<(W i).wd.stage+Ke (W i);have h1:Ke Q=0:=rfl;have h2:Ke (W i)=1:=by simp[Ke,A]
  omega
 ·show GH (⟨7,m,0⟩:WD)<=GH (W i).wd;simp[GH,ED]
 ·rw[Gp (by omega)];exact AB
 ·have hu:∀op∈Km (X.c0+i) g.frame.fn g.frame.place es++#[{g:=X.c0+i,fn:=g.frame.fn,pos:=g.frame.place,act:=.send X.Ch B9.length},{g:=X.c0+i,fn:=g.frame.fn,pos:=g.frame.place,act:=.sendDone X.Ch B9.length}],op.g=X.c0+i:=by
   intro op H;rcases Array.mem_append.1 H with H|H;·obtain⟨e,_,rfl⟩:=Kl H;rfl
   simp at H;rcases H with rfl|rfl<;>rfl
  refine s.a3e hi (by simp) (by simp[hlt]) λk hk _=>by rw[Gp (Gu hk)] hu (λI CR _=>D I CR) (λ_=>⟨_,_,RZ⟩) ⟨.r0 wH,hC⟩ FJ ?_ ?_ ?_ λh=>by simp only[Q]at h;omega ?_ (λb N=>s.KR (X.c0+i) b (N.imp (B2.at U hi b).2 (Bt.at U hi b).2)) ?_ ?_ ?_;·rw[B2.V4 Q rfl,Bt.S1 Q rfl,l.size,<-aCj];refine Bm.2.OP s.ro (g:=X.c0+i) (by omega) λop H=>?_;simp at H;rcases H with rfl|rfl<;>exact⟨rfl,λx hx=>by cases hx⟩
  ·show Om _ _=0;rw[<-aCj,Wt _ _ _ λop H=>by simp at H;rcases H with rfl|rfl<;>exact⟨by simp,by simp⟩,fc,s.deafW i hi,Sy];exact fg (λe he=>nM (FF e he)) _
  ·intro op H;rcases Array.mem_append.1 H with H|H;·exact a'P (λe he=>uV (FF e he) _) op H
   simp at H;rcases H with rfl|rfl<;>simp
  ·refine⟨tm,?_⟩;rw[<-JU];simp[gL,s.hP]
  ·intro I;by_cases e:I=i;·subst e;rw[Fs];exact⟨λ_=>⟨hi,rfl⟩,λ_=>⟨v,by simp⟩⟩
   rw[Ga W _ e,<-s.Ni I];constructor
   ·rintro⟨K,h⟩;rcases List.mem_append.1 h with h|h;·exact⟨K,h⟩
    simp at h;exact absurd h.1 e
   rintro⟨K,h⟩;exact⟨K,List.mem_append.2 (AD h)⟩
  ·rw[List.map_append];refine List.nodup_append.2 ⟨s.nodup,by simp,?_⟩;intro x hx y hy;simp at hy;subst hy;obtain⟨⟨x',K⟩,hm,rfl⟩:=List.mem_map.1 hx;obtain⟨_,h2⟩:=(s.Ni x').1 ⟨K,hm⟩;intro e;simp only at e;subst e;rw[A]at h2;cases h2
  intro I K hv;by_cases e:I=i
  ·subst e;rw[Fs];rcases List.mem_append.1 hv with hv|hv;·obtain⟨_,h2⟩:=(s.Ni I).1 ⟨K,hv⟩;rw[A]at h2;cases h2
   simp at hv;subst hv;exact⟨M,p,Al I K M w w' (λb N=>(D I hi).same b (AD (p b N).1)) NS⟩
  rw[Ga W _ e];rcases List.mem_append.1 hv with hv|hv;·obtain⟨M0,h1,h2⟩:=s.msg I K hv;obtain⟨GS,_⟩:=(s.Ni I).1 ⟨K,hv⟩;exact⟨M0,h1,Al I K M0 w w' (λb N=>(D I GS).same b (AD (h1 b N).1)) h2⟩
  simp at hv;exact absurd hv.1 e
 rw[kP];refine CX.congr λa' _=>?_;by_cases e:a'=i;·subst e;rw[Fs];exact ED.symm
 rw[Ga _ _ e]
end
end
section
open Go.Conc(G solo Deaf QuitsD Goes scase semEvents NoRelease crowd woken Aside Deaf_other touchAt touchAt_of touch_of getElem?_append_cases)
open Go.ConcN(WgLive upd upd_same upd_ne WD WSit CTag Vc Ssum Fsum cnt pend phi sumTo sumTo_upd RelBy RW OpenSt AllQuit isW3 Vc_upd Vc_le others_uncounted bk_cell)
open Go.ConcR(KK WgAt stA smA rd wr mk Payload Bk bk_of_mute ofEvent_loc_mark)
variable{e:C5}{Wg:Nat}
variable[CV]
omit[CV]in def mu(h:Bk Wg e){x:Touch}(hx:(LG e).touch?=Y x):G2 x.loc Wg/\x.kind=.atomic:=by
 rcases h with h|h|⟨a,wr,rfl,h⟩;·rw[aDj h]at hx;cases hx
 ·rw[aDj h]at hx;cases hx
 simp only[LG,cN,Xa]at hx;subst hx;exact⟨AD ⟨a,rfl,h⟩,rfl⟩
omit[CV]in def a3b(h:Bk Wg e)(a:Ak):e.loc≠Ny (Ou a):=by
 rcases h with h|h|⟨b,wr,rfl,_⟩;·rw[h];simp
 ·rw[h];simp
 simp
omit[CV]in def Q9.own{Wb:zy}{t:Dh}{a:Ak}{k r:Nat}(h:Q9 Wb t a k r){u:Dh}(M:RelBy a (t++u) k r)(hu:∀s∈u,∀x,s.act.touch?=Y x->∃b,Wb b/\G2 x.loc b):Q9 Wb (t++u) a k r:=by
 refine⟨M,λi x hx z hn=>?_⟩;obtain⟨s,H,y⟩:=fj hx;rcases Ws H with⟨hi,I⟩|⟨_,K⟩;·exact h.before i x (by rw[ky I];exact y) (by rw[<-fh (u:=u) hi];exact z) hn
 exact absurd (hu s K x y) hn
section
variable{X:HQ}{j:Nat}{gs:Array AR}{w w':A0}{sl:Option (Nat×Nat)}{t:Dh}{W:Nat->Em}{tag:Pp}{τ:EC}{f0 BC:Nat}{a:AR}{Sh0 S0:zy}{q:Nat->Nat}{B9:List (Nat×A1)}{st Gn:Int}
omit[CV]in def aSh{D:Nat->WD}{i:Nat}(hi:i<j)(Q:(D i).stage=5)(CX:KI j D tag st Gn)(z:j+LD tag<=X.n)(hn:X.n<2147483648):∃v y:Nat,y<=1/\v<2147483647/\st=((v:Int)+1)*KK+y/\Gn=0/\(v=0/\y=1->∀m,KI j (CP D i ⟨4,m,1⟩) tag ((v:Int)*KK+y) 0)/\(¬(v=0/\y=1)->∀m,KI j (CP D i ⟨1,m,1⟩) tag ((v:Int)*KK+y) 0):=by
 have GA:GH (D i)=1:=by simp[GH,Q]
 have U:1<=Vc j D:=by have:=fp (f:=λx=>GH (D x)) hi;simp only[Vc];omega
 have aMg:=Vc_le j D;have H:∀m,a'N j D->a'N j (CP D i ⟨1,m,1⟩):=λm h b z=>by
  by_cases e:b=i;·subst e;rw[Fs];simp
  rw[Ga D _ e];exact h b z
 have K:∀m,Vc j (CP D i ⟨1,m,1⟩)+1=Vc j D:=λm=>by have:=Vc_upd D (⟨1,m,1⟩:WD) hi;have I:GH (⟨1,m,1⟩:WD)=0:=rfl;omega
 cases CX with
 |opn s h2 h3=>
  refine⟨Vc j D+LD tag-1,0,by omega,by omega,?_,rfl,λh=>by omega,λ_ m=>?_⟩
  ·have:((Vc j D+LD tag-1:Nat):Int)+1=((Vc j D+LD tag:Nat):Int):=by omega
   rw[this];simp
  have e:Vc j D+LD tag-1=Vc j (CP D i ⟨1,m,1⟩)+LD tag:=by have:=K m;omega
  have:=rL (j:=j) (D:=CP D i ⟨1,m,1⟩) (tag:=tag) s (H m h2) (λIb N=>by have:=h3 Ib N;have:=K m;omega);rw[e];simpa using this
 |reg s h2 h3=>
  have hp:LD tag=0:=by cases tag<;>first|rfl|exact s.elim
  refine⟨Vc j D-1,1,by omega,by omega,?_,rfl,λhv m=>?_,λhv m=>?_⟩
  ·have:((Vc j D-1:Nat):Int)+1=((Vc j D:Nat):Int):=by omega
   rw[this];simp
  ·have M:Vc j D=1:=by omega
   have IB:=others_uncounted hi M GA;have:=rK (j:=j) (D:=CP D i ⟨4,m,1⟩) (tag:=tag) i s hi (by rw[Fs];simp) (λb z e=>by
    rw[Ga D _ e];have I:=IB b z e;have:=h2 b z;simp only[GH]at I;split at I;·cases I
    omega);rw[Fs]at this;rw[hv.1];simpa using this
  have e:Vc j D-1=Vc j (CP D i ⟨1,m,1⟩):=by have:=K m;omega
  have:=a'M (j:=j) (D:=CP D i ⟨1,m,1⟩) (tag:=tag) s (H m h2) (by have:=K m;omega);rw[e];simpa using this
 |last L s h2 h3 h4=>
  by_cases e:i=L;·subst e;omega
  have:=h4 i hi e;omega
 |sema h2=>have:=h2 i hi;omega
 |fin _ h2=>have:=h2 i hi;omega
def aXR(Al:X.M2)(hn:X.n<2147483648)(AB:gs[0]?=Y a)(HW:FM X tag j τ f0 BC Sh0 S0 a w)(Q:G5 X j gs w t W Sh0 S0 q BC B9)(U:Ja X.ty X.Wg w st Gn)(CX:KI j (CU W) tag st Gn){i:Nat}(hi:i<j){g:AR}(AI:gs[X.c0+i]?=Y g)(v1:g.status=DJ)(I1:(W i).G'=Z)(xE:Jg X i (W i) g w):∃E_ ops μ',N9 X.P (EV gs w sl) (X.c0+i)=(Ds E_,ops)/\LS (X.n+1) μ' (HK X j W tag τ f0 q)/\Inv X μ' E_ (t++ops):=by
 have A:=Q.pos;have y:=HW.bound;unfold Jg at xE;rw[I1]at xE;obtain⟨hs,hC⟩:=xE;have aME:(W i).C≠X.Wg:=λe=>(Q.ro.wg (X.c0+i) X.Wg (AJ rfl)).1 ((B2.at A hi _).2 (e▸hC));have aMC:(W i).C≠X.Ch:=Q.KR (X.c0+i) _ (AD ((B2.at A hi _).2 hC));have Fa:∀b,(W i).S b∨(W i).Sh b->b≠X.Ch:=λb y=>Q.KR (X.c0+i) b (y.imp (B2.at A hi b).2 (Bt.at A hi b).2);have iO:∀g' b,B2 X j S0 W g' b∨Bt X j Sh0 W g' b->b≠X.Wg:=λg' b y e=>by
  have:=Q.ro.wg g' X.Wg (AJ rfl);subst e;rcases y with y|y;·exact this.1 y
  exact this.2 y
 generalize xD:(W i).wd.stage=s at hs;generalize aaK:(W i).wd.fuel=m at hs;generalize w6:(W i).wd.deaf=Vj at hs;have a6f:Om t (X.c0+i)=Vj:=by rw[Q.deafW i hi,w6]
 have Dd:(CU W i).stage=s:=xD;have book:∀{g':AR}{w':A0}{es:Array C5}{C9 p UK:Nat}{P_ PZ:Int},Bi X.P A9 g w=Cw g' w' es->kr X.Wg w w'->Ja X.ty X.Wg w' P_ PZ->(∀e∈es,(∀x,(LG e).touch?=Y x->G2 x.loc X.Wg/\x.kind=.atomic)/\e.loc≠Ny (Ou (Ee X.Wg)))->WSit X.P X.ty X.Wg (W i).C (W i).I3 Rj Rj 0 1 (W i).val C9 p UK g' w'->Mf Vj es=UK->(C9<=6->∃r,Q9 X.BW (t++Km (X.c0+i) g.frame.fn g.frame.place es) (Ee X.Wg) (X.c0+i) r)->(∀H,H=tag∨tag=VH/\H=.w3->(a1Z X.P g=A3->g'.status=DJ->H≠VH)->KI j (CP (CU W) i ⟨C9,p,UK⟩) H P_ PZ)->C9<s/\GH ⟨C9,p,UK⟩<=GH (W i).wd∨C9=s/\p+1=m->∃E_ ops μ',N9 X.P (EV gs w sl) (X.c0+i)=(Ds E_,ops)/\LS (X.n+1) μ' (HK X j W tag τ f0 q)/\Inv X μ' E_ (t++ops):=by
  intro g' w' es C9 p UK P_ PZ z JO RZ FF KZ ak hrel j6 hlt;let e':Em:={W i with wd:=⟨C9,p,UK⟩};refine workerStep (sl:=sl) (e':=e') Al AB HW Q hi AI z (ef JO λb y=>iO 0 b (y.imp (B2.zero A b).2 (Bt.zero A b).2)) (λsm CR _=>ef JO λb y=>iO (X.c0+sm) b (y.imp (B2.at A CR b).2 (Bt.at A CR b).2)) ?_ ?_ ?_ (by rw[w6];exact ak) (λe he=>(FF e he).2) hrel (JO.block _ Q.Vg) Fa VW (λv M h1 h2 _=>⟨h1,Al i v M w w' (λb y=>JO.block b (iO (X.c0+i) b (AD ((B2.at A hi b).2 (h1 b y).1)))) h2⟩) RZ j6 ?_;·unfold Jg;simp only[e',I1];exact⟨KZ,hC⟩
  ·rw[B2.V4 e' rfl,Bt.S1 e' rfl,JO.size];exact Q.ro
  ·rw[B2.V4 e' rfl,Bt.S1 e' rfl,JO.size];refine Q.Jt.OP Q.ro (g:=X.c0+i) (by omega) λop d0=>?_;obtain⟨e,he,rfl⟩:=Kl d0;refine⟨rfl,λx hx=>?_⟩;obtain⟨h1,h2⟩:=(FF e he).1 x hx;exact⟨⟨X.Wg,AJ rfl,h1⟩,by rw[h2];simp,λe=>by rw[h2]at e;cases e⟩
  rcases hlt with⟨h1,h2⟩|⟨h1,h2⟩;·exact .stage (by show C9+Ke e'<_+_;have:Ke e'=Ke (W i):=rfl;omega) h2
  exact .fuel (by show C9=_;omega) rfl (by show p+1=_;omega)
 have OP:∀{es:Array C5},(∀e∈es,Bk X.Wg e)->∀e∈es,(∀x,(LG e).touch?=Y x->G2 x.loc X.Wg/\x.kind=.atomic)/\e.loc≠Ny (Ou (Ee X.Wg)):=λI e he=>⟨λx hx=>mu (I e he) hx,a3b (I e he) _⟩;have Yb:∀{es:Array C5},s<=6->(∀e∈es,Bk X.Wg e)->(∀N e,es[N]?=Y e->(LG e).touch?=Z∨0<Mf Vj (es.extract 0 N))->∃r,Q9 X.BW (t++Km (X.c0+i) g.frame.fn g.frame.place es) (Ee X.Wg) (X.c0+i) r:=by intro es CN I AS;obtain⟨r,A2⟩:=Q.rel i hi (by omega);refine⟨r,A2.own (A2.rel.book a6f _ _ I AS) λop d0 x hx=>?_⟩;obtain⟨e,he,rfl⟩:=Kl d0;exact⟨X.Wg,AJ rfl,(mu (I e he) hx).1⟩
 have same:∀p UK,KI j (CP (CU W) i ⟨s,p,UK⟩) tag st Gn:=λp UK=>by have:=CX.same (i:=i) p UK;rwa[Dd]at this
 have idle:∀{g':AR}{p:Nat},Bi X.P A9 g w=Cw g' w #[]->WSit X.P X.ty X.Wg (W i).C (W i).I3 Rj Rj 0 1 (W i).val s p Vj g' w->p+1=m->s<=6->∃E_ ops μ',N9 X.P (EV gs w sl) (X.c0+i)=(Ds E_,ops)/\LS (X.n+1) μ' (HK X j W tag τ f0 q)/\Inv X μ' E_ (t++ops):=λz KZ hm CN=>book z (MX X.Wg w) U (by simp) KZ rfl (λ_=>Yb CN (by simp) (by simp)) (λ_ K _=>(same _ Vj).retag K) (AJ ⟨rfl,hm⟩);cases hs with
 |r0 h=>
  rcases LC h with FQ|⟨p,rfl,Dl⟩
  ·obtain⟨_,_,g',z,J9,hk⟩:=FQ w (MY w);refine book z (MX X.Wg w) U (by intro e he;simp at he;subst he;exact⟨λx hx=>(by cases hx),by simp[Oq]⟩) (.k1 hk) rfl (λ_=>⟨t.size,RelBy.new a6f _ _,λl x hx EU wo=>?_⟩) (λ_ K _=>(CX.counted hi (by omega) (AD rfl) _ _).retag K) (AD ⟨by omega,by simp[GH,xD]⟩);obtain⟨op,AA,W7⟩:=fj hx;rcases Ws AA with⟨AE,_⟩|⟨_,Uf⟩;·exact AE
   obtain⟨e,he,rfl⟩:=Kl Uf;simp at he;subst he;cases W7
  obtain⟨g',w',es,z,⟨St,QR⟩,Ct⟩:=Dl w (MY w);have St:aZs (W i).C (W i).I3 0 w w':=St;let e':Em:={W i with wd:=⟨7,p,0⟩};have a7c:∀{Sh S:zy},(∀b,S b∨Sh b->b≠(W i).C)->CB Sh S w w':=λi6=>⟨by rw[St.size];exact Ae _,λb y=>St.block b (i6 b y),St.os,St.output⟩;have a5b:∀g',g'≠X.c0+i->∀b,B2 X j S0 W g' b∨Bt X j Sh0 W g' b->b≠(W i).C:=λg' i6 b y e=>by
   subst e;have a5a:B2 X j S0 W (X.c0+i) (W i).C:=(B2.at A hi _).2 hC;rcases y with y|y;·exact i6 (Q.ro.apart _ _ _ y a5a)
   exact Q.ro.Tc _ _ _ a5a y
  have aNs:∀e∈es,∀x,(LG e).touch?=Y x->G2 x.loc X.Wg/\x.kind≠.plain/\x.kind≠.said:=λe he x hx=>by
   obtain⟨_,h2⟩:=(QR e he).1 0 "";rcases h2 x hx with⟨⟨a,h3,h4⟩,li,CN⟩|h3|⟨h3,_⟩;·exact⟨AD ⟨a,h3,h4⟩,li,CN⟩
   ·exact h3.elim
   exact h3.elim
  refine workerStep (sl:=sl) (e':=e') Al AB HW Q hi AI z (a7c λb y=>a5b 0 (by omega) b (y.imp (B2.zero A b).2 (Bt.zero A b).2)) (λsm CR i6=>a7c λb y=>a5b (X.c0+sm) (by omega) b (y.imp (B2.at A CR b).2 (Bt.at A CR b).2)) ?_ ?_ ?_ ?_ (λe he=>(QR e he).2.2.2) λh=>by simp only[e']at h;omega (St.block _ (Gu aMC)) Fa VW (λv M h1 h2 _=>⟨h1,Al i v M w w' (λb y=>St.block b (h1 b y).2) h2⟩) (U.of_block (St.block _ (Gu aME))) (λH K _=>?_) (.fuel ?_ rfl ?_);·unfold Jg;simp only[e',I1];exact⟨.r0 Ct,hC⟩
  ·rw[B2.V4 e' rfl,Bt.S1 e' rfl,St.size];exact Q.ro
  ·rw[B2.V4 e' rfl,Bt.S1 e' rfl,St.size];refine Q.Jt.OP Q.ro (g:=X.c0+i) (by omega) λop d0=>?_;obtain⟨e,he,rfl⟩:=Kl d0;refine⟨rfl,λx hx=>?_⟩;obtain⟨h1,h2,h3⟩:=aNs e he x hx;exact⟨⟨X.Wg,AJ rfl,h1⟩,h2,λe=>absurd e h3⟩
  ·rw[w6];exact fg (λe he=>⟨(QR e he).2.1,(QR e he).2.2.1⟩) 0
  ·exact(same p 0).retag K
  ·show 7=_;omega
  show p+1=_;omega
 |k1 h=>
  rcases LC h with FQ|⟨p,rfl,Dl⟩
  ·obtain⟨_,g',z,J9,hk⟩:=FQ w (MY w);have I:∀e∈#[Oq ZO],Bk X.Wg e:=by intro e he;simp at he;subst he;exact AD rfl
   exact book z (MX X.Wg w) U (OP I) (.d1 hk) rfl (λ_=>Yb (by omega) I (by intro N e he;exact AD (by have:=fN he;simp at this;subst this;rfl))) (λ_ K _=>(CX.counted hi (by omega) (AJ rfl) _ _).retag K) (AD ⟨by omega,by simp[GH,xD]⟩)
  obtain⟨g',w',es,z,⟨rfl,rfl⟩,Ct⟩:=Dl w (MY w);exact idle z (.k1 Ct) rfl (by omega)
 |d1 h=>
  rcases LC h with FQ|⟨p,rfl,Dl⟩
  ·obtain⟨_,Fh⟩:=FQ w (MY w);obtain⟨v,Wj,aPa,hv,rfl,rfl,aOf,Ms⟩:=aSh (X:=X) hi Dd CX y hn;obtain⟨g',z,AE,AH⟩:=Fh v Wj aPa hv U;have I:∀e∈#[rd (Ee X.Wg),wr (Ee X.Wg)],Bk X.Wg e:=by intro e he;simp at he;rcases he with rfl|rfl<;>exact a'O _ _ rfl
   have a6e:∀N e,(#[rd (Ee X.Wg),wr (Ee X.Wg)]:Array C5)[N]?=Y e->(LG e).touch?=Z∨0<Mf 1 ((#[rd (Ee X.Wg),wr (Ee X.Wg)]:Array C5).extract 0 N):=by intro N e he;match N,he with|0,_=>exact AJ (by simp[Mf])|1,_=>exact AJ (by simp[Mf,rd])|N+2,he=>simp at he
   by_cases PG:v=0/\Wj=1;·obtain⟨J9,hk⟩:=AE PG;exact book z (cA w (Ee X.Wg) _) (U.setSt _) (OP I) (.d2 hk) rfl (λ_=>Yb (by omega) I a6e) (λ_ K _=>(aOf PG _).retag K) (AD ⟨by omega,by simp[GH]⟩)
   obtain⟨Bp,hk⟩:=AH PG;exact book z (cA w (Ee X.Wg) _) (U.setSt _) (OP I) (.quit hk) rfl (λ_=>Yb (by omega) I a6e) (λ_ K _=>(Ms PG _).retag K) (AD ⟨by omega,by simp[GH]⟩)
  obtain⟨g',w',es,z,⟨rfl,rfl⟩,Ct⟩:=Dl w (MY w);exact idle z (.d1 Ct) rfl (by omega)
 |d2 h=>
  rcases LC h with FQ|⟨p,rfl,Dl⟩
  ·obtain⟨_,hx⟩:=FQ w (MY w);obtain⟨Vx,IB,rfl,rfl⟩:=CX.isLast hi (by omega);simp only[Dd]at U;obtain⟨g',z,J9,hk⟩:=hx (by simpa using U);have I:∀e∈#[rd (Ee X.Wg)],Bk X.Wg e:=by intro e he;simp at he;subst he;exact a'O _ _ rfl
   refine book z (MX X.Wg w) U (OP I) (.d3 hk) rfl (λ_=>Yb (by omega) I (by intro N e he;match N,he with|0,_=>exact AJ (by simp[Mf])|N+1,he=>simp at he)) (λ_ K _=>?_) (AD ⟨by omega,by simp[GH]⟩);have:=rK (j:=j) (D:=CP (CU W) i ⟨3,J9,1⟩) (tag:=tag) i Vx hi (by rw[Fs];simp) (λb y e=>by rw[Ga _ _ e];exact IB b y e);rw[Fs]at this;exact aDM (by simpa using this) K
  obtain⟨g',w',es,z,⟨rfl,rfl⟩,Ct⟩:=Dl w (MY w);exact idle z (.d2 Ct) rfl (by omega)
 |d3 h=>
  rcases LC h with FQ|⟨p,rfl,Dl⟩
  ·obtain⟨_,hx⟩:=FQ w (MY w);obtain⟨Vx,IB,rfl,rfl⟩:=CX.isLast hi (by omega);simp only[Dd]at U;obtain⟨g',z,J9,hk⟩:=hx (by simpa using U);have I:∀e∈#[wr (Ee X.Wg)],Bk X.Wg e:=by intro e he;simp at he;subst he;exact a'O _ _ rfl
   refine book z (cA w (Ee X.Wg) _) (U.setSt 0) (OP I) (.d4 hk) rfl (λ_=>Yb (by omega) I (by intro N e he;match N,he with|0,_=>exact AJ (by simp[Mf])|N+1,he=>simp at he)) (λ_ K _=>?_) (AD ⟨by omega,by simp[GH]⟩);have:=rK (j:=j) (D:=CP (CU W) i ⟨2,J9,1⟩) (tag:=tag) i Vx hi (by rw[Fs];simp) (λb y e=>by rw[Ga _ _ e];exact IB b y e);rw[Fs]at this;exact aDM (by simpa using this) K
  obtain⟨g',w',es,z,⟨rfl,rfl⟩,Ct⟩:=Dl w (MY w);exact idle z (.d3 Ct) rfl (by omega)
 |d4 h=>
  rcases LC h with FQ|⟨p,rfl,Dl⟩
  ·obtain⟨_,aOD,hx⟩:=FQ w (MY w);obtain⟨Vx,IB,rfl,rfl⟩:=CX.isLast hi (by omega);simp only[Dd]at U;obtain⟨g',z,Bp,AH⟩:=hx (by simpa using U);have aOx:g'.status=DJ:=by cases Bp with|zero=>exact absurd AH.2 (by decide)|succ Bp=>exact AH.elim (λx=>absurd x.2 (by decide)) λx=>x.1
   have I:∀e∈ZB (Wv X.Wg),Bk X.Wg e:=Go.ConcN.bk_sem;refine book z (cA w (Wv X.Wg) _) (U.setSm 1) (OP I) (.quit AH) (by simp[Mf,ZB]) (λ_=>Yb (by omega) I ?_) (λH K bi=>?_) (AD ⟨by omega,by simp[GH]⟩);·intro N e he;match N,he with|0,he=>simp[ZB]at he;subst he;exact AD rfl|1,_=>exact AJ (by simp[Mf,ZB])|2,_=>exact AJ (by simp[Mf,ZB])|3,he=>simp[ZB]at he;subst he;exact AD rfl|N+4,he=>simp[ZB]at he
   have Jm:=bi aOD aOx;have Co:H=.w3:=by
    rcases K with rfl|⟨_,rfl⟩;·cases H<;>first|rfl|exact Vx.elim|exact absurd rfl Jm
    rfl
   subst Co;simp only[if_true];exact .sema λb y=>by
    by_cases e:b=i;·subst e;rw[Fs]
    rw[Ga _ _ e];exact IB b y e
  obtain⟨g',w',es,z,⟨rfl,rfl⟩,Ct⟩:=Dl w (MY w);exact idle z (.d4 Ct) rfl (by omega)
 |quit h=>
  cases m with
  |zero=>rw[h.1]at v1;cases v1
  |succ Bp=>
   rcases h with⟨AK,_⟩|⟨_,g',es,a7O,Dl,AH⟩;·rw[AK]at v1;cases v1
   have I:∀e∈es,Bk X.Wg e:=λe he=>bk_of_mute (a7O e he);exact book (Dl w) (MX X.Wg w) U (OP I) (.quit AH) rfl (λ_=>Yb (by omega) I λN e he=>AD (rG (a7O e (fN he)))) (λ_ K _=>(same Bp _).retag K) (AJ ⟨rfl,rfl⟩)
end
end
section
open Go.Conc(G solo Deaf QuitsD Goes scase semEvents NoRelease crowd woken Aside Leavers touchAt Perm)
open Go.ConcN(WgLive upd upd_same upd_ne WD WSit CTag Vc Ssum Fsum cnt pend phi PermW AllQuit)
open Go.ConcR(KK WgAt stA smA rd wr mk Payload)
variable[CV]
section
variable{X:HQ}{j:Nat}{gs:Array AR}{w w':A0}{sl:Option (Nat×Nat)}{t:Dh}{W:Nat->Em}{Sh S Sh0 S0 LU J4:zy}{q:Nat->Nat}{BC:Nat}{B9:List (Nat×A1)}
omit[CV]in def B2.bP(h:0<X.c0)(e:Em){i:Nat}(hi:i<j)(b:Nat):B2 X (j+1) S0 (CP W j e) (X.c0+i) b↔(W i).S b:=by rw[B2.at h (by omega),Ga W _ (by omega)]
omit[CV]in def B2.bN(h:0<X.c0)(e:Em)(b:Nat):B2 X (j+1) S0 (CP W j e) (X.c0+j) b↔e.S b:=by rw[B2.at h (by omega),Fs]
omit[CV]in def Bt.bP(h:0<X.c0)(e:Em){i:Nat}(hi:i<j)(b:Nat):Bt X (j+1) Sh0 (CP W j e) (X.c0+i) b↔(W i).Sh b:=by rw[Bt.at h (by omega),Ga W _ (by omega)]
omit[CV]in def Bt.bN(h:0<X.c0)(e:Em)(b:Nat):Bt X (j+1) Sh0 (CP W j e) (X.c0+j) b↔e.Sh b:=by rw[Bt.at h (by omega),Fs]
omit[CV]in def B2.fE{g b:Nat}(h:B2 X j S0 W g b∨Bt X j Sh0 W g b):g=0∨∃i,i<j/\g=X.c0+i:=by
 rcases h with(⟨h,_⟩|⟨i,s,h2,_⟩)|(⟨h,_⟩|⟨i,s,h2,_⟩);·exact AD h
 ·exact AJ ⟨i,s,h2⟩
 ·exact AD h
 exact AJ ⟨i,s,h2⟩
omit[CV]in def Mj.spawn(I:0<X.c0){B:Nat}(R:Mj X.BW (X.c0+j) B (B2 X j S W) (Bt X j Sh W))(s:Split Sh S Sh0 S0 LU J4)(e:Em)(he:e.S=J4)(i_:e.Sh=LU):Mj X.BW (X.c0+(j+1)) B (B2 X (j+1) S0 (CP W j e)) (Bt X (j+1) Sh0 (CP W j e)):=by
 have z:∀b,B2 X j S W 0 b↔S b:=B2.zero I;have qm:∀b,Bt X j Sh W 0 b↔Sh b:=Bt.zero I;have z0:∀b,B2 X (j+1) S0 (CP W j e) 0 b↔S0 b:=B2.zero I;have aZa:∀b,Bt X (j+1) Sh0 (CP W j e) 0 b↔Sh0 b:=Bt.zero I;have o:∀{i},i<j->∀b,B2 X j S W (X.c0+i) b↔(W i).S b:=λhi=>B2.at I hi;have ju:∀{i},i<j->∀b,Bt X j Sh W (X.c0+i) b↔(W i).Sh b:=λhi=>Bt.at I hi;have a9j:∀b,B2 X (j+1) S0 (CP W j e) (X.c0+j) b↔J4 b:=λb=>by rw[B2.bN I,he]
 have aSp:∀b,Bt X (j+1) Sh0 (CP W j e) (X.c0+j) b↔LU b:=λb=>by rw[Bt.bN I,i_]
 have U:∀g b,B2 X (j+1) S0 (CP W j e) g b->g=0/\S0 b/\S b∨g=X.c0+j/\J4 b/\S b∨∃i,i<j/\g=X.c0+i/\(W i).S b:=by
  intro g b H;rcases B2.fE (Sh0:=Sh0) (AD H)with rfl|⟨i,hi,rfl⟩;·exact AD ⟨rfl,(z0 b).1 H,s.N1 b ((z0 b).1 H)⟩
  by_cases e1:i=j;·subst e1;exact AJ (AD ⟨rfl,(a9j b).1 H,s.yt b ((a9j b).1 H)⟩)
  exact AJ (AJ ⟨i,by omega,rfl,(B2.bP I e (by omega) b).1 H⟩)
 have xS:∀g b,Bt X (j+1) Sh0 (CP W j e) g b->g=0/\(Sh b∨LU b)∨g=X.c0+j/\LU b∨∃i,i<j/\g=X.c0+i/\(W i).Sh b:=by
  intro g b H;rcases B2.fE (S0:=S0) (AJ H)with rfl|⟨i,hi,rfl⟩;·exact AD ⟨rfl,(s.yy b).1 ((aZa b).1 H)⟩
  by_cases e1:i=j;·subst e1;exact AJ (AD ⟨rfl,(aSp b).1 H⟩)
  exact AJ (AJ ⟨i,by omega,rfl,(Bt.bP I e (by omega) b).1 H⟩)
 have K:∀{i b},i<j->(W i).S b->¬S b/\¬Sh b:=λ{i b}hi hs=>⟨λh=>by have:=R.apart _ _ b ((o hi b).2 hs) ((z b).2 h);omega,λh=>R.Tc _ _ b ((o hi b).2 hs) ((qm b).2 h)⟩;refine⟨λg h b x y=>?_,λg h b x y=>?_,λg b Q=>⟨λx=>?_,λx=>?_⟩,λg b x=>?_,λg b x=>?_,R.Pb⟩
 ·rcases U g b x with⟨rfl,AM,fk⟩|⟨rfl,AM,fk⟩|⟨i,hi,rfl,AM⟩<;>rcases U h b y with⟨rfl,DI,GF⟩|⟨rfl,DI,GF⟩|⟨sm,N,rfl,DI⟩;·rfl
  ·exact absurd DI (s.apart b AM)
  ·exact absurd fk (K N DI).1
  ·exact absurd AM (s.apart b DI)
  ·rfl
  ·exact absurd fk (K N DI).1
  ·exact absurd GF (K hi AM).1
  ·exact absurd GF (K hi AM).1
  exact R.apart _ _ b ((o hi b).2 AM) ((o N b).2 DI)
 ·rcases U g b x with⟨rfl,AM,fk⟩|⟨rfl,AM,fk⟩|⟨i,hi,rfl,AM⟩<;>rcases xS h b y with⟨rfl,DI⟩|⟨rfl,DI⟩|⟨sm,N,rfl,DI⟩
  ·rcases DI with DI|DI;·exact R.Tc _ _ b ((z b).2 fk) ((qm b).2 DI)
   exact s.a0 b AM DI
  ·exact s.a0 b AM DI
  ·exact R.Tc _ _ b ((z b).2 fk) ((ju N b).2 DI)
  ·rcases DI with DI|DI;·exact(s.ac b AM).2 DI
   exact(s.ac b AM).1 DI
  ·exact(s.ac b AM).1 DI
  ·exact R.Tc _ _ b ((z b).2 fk) ((ju N b).2 DI)
  ·rcases DI with DI|DI;·exact(K hi AM).2 DI
   rcases s.Wa b DI with M|M;·exact(K hi AM).1 M
   exact(K hi AM).2 M
  ·rcases s.Wa b DI with M|M;·exact(K hi AM).1 M
   exact(K hi AM).2 M
  exact R.Tc _ _ b ((o hi b).2 AM) ((ju N b).2 DI)
 ·rcases U g b x with⟨_,_,fk⟩|⟨_,_,fk⟩|⟨i,hi,_,AM⟩;·exact(R.wg 0 b Q).1 ((z b).2 fk)
  ·exact(R.wg 0 b Q).1 ((z b).2 fk)
  exact(R.wg _ b Q).1 ((o hi b).2 AM)
 ·have Bj:¬S b/\¬Sh b:=⟨λh=>(R.wg 0 b Q).1 ((z b).2 h),λh=>(R.wg 0 b Q).2 ((qm b).2 h)⟩;have hc:¬LU b:=λh=>(s.Wa b h).elim Bj.1 Bj.2;rcases xS g b x with⟨_,AM⟩|⟨_,AM⟩|⟨i,hi,_,AM⟩;·exact AM.elim Bj.2 hc
  ·exact hc AM
  exact(R.wg _ b Q).2 ((ju hi b).2 AM)
 ·have Bj:S b∨Sh b->b<B:=λh=>h.elim (λh=>R.low 0 b (AD ((z b).2 h))) λh=>R.low 0 b (AJ ((qm b).2 h));rcases x with x|x
  ·rcases U g b x with⟨_,_,fk⟩|⟨_,_,fk⟩|⟨i,hi,_,AM⟩;·exact Bj (AD fk)
   ·exact Bj (AD fk)
   exact R.low _ b (AD ((o hi b).2 AM))
  rcases xS g b x with⟨_,AM⟩|⟨_,AM⟩|⟨i,hi,_,AM⟩;·exact AM.elim (λh=>Bj (AJ h)) λh=>Bj (s.Wa b h)
  ·exact Bj (s.Wa b AM)
  exact R.low _ b (AJ ((ju hi b).2 AM))
 rcases B2.fE x with rfl|⟨i,hi,rfl⟩<;>omega
def G5.spawn(h:G5 X j gs w t W Sh S q 0 B9)(N:Split Sh S Sh0 S0 LU J4){a' child:AR}{x y:MemOp}(hx:x.g=0/\x.act=.go (X.c0+j))(hy:y.g=X.c0+j/\y.act=.start){e:Em}(he:e.S=J4)(p:e.Sh=LU)(m:e.wd=⟨7,0,0⟩)(D:e.G'≠Z)(hc:Jg X j e child w):G5 X (j+1) ((gs.setIfInBounds 0 a').push child) w (t++#[x,y]) (CP W j e) Sh0 S0 q 0 B9:=by
 have z:=h.pos;have hm:∀I∈#[x,y],I=x∨I=y:=by intro I H;simpa using H
 have Bm:∀I∈#[x,y],I.act≠Pt ZO/\I.act≠Pt .enable:=by
  intro I H;rcases hm I H with rfl|rfl;·rw[hx.2];exact⟨by simp,by simp⟩
  rw[hy.2];exact⟨by simp,by simp⟩
 have e2:t++#[x,y]=t++#[x]++#[y]:=by apply aCk;simp
 have C:∀k,k≠0->k<gs.size->((gs.setIfInBounds 0 a').push child)[k]?=gs[k]?:=λk hk AE=>by rw[H_ (by simpa using AE),<-EP,Gp (Gu hk)]
 have FJ:=Mj.spawn z h.ro N e he p;refine⟨by simp[h.size];omega,h.pos,λk g Fv hk AI=>?_,λi hi=>?_,FJ,?_,?_,by rw[Wt t 0 _ Bm,h.deaf0],λi hi=>?_,jo h.norel λI H=>?_,kU h.fI,λi hi hs=>?_,h.chan,λg b s=>?_,h.Vg,λi=>?_,h.nodup,λi v hv=>?_⟩;·rw[C k (by omega) (by rw[h.size];omega)]at AI;rw[Wt t _ _ Bm];exact h.old k g Fv hk AI
 ·by_cases e1:i=j;·subst e1;refine⟨child,?_,by rw[Fs];exact hc⟩;rw[show X.c0+i=(gs.setIfInBounds 0 a').size by simp[h.size],zn]
  obtain⟨g,AI,A⟩:=h.wk i (by omega);exact⟨g,by rw[C _ (by omega) (by rw[h.size];omega)];exact AI,by rw[Ga W _ e1];exact A⟩
 ·refine h.Jt.spawn (S':=B2 X (j+1) S0 (CP W j e)) (Sh':=Bt X (j+1) Sh0 (CP W j e)) hx hy h.deaf0 (by omega) (λb s=>?_) (λb s=>?_) (λg b AV hn s=>?_) (λb s=>?_) (λb s=>?_) λg b AV hn s=>?_;·exact(B2.zero z b).2 (N.N1 b ((B2.zero z b).1 s))
  ·rw[B2.bN z,he]at s;exact(B2.zero z b).2 (N.yt b s)
  ·rcases B2.fE (Sh0:=Sh0) (AD s)with rfl|⟨i,hi,rfl⟩;·exact absurd rfl AV
   have K:i<j:=by have:i≠j:=λe=>hn (by rw[e]);omega
   exact(B2.at z K b).2 ((B2.bP z e K b).1 s)
  ·rcases(N.yy b).1 ((Bt.zero z b).1 s)with Q|Q;·exact AJ ((Bt.zero z b).2 Q)
   exact(N.Wa b Q).imp (B2.zero z b).2 (Bt.zero z b).2
  ·rw[Bt.bN z,p]at s;exact(N.Wa b s).imp (B2.zero z b).2 (Bt.zero z b).2
  rcases B2.fE (S0:=S0) (AJ s)with rfl|⟨i,hi,rfl⟩;·exact absurd rfl AV
  have K:i<j:=by have:i≠j:=λe=>hn (by rw[e]);omega
  exact(Bt.at z K b).2 ((Bt.bP z e K b).1 s)
 ·rw[e2];exact(h.OO.app (g:=0) (by intro I H;simp at H;rw[H];exact hx.1) (AD rfl)).app (g:=X.c0+j) (by intro I H;simp at H;rw[H];exact hy.1) (AJ (AD (by omega)))
 ·rw[Wt t _ _ Bm];by_cases e1:i=j;·subst e1;rw[Fs,m];exact a'L λl I AE e=>by have:=h.Jt.gs l I AE;omega
  rw[Ga W _ e1];exact h.deafW i (by omega)
 ·rcases hm I H with rfl|rfl;·rw[hx.2];simp
  rw[hy.2];simp
 ·by_cases e1:i=j;·subst e1;rw[Fs,m]at hs;simp at hs
  rw[Ga W _ e1]at hs;obtain⟨r,A2⟩:=h.rel i (by omega) hs;rw[e2];exact⟨r,(A2.other (g:=0) (by intro I H;simp at H;rw[H];exact hx.1) (by omega)).other (g:=X.c0+j) (by intro I H;simp at H;rw[H];exact hy.1) (by omega)⟩
 ·have U:S b∨Sh b->b≠X.Ch:=λC7=>h.KR 0 b (C7.imp (B2.zero z b).2 (Bt.zero z b).2);rcases B2.fE s with rfl|⟨i,hi,rfl⟩
  ·rcases s with s|s;·exact U (AD (N.N1 b ((B2.zero z b).1 s)))
   rcases(N.yy b).1 ((Bt.zero z b).1 s)with Q|Q;·exact U (AJ Q)
   exact U (N.Wa b Q)
  by_cases e1:i=j
  ·subst e1;rw[B2.bN z,Bt.bN z,he,p]at s;rcases s with s|s;·exact U (AD (N.yt b s))
   exact U (N.Wa b s)
  have K:i<j:=by omega
  rw[B2.bP z e K,Bt.bP z e K]at s;exact h.KR (X.c0+i) b (s.imp (B2.at z K b).2 (Bt.at z K b).2)
 ·rw[h.Ni i];by_cases e1:i=j;·subst e1;rw[Fs];exact⟨λC7=>by omega,λC7=>absurd C7.2 D⟩
  rw[Ga W _ e1];exact⟨λC7=>⟨by omega,C7.2⟩,λC7=>⟨by omega,C7.2⟩⟩
 obtain⟨M,Q,h2⟩:=h.msg i v hv;obtain⟨K,_⟩:=(h.Ni i).1 ⟨v,hv⟩;rw[Ga W _ (by omega)];exact⟨M,Q,h2⟩
def cv(X:HQ)(m:Tt)(t:Dh):Prop:=∃(gs:Array AR)(w:A0)(sl:Option (Nat×Nat))(a:AR)(q:Nat->Nat)(Sh S:zy)(B9:List (Nat×A1)),m=EV gs w sl/\gs.size=X.c0+X.n/\De X.P X.BW gs w t q a/\X.Goal Sh S a w/\JD X.ty X.Wg w/\X.Ch≠X.Wg/\(∃h,w.heap[X.Ch]?=Y (Jb X.n (B9.map (·.2)).toArray A9 B9.length 0 h))/\(∀i,(∃v,(i,v)∈B9)↔i<X.n)/\(B9.map (·.1)).Nodup/\∀i v,(i,v)∈B9->∃M,(∀b,M b->b<w.heap.size/\¬X.BW b/\b≠X.Ch/\¬S b/\¬Sh b)/\X.ND i v M w
omit[CV]in def aPw{l:Loc}{b:Nat}(h:G2 l b):l.isMemory=A3:=by rcases h with⟨a,rfl,_⟩|rfl<;>rfl
def G5.joined(h:G5 X X.n gs w t W Sh S q 0 B9)(D:AllQuit X.n (CU W)){a':AR}{gsn:Array AR}(rg:gsn.size=gs.size)(KY:gsn[0]?=Y a')(IB:∀k,k≠0->gsn[k]?=gs[k]?)(fn:ZG)(pos:String):∃EG,De X.P X.BW gsn w (t++Km 0 fn pos #[Oq (ZN (Ee X.Wg))]) EG a':=by
 have i7:=h.pos;generalize hu:Km 0 fn pos #[Oq (ZN (Ee X.Wg))]=u;have I:u=#[{g:=0,fn:=fn,pos:=pos,act:=Pt (ZN (Ee X.Wg))}]:=by rw[<-hu,fi];simp[aZv]
 have m:∀s∈u,s.g=0:=by intro s y;rw[I]at y;simp at y;rw[y]
 have p:∀s∈u,s.act.touch?=Z:=by intro s y;rw[I]at y;simp at y;rw[y];rfl
 have Bm:∀s∈u,s.act≠Pt ZO/\s.act≠Pt .enable:=by intro s y;rw[I]at y;simp at y;rw[y];exact⟨by simp,by simp⟩
 have A:JK X.BW (X.c0+X.n) w.heap.size (B2 X X.n S W) (Bt X X.n Sh W) (t++u):=h.Jt.OP h.ro (g:=0) (by omega) λs y=>⟨m s y,λx hx=>by rw[p s y]at hx;cases hx⟩;have AH:(t++u)[t.size]?=Y {g:=0,fn:=fn,pos:=pos,act:=Pt (ZN (Ee X.Wg))}:=by rw[I,Array.getElem?_append_right (Ae _)];simp
 have au:∀n,U6 X.BW n (t++u):=λn=>by
  refine(h.OO.app m (AD rfl)).join (a:=Ee X.Wg) (q:=t.size) (N0:=X.N0) (λg z⟨i,hi⟩=>?_) (jo h.norel λs y=>?_) (kU h.fI).2 ?_ ?_ ?_ i7
  ·obtain⟨s,AA,oD⟩:=Option.map_eq_some_iff.1 hi;have aaM:=A.gs i s AA;have hlt:g-X.c0<X.n:=by omega
   obtain⟨r,A2⟩:=h.rel (g-X.c0) hlt (by have:=D (g-X.c0) hlt;unfold CU at this;omega);rw[show X.c0+(g-X.c0)=g by omega]at A2;exact⟨r,A2.other m (by omega),aDF A2.rel.act⟩
  ·rw[I]at y;simp at y;rw[y];simp
  ·simp[sO,AH]
  ·simp[gJ,AH]
  exact⟨0,by simp[gJ,AH],by rw[aZo (Ae _)];exact h.deaf0⟩
 have e7:∀b l,¬X.BW b->G2 l b->Perm (t++u) 0 l:=λb l K N i x hx e=>by
  rcases(au (X.c0+X.n)).known i x hx (by rw[e];exact aPw N) λ⟨b',H,h2⟩=>K (by rw[e]at h2;rw[G2.one N h2];exact H)with H|⟨g,H,h2⟩;·exact H
  obtain⟨s,AA,oD⟩:=Option.map_eq_some_iff.1 h2;have:=A.gs i s AA;omega
 have C:∀i,i<X.n->∃g,gs[X.c0+i]?=Y g/\ku X.P (W i).wd.fuel (W i).wd.deaf g:=λi hi=>by obtain⟨g,z,hs⟩:=h.wk i hi;have H:(W i).wd.stage=1:=D i hi;unfold Jg at hs;cases I1:(W i).G' with|some τ=>rw[I1]at hs;have:=hs.1;omega|none=>rw[I1]at hs;exact⟨g,z,hs.1.quits H⟩
 refine⟨λk=>if k<X.c0 then q k else(W (k-X.c0)).wd.fuel,KY,⟨λk g Q z=>?_,λk Q=>?_⟩,?_,?_,?_,h.ro.Pb⟩
 ·rw[IB k (by omega)]at z;rw[Wt t k u Bm];by_cases U:k<X.c0;·rw[if_pos U];exact h.old k g Q U z
  rw[if_neg U];have hlt:k-X.c0<X.n:=by have:=(Array.getElem?_eq_some_iff.1 z).1;rw[h.size]at this;omega
  obtain⟨g1,M,C⟩:=C (k-X.c0) hlt;rw[show X.c0+(k-X.c0)=k by omega,z]at M;obtain rfl:=CH M;have:=h.deafW (k-X.c0) hlt;rw[show X.c0+(k-X.c0)=k by omega]at this;rw[this];exact C
 ·rw[Wt t k u Bm];exact a'L λi s hi e=>by have:=h.Jt.gs i s hi;rw[rg,h.size]at Q;omega
 ·rw[rg,h.size];exact A.hand (Ae _) (Ae _) (λb K=>AD K) (λg b hs l N=>by obtain⟨rfl,_,K⟩:=hs;exact e7 b l K N) λg b hs=>hs.elim
 ·exact au _
 rw[Wt t 0 u Bm];exact h.deaf0
end
end
section
open Go.Conc(G solo Deaf QuitsD Goes scase semEvents crowd crowd_pick woken Aside awake_of runT_crowd_go runT_crowd_spawn woken_quitsD)
open Go.ConcN(WgLive upd upd_same upd_ne WD WSit CTag Vc Ssum Fsum cnt pend phi sumTo AllQuit OpenSt Vc_le bk_dis bk_en bk_rd bk_rw bk_sem)
open Go.ConcR(KK WgAt stA smA rd wr mk Payload Bk)
variable[CV]
section
variable{X:HQ}{j:Nat}{gs:Array AR}{w w':A0}{sl:Option (Nat×Nat)}{t:Dh}{W:Nat->Em}{tag:Pp}{τ:EC}{f0 BC:Nat}{a:AR}{Sh0 S0:zy}{q:Nat->Nat}{B9:List (Nat×A1)}{st Gn:Int}
def N_(Q:X.M2)(AB:gs[0]?=Y a)(s:G5 X j gs w t W Sh0 S0 q BC B9){a':AR}{es:Array C5}{tag':Pp}{l:EC}{f':Nat}{m p:Int}(A:Bi X.P A3 a w=Cw a' w' es)(H:kr X.Wg w w')(I:∀e∈es,(∀x,(LG e).touch?=Y x->G2 x.loc X.Wg/\x.kind≠.plain)/\e.loc≠Ny (Ou (Ee X.Wg)))(C:FM X tag' j l f' (Mf BC es) Sh0 S0 a' w')(D:Ja X.ty X.Wg w' m p)(CX:KI j (CU W) tag' m p)(hlt:Ht X.n (Vc j (CU W)) tag'<Ht X.n (Vc j (CU W)) tag∨Ht X.n (Vc j (CU W)) tag'=Ht X.n (Vc j (CU W)) tag/\(EC.lt l τ∨l=τ/\f'<f0)):∃N ops y,N9 X.P (EV gs w sl) 0=(Ds N,ops)/\LS (X.n+1) y (HK X j W tag τ f0 q)/\Inv X y N (t++ops):=by
 have K:=s.pos;have U:∀z b,B2 X j S0 W z b∨Bt X j Sh0 W z b->b≠X.Wg:=λz b h e=>by
  have:=s.ro.wg z X.Wg (AJ rfl);subst e;rcases h with h|h;·exact this.1 h
  exact this.2 h
 refine a9L (sl:=sl) Q AB s A (λsm M=>ef H λb h=>U (X.c0+sm) b (h.imp (B2.at K M b).2 (Bt.at K M b).2)) ?_ ?_ (λe he=>(I e he).2) (H.block _ s.Vg) (λb h=>s.KR 0 b (AD ((B2.zero K b).2 h))) C D CX hlt;·rw[H.size];exact s.ro
 rw[H.size];refine s.Jt.OP s.ro (g:=0) (by omega) λop d0=>?_;obtain⟨e,he,rfl⟩:=Kl d0;exact⟨rfl,λx hx=>⟨⟨X.Wg,AJ rfl,((I e he).1 x hx).1⟩,((I e he).1 x hx).2,λ_=>rfl⟩⟩
omit[CV]in def QC{es:Array C5}(h:∀e∈es,Bk X.Wg e):∀e∈es,(∀x,(LG e).touch?=Y x->G2 x.loc X.Wg/\x.kind≠.plain)/\e.loc≠Ny (Ou (Ee X.Wg)):=λe he=>⟨λx hx=>⟨(mu (h e he) hx).1,by rw[(mu (h e he) hx).2];simp⟩,a3b (h e he) _⟩
def PO(I:X.M2)(K:gs[0]?=Y a)(l:G5 X j gs w t W Sh0 S0 q BC B9)(m:Ja X.ty X.Wg w st Gn)(Q:KI j (CU W) tag st Gn){a':AR}{es:Array C5}{f':Nat}(N:Bi X.P A3 a w=Cw a' w' es)(H:a'2 X w w' es)(U:w'=w->FM X tag j τ f' BC Sh0 S0 a' w')(hlt:f'<f0):∃z ops h,N9 X.P (EV gs w sl) 0=(Ds z,ops)/\LS (X.n+1) h (HK X j W tag τ f0 q)/\Inv X h z (t++ops):=by
 obtain⟨rfl,y⟩:=H;have M:Mf BC es=BC:=fg (λe he=>by
  obtain⟨b,_,rfl|rfl⟩:=y e he;·exact⟨by simp,by simp⟩
  exact⟨by simp,by simp⟩) _;refine N_ (sl:=sl) I K l N (MX X.Wg w') (λe he=>?_) (by rw[M];exact U rfl) m Q (AJ ⟨rfl,AJ ⟨rfl,hlt⟩⟩);obtain⟨b,s,rfl|rfl⟩:=y e he;·refine⟨λx hx=>?_,by simp⟩;simp only[LG,cN,Xa]at hx;subst hx;exact⟨AD ⟨b,rfl,s⟩,by simp⟩
 refine⟨λx hx=>?_,by simp⟩;simp only[LG,cN,Xa]at hx;subst hx;exact⟨AD ⟨b,rfl,s⟩,by simp⟩
def zV(Q:X.M2)(U:gs[0]?=Y a)(y:G5 X j gs w t W Sh0 S0 q 0 B9)(M:Ja X.ty X.Wg w st Gn)(m:KI j (CU W) tag st Gn){a':AR}{es:Array C5}{S':zy}{l:EC}{f':Nat}(p:Bi X.P A3 a w=Cw a' w' es)(z:Gb Sh0 S0 w w' es S')(A:FM X tag j l f' 0 Sh0 S' a' w')(hlt:EC.lt l τ):∃N ops H,N9 X.P (EV gs w sl) 0=(Ds N,ops)/\LS (X.n+1) H (HK X j W tag τ f0 q)/\Inv X H N (t++ops):=by
 have s:=y.pos;have C:Gb (Bt X j Sh0 W 0) (B2 X j S0 W 0) w w' es S':=by rw[B2.dc s,Bt.dc s];exact z
 have D:¬S0 X.Wg:=λx=>(y.ro.wg 0 X.Wg (AJ rfl)).1 ((B2.zero s _).2 x);have vs:¬S0 X.Ch:=λx=>y.KR 0 X.Ch (AD ((B2.zero s _).2 x)) rfl;have Dl:=y.Jt.step (g:=0) y.ro (by omega) z.size (X:=S') λb=>by rw[z.grow b,B2.zero s b] (fn:=a.frame.fn) (pos:=a.frame.place) (es:=es) (by rw[Bt.dc s];exact z.evs);have AS:Mf 0 es=0:=fg (λe he=>nM (z.evs e he)) _;refine a9L (sl:=sl) Q U y p (λsm K=>?_) ?_ ?_ (λe he=>uV (z.evs e he) _) (z.same _ y.hP vs) (λb hb=>?_) (by rw[AS];exact A) (M.of_block (z.same _ (aCR M) D)) m (AJ ⟨rfl,AD hlt⟩);·have:=yk (B:=0) y.ro (g:=0) (h:=X.c0+sm) (by omega) C;rw[B2.Vr s K,Bt.Vr s K]at this;exact this
 ·rw[B2.a9M (S0:=S0) s];exact Dl.1
 ·rw[B2.a9M (S0:=S0) s];exact Dl.2
 rcases(z.grow b).1 hb with I|I;·exact y.KR 0 b (AD ((B2.zero s _).2 I))
 have:=y.hP;omega
def SP(X:HQ)(gs:Array AR)(w:A0)(sl:Option (Nat×Nat))(i:Nat)(s:Xe)(t:Dh):Prop:=(∃b ops h,N9 X.P (EV gs w sl) i=(Ds b,ops)/\LS (X.n+1) h s/\Inv X h b (t++ops))∨∃b ops,N9 X.P (EV gs w sl) i=(Ds b,ops)/\cv X b (t++ops)
def SP.less{i:Nat}{Kh μ':Xe}(h:SP X gs w sl i μ' t)(hc:μ'.1<Kh.1):SP X gs w sl i Kh t:=by
 rcases h with⟨y,ops,b,s,h2,h3⟩|h;·refine AD ⟨y,ops,b,s,?_,h3⟩;obtain⟨z,H⟩:=b;obtain⟨I,K⟩:=μ';obtain⟨c1,c2⟩:=Kh;cases h2 with|left _ _ h=>exact td _ _ (Nat.lt_trans h hc)|right _ h=>exact td _ _ hc
 exact AJ h
def aXP(N:X.M2)(hn:X.n<2147483648)(K:gs[0]?=Y a)(HW:FM X tag j τ f0 BC Sh0 S0 a w)(z:G5 X j gs w t W Sh0 S0 q BC B9)(H:Ja X.ty X.Wg w st Gn)(I:KI j (CU W) tag st Gn)(v1:a.status=DJ):SP X gs w sl 0 (HK X j W tag τ f0 q) t:=by
 have i7:=z.pos;have aMg:=Vc_le j (CU W);have hb:=HW.bound;have aMY:∀b,S0 b∨Sh0 b->b≠X.Wg:=λb hb e=>by
  have:=z.ro.wg 0 X.Wg (AJ rfl);subst e;rcases hb with hb|hb;·exact this.1 ((B2.zero i7 _).2 hb)
  exact this.2 ((Bt.zero i7 _).2 hb)
 have yj:∀{w'},kr X.Wg w w'->CB Sh0 S0 w w':=λh=>ef h aMY;have aCO:∀{f0:Nat}{Ic Ed:AR->Prop}{m:Nat},j=X.n->BC=1->Zh X Ic Ed->Cp X (AtW1 X Ic Ed) m a w->(∀g',Ed g'->∀w',CB Sh0 S0 w w'->X.Goal Sh0 S0 g' w')->KI j (CU W) .w1 st Gn->SP X gs w sl 0 (HK X j W .w1 .leaf m q) t:=by
  intro f0 Ic Ed m H1 AS v6 h k I;subst H1 AS;rcases LC h with Q|⟨Bx,rfl,Dl⟩
  ·obtain⟨_,Fh⟩:=Q w (Da.refl w);obtain⟨AA,rfl,rfl,_⟩:=I.open_inv trivial;obtain⟨a',s,AV,h1⟩:=Fh (Vc X.n (CU W)) (by omega) (by simpa[LD]using H);by_cases e:Vc X.n (CU W)=0
   ·obtain⟨J9,hk⟩:=AV e;have AH:AllQuit X.n (CU W):=λi hi=>by
     have hc:=fp (f:=λx=>GH (CU W x)) hi;have Jj:GH (CU W i)=0:=by simp only[Vc]at e;omega
     have:=AA i hi;simp only[GH]at Jj;split at Jj;·cases Jj
     omega
    have:=rJ (j:=X.n) (D:=CU W) (tag:=.ke) trivial AH;exact AD (N_ (sl:=sl) N K z s (MX X.Wg w) (QC rN) (.ke hk k) H (by simpa[e,LD]using this) (AD (by simp only[Ht];omega)))
   obtain⟨J9,hk⟩:=h1 e;exact AD (N_ (sl:=sl) N K z s (MX X.Wg w) (QC rN) (.w2 v6 hk k) H (I.reopen trivial trivial rfl λIb QF=>by cases QF;exact⟨Ae _,by omega⟩) (AD (by simp only[Ht];omega)))
  obtain⟨a',w',es,s,U,p⟩:=Dl w (Da.refl w);exact AD (PO (sl:=sl) N K z H I s U (λe=>by subst e;exact .w1 v6 p k) (by omega))
 have a5Q:∀{r:Nat}{τ:EC},r<X.n->j=X.n-(r+1)->BC=0->LV X.P A3 Sh0 (AtGo X (X.n-(r+1)) (E7 X r) Sh0) τ S0 a w->KI j (CU W) (Jx (r+1) 1) st Gn->SP X gs w sl 0 (HK X j W (Jx (r+1) 1) τ 0 q) t:=by
  intro r τ A2 H1 AS h I;subst H1 AS;cases τ with
  |node f=>obtain⟨a',w',es,S',s,Bn,JU⟩:=h.2 w (CB.refl _ _ _);exact AD (zV (sl:=sl) N K z H I s Bn (.sgo A2 JU) (.mk f w))
  |leaf=>
   obtain⟨_,a',child,a30,ti,LU,J4,C,I3,val,Fx,a6_,sp,hC,Ui,oB⟩:=h w (CB.refl _ _ _);obtain⟨aZe,Ui⟩:=Ui.G';obtain⟨AA,rfl,rfl,_⟩:=I.open_inv trivial;have HE:=runT_crowd_spawn (P:=X.P) (sl:=sl) (i:=0) K (by simpa using Fx);rw[z.size]at HE;let e:Em:={wd:=⟨7,0,0⟩,G':=Y aZe,S:=J4,Sh:=LU,C:=C,I3:=I3,val:=val};have TB:=z.spawn sp (a':=a') (child:=child) (x:={g:=0,fn:=a.frame.fn,pos:=a.frame.place,act:=.go (X.c0+(X.n-(r+1)))}) (y:={g:=X.c0+(X.n-(r+1)),fn:=child.frame.fn,pos:=a.frame.place,act:=.start}) ⟨rfl,rfl⟩ ⟨rfl,rfl⟩ (e:=e) rfl rfl rfl (by simp[e]) ⟨rfl,rfl,rfl,Ui⟩;have nE:Vc (X.n-(r+1)+1) (CU (CP W (X.n-(r+1)) e))=Vc (X.n-(r+1)) (CU W)+1:=by rw[kP];simp only[Vc,J_,Fs];rw[a'Q (CU W) _ GH (Ae _)];rfl
   have dV:fl (X.n-(r+1)+1) (CU (CP W (X.n-(r+1)) e))=fl (X.n-(r+1)) (CU W)+7:=by rw[kP];simp only[fl,J_,Fs];rw[a'Q (CU W) _ WD.stage (Ae _)]
   have uJ:eu (X.n-(r+1)+1) (CP W (X.n-(r+1)) e)=eu (X.n-(r+1)) W+1:=by simp only[eu,J_,Fs];rw[a'Q W _ Ke (Ae _)];rfl
   have PH:a'N (X.n-(r+1)+1) (CU (CP W (X.n-(r+1)) e)):=λi hi=>by
    rw[kP];by_cases e1:i=X.n-(r+1);·subst e1;rw[Fs];simp[e]
    rw[Ga _ _ e1];exact AA i (by omega)
   have ni:((gs.setIfInBounds 0 a').push child)[0]?=Y a':=by rw[H_ (by simp[z.size];omega),<-EP];exact SE (by rw[z.size];omega)
   have a4b:X.n-(r+1)+1=X.n-r:=by omega
   rw[a4b]at TB nE dV uJ PH;have aKg:((Vc (X.n-(r+1)) (CU W)+LD (Jx (r+1) 1):Nat):Int)*KK=((Vc (X.n-r) (CU (CP W (X.n-(r+1)) e))+LD (Jx r 6):Nat):Int)*KK:=by rw[nE];simp[LD]
   have j6:KI (X.n-r) (CU (CP W (X.n-(r+1)) e)) (Jx r 6) (((Vc (X.n-(r+1)) (CU W)+LD (Jx (r+1) 1):Nat):Int)*KK) 0:=by rw[aKg];exact rL trivial PH (by simp)
   cases r with|zero=>obtain⟨zi,hk⟩:=Way.G' oB;simp only[Nat.sub_zero]at TB nE dV uJ j6;refine AD ⟨_,_,_,HE,?_,_,w,sl,X.n,_,Jx 0 6,zi,0,0,a',_,_,a30,ti,q,B9,rfl,ni,.bk hk,TB,H,j6,rfl⟩;refine pC ?_;simp only[Ht];omega|succ As=>obtain⟨zi,hk⟩:=Way.G' oB;refine AD ⟨_,_,_,HE,?_,_,w,sl,X.n-(As+1),_,Jx (As+1) 6,zi,0,0,a',_,_,a30,ti,q,B9,rfl,ni,.KB (by omega) hk,TB,H,j6,rfl⟩;refine pC ?_;simp only[Ht];omega
 cases HW with
 |@KB r _ _ _ _ _ A2 h=>
  cases τ with
  |node f=>obtain⟨a',w',es,S',s,Bn,JU⟩:=h.2 w (CB.refl _ _ _);exact AD (zV (sl:=sl) N K z H I s Bn (.KB A2 JU) (.mk f w))
  |leaf=>
   obtain⟨Nx,m,AE,hk⟩:=(h w (CB.refl _ _ _)).2 ⟨_,_,H⟩;rcases LC AE with Q|⟨Bx,rfl,Dl⟩;·obtain⟨_,a',s,J9,A⟩:=Q w (Da.refl w);exact AD (N_ (sl:=sl) N K z s (MX X.Wg w) (QC rM) (.sa1 A2 A hk) H (I.reopen trivial trivial rfl (by simp)) (AD (by simp only[Ht];omega)))
   obtain⟨a',w',es,s,U,p⟩:=Dl w (Da.refl w);have Le:=I.reopen (tag':=Jx (r+1) 5) trivial trivial rfl (by simp);exact SP.less (μ':=HK X _ W (Jx (r+1) 5) .leaf (Bx+1) q) (AD (PO (sl:=sl) N K z H Le s U (λe=>by subst e;exact .skd A2 p hk) (by omega))) (by simp only[HK,Ht];omega)
 |bk h=>
  cases τ with
  |node f=>obtain⟨a',w',es,S',s,Bn,JU⟩:=h.2 w (CB.refl _ _ _);exact AD (zV (sl:=sl) N K z H I s Bn (.bk JU) (.mk f w))
  |leaf=>
   obtain⟨Ic,Ed,m,v6,AE,hk⟩:=(h w (CB.refl _ _ _)).2 ⟨_,_,H⟩;rcases LC AE with Q|⟨Bx,rfl,Dl⟩;·obtain⟨_,a',s,J9,A⟩:=Q w (Da.refl w);exact AD (N_ (sl:=sl) N K z s (MX X.Wg w) (QC rM) (.anch v6 A hk) H (I.reopen trivial trivial rfl (by simp)) (AD (by simp only[Ht];omega)))
   obtain⟨a',w',es,s,U,p⟩:=Dl w (Da.refl w);have Le:=I.reopen (tag':=.kd) trivial trivial rfl (by simp);exact SP.less (μ':=HK X _ W .kd .leaf (Bx+1) q) (AD (PO (sl:=sl) N K z H Le s U (λe=>by subst e;exact .kd v6 p hk) (by omega))) (by simp only[HK,Ht];omega)
 |skd A2 h k=>
  rcases LC h with Q|⟨Bx,rfl,Dl⟩;·obtain⟨_,a',s,J9,A⟩:=Q w (Da.refl w);exact AD (N_ (sl:=sl) N K z s (MX X.Wg w) (QC rM) (.sa1 A2 A k) H (I.reopen trivial trivial rfl (by simp)) (AD (by simp only[Ht];omega)))
  obtain⟨a',w',es,s,U,p⟩:=Dl w (Da.refl w);exact AD (PO (sl:=sl) N K z H I s U (λe=>by subst e;exact .skd A2 p k) (by omega))
 |@sa1 r m Nx _ _ _ _ A2 h k=>
  rcases LC h with Q|⟨Bx,rfl,Dl⟩
  ·obtain⟨_,Fh⟩:=Q w (Da.refl w);obtain⟨AA,rfl,rfl,_⟩:=I.open_inv trivial;obtain⟨a',s,J9,A⟩:=Fh (Vc (X.n-(r+1)) (CU W)) (by omega) (by simpa[LD]using H);have v6:=cA w (Ee X.Wg) (A7 EK ((((Vc (X.n-(r+1)) (CU W):Nat):Int)+1)*KK));refine AD (N_ (sl:=sl) N K z s v6 (QC bk_rw) (.ske A2 A λg' AI w2 h2=>k g' AI w2 ((yj v6).trans h2)) (H.setSt _) ?_ (AD (by simp only[Ht];omega)));have e:(((Vc (X.n-(r+1)) (CU W):Nat):Int)+1)*KK=((Vc (X.n-(r+1)) (CU W)+LD (Jx (r+1) 3):Nat):Int)*KK:=by simp[LD]
   rw[e];exact rL trivial AA (by simp)
  obtain⟨a',w',es,s,U,p⟩:=Dl w (Da.refl w);exact AD (PO (sl:=sl) N K z H I s U (λe=>by subst e;exact .sa1 A2 p k) (by omega))
 |ske A2 h k=>
  rcases LC h with Q|⟨Bx,rfl,Dl⟩;·obtain⟨_,a',s,J9,A⟩:=Q w (Da.refl w);exact AD (N_ (sl:=sl) N K z s (MX X.Wg w) (QC bk_en) (.ek A2 A k) H (I.reopen trivial trivial rfl (by simp)) (AD (by simp only[Ht];omega)))
  obtain⟨a',w',es,s,U,p⟩:=Dl w (Da.refl w);exact AD (PO (sl:=sl) N K z H I s U (λe=>by subst e;exact .ske A2 p k) (by omega))
 |ek A2 h k=>
  rcases LC h with Q|⟨Bx,rfl,Dl⟩;·obtain⟨Qv,J8⟩:=(k a (Q w (Da.refl w)) w (CB.refl _ _ _)).G';exact SP.less (a5Q A2 rfl rfl J8 (I.reopen trivial trivial rfl (by simp))) (by simp only[HK,Ht];omega)
  obtain⟨a',w',es,s,U,p⟩:=Dl w (Da.refl w);exact AD (PO (sl:=sl) N K z H I s U (λe=>by subst e;exact .ek A2 p k) (by omega))
 |sgo A2 h=>exact a5Q A2 rfl rfl h I
 |kd v6 h k=>
  rcases LC h with Q|⟨Bx,rfl,Dl⟩;·obtain⟨_,a',s,J9,A⟩:=Q w (Da.refl w);exact AD (N_ (sl:=sl) N K z s (MX X.Wg w) (QC rM) (.anch v6 A k) H (I.reopen trivial trivial rfl (by simp)) (AD (by simp only[Ht];omega)))
  obtain⟨a',w',es,s,U,p⟩:=Dl w (Da.refl w);exact AD (PO (sl:=sl) N K z H I s U (λe=>by subst e;exact .kd v6 p k) (by omega))
 |anch v6 h k=>
  rcases LC h with Q|⟨Bx,rfl,Dl⟩;·obtain⟨J9,A⟩:=(v6 a (Q w (Da.refl w))).2 w ⟨_,_,H⟩;exact SP.less (aCO (f0:=0) rfl rfl v6 A k (I.reopen trivial trivial rfl (by simp))) (by simp only[HK,Ht];omega)
  obtain⟨a',w',es,s,U,p⟩:=Dl w (Da.refl w);exact AD (PO (sl:=sl) N K z H I s U (λe=>by subst e;exact .anch v6 p k) (by omega))
 |w1 v6 h k=>exact aCO (f0:=0) rfl rfl v6 h k I
 |@w2 Ib m Ic Ed _ _ _ _ v6 h k=>
  rcases LC h with Q|⟨Bx,rfl,Dl⟩
  ·obtain⟨_,Fh⟩:=Q w (Da.refl w);obtain⟨AA,rfl,rfl,J8⟩:=I.open_inv trivial;obtain⟨Eg,h1⟩:=J8 Ib rfl;obtain⟨aNV,aO9⟩:=Fh (Vc X.n (CU W)) (by omega) (by simpa[LD]using H);by_cases e:Vc X.n (CU W)=Ib;·obtain⟨a',s,J9,A⟩:=aNV e;have JO:=cA w (Ee X.Wg) (A7 EK (((Vc X.n (CU W):Nat):Int)*KK+1));exact AD (N_ (sl:=sl) N K z s JO (QC bk_rw) (.w3 A λg' AI w2 h2=>k g' AI w2 ((yj JO).trans h2)) (H.setSt _) (a'M trivial AA (by omega)) (AD (by simp only[Ht];omega)))
   obtain⟨a',s,J9,A⟩:=aO9 e;exact AD (N_ (sl:=sl) N K z s (MX X.Wg w) (QC rN) (.anch v6 A k) H (I.reopen trivial trivial rfl (by simp)) (AD (by simp only[Ht];omega)))
  obtain⟨a',w',es,s,U,p⟩:=Dl w (Da.refl w);exact AD (PO (sl:=sl) N K z H I s U (λe=>by subst e;exact .w2 v6 p k) (by omega))
 |w3 h k=>
  rcases LC h with Q|⟨Bx,rfl,Dl⟩;·obtain⟨_,NU,iV,bF⟩:=Q w (Da.refl w);cases I with|opn h1 _ _=>exact h1.elim|reg h1 h2 h3=>exact AD (N_ (sl:=sl) N K z (iV ⟨_,H⟩) (MX X.Wg w) (by simp) (.blk Q k) H (a'M trivial h2 h3) (AJ ⟨rfl,AJ ⟨rfl,by omega⟩⟩))|last L h1 h2 h3 h4=>exact AD (N_ (sl:=sl) N K z (iV ⟨_,H⟩) (MX X.Wg w) (by simp) (.blk Q k) H (rK L trivial h2 h3 h4) (AJ ⟨rfl,AJ ⟨rfl,by omega⟩⟩))|sema h2=>obtain⟨a',s,J9,A⟩:=bF H;have JO:=cA w (Wv X.Wg) (A7 fy 0);exact AD (N_ (sl:=sl) N K z s JO (QC bk_sem) (.w4 A λg' AI w2 h2=>k g' AI w2 ((yj JO).trans h2)) (H.setSm 0) (rJ trivial h2) (AD (by simp only[Ht];omega)))|fin h1 _=>exact h1.elim
  obtain⟨a',w',es,s,U,p⟩:=Dl w (Da.refl w);exact AD (PO (sl:=sl) N K z H I s U (λe=>by subst e;exact .w3 p k) (by omega))
 |blk h k=>simp at v1
 |w4 h k=>
  rcases LC h with Q|⟨Bx,rfl,Dl⟩;·obtain⟨_,hx⟩:=Q w (Da.refl w);obtain⟨AH,rfl,rfl⟩:=I.fin_inv trivial;obtain⟨a',s,J9,A⟩:=hx H;exact AD (N_ (sl:=sl) N K z s (MX X.Wg w) (QC rN) (.ke A k) H (rJ trivial AH) (AD (by simp only[Ht];omega)))
  obtain⟨a',w',es,s,U,p⟩:=Dl w (Da.refl w);exact AD (PO (sl:=sl) N K z H I s U (λe=>by subst e;exact .w4 p k) (by omega))
 |ke h k=>
  rcases LC h with Q|⟨Bx,rfl,Dl⟩;·obtain⟨_,a',s,J9,A⟩:=Q w (Da.refl w);obtain⟨AH,rfl,rfl⟩:=I.fin_inv trivial;exact AD (N_ (sl:=sl) N K z s (MX X.Wg w) (QC bk_en) (.acq A k) H (rJ trivial AH) (AD (by simp only[Ht];omega)))
  obtain⟨a',w',es,s,U,p⟩:=Dl w (Da.refl w);exact AD (PO (sl:=sl) N K z H I s U (λe=>by subst e;exact .ke p k) (by omega))
 |acq h k=>
  rcases LC h with Q|⟨Bx,rfl,Dl⟩
  ·obtain⟨_,a',s,aNM⟩:=Q w (Da.refl w);obtain⟨AH,rfl,rfl⟩:=I.fin_inv trivial;have HE:=Qz (P:=X.P) (sl:=sl) (i:=0) K (by simpa using s);have IB:∀l,l≠0->((gs.map (Po X.P a a' w)).setIfInBounds 0 a')[l]?=gs[l]?:=by
    intro l YB;rw[ZD _ _ _ _ (Gu YB)];rcases J2 l X.c0 with hlt|OF;·cases IT:gs[l]? with|none=>rfl|some x=>rw[LQ,ZC (z.old l x (by omega) hlt IT)]
    cases IT:gs[l]? with
    |none=>rfl
    |some x=>
     have Fc:l-X.c0<X.n:=by have:=(Array.getElem?_eq_some_iff.1 IT).1;rw[z.size]at this;omega
     obtain⟨y,hy,PL⟩:=z.wk (l-X.c0) Fc;rw[show X.c0+(l-X.c0)=l by omega,IT]at hy;obtain rfl:=CH hy;rw[LQ,PL.woken]
   obtain⟨EG,KW⟩:=z.joined AH (gsn:=(gs.map (Po X.P a a' w)).setIfInBounds 0 a') (a':=a') (by simp) (fo _ _ _ (by rw[z.size];omega)) IB a.frame.fn a.frame.place;refine AJ ⟨_,_,HE,_,w,sl,a',EG,Sh0,S0,B9,rfl,by simp[z.size],KW,k a' aNM w (CB.refl _ _ _),⟨_,_,H⟩,z.Vg,z.chan,λi=>?_,z.nodup,λi v hv=>?_⟩;·rw[z.Ni i];refine⟨λx=>x.1,λx=>⟨x,?_⟩⟩;obtain⟨g,_,hs⟩:=z.wk i x;have h1:(W i).wd.stage=1:=AH i x;unfold Jg at hs;cases I1:(W i).G' with|some τ=>rw[I1]at hs;have:=hs.1;omega|none=>rfl
   obtain⟨M,h1,h2⟩:=z.msg i v hv;have Fi:i<X.n:=((z.Ni i).1 ⟨v,hv⟩).1;refine⟨M,λb hb=>?_,h2⟩;have PI:B2 X X.n S0 W (X.c0+i) b:=AJ ⟨i,Fi,rfl,(h1 b hb).1⟩;exact⟨z.ro.low _ b (AD PI),λx=>(z.ro.wg _ b x).1 PI,z.KR _ b (AD PI),λx=>by have:=z.ro.apart _ 0 b PI (AD ⟨rfl,x⟩);have:=z.pos;omega,λx=>z.ro.Tc _ 0 b PI (AD ⟨rfl,x⟩)⟩
  obtain⟨a',w',es,s,U,p⟩:=Dl w (Da.refl w);exact AD (PO (sl:=sl) N K z H I s U (λe=>by subst e;exact .acq p k) (by omega))
end
end
section
open Go.Conc(G solo Deaf QuitsD Goes crowd crowd_pick woken Aside awake awake_of runT_crowd_go woken_quitsD Perm)
open Go.ConcN(WgLive upd upd_same upd_ne WD WSit CTag Vc Ssum Fsum cnt pend phi sumTo RW)
open Go.ConcR(KK WgAt wgBlock stA smA rd wr mk Payload)
variable[CV]
section
variable{X:HQ}{j:Nat}{gs:Array AR}{w w':A0}{sl:Option (Nat×Nat)}{t:Dh}{W:Nat->Em}{tag:Pp}{τ:EC}{f0 BC:Nat}{a:AR}{Sh0 S0:zy}{q:Nat->Nat}{B9:List (Nat×A1)}{st Gn:Int}
def Jg.runs{i:Nat}{e:Em}{g:AR}(h:Jg X i e g w)(hs:e.wd.stage≠1):g.status=DJ:=by unfold Jg at h;cases y:e.G' with|some τ=>rw[y]at h;exact LV.status (λ_ _ _ x=>x.1) h.2.2.2|none=>rw[y]at h;have b:=h.1;generalize e.wd.stage=s at b hs;generalize e.wd.fuel=m at b;generalize e.wd.deaf=d at b;cases b with|r0 h=>exact c9 (λ_ _ x=>x.1) w (MY w) h|k1 h=>exact c9 (λ_ _ x=>x.1) w (MY w) h|d1 h=>exact c9 (λ_ _ x=>x.1) w (MY w) h|d2 h=>exact c9 (λ_ _ x=>x.1) w (MY w) h|d3 h=>exact c9 (λ_ _ x=>x.1) w (MY w) h|d4 h=>exact c9 (λ_ _ x=>x.1) w (MY w) h|quit h=>exact absurd rfl hs
def G5.awake(s:G5 X j gs w t W Sh0 S0 q BC B9)(z:gs[0]?=Y a)(N:FM X tag j τ f0 BC Sh0 S0 a w):∀g∈gs,aDD g:=by
 intro g K;obtain⟨k,H,rfl⟩:=Array.mem_iff_getElem.1 K;have b:=EP H;by_cases I:k=0
 ·subst I;have:gs[0]=a:=by rw[b]at z;exact CH z
  rw[this];rcases N.status λ_=>AJ trivial with h|h;·exact ff (AD h.1)
  exact ff (AJ (AD h.1))
 rcases J2 k X.c0 with hlt|U;·exact ff ((s.old k _ (by omega) hlt b).status.elim AD λx=>AJ (AJ x))
 have M:k-X.c0<j:=by rw[s.size]at H;omega
 obtain⟨y,hy,Q⟩:=s.wk (k-X.c0) M;rw[show X.c0+(k-X.c0)=k by omega,b]at hy;rw[CH hy];exact ff (Q.status.elim AD λx=>AJ (AJ x))
def G5.aX1(I:G5 X j gs w t W Sh0 S0 q BC B9)(s:gs[0]?=Y a)(H:FM X tag j τ f0 BC Sh0 S0 a w)(z:KI j (CU W) tag st Gn):∃(i:Nat)(g:AR),gs[i]?=Y g/\g.status=.running:=by
 rcases H.status λ_=>AJ trivial with h|⟨_,rfl,_⟩;·exact⟨0,a,s,h.1⟩
 have wk:∀i,i<j->(W i).wd.stage≠1->∃(i:Nat)(g:AR),gs[i]?=Y g/\g.status=.running:=λi hi hs=>by obtain⟨g,y,K⟩:=I.wk i hi;exact⟨_,g,y,K.runs hs⟩
 cases z with
 |opn b _ _=>exact b.elim
 |reg b h2 h3=>
  have:∃i,i<j/\GH (CU W i)=1:=by
   refine bs λhn=>?_;have:Vc j (CU W)=0:=by
    have M:=aZu (f:=λi=>GH (CU W i)) (c:=0) (j:=j) λi hi=>by
     have:¬GH (CU W i)=1:=λx=>hn ⟨i,hi,x⟩;simp only[GH]at this⊢;split at this;·exact absurd rfl this
     rename_i h;rw[if_neg h];exact Ae _
    simp only[Vc];omega
   omega
  obtain⟨i,hi,hc⟩:=this;refine wk i hi λe=>?_;simp only[GH,CU,e]at hc;cases hc
 |last L b h2 h3 h4=>refine wk L h2 λe=>?_;simp only[CU,e]at h3;omega
 |fin b _=>exact b.elim
def aTy(N:X.M2)(hn:X.n<2147483648)(Kh:Xe)(m:Tt)(t:Dh)(h:Inv X Kh m t):∃I ops,gP X.P m=(Ds I,ops)/\((∃b,LS (X.n+1) b Kh/\Inv X b I (t++ops))∨cv X I (t++ops)):=by
 obtain⟨gs,w,sl,j,W,tag,τ,f0,BC,a,st,Gn,Sh0,S0,q,B9,rfl,s,C,l,Bq,H,rfl⟩:=h;obtain⟨i,g,d,DX,K,D,Dl⟩:=Wr (P:=X.P) (w:=w) (sl:=sl) (l.awake s C) (l.aX1 s C H);rw[Dl];have Q:=C.rely (CB.at Sh0 S0 w d) λx=>x;have M:=l.at N d;have U:Ja X.ty X.Wg (w.at d) st Gn:=Bq;have z:SP X gs (w.at d) DX i (HK X j W tag τ f0 q) t->∃I ops,N9 X.P (EV gs (w.at d) DX) i=(Ds I,ops)/\((∃b,LS (X.n+1) b (HK X j W tag τ f0 q)/\Inv X b I (t++ops))∨cv X I (t++ops)):=by
  rintro(⟨E_,ops,b,h1,h2,h3⟩|⟨E_,ops,h1,h2⟩);·exact⟨E_,ops,h1,AD ⟨b,h2,h3⟩⟩
  exact⟨E_,ops,h1,AJ h2⟩
 by_cases AV:i=0;·subst AV;rw[s]at K;obtain rfl:=CH K;exact z (aXP N hn s Q M U H D)
 rcases J2 i X.c0 with hlt|OF;·exact z (AD (aQi s Q M U H (by omega) hlt K D λtag' AP=>H.retag AP))
 have p:i-X.c0<j:=by have:=(Array.getElem?_eq_some_iff.1 K).1;rw[l.size]at this;omega
 obtain⟨y,hy,PL⟩:=M.wk (i-X.c0) p;have uL:X.c0+(i-X.c0)=i:=by omega
 rw[uL,K]at hy;obtain rfl:=CH hy;refine z (AD ?_);have NR:gs[X.c0+(i-X.c0)]?=Y g:=by rw[uL];exact K
 rw[<-uL];cases A:(W (i-X.c0)).G' with|none=>exact aXR N hn s Q M U H p NR D A PL|some SB=>have hs:=PL;unfold Jg at hs;rw[A]at hs;obtain⟨ED,Sy,OD,Ui⟩:=hs;cases SB with|leaf=>exact aXS N s Q M U H p NR A ED Sy (Ui _ (CB.refl _ _ _))|node f=>obtain⟨g',w',es,S',m0,Bn,JU⟩:=Ui.2 _ (CB.refl _ _ _);exact aXT N s Q M U H p NR A ED Sy OD m0 Bn (.mk f _) JU
def aAd(K:X.M2)(hn:X.n<2147483648)(y:Xe):∀(m:Tt)(t:Dh),Inv X y m t->∃N b s,Ey X.P N m t=(Ds b,s)/\cv X b s:=by
 induction y using(aW7 (X.n+1)).induction with
 |h y U=>
  intro m t h;obtain⟨H,ops,hs,M⟩:=aTy K hn y m t h;rcases M with⟨z,hlt,hi⟩|Q;·obtain⟨N,b,s,I,h2⟩:=U z hlt H _ hi;exact⟨N+1,b,s,by simp only[Ey,hs];exact I,h2⟩
  exact⟨1,H,_,by simp only[Ey,hs],Q⟩
def X_(Wb:zy)(Wg Ch B:Nat):zy:=λb=>b<B/\¬Wb b/\b≠Wg/\b≠Ch
structure Z3(X:HQ)(a:AR)(w:A0):Prop where
 run:a.status=DJ
 wg:X.Wg=w.heap.size
 go:∀d8,CB (λ_=>False) (EW X.Wb w.heap.size) w d8->d8.heap.size=w.heap.size->∃a',Bi X.P A3 a d8=Cw a' {d8 with heap:=d8.heap.push (Nw X.ty 0 0)} #[]/\E7 X X.n (λ_=>False) (X_ X.Wb X.Wg X.Ch (d8.heap.size+1)) a' {d8 with heap:=d8.heap.push (Nw X.ty 0 0)}
 ch:∃tm,w.heap[X.Ch]?=Y (Jb X.n #[] A9 0 0 tm)
 my:EW X.Wb w.heap.size X.Ch
def aAc(h:De X.P X.Wb gs w t q a)(AI:Z3 X a w)(N:X.c0=gs.size)(aa6:X.N0=t.size){a':AR}(hs:E7 X X.n (λ_=>False) (X_ X.Wb X.Wg X.Ch (w.heap.size+1)) a' {w with heap:=w.heap.push (Nw X.ty 0 0)})(fn:ZG)(pos:String){gsn:Array AR}(rg:gsn.size=gs.size)(KY:gsn[0]?=Y a')(IB:∀k,k≠0->gsn[k]?=gs[k]?):∃Kh,Inv X Kh (EV gsn {w with heap:=w.heap.push (Nw X.ty 0 0)} sl) (t++Km 0 fn pos #[]):=by
 have i7:0<gs.size:=(Array.getElem?_eq_some_iff.1 h.zero).1;have hc:0<X.c0:=by rw[N];exact i7
 have M:t++Km 0 fn pos #[]=t:=by rw[fi];simp
 rw[M];obtain⟨tm,Fa⟩:=AI.ch;have Q:X.Ch<w.heap.size:=AI.my.1;have m:X.Ch≠X.Wg:=by rw[AI.wg];omega
 let W:Nat->Em:=λ_=>⟨⟨1,0,0⟩,Z,λ_=>False,λ_=>False,0,0,A'⟩;let S0:=X_ X.Wb X.Wg X.Ch (w.heap.size+1);have z:∀g b,B2 X 0 S0 W g b↔g=0/\S0 b:=λg b=>⟨λx=>x.elim id λ⟨i,hi,_⟩=>absurd hi (by omega),AD⟩;have I:∀g b,¬Bt X 0 (λ_=>False) W g b:=λg b x=>x.elim (λy=>y.2) λ⟨i,hi,_⟩=>absurd hi (by omega);have K:∀b,S0 b->b<w.heap.size:=λb hb=>by have H:=hb.1;have h2:=hb.2.2.1;rw[AI.wg]at h2;omega
 have FJ:Mj X.BW (X.c0+0) (w.heap.push (Nw X.ty 0 0)).size (B2 X 0 S0 W) (Bt X 0 (λ_=>False) W):=by
  refine⟨λg h b x y=>((z g b).1 x).1.trans ((z h b).1 y).1.symm,λg h b _ y=>I h b y,λg b s=>⟨λx=>?_,λx=>I g b x⟩,λg b x=>?_,λg b x=>?_,λb s=>?_⟩
  ·obtain⟨_,hb⟩:=(z g b).1 x;rcases s with s|s;·exact hb.2.1 s
   exact hb.2.2.1 s
  ·rcases x with x|x;·have:=K b ((z g b).1 x).2;simp only[bq];omega
   exact absurd x (I g b)
  ·rcases x with x|x;·rw[((z g b).1 x).1];omega
   exact absurd x (I g b)
  simp only[bq];rcases s with s|s;·have:=h.Pb b s;omega
  rw[s,AI.wg];omega
 have QX:JK X.BW (X.c0+0) (w.heap.push (Nw X.ty 0 0)).size (B2 X 0 S0 W) (Bt X 0 (λ_=>False) W) t:=by
  refine h.Jt.hand (by omega) (by simp) (λb hb=>?_) (λg b hb l AE=>?_) λg b hb=>absurd hb (I g b)
  ·rcases hb with hb|hb;·exact AD hb
   exact AJ (by rw[hb,AI.wg];exact Ae _)
  obtain⟨rfl,Au⟩:=(z g b).1 hb;exact h.Jt.own 0 b ⟨rfl,K b Au,Au.2.1⟩ l AE
 have au:U6 X.BW X.c0 t:=by rw[N];exact⟨λi x hx hm hn=>h.OO.known i x hx hm λ⟨b,H,h2⟩=>hn ⟨b,AD H,h2⟩,h.OO.over⟩
 have p:G5 X 0 gsn {w with heap:=w.heap.push (Nw X.ty 0 0)} t W (λ_=>False) S0 q 0 []:=by
  refine⟨by rw[rg,N];rfl,hc,λi g H h2 h3=>?_,λi hi=>absurd hi (by omega),FJ,QX,au,h.hears,λi hi=>absurd hi (by omega),λi hi hx=>?_,⟨by omega,λi g H h2=>?_⟩,λi hi=>absurd hi (by omega),⟨tm,?_⟩,λg b hb=>?_,m,λi=>⟨λ⟨v,hv⟩=>(by cases hv),λC7=>by omega⟩,by simp,λi v hv=>by cases hv⟩;·rw[IB i (by omega)]at h3;exact h.leave.old i g H h3
  ·have:=aDF hx;omega
  ·obtain⟨op,AA,oD⟩:=Option.map_eq_some_iff.1 H;have:=h.Jt.gs i op AA;omega
  ·show(w.heap.push _)[X.Ch]?=_;rw[H_ Q,<-EP];exact Fa
  rcases hb with hb|hb;·exact((z g b).1 hb).2.2.2.2
  exact absurd hb (I g b)
 have A:Ja X.ty X.Wg {w with heap:=w.heap.push (Nw X.ty 0 0)} 0 0:=by show(w.heap.push (Nw X.ty 0 0))[X.Wg]?=_;rw[AI.wg,zn]
 have C:∀r,KI 0 (CU W) (Jx r 6) 0 0:=λr=>by have:=rL (j:=0) (D:=CU W) (tag:=Jx r 6) trivial λi hi=>by omega (by simp);simpa[Vc,J_,LD]using this
 cases hn:X.n with|zero=>rw[hn]at hs;obtain⟨τ,U⟩:=Way.G' hs;have:=FM.bk (X:=X) U;rw[hn]at this;exact⟨_,gsn,_,sl,0,W,Jx 0 6,τ,0,0,a',0,0,_,S0,q,[],rfl,KY,this,p,A,C 0,rfl⟩|succ r=>rw[hn]at hs;obtain⟨τ,U⟩:=Way.G' hs;have:=FM.KB (X:=X) (r:=r) (by omega) U;rw[hn,aHR]at this;exact⟨_,gsn,_,sl,0,W,Jx (r+1) 6,τ,0,0,a',0,0,_,S0,q,[],rfl,KY,this,p,A,C _,rfl⟩
def phase(Al:∀N0,({X with N0:=N0}:HQ).M2)(hn:X.n<2147483648)(Q:∀N0,Z3 {X with N0:=N0} a w):∀(M:Nat)(b:A0)(gs:Array AR)(sl:Option (Nat×Nat))(t:Dh)(q:Nat->Nat),X.c0=gs.size->CB (λ_=>False) (EW X.Wb w.heap.size) w b->b.heap.size=w.heap.size->(∀N0,Z3 {X with N0:=N0} a b)->J_ gs.size q<=M->De X.P X.Wb gs b t q a->∃N s y N0,Ey X.P N (EV gs b sl) t=(Ds s,y)/\cv {X with N0:=N0} s y:=by
 intro M;induction M with
 |zero=>
  intro b gs sl t q m A2 rg h A hc;obtain⟨i,g,d,H,hi,z,Bm⟩:=Wr (P:=X.P) (w:=b) (sl:=sl) (hc.awake (Q 0).run) ⟨0,a,hc.zero,(Q 0).run⟩;rcases UB i with rfl|p
  ·obtain rfl:g=a:=by rw[hc.zero]at hi;exact(CH hi).symm
   obtain⟨I,C,hs⟩:=(h t.size).go (b.at d) (CB.at _ _ _ _) rfl;have U:=Qz (P:=X.P) (sl:=H) (i:=0) hi (show Bi X.P (0==0) g (b.at d)=_ from C);have hlt:0<gs.size:=(Array.getElem?_eq_some_iff.1 hc.zero).1;have D:Z3 {X with N0:=t.size} g (b.at d):=⟨(h t.size).run,(h t.size).wg,λl h2 h3=>(h t.size).go l ((CB.at _ _ _ d).trans h2) h3,(h t.size).ch,(h t.size).my⟩;obtain⟨Kh,Im⟩:=aAc (X:={X with N0:=t.size}) (sl:=H) (hc.at d) D m rfl hs g.frame.fn g.frame.place (gsn:=(gs.map (Po X.P g I {b.at d with heap:=(b.at d).heap.push (Nw X.ty 0 0)})).setIfInBounds 0 I) (by simp) (fo _ _ _ hlt) (λk hk=>by rw[ZD _ _ _ _ (Gu hk)];cases IT:gs[k]? with|none=>rfl|some x=>rw[LQ,ZC (hc.leave.old k x (by omega) IT)]);obtain⟨N,s,y,K,h2⟩:=aAd (X:={X with N0:=t.size}) (Al t.size) hn Kh _ _ Im;exact⟨N+1,s,y,t.size,by simp only[Ey,Bm,U];exact K,h2⟩
  have AH:=hc.leave.old i g p hi;have hlt:i<gs.size:=(Array.getElem?_eq_some_iff.1 hi).1;have:q i<=J_ gs.size q:=fp hlt;have TE:q i=0:=by omega
  rw[TE]at AH;rw[AH.1]at z;cases z
 |succ M ih=>
  intro b gs sl t q m A2 rg h A hc;obtain⟨i,g,d,H,hi,z,Bm⟩:=Wr (P:=X.P) (w:=b) (sl:=sl) (hc.awake (Q 0).run) ⟨0,a,hc.zero,(Q 0).run⟩;rcases UB i with rfl|p
  ·obtain rfl:g=a:=by rw[hc.zero]at hi;exact(CH hi).symm
   obtain⟨I,C,hs⟩:=(h t.size).go (b.at d) (CB.at _ _ _ _) rfl;have U:=Qz (P:=X.P) (sl:=H) (i:=0) hi (show Bi X.P (0==0) g (b.at d)=_ from C);have hlt:0<gs.size:=(Array.getElem?_eq_some_iff.1 hc.zero).1;have D:Z3 {X with N0:=t.size} g (b.at d):=⟨(h t.size).run,(h t.size).wg,λl h2 h3=>(h t.size).go l ((CB.at _ _ _ d).trans h2) h3,(h t.size).ch,(h t.size).my⟩;obtain⟨Kh,Im⟩:=aAc (X:={X with N0:=t.size}) (sl:=H) (hc.at d) D m rfl hs g.frame.fn g.frame.place (gsn:=(gs.map (Po X.P g I {b.at d with heap:=(b.at d).heap.push (Nw X.ty 0 0)})).setIfInBounds 0 I) (by simp) (fo _ _ _ hlt) (λk hk=>by rw[ZD _ _ _ _ (Gu hk)];cases IT:gs[k]? with|none=>rfl|some x=>rw[LQ,ZC (hc.leave.old k x (by omega) IT)]);obtain⟨N,s,y,K,h2⟩:=aAd (X:={X with N0:=t.size}) (Al t.size) hn Kh _ _ Im;exact⟨N+1,s,y,t.size,by simp only[Ey,Bm,U];exact K,h2⟩
  have AH:=hc.leave.old i g p hi;have MB:(i==0)=A9:=by simp;omega
  have hlt:i<gs.size:=(Array.getElem?_eq_some_iff.1 hi).1;cases Li:q i with
  |zero=>rw[Li]at AH;rw[AH.1]at z;cases z
  |succ k=>
   rw[Li]at AH;rcases AH with⟨AK,_⟩|⟨_,g',es,hm,WC,NV⟩;·rw[AK]at z;cases z
   have U:=Qz (P:=X.P) (sl:=H) (i:=i) hi (by rw[MB];exact WC (b.at d));have K6:J_ gs.size (CP q i k)+(k+1)=J_ gs.size q+k:=by have:=Wu q k id hlt;simpa[Li]using this
   have I9:=(hc.at d).slip (Q 0).run p hi hm NV g.frame.fn g.frame.place;obtain⟨N,s,y,N0,K,h2⟩:=ih (b.at d) _ H _ (CP q i k) (by simp[m]) (A2.trans (CB.at _ _ _ d)) rg (λN0=>⟨(h N0).run,(h N0).wg,λl h2 h3=>(h N0).go l ((CB.at _ _ _ d).trans h2) h3,(h N0).ch,(h N0).my⟩) (by simp;omega) I9;exact⟨N+1,s,y,N0,by simp only[Ey,Bm,U];exact K,h2⟩
end
end
section
open Go.Conc Go.RowKit Go.Conc.Lib Go.ConcR.Gen Go.ConcN.Gen
open Go.ConcN(WgLive)
open Go.ConcR(KK wgBlock WgAt stA smA rd wr mk Payload DC0)
variable{b₀:Ag}{ops₀:Array BR}{k₀:List Cb}{rest₀:List Nat}{i₀:Nat}{a₀:Nu}
variable[CV]{L:kt}{X:HQ}
omit[CV]in def AG{w d8:A0}{UH:HQ}(h:JD UH.ty UH.Wg w)(r:Da UH w d8):JD UH.ty UH.Wg d8:=r h
omit[CV]in def Cp.more{Stop:AR->A0->Prop}{m:Nat}{g:AR}{w:A0}(h:Cp X Stop m g w):∀k,Cp X Stop (m+k) g w|0=>h|k+1=>Goes.more (Cp.more h k)
omit[CV]in def Cp.of{Stop:AR->A0->Prop}:∀{n:Nat}{g:AR}{w:A0},Z9 X.P A3 (Da X) DC0 Stop n g w->Cp X Stop n g w
 |0,_,_,h=>h
 |n+1,g,w,h=>by
  rcases h with h|⟨hs,h⟩;·exact AD h
  refine AJ ⟨hs,λs b=>?_⟩;have:=h s b;revert this;cases Bi X.P A3 g s with|go z w' y=>exact λ⟨⟨e1,e2⟩,k⟩=>⟨⟨e1,by rw[e2];simp⟩,Cp.of k⟩|_=>exact id
omit[CV]in def Cp.glue{Stop:AR->A0->Prop}{m:Nat}:∀{n:Nat}{g:AR}{w:A0},Z9 X.P A3 (Da X) DC0 (λg w=>Cp X Stop m g w) n g w->Cp X Stop (n+m) g w
 |0,_,w,h=>by rw[LO];exact h w id
 |n+1,g,w,h=>by
  rcases h with h|⟨hs,h⟩;·have:=h w id;rw[Nat.add_comm];exact Cp.more this (n+1)
  rw[show n+1+m=n+m+1 by omega];refine AJ ⟨hs,λs b=>?_⟩;have:=h s b;revert this;cases Bi X.P A3 g s with|go z w' y=>exact λ⟨⟨e1,e2⟩,k⟩=>⟨⟨e1,by rw[e2];simp⟩,Cp.glue k⟩|_=>exact id
variable{L:kt}{X:HQ}
def aHg(H:WgLib X.P L)(M:X.ty=L.tWg){Nx:AR->Prop}{cs:List Ag}(l:Nx (G (b₀.at (a₀.put (ops₀[i₀]?.bind (·.dst)) (Ay #[])) (B1 ops₀ rest₀::k₀)) cs))(w:A0)(b:JD X.ty X.Wg w):Cp X (AtKdS X Nx) 12 (G ((B5 L.add).at ⟨#[Ad (Y ⟨X.Wg,0,Z⟩),A7 A8 1,A',A',A',A',A',A',A',A',A',A',A',A',A',A',A',A',A',A',A',A',A',A',A',A',A',A',A',A',A',A',A',A',A',A',A',A',A',A',A',A',A',A',A',A',A',A',A',A',A',A',A',A',A',A',A',A',A',A',A',A',A',A',A',A',A',A',A',A',A',A',A',A',A',A',A',A',A',A',A',A',A',A',A',A',A',A',A',A',A',A',A',A',A',A',A',A',A',A',A',A',A',A',A',A',A',A',A',A',A',A',A',A',A',A',A'],[]⟩ [BS (a'R L)]) (b₀.at a₀ (B1 ops₀ (i₀::rest₀)::k₀)::cs)) w:=by
 lib_facts;simp only[a'R,addFn,G4];refine Cp.of ?_;repeat(first|u_c stepG_seq AG b|u_c stepG_region_end AG b|u_c stepG_skip AG b|u_reg AG b)
 u_cond true AG b;repeat(first|u_c stepG_seq AG b|u_c stepG_region_end AG b|u_c stepG_skip AG b|u_reg AG b)
 iterate 2 u_op AG b
 repeat(first|u_c stepG_seq AG b|u_c stepG_region_end AG b|u_c stepG_skip AG b|u_reg AG b)
 u_cond false AG b;repeat(first|u_c stepG_seq AG b|u_c stepG_region_end AG b|u_c stepG_skip AG b|u_reg AG b)
 refine KG λd8 s=>?_;replace b:=AG b s;clear s;refine⟨rfl,_,rE ZO (by simp) rfl rfl (by k_ne) rfl H.f_disable (aDd L) (aDb L) (aDe L) (aDc L),40,?_⟩;refine Cp.of ?_;walk_nrm;u_c stepG_region_end AG b;u_reg AG b;u_defer AG b;repeat(first|u_c stepG_seq AG b|u_c stepG_region_end AG b|u_c stepG_skip AG b|u_reg AG b)
 u_op AG b;repeat(first|u_c stepG_seq AG b|u_c stepG_region_end AG b|u_c stepG_skip AG b|u_reg AG b)
 u_bub AG b;repeat(first|u_c stepG_seq AG b|u_c stepG_region_end AG b|u_c stepG_skip AG b|u_reg AG b)
 u_cond false AG b;repeat(first|u_c stepG_seq AG b|u_c stepG_region_end AG b|u_c stepG_skip AG b|u_reg AG b)
 iterate 6 u_op AG b
 u_call H.f_uAdd(nm_uAdd L)uAddFn AG b;repeat(first|u_c stepG_seq AG b|u_c stepG_region_end AG b|u_c stepG_skip AG b|u_reg AG b)
 u_op AG b;repeat(first|u_c stepG_seq AG b|u_c stepG_region_end AG b|u_c stepG_skip AG b|u_reg AG b)
 iterate 4 u_op AG b
 refine KG λN m=>?_;replace b:=AG b m;clear m;refine⟨rfl,λv hv h=>?_⟩;rw[M]at h;rcases UB v with rfl|C
 ·replace h:Ja L.tWg X.Wg N 0 0:=by simpa using h
  have z:(((0:Nat):Int)+1)*KK=KK:=by simp
  rw[z];have D:EK.wrap (0+4294967296)=KK:=by decide
  refine⟨_,(aDJ rfl rfl (by k_ne) rfl H.f_addU64 (aDW L) (aDU L) (aDX L) EK (aDV L) rfl rfl h.cellSt (h.thaw 0)).trans (by rw[D];rfl),60+60,?_⟩;replace b:JD X.ty X.Wg (N.setCell (Ee X.Wg) (A7 EK KK)):=by rw[M];exact⟨_,_,h.setSt _⟩
  clear h;simp only[KK]at b⊢;refine Cp.glue ?_;walk_nrm;u_op AG b;repeat(first|u_c stepG_seq AG b|u_c stepG_region_end AG b|u_c stepG_skip AG b|u_reg AG b)
  u_c stepG_ret' AG b;u_leave1 H.f_uAdd AG b;u_op AG b;repeat(first|u_c stepG_seq AG b|u_c stepG_region_end AG b|u_c stepG_skip AG b|u_reg AG b)
  iterate 4 u_op AG b
  iterate 2 u_skip AG b
  u_op AG b;repeat(first|u_c stepG_seq AG b|u_c stepG_region_end AG b|u_c stepG_skip AG b|u_reg AG b)
  u_cond false AG b;repeat(first|u_c stepG_seq AG b|u_c stepG_region_end AG b|u_c stepG_skip AG b|u_reg AG b)
  iterate 4 u_op AG b
  repeat(first|u_c stepG_seq AG b|u_c stepG_region_end AG b|u_c stepG_skip AG b|u_reg AG b)
  iterate 4 u_op AG b
  repeat(first|u_c stepG_seq AG b|u_c stepG_region_end AG b|u_c stepG_skip AG b|u_reg AG b)
  iterate 10 u_op AG b
  repeat(first|u_c stepG_seq AG b|u_c stepG_region_end AG b|u_c stepG_skip AG b|u_reg AG b)
  u_cond true AG b;repeat(first|u_c stepG_seq AG b|u_c stepG_region_end AG b|u_c stepG_skip AG b|u_reg AG b)
  iterate 3 u_op AG b
  refine fe rfl λ_ A2=>?_;replace b:=AG b A2;clear A2;refine r8 rfl rfl (by k_ne) λZm U=>?_;have Sx:=sV (P:=X.P) H.underlying_tPU32 H.underlying_tUP H.room_tU32 (rI b).choose_spec;have Hl:=λes=>r7 (P:=X.P) H.underlying_tPU32 H.underlying_tUP H.room_tU32 (rI b).choose_spec es;go_simp;refine U _ _ ⟨?_,?_⟩;·refine rP ?_;intro ex W1;have hm:=rA W1;simp[go_sem, *]at hm
  clear U Zm Sx Hl;refine KG λqZ p=>?_;replace b:=AG b p;clear p;refine fe rfl λYn A=>?_;replace b:=AG b A;clear A;rw[rF .read (by simp) rfl rfl (by k_ne) rfl H.f_raceRead (x_raceRead_n L) (x_raceRead_b L) (x_raceRead_x L) (x_raceRead_f L) (ad:=⟨X.Wg,1,Z⟩) (by simp[Cg])];simp only[a'G];refine⟨⟨rfl,λe he=>?_⟩,?_⟩;·rw[zo]at he;exact⟨⟨X.Wg,1,Z⟩,rfl,AD he⟩
  refine Cp.of ?_;walk_nrm;repeat(first|u_c stepG_seq AG b|u_c stepG_region_end AG b|u_c stepG_skip AG b|u_reg AG b)
  iterate 2 u_op AG b
  repeat(first|u_c stepG_seq AG b|u_c stepG_region_end AG b|u_c stepG_skip AG b|u_reg AG b)
  u_cond false AG b;repeat(first|u_c stepG_seq AG b|u_c stepG_region_end AG b|u_c stepG_skip AG b|u_reg AG b)
  iterate 3 u_op AG b
  iterate 2 u_skip AG b
  iterate 2 u_op AG b
  iterate 4 u_skip AG b
  u_op AG b;repeat(first|u_c stepG_seq AG b|u_c stepG_region_end AG b|u_c stepG_skip AG b|u_reg AG b)
  u_cond false AG b;repeat(first|u_c stepG_seq AG b|u_c stepG_region_end AG b|u_c stepG_skip AG b|u_reg AG b)
  iterate 3 u_op AG b
  iterate 2 u_skip AG b
  u_op AG b;repeat(first|u_c stepG_seq AG b|u_c stepG_region_end AG b|u_c stepG_skip AG b|u_reg AG b)
  u_cond true AG b;u_c stepG_ret' AG b;refine KG λkS K=>?_;replace b:=AG b K;clear K;refine⟨rfl,_,aDL (v:=Ay #[]) (evs:=#[Oq gA]) rfl H.f_enable (rS L) (rQ L) (rT L) (rR L) (by simp[aDl]) (by simp[Oq]) (by simp[Oq]),1,?_⟩;refine Cp.of ?_;u_leave0 H.f_add AG b;exact KG λ_ _=>l
 obtain⟨V,I⟩:∃V:Int,V=(v:Int)+1:=⟨_,rfl⟩;obtain⟨S,y⟩:∃S:Int,S=V*KK:=⟨_,rfl⟩;have Q:EK.wrap ((v:Int)*KK+4294967296)=S:=by rw[a'q,y,I];simp only[KK];omega
 rw[<-I,<-y];have a1:S/4294967296=V:=by rw[y];simp only[KK];omega
 have Cc:bits .and EK S 2147483648=0:=by rw[y,I];have:=aDO (v+1) 0 (by omega) (by omega);simpa[KK]using this
 have b2:bits .and EK S 2147483647=0:=by rw[y,I];have:=aDP (v+1) 0 (by omega) (by omega);simpa[KK]using this
 have c1:aDs.wrap V=V:=by rw[aDt];omega
 have aMf:1<V:=by omega
 have aaA:V<2147483648:=by omega
 have Bp:(V==1)=A9:=by simp;omega
 have C8:Bz (V=1)=A9:=decide_eq_false (by omega);have E':Bz (V<0)=A9:=decide_eq_false (by omega);have HY:Bz (0<V)=A3:=decide_eq_true (by omega);have Jq:(V==0)=A9:=by simp;omega
 have Kd:Bz (V=0)=A9:=decide_eq_false (by omega);refine⟨_,(aDJ rfl rfl (by k_ne) rfl H.f_addU64 (aDW L) (aDU L) (aDX L) EK (aDV L) rfl rfl h.cellSt (h.thaw 0)).trans (by rw[Q];rfl),110,?_⟩;replace b:JD X.ty X.Wg (N.setCell (Ee X.Wg) (A7 EK S)):=by rw[M];exact⟨_,_,h.setSt _⟩
 clear h y I Q;refine Cp.of ?_;walk_nrm;u_op AG b;repeat(first|u_c stepG_seq AG b|u_c stepG_region_end AG b|u_c stepG_skip AG b|u_reg AG b)
 u_c stepG_ret' AG b;u_leave1 H.f_uAdd AG b;u_op AG b;repeat(first|u_c stepG_seq AG b|u_c stepG_region_end AG b|u_c stepG_skip AG b|u_reg AG b)
 iterate 4 u_op AG b
 iterate 2 u_skip AG b
 u_op AG b;repeat(first|u_c stepG_seq AG b|u_c stepG_region_end AG b|u_c stepG_skip AG b|u_reg AG b)
 u_cnd false AG b;repeat(first|u_c stepG_seq AG b|u_c stepG_region_end AG b|u_c stepG_skip AG b|u_reg AG b)
 iterate 4 u_op AG b
 repeat(first|u_c stepG_seq AG b|u_c stepG_region_end AG b|u_c stepG_skip AG b|u_reg AG b)
 iterate 4 u_op AG b
 repeat(first|u_c stepG_seq AG b|u_c stepG_region_end AG b|u_c stepG_skip AG b|u_reg AG b)
 iterate 10 u_op AG b
 repeat(first|u_c stepG_seq AG b|u_c stepG_region_end AG b|u_c stepG_skip AG b|u_reg AG b)
 u_cnd false AG b;repeat(first|u_c stepG_seq AG b|u_c stepG_region_end AG b|u_c stepG_skip AG b|u_reg AG b)
 iterate 2 u_op AG b
 repeat(first|u_c stepG_seq AG b|u_c stepG_region_end AG b|u_c stepG_skip AG b|u_reg AG b)
 u_cnd false AG b;repeat(first|u_c stepG_seq AG b|u_c stepG_region_end AG b|u_c stepG_skip AG b|u_reg AG b)
 iterate 3 u_op AG b
 iterate 2 u_skip AG b
 iterate 2 u_op AG b
 iterate 4 u_skip AG b
 u_op AG b;repeat(first|u_c stepG_seq AG b|u_c stepG_region_end AG b|u_c stepG_skip AG b|u_reg AG b)
 u_cnd false AG b;repeat(first|u_c stepG_seq AG b|u_c stepG_region_end AG b|u_c stepG_skip AG b|u_reg AG b)
 iterate 3 u_op AG b
 iterate 2 u_skip AG b
 u_op AG b;repeat(first|u_c stepG_seq AG b|u_c stepG_region_end AG b|u_c stepG_skip AG b|u_reg AG b)
 u_cnd true AG b;u_c stepG_ret' AG b;refine KG λkS K=>?_;replace b:=AG b K;clear K;refine⟨rfl,_,aDL (v:=Ay #[]) (evs:=#[Oq gA]) rfl H.f_enable (rS L) (rQ L) (rT L) (rR L) (by simp[aDl]) (by simp[Oq]) (by simp[Oq]),1,?_⟩;refine Cp.of ?_;u_leave0 H.f_add AG b;exact KG λ_ _=>l
variable{L:kt}{X:HQ}
def Head(X:HQ)(L:kt)(c:Ag)(cs:List Ag)(g:AR):Prop:=∃T:zw,g=G ((B5 L.wait).at ⟨T,[]⟩ [BS (L7 L),Wx (L7 L),cL 0]) (c::cs)/\T.size=84/\T[0]?=Y (Ad (Y ⟨X.Wg,0,Z⟩))
def qo(X:HQ)(b:AR)(g:AR):Prop:=∀w,JD X.ty X.Wg w->∃m,Z9 X.P A3 (Da X) DC0 (λh _=>h=b) m g w
section
variable{b₀:Ag}{a₀:Nu}{ops₀:Array BR}{i₀:Nat}{rest₀:List Nat}{k₀:List Cb}{cs:List Ag}
def aZ'(H:WgLib X.P L)(w:A0)(b:JD X.ty X.Wg w):Cp X (AtKd X (Head X L (b₀.at a₀ (B1 ops₀ (i₀::rest₀)::k₀)) cs)) 3 (G ((B5 L.wait).at ⟨#[Ad (Y ⟨X.Wg,0,Z⟩),A',A',A',A',A',A',A',A',A',A',A',A',A',A',A',A',A',A',A',A',A',A',A',A',A',A',A',A',A',A',A',A',A',A',A',A',A',A',A',A',A',A',A',A',A',A',A',A',A',A',A',A',A',A',A',A',A',A',A',A',A',A',A',A',A',A',A',A',A',A',A',A',A',A',A',A',A',A',A',A',A',A',A'],[]⟩ [BS (rO L)]) (b₀.at a₀ (B1 ops₀ (i₀::rest₀)::k₀)::cs)) w:=by lib_facts;simp only[rO,waitFn,G4];refine Cp.of ?_;u_c stepG_seq AG b;u_cond true AG b;u_reg AG b;refine KG λy h=>?_;replace b:=AG b h;clear h;refine⟨rfl,_,rE ZO (by simp) rfl rfl (by k_ne) rfl H.f_disable (aDd L) (aDb L) (aDe L) (aDc L),3,?_⟩;refine Cp.of ?_;walk_nrm;u_c stepG_region_end AG b;u_c stepG_block AG b;u_c stepG_loop AG b;exact KG λz s=>⟨_,rfl,by simp,by simp⟩
def aYz(H:WgLib X.P L)(GD:X.ty=L.tWg):Zh X (Head X L (b₀.at a₀ (B1 ops₀ (i₀::rest₀)::k₀)) cs) (qo X (G (b₀.at (a₀.put (ops₀[i₀]?.bind (·.dst)) (Ay #[])) (B1 ops₀ rest₀::k₀)) cs)):=by
 rintro g⟨T,rfl,aM_,t0⟩;refine⟨rfl,λw b=>?_⟩;lib_facts;obtain⟨v0,GZ,F9,v3,v4,v5,aYe,zR,ew,v9,abP,abQ,abR,abS,abT,abU,abV,abW,abX,abY,v20,v21,v22,abZ,ab_,v25,aba,abb,abc,abd,abe,v31,v32,abf,abg,abh,abi,v37,abj,v39,v40,abk,abl,abm,abn,v45,v46,abo,abp,abq,v50,v51,abr,v53,abt,v55,abu,abv,abw,v59,abx,aby,abz,ac',ac0,ac1,v66,ac2,ac3,ac4,v70,ac5,v72,ac6,ac7,ac8,v76,v77,ac9,acA,acB,acC,acD,acE,rfl⟩:=array84 T aM_;simp only[List.getElem?_toArray,List.getElem?_cons_zero,Xa]at t0;subst t0;refine⟨30,?_⟩;simp only[L7,rO,waitFn,G4];refine Cp.of ?_;u_c stepG_block AG b;repeat(first|u_c stepG_seq AG b|u_c stepG_region_end AG b|u_c stepG_skip AG b|u_reg AG b)
 iterate 3 u_op AG b
 u_call H.f_uLoad(nm_uLoad L)uLoadFn AG b;repeat(first|u_c stepG_seq AG b|u_c stepG_region_end AG b|u_c stepG_skip AG b|u_reg AG b)
 u_op AG b;repeat(first|u_c stepG_seq AG b|u_c stepG_region_end AG b|u_c stepG_skip AG b|u_reg AG b)
 iterate 3 u_op AG b
 refine KG λd8 I=>?_;replace b:=AG b I;clear I;refine⟨rfl,λv hv s=>?_⟩;rw[GD]at s;rcases UB v with rfl|aPU
 ·replace s:Ja L.tWg X.Wg d8 0 0:=by simpa using s
  refine⟨_,a'I (v:=0) rfl rfl (by k_ne) rfl H.f_loadU64 (a'U L) (a'S L) (a'V L) EK (a'T L) rfl s.cellSt,λ_=>⟨50,?_⟩,λh=>absurd rfl h⟩;clear s;refine Cp.of ?_;walk_nrm;u_op AG b;repeat(first|u_c stepG_seq AG b|u_c stepG_region_end AG b|u_c stepG_skip AG b|u_reg AG b)
  u_c stepG_ret' AG b;u_leave1 H.f_uLoad AG b;u_op AG b;repeat(first|u_c stepG_seq AG b|u_c stepG_region_end AG b|u_c stepG_skip AG b|u_reg AG b)
  iterate 4 u_op AG b
  repeat(first|u_c stepG_seq AG b|u_c stepG_region_end AG b|u_c stepG_skip AG b|u_reg AG b)
  iterate 4 u_op AG b
  repeat(first|u_c stepG_seq AG b|u_c stepG_region_end AG b|u_c stepG_skip AG b|u_reg AG b)
  iterate 2 u_op AG b
  repeat(first|u_c stepG_seq AG b|u_c stepG_region_end AG b|u_c stepG_skip AG b|u_reg AG b)
  u_cond true AG b;repeat(first|u_c stepG_seq AG b|u_c stepG_region_end AG b|u_c stepG_skip AG b|u_reg AG b)
  u_cond true AG b;repeat(first|u_c stepG_seq AG b|u_c stepG_region_end AG b|u_c stepG_skip AG b|u_reg AG b)
  refine KG λkS l=>?_;replace b:=AG b l;clear l;refine⟨rfl,_,rE gA (by simp) rfl rfl (by k_ne) rfl H.f_enable (rS L) (rQ L) (rT L) (rR L),12,?_⟩;refine Cp.of ?_;walk_nrm;repeat(first|u_c stepG_seq AG b|u_c stepG_region_end AG b|u_c stepG_skip AG b|u_reg AG b)
  u_op AG b;refine fe rfl λ_ z=>?_;replace b:=AG b z;clear z;refine r8 rfl rfl (by k_ne) λM y=>?_;have U:=sV (P:=X.P) H.underlying_tWgP H.underlying_tUP H.room_tWg (rH b).choose_spec;have Q:=λN=>r7 (P:=X.P) H.underlying_tWgP H.underlying_tUP H.room_tWg (rH b).choose_spec N;go_simp;refine y _ _ ⟨?_,?_⟩;·refine rP ?_;intro ex m;have hm:=rA m;simp[go_sem, *]at hm
  clear y M U Q;refine KG λzY p=>?_;replace b:=AG b p;clear p;refine⟨rfl,_,rF ZN (by simp) rfl rfl (by k_ne) rfl H.f_acquire (aDS L) (aDQ L) (aDT L) (aDR L) (by simp[Cg,Ee]),λA b=>⟨20,?_⟩⟩;walk_nrm;repeat(first|u_c stepG_seq AG b|u_c stepG_region_end AG b|u_c stepG_skip AG b|u_reg AG b)
  iterate 8 u_op AG b
  iterate 2 u_skip AG b
  u_op AG b;repeat(first|u_c stepG_seq AG b|u_c stepG_region_end AG b|u_c stepG_skip AG b|u_reg AG b)
  u_cond false AG b;repeat(first|u_c stepG_seq AG b|u_c stepG_region_end AG b|u_c stepG_skip AG b|u_reg AG b)
  u_c stepG_ret' AG b;u_leave0 H.f_wait AG b;exact KG λ_ _=>rfl
 obtain⟨S,K⟩:∃S:Int,(v:Int)*KK=S:=⟨_,rfl⟩;have a1:S/4294967296=(v:Int):=by rw[<-K];simp only[KK];omega
 have Cc:bits .and EK S 2147483648=0:=by rw[<-K];have:=aDO v 0 (by omega) (by omega);simpa[KK]using this
 have b2:bits .and EK S 2147483647=0:=by rw[<-K];have:=aDP v 0 (by omega) (by omega);simpa[KK]using this
 have c1:aDs.wrap (v:Int)=(v:Int):=by rw[aDt];omega
 have w1:EK.wrap (S+1)=S+1:=by rw[a'q,<-K];simp only[KK];omega
 have E':Bz ((v:Int)<0)=A9:=decide_eq_false (by omega);have HY:Bz (0<(v:Int))=A3:=decide_eq_true (by omega);have Jq:((v:Int)==0)=A9:=by simp;omega
 have Kd:Bz ((v:Int)=0)=A9:=decide_eq_false (by omega);rw[K]at s;refine⟨_,a'I (v:=S) rfl rfl (by k_ne) rfl H.f_loadU64 (a'U L) (a'S L) (a'V L) EK (a'T L) rfl s.cellSt,λAV=>absurd AV (by omega),λ_=>⟨60,?_⟩⟩;clear s;refine Cp.of ?_;walk_nrm;u_op AG b;repeat(first|u_c stepG_seq AG b|u_c stepG_region_end AG b|u_c stepG_skip AG b|u_reg AG b)
 u_c stepG_ret' AG b;u_leave1 H.f_uLoad AG b;u_op AG b;repeat(first|u_c stepG_seq AG b|u_c stepG_region_end AG b|u_c stepG_skip AG b|u_reg AG b)
 iterate 4 u_op AG b
 repeat(first|u_c stepG_seq AG b|u_c stepG_region_end AG b|u_c stepG_skip AG b|u_reg AG b)
 iterate 4 u_op AG b
 repeat(first|u_c stepG_seq AG b|u_c stepG_region_end AG b|u_c stepG_skip AG b|u_reg AG b)
 iterate 2 u_op AG b
 repeat(first|u_c stepG_seq AG b|u_c stepG_region_end AG b|u_c stepG_skip AG b|u_reg AG b)
 u_cnd false AG b;repeat(first|u_c stepG_seq AG b|u_c stepG_region_end AG b|u_c stepG_skip AG b|u_reg AG b)
 iterate 6 u_op AG b
 u_call H.f_uCas(nm_uCas L)uCasFn AG b;repeat(first|u_c stepG_seq AG b|u_c stepG_region_end AG b|u_c stepG_skip AG b|u_reg AG b)
 u_op AG b;repeat(first|u_c stepG_seq AG b|u_c stepG_region_end AG b|u_c stepG_skip AG b|u_reg AG b)
 iterate 5 u_op AG b
 refine KG λEt MG=>?_;replace b:=AG b MG;clear MG;refine⟨rfl,λv' bG s=>⟨λe=>?_,λe=>?_⟩⟩
 ·subst e;rw[GD]at s;rw[K]at s⊢;refine⟨_,(stepG_cas_hit (v:=S) (n:=S+1) rfl rfl (by k_ne) rfl H.f_casU64 (aD_ L) (aDY L) (aDa L) EK (aDZ L) rfl rfl rfl s.cellSt (s.thaw 0)).trans (by rfl),40+40,?_⟩;replace b:JD X.ty X.Wg (Et.setCell (Ee X.Wg) (A7 EK (S+1))):=by rw[GD];exact⟨_,_,s.setSt _⟩
  clear s;refine Cp.glue ?_;walk_nrm;u_op AG b;repeat(first|u_c stepG_seq AG b|u_c stepG_region_end AG b|u_c stepG_skip AG b|u_reg AG b)
  u_c stepG_ret' AG b;u_leave1 H.f_uCas AG b;repeat(first|u_c stepG_seq AG b|u_c stepG_region_end AG b|u_c stepG_skip AG b|u_reg AG b)
  u_cond true AG b;repeat(first|u_c stepG_seq AG b|u_c stepG_region_end AG b|u_c stepG_skip AG b|u_reg AG b)
  iterate 4 u_op AG b
  repeat(first|u_c stepG_seq AG b|u_c stepG_region_end AG b|u_c stepG_skip AG b|u_reg AG b)
  u_cond true AG b;repeat(first|u_c stepG_seq AG b|u_c stepG_region_end AG b|u_c stepG_skip AG b|u_reg AG b)
  iterate 3 u_op AG b
  refine fe rfl λ_ z=>?_;replace b:=AG b z;clear z;refine r8 rfl rfl (by k_ne) λM y=>?_;have U:=sV (P:=X.P) H.underlying_tPU32 H.underlying_tUP H.room_tU32 (rI b).choose_spec;have Q:=λN=>r7 (P:=X.P) H.underlying_tPU32 H.underlying_tUP H.room_tU32 (rI b).choose_spec N;go_simp;refine y _ _ ⟨?_,?_⟩;·refine rP ?_;intro ex m;have hm:=rA m;simp[go_sem, *]at hm
  clear y M U Q;refine KG λA C=>?_;replace b:=AG b C;clear C;refine fe rfl λacL D=>?_;replace b:=AG b D;clear D;rw[rF .write (by simp) rfl rfl (by k_ne) rfl H.f_raceWrite (x_raceWrite_n L) (x_raceWrite_b L) (x_raceWrite_x L) (x_raceWrite_f L) (ad:=⟨X.Wg,1,Z⟩) (by simp[Cg]<;>rfl)];simp only[a'G];refine⟨⟨rfl,λe he=>?_⟩,?_⟩;·rw[zo]at he;exact⟨⟨X.Wg,1,Z⟩,rfl,AJ he⟩
  refine Cp.of ?_;repeat(first|u_c stepG_seq AG b|u_c stepG_region_end AG b|u_c stepG_skip AG b|u_reg AG b)
  u_op AG b;repeat(first|u_c stepG_seq AG b|u_c stepG_region_end AG b|u_c stepG_skip AG b|u_reg AG b)
  iterate 4 u_op AG b
  iterate 1 u_skip AG b
  u_op AG b;repeat(first|u_c stepG_seq AG b|u_c stepG_region_end AG b|u_c stepG_skip AG b|u_reg AG b)
  u_cond false AG b;repeat(first|u_c stepG_seq AG b|u_c stepG_region_end AG b|u_c stepG_skip AG b|u_reg AG b)
  iterate 4 u_op AG b
  refine KG λqZ eG=>?_;replace b:=AG b eG;clear eG;refine⟨rfl,rfl,λ⟨st,s⟩=>stepG_semacquire_wait rfl rfl rfl H.f_semacquire (aDh L) (aDf L) (aDi L) (aDg L) (by simp[Cg,Wv]) s.cellSm,λAK=>?_⟩;refine⟨_,(stepG_semacquire (n:=1) rfl rfl (by k_ne) rfl H.f_semacquire (aDh L) (aDf L) (aDi L) (aDg L) (by simp[Cg,Wv]) AK.cellSm (by k_ne) (AK.thaw 1)).trans (by rfl),30,?_⟩;replace b:JD X.ty X.Wg (qZ.setCell (Wv X.Wg) (A7 fy 0)):=⟨_,_,AK.setSm 0⟩;clear AK;refine Cp.of ?_;walk_nrm;repeat(first|u_c stepG_seq AG b|u_c stepG_region_end AG b|u_c stepG_skip AG b|u_reg AG b)
  iterate 3 u_op AG b
  u_call H.f_uLoad(nm_uLoad L)uLoadFn AG b;repeat(first|u_c stepG_seq AG b|u_c stepG_region_end AG b|u_c stepG_skip AG b|u_reg AG b)
  u_op AG b;repeat(first|u_c stepG_seq AG b|u_c stepG_region_end AG b|u_c stepG_skip AG b|u_reg AG b)
  iterate 3 u_op AG b
  refine KG λYn jV=>?_;replace b:=AG b jV;clear jV;refine⟨rfl,λs=>⟨_,a'I (v:=0) rfl rfl (by k_ne) rfl H.f_loadU64 (a'U L) (a'S L) (a'V L) EK (a'T L) rfl s.cellSt,30,?_⟩⟩;clear s;refine Cp.of ?_;walk_nrm;u_op AG b;repeat(first|u_c stepG_seq AG b|u_c stepG_region_end AG b|u_c stepG_skip AG b|u_reg AG b)
  u_c stepG_ret' AG b;u_leave1 H.f_uLoad AG b;iterate 2 u_op AG b
  repeat(first|u_c stepG_seq AG b|u_c stepG_region_end AG b|u_c stepG_skip AG b|u_reg AG b)
  u_cond true AG b;repeat(first|u_c stepG_seq AG b|u_c stepG_region_end AG b|u_c stepG_skip AG b|u_reg AG b)
  refine KG λkS l=>?_;replace b:=AG b l;clear l;refine⟨rfl,_,rE gA (by simp) rfl rfl (by k_ne) rfl H.f_enable (rS L) (rQ L) (rT L) (rR L),12,?_⟩;refine Cp.of ?_;walk_nrm;repeat(first|u_c stepG_seq AG b|u_c stepG_region_end AG b|u_c stepG_skip AG b|u_reg AG b)
  u_op AG b;refine fe rfl λ_ z=>?_;replace b:=AG b z;clear z;refine r8 rfl rfl (by k_ne) λM y=>?_;have U:=sV (P:=X.P) H.underlying_tWgP H.underlying_tUP H.room_tWg (rH b).choose_spec;have Q:=λN=>r7 (P:=X.P) H.underlying_tWgP H.underlying_tUP H.room_tWg (rH b).choose_spec N;go_simp;refine y _ _ ⟨?_,?_⟩;·refine rP ?_;intro ex m;have hm:=rA m;simp[go_sem, *]at hm
  clear y M U Q;refine KG λzY p=>?_;replace b:=AG b p;clear p;refine⟨rfl,_,rF ZN (by simp) rfl rfl (by k_ne) rfl H.f_acquire (aDS L) (aDQ L) (aDT L) (aDR L) (by simp[Cg,Ee]),λA b=>⟨20,?_⟩⟩;walk_nrm;repeat(first|u_c stepG_seq AG b|u_c stepG_region_end AG b|u_c stepG_skip AG b|u_reg AG b)
  u_op AG b;repeat(first|u_c stepG_seq AG b|u_c stepG_region_end AG b|u_c stepG_skip AG b|u_reg AG b)
  u_cond false AG b;repeat(first|u_c stepG_seq AG b|u_c stepG_region_end AG b|u_c stepG_skip AG b|u_reg AG b)
  u_c stepG_ret' AG b;u_leave0 H.f_wait AG b;exact KG λ_ _=>rfl
 rw[GD]at s;refine⟨_,stepG_cas_miss (v:=(v':Int)*KK) (old:=S) (n:=S+1) rfl rfl (by k_ne) rfl H.f_casU64 (aD_ L) (aDY L) (aDa L) EK (aDZ L) rfl rfl rfl s.cellSt (s.thaw 0) (by rw[<-K];simp only[KK];omega),20,?_⟩;clear s;refine Cp.of ?_;walk_nrm;u_op AG b;repeat(first|u_c stepG_seq AG b|u_c stepG_region_end AG b|u_c stepG_skip AG b|u_reg AG b)
 u_c stepG_ret' AG b;u_leave1 H.f_uCas AG b;repeat(first|u_c stepG_seq AG b|u_c stepG_region_end AG b|u_c stepG_skip AG b|u_reg AG b)
 u_cond false AG b;repeat(first|u_c stepG_seq AG b|u_c stepG_region_end AG b|u_c stepG_skip AG b|u_reg AG b)
 u_c stepG_inBlock AG b;u_c stepG_inLoop AG b;exact KG λqZ eG=>⟨_,rfl,by simp,by simp⟩
end
end
section
open Go.Proofs.YtcfhleenecfghaaGreatDoor
open Go.Conc Go.RowKit Go.Conc.Lib Go.ConcR.Gen Go.ConcN.Gen
open Go.ConcN(WgLive RW DWs AtR0 Has)
open Go.ConcR(KK wgBlock WgAt stA smA rd wr mk Payload DC0)
noncomputable def RE:Ag:={(Aw:Ag)with fn:=A6.funcs.size,defers:=[],mode:=.panicking [a1U]}
abbrev Av(b:Nat):A1:=Ad (Y ⟨b,0,Z⟩)
def call198(g s r m:Nat):Deferred:={target:=.fn (Ek 198) #[Av g,Av s,Av r,Av m],args:=#[]}
noncomputable def hM:Bg:=a0D.body.getD VG
noncomputable def PV:Array BR:=match hM with|Bh _ (Ej _ ops _)=>ops|_=>#[]
noncomputable def jv:Array BR:=match hM with|Bh (Ej _ ops _) _=>ops|_=>#[]
noncomputable def Iu(j:Nat):BR:=PV.getD j Aw
def aIP:hM=Bh (Ej 0 jv A9) (Ej 1 PV A3):=by kernel_rfl
def aBp:PV.size=5:=by kernel_rfl
def Xr(j:Nat)(h:j<5):PV[j]?=Y (Iu j):=by unfold Iu;rw[Iv,EP (by rw[aBp];exact h)];rfl
def aTd:PW .any PV 5 (MU 5 A9)=[[0,1,2,3,4],[0,2,1,3,4],[1,0,2,3,4],[1,2,0,3,4],[1,2,3,0,4],[2,0,1,3,4],[2,1,0,3,4],[2,1,3,0,4]]:=by kernel_rfl
def aUZ(T:zw):ku A6 2 0 (G {(KH 198).at ⟨T,[]⟩ []with mode:=MZ} [RE]):=by
 refine aDB (g':=G RE []) rfl (λw=>?_) ?_;·simp[G,Bi,I5,doReturn,D_,Frame.at,KH,RE,aEO,a0D,Iz,Ot,a1U]
 refine aDB (g':={G RE []with status:=.finished}) rfl (λw=>?_) ⟨rfl,rfl⟩;simp[G,Bi,I5,RE,a1U,Frame.catches];rfl
def aIQ(g s r m:Nat)(main:Bool)(w:A0):Bi A6 main (kv A6 (call198 g s r m)) w=Cw (G ((KH 198).at ⟨#[Av g,Av s,Av r,Av m,A',A',A',A'],[]⟩ [BS hM]) [RE]) w #[]:=by simp[kv,call198,Bi,I5,callDeferred,a1V,Me,aEO,a0D,Iz,Ot,G,HO,Frame.at,KH,RE,hM]
section
variable[CV]
def aXo{Wg C n:Nat}{val:A1}(T:zw)(w:A0)(b:JD JV.tWg Wg w/\Has C 0 val w):Z9 A6 A9 (RW JV.tWg Wg C n 0 (1-1)) (DWs Wg Rj Rj C n 1) (AtR0 A6 JV.tWg Wg C n 0 1 val) 26 (G ((KH 198).at ⟨T,[Oo 199 #[Av Wg]]⟩ [B1 PV []]) [RE]) w:=by u_c stepG_region_end kn_rely b;u_c stepG_end kn_rely b;u_in kn_rely b;rw[stepG_unwind_enter rfl Tryz.func199 (nm_done JV) rfl];simp only[a'G];refine⟨by u_nil,?_⟩;have h:=@doneN _ JV A6 qU Rj Rj Wg C n 0 1 val;simp only[body_done,doneFn,G4]at h;walk_nrmf Tryz.f199;exact h rfl (aUZ _) _ b
end
end
section
open Go.Proofs.YtcfhleenecfghaaGreatDoor
open Go.Conc Go.RowKit
open Go.ConcN(WgLive RW DWs AtR0 Has)
open Go.ConcR(Payload)
variable{w:A0}{v:A1}{T:zw}{j:Nat}
def aRE{a:Nu}{AW Ch:Nat}{t:Aj}{p:Nat×Nat}(b:a.eval (An 1)=Av AW)(h:w.heap[AW]?=Y (AF #[Cl (Y Ch)] t p)):(Ab a.eval (Iu 0)).runT A6 w #[]=(Ac (D6 (Cl (Y Ch))) w,#[⟨Ie ⟨AW,0,Z⟩,A9,A9⟩]):=by
 have s:(Iu 0).op=R0 316 (An 1):=by kernel_rfl
 unfold Ab;rw[s];simp only[b];have hc:w.cell? ⟨AW,0,Z⟩=Y (Cl (Y Ch)):=by simp[FB,h]
 simp[go_sem,hc]
def okO:List Nat->List Nat->Bool|_,[]=>A9|d,0::l=>okO (0::d) l|d,1::l=>!d.contains 3&&okO (1::d) l|d,2::l=>!d.contains 3&&okO (2::d) l|d,3::l=>!d.contains 3&&d.contains 1&&d.contains 2&&okO (3::d) l|d,4::l=>d.contains 0&&d.contains 3&&l.isEmpty|_,_=>A9
section
variable[CV]
structure mi where
 X:HQ
 i:Nat
 RO:zy
 Sh:zy
 J4:zy
 E:AT
 wL:A0
 AW:Nat
 br:Nat
 BA:Nat
 dP:Nat
 dN:Nat
 vr:A1
 ez:A1
 Q:A1->A0->Prop
 I3:Nat
 val:A1
structure mi.Ok(R:mi):Prop where
 prog:R.X.P=A6
 ty:R.X.ty=JV.tWg
 EX:∀b,b<Ci->R.E.rel b b
 ej:R.Sh R.AW
 aWB:R.E.rel R.dP R.br
 aBQ:R.E.rel R.dN R.BA
 IQ:R.J4 R.BA
 xj:∀ρ:C'->A1,ρ (An 2)=Av R.dP->∀T,∃es,(Ab ρ (Iu 1)).runT A6 (on R.wL T) #[]=(Ac (D6 R.vr) (on R.wL T),es)
 lm:∀ρ:C'->A1,ρ (An 3)=Av R.dN->∀T,∃es,(Ab ρ (Iu 2)).runT A6 (on R.wL T) #[]=(Ac (D6 R.ez) (on R.wL T),es)
 call:∀T,Ai A6 200 #[R.vr,R.ez] (on R.wL T) λe w1=>∃v,e=AZ v/\R.Q v w1
 msg:∀E v v' w1 w' S,R.E.le E->AN reads E v v'->R.Q v w1->C2 reads (B0 (ow R.RO) A3) R.RO E w1 w'->KD R.RO R.Sh S E->(∀b,R.J4 b->S b)->w'.cell? ⟨R.BA,0,Z⟩=Y R.val/\∃M,(∀b,M b->S b/\b≠R.BA)/\R.X.ND R.i v' M w'
structure aHe(R:mi)(d:List Nat)(T:zw)(E:AT)(wL:A0)(S:zy)(w:A0):Prop where
 size:T.size=8
 t1:T.getD 1 A'=Av R.AW
 t2:T.getD 2 A'=Av R.br
 t3:T.getD 3 A'=Av R.BA
 d4:0∈d->T.getD 4 A'=Cl (Y R.X.Ch)
 d5:1∈d->AN reads E R.vr (T.getD 5 A')
 d6:2∈d->AN reads E R.ez (T.getD 6 A')
 d7:3∈d->∃v,AN reads E v (T.getD 7 A')/\R.Q v wL
 first:3∉d->wL=R.wL
 le:R.E.le E
 A2:C2 reads (B0 (ow R.RO) A3) R.RO E wL w
 cls:KD R.RO R.Sh S E
 hQ:∃t p,w.heap[R.AW]?=Y (AF #[Cl (Y R.X.Ch)] t p)
 apart:∀b,R.Sh b->¬S b/\b<w.heap.size
 own:∀b,R.J4 b->S b
omit[CV]in def Br{t:Nat}(h:j≠t):(T.setIfInBounds j v).getD t A'=T.getD t A':=by simp only[Iv,HM,if_neg h]
omit[CV]in def FO(h:j<T.size):(T.setIfInBounds j v).getD j A'=v:=by simp only[Iv,HM,↓reduceIte,h,G4]
omit[CV]in def C2.on{F:zy}{so:Dj}{RO:zy}{E:AT}{w w':A0}{T:Tape}(h:C2 F so RO E (Twin.on w T) w'):C2 F so RO E w w':=by obtain⟨BV,h⟩:=h;exact⟨BV,h⟩
variable{R:mi}
def aZ9(K:R.Ok):∀(l d:List Nat)(T:zw)(E:AT)(wL:A0)(S:zy)(w:A0),okO d l=A3->aHe R d T E wL S w->Way A6 A9 R.Sh (AtSend R.X R.i R.BA R.I3 R.val R.Sh) S (G ((KH 198).at ⟨T,[Oo 199 #[Av R.X.Wg]]⟩ [B1 PV l]) [RE]) w:=by
 intro l;induction l with
 |nil=>intro d T E wL S w h;cases h
 |cons j l ih=>
  intro d T E wL S w H I;have wF:∀b,b<Ci->E.rel b b:=λb hb=>I.le _ _ (K.EX b hb);have aP3:∀b,¬R.RO b↔(ow R.RO).Jp b:=λb=>VW;match j with
  |0=>
   have AS:(Iu 0).dst=Y 4:=by kernel_rfl
   refine Way.bind (Stop:=λS' g' w'=>S'=S/\g'=G ((KH 198).at ⟨T.setIfInBounds 4 (Cl (Y R.X.Ch)),[Oo 199 #[Av R.X.Wg]]⟩ [B1 PV l]) [RE]/\CB R.Sh S w w') ?_ ?_
   ·refine .step rfl λm A2=>?_;obtain⟨t,p,A⟩:=I.hQ;have v1:=aRE (a:=⟨T,[Oo 199 #[Av R.X.Wg]]⟩) (Ch:=R.X.Ch) (w:=m) I.t1 (by rw[A2.same _ (AJ K.ej)];exact A);have DR:((KH 198).at ⟨T,[Oo 199 #[Av R.X.Wg]]⟩ [B1 PV (0::l)]:Ag).finish (Cl (Y R.X.Ch))=(KH 198).at ⟨T.setIfInBounds 4 (Cl (Y R.X.Ch)),[Oo 199 #[Av R.X.Wg]]⟩ [B1 PV l]:=by rw[LF,Xr 0 (by omega)];show(KH 198).at (Z8 _ (Iu 0).dst _) _=_;rw[AS];rfl
    refine⟨_,m,_,S,by rw[Tq (Xr 0 (by omega)) (by kernel_rfl),Jh rfl v1 rfl,DR];rfl,?_,.stop λEt Fe=>⟨rfl,rfl,A2.trans Fe⟩⟩;refine⟨Ae _,λ_ _ _=>rfl,rfl,rfl,rfl,λb=>⟨AD,λx=>x.elim (λz=>z) λy=>by omega⟩,λe he=>?_⟩;have:=cB he;simp only[zo]at this;subst this;exact .cell _ _ (AJ ⟨K.ej,rfl⟩)
   rintro S' g' w'⟨rfl,rfl,A2⟩;refine ih (0::d) _ E wL S' w' H ?_;refine⟨by simpa using I.size,by rw[Br (by omega)];exact I.t1,by rw[Br (by omega)];exact I.t2,by rw[Br (by omega)];exact I.t3,λ_=>FO (by rw[I.size];omega),λh=>by rw[Br (by omega)];exact I.d5 (by simpa using h),λh=>by rw[Br (by omega)];exact I.d6 (by simpa using h),λh=>by rw[Br (by omega)];exact I.d7 (by simpa using h),λh=>I.first (by simpa using h),I.le,I.A2.rely I.cls A2,I.cls,?_,λb hb=>⟨(I.apart b hb).1,Ku (I.apart b hb).2 A2.size⟩,I.own⟩;obtain⟨t,p,A⟩:=I.hQ;exact⟨t,p,by rw[A2.same _ (AJ K.ej)];exact A⟩
  |1=>
   have AS:(Iu 1).dst=Y 5:=by kernel_rfl
   have s:(Iu 1).op=R0 138 (An 2):=by kernel_rfl
   obtain⟨U,H⟩:=Bool.and_eq_true_iff.1 H;have U:3∉d:=by simpa using U
   obtain rfl:=I.first U;refine((aCQ (Sh:=R.Sh) (S:=S) (main:=A9) (static R.RO) (ow:=[]) (ρ:=λx=>match x with|An _=>Av R.dP|Iy v=>v|JE f=>FU (Ek f) #[] #[]|rs _=>A') (E:=E) (wL:=R.wL) (Q:=λv w1=>v=R.vr/\∃T,w1=on R.wL T) (Xr 1 (by omega)) (by kernel_rfl) (by simp[KH]) (by rw[s];rfl) (by unfold Lu;rw[s]) (by rw[s];rfl) (λv=>rfl) (λf=>rfl) ?_ ?_ wF I.A2 I.cls ?_).keeps I.apart).bind ?_;·intro x hx;rw[s]at hx;simp only[opsOf,Dg,cz]at hx;subst hx;show AN reads E (Av R.dP) (T.getD 2 A');rw[I.t2];exact .ptr ⟨I.le _ _ K.aWB,rfl,rfl⟩
   ·intro x hx;rw[s]at hx;cases hx
   ·intro BK;obtain⟨es,h⟩:=K.xj (λx=>match x with|An _=>Av R.dP|Iy v=>v|JE f=>FU (Ek f) #[] #[]|rs _=>A') rfl BK;exact⟨_,_,es,h,rfl,BK,rfl⟩
   rintro S' g' w'⟨⟨hW,v,v',w1,rfl,hv,⟨rfl,BK,rfl⟩,D,ij,HC⟩,N⟩;rw[AS];refine ih (1::d) _ hW R.wL S' w' H ?_;refine⟨by simpa using I.size,by rw[Br (by omega)];exact I.t1,by rw[Br (by omega)];exact I.t2,by rw[Br (by omega)];exact I.t3,λh=>by rw[Br (by omega)];exact I.d4 (by simpa using h),λ_=>by rw[FO (by rw[I.size];omega)];exact hv,λh=>by rw[Br (by omega)];exact(I.d6 (by simpa using h)).mono D,λh=>absurd (by simpa using h) U,λ_=>rfl,AT.le_trans I.le D,ij.on,HC,?_,N.apart,λb hb=>N.grow b (I.own b hb)⟩;obtain⟨t,p,A⟩:=I.hQ;exact⟨t,p,by rw[N.same _ K.ej];exact A⟩
  |2=>
   have AS:(Iu 2).dst=Y 6:=by kernel_rfl
   have s:(Iu 2).op=R0 85 (An 3):=by kernel_rfl
   obtain⟨U,H⟩:=Bool.and_eq_true_iff.1 H;have U:3∉d:=by simpa using U
   obtain rfl:=I.first U;refine((aCQ (Sh:=R.Sh) (S:=S) (main:=A9) (static R.RO) (ow:=[]) (ρ:=λx=>match x with|An _=>Av R.dN|Iy v=>v|JE f=>FU (Ek f) #[] #[]|rs _=>A') (E:=E) (wL:=R.wL) (Q:=λv w1=>v=R.ez/\∃T,w1=on R.wL T) (Xr 2 (by omega)) (by kernel_rfl) (by simp[KH]) (by rw[s];rfl) (by unfold Lu;rw[s]) (by rw[s];rfl) (λv=>rfl) (λf=>rfl) ?_ ?_ wF I.A2 I.cls ?_).keeps I.apart).bind ?_;·intro x hx;rw[s]at hx;simp only[opsOf,Dg,cz]at hx;subst hx;show AN reads E (Av R.dN) (T.getD 3 A');rw[I.t3];exact .ptr ⟨I.le _ _ K.aBQ,rfl,rfl⟩
   ·intro x hx;rw[s]at hx;cases hx
   ·intro BK;obtain⟨es,h⟩:=K.lm (λx=>match x with|An _=>Av R.dN|Iy v=>v|JE f=>FU (Ek f) #[] #[]|rs _=>A') rfl BK;exact⟨_,_,es,h,rfl,BK,rfl⟩
   rintro S' g' w'⟨⟨hW,v,v',w1,rfl,hv,⟨rfl,BK,rfl⟩,D,ij,HC⟩,N⟩;rw[AS];refine ih (2::d) _ hW R.wL S' w' H ?_;refine⟨by simpa using I.size,by rw[Br (by omega)];exact I.t1,by rw[Br (by omega)];exact I.t2,by rw[Br (by omega)];exact I.t3,λh=>by rw[Br (by omega)];exact I.d4 (by simpa using h),λh=>by rw[Br (by omega)];exact(I.d5 (by simpa using h)).mono D,λ_=>by rw[FO (by rw[I.size];omega)];exact hv,λh=>absurd (by simpa using h) U,λ_=>rfl,AT.le_trans I.le D,ij.on,HC,?_,N.apart,λb hb=>N.grow b (I.own b hb)⟩;obtain⟨t,p,A⟩:=I.hQ;exact⟨t,p,by rw[N.same _ K.ej];exact A⟩
  |3=>
   have AS:(Iu 3).dst=Y 7:=by kernel_rfl
   have s:(Iu 3).op=If {callee:=N7 (JE 200),args:=#[An 5,An 6],argTypes:=#[138,85]}:=by kernel_rfl
   obtain⟨uz,H⟩:=Bool.and_eq_true_iff.1 H;obtain⟨vD,h2⟩:=Bool.and_eq_true_iff.1 uz;obtain⟨h3,h1⟩:=Bool.and_eq_true_iff.1 vD;have U:3∉d:=by simpa using h3
   have h1:1∈d:=by simpa using h1
   have h2:2∈d:=by simpa using h2
   obtain rfl:=I.first U;obtain⟨c,KV⟩:∃c,Tryz.f200.body=Y c:=⟨_,rfl⟩;refine Way.ctl rfl (λw=>Tg (Xr 3 (by omega)) (by kernel_rfl) (by simp[KH]) s s3 (by kernel_rfl) KV) ?_;refine((aZ2 (static R.RO) aP3 A9 (args:=#[R.vr,R.ez]) (wL:=R.wL) s3 KV ((static R.RO).laid 200 _ _ (AD (AD ⟨by decide,rfl⟩)) s3 KV).1 ((static R.RO).laid 200 _ _ (AD (AD ⟨by decide,rfl⟩)) s3 KV).2 (λt AP=>by cases AP) ?_ wF I.A2 I.cls K.call).keeps I.apart).bind ?_;·simp only[M',Gd,Kt];exact .cons (I.d5 h1) (.cons (I.d6 h2) .nil)
   rintro S' g' w'⟨⟨hW,v,v',w1,rfl,hv,AH,D,ij,HC⟩,N⟩;have DR:((KH 198).at ⟨T,[Oo 199 #[Av R.X.Wg]]⟩ [B1 PV (3::l)]:Ag).finish v'=(KH 198).at ⟨T.setIfInBounds 7 v',[Oo 199 #[Av R.X.Wg]]⟩ [B1 PV l]:=by rw[LF,Xr 3 (by omega)];show(KH 198).at (Z8 _ (Iu 3).dst _) _=_;rw[AS];rfl
   rw[DR];refine ih (3::d) _ hW w1 S' w' H ?_;refine⟨by simpa using I.size,by rw[Br (by omega)];exact I.t1,by rw[Br (by omega)];exact I.t2,by rw[Br (by omega)];exact I.t3,λh=>by rw[Br (by omega)];exact I.d4 (by simpa using h),λh=>by rw[Br (by omega)];exact(I.d5 (by simpa using h)).mono D,λh=>by rw[Br (by omega)];exact(I.d6 (by simpa using h)).mono D,λ_=>⟨v,by rw[FO (by rw[I.size];omega)];exact hv,AH⟩,λh=>absurd (by simp) h,AT.le_trans I.le D,ij,HC,?_,N.apart,λb hb=>N.grow b (I.own b hb)⟩;obtain⟨t,p,A⟩:=I.hQ;exact⟨t,p,by rw[N.same _ K.ej];exact A⟩
  |4=>
   have s:(Iu 4).op=.send (An 4) (An 7):=by kernel_rfl
   have Hn:(Iu 4).dst=Z:=by kernel_rfl
   obtain⟨aLj,AE⟩:=Bool.and_eq_true_iff.1 H;obtain⟨AV,h3⟩:=Bool.and_eq_true_iff.1 aLj;have AV:0∈d:=by simpa using AV
   have h3:3∈d:=by simpa using h3
   obtain rfl:l=[]:=by simpa using AE
   refine .stop λm A2=>?_;obtain⟨v,hv,AH⟩:=I.d7 h3;obtain⟨QY,M,Al,NS⟩:=K.msg E v _ wL m S I.le hv AH (I.A2.rely I.cls A2) I.cls I.own;have hx:(Ab (Cg ⟨T,[Oo 199 #[Av R.X.Wg]]⟩) (Iu 4)).run A6 m=Ac (aE' #[rC R.X.Ch (T.getD 7 A') (Ay #[])] A3 kq) m:=by unfold Ab;rw[s];have Dy:Cg ⟨T,[Oo 199 #[Av R.X.Wg]]⟩ (An 4)=Cl (Y R.X.Ch):=I.d4 AV;show Ac (aE' #[{chan:=Cg ⟨T,[Oo 199 #[Av R.X.Wg]]⟩ (An 4),send:=Y (T.getD 7 A'),zero:=Ay #[]}] A3 kq) m=_;rw[Dy];rfl
   have QR:(Ab (Cg ⟨T,[Oo 199 #[Av R.X.Wg]]⟩) (Iu 4)).events A6 m #[]=#[]:=by unfold Ab;rw[s];rfl
   refine⟨rfl,I.own _ K.IQ,T.getD 7 A',Ay #[],#[],M,?_,by simp,Al,NS,λw' hs T6=>⟨26,?_⟩⟩
   ·rw[K.prog,stepG_comm (Xr 4 (by omega)) (by kernel_rfl) (by simp[KH]) hx];have:r9 A6 (KH 198).fn ⟨T,[Oo 199 #[Av R.X.Wg]]⟩ (Iu 4) m=#[]:=by unfold r9;rw[QR];exact rD _ _
    rw[this]
   have hc:w'.cell? ⟨R.BA,0,Z⟩=Y R.val:=by rw[<-QY];unfold FB;rw[hs _ (I.own _ K.IQ)]
   have AP:=aXo (Wg:=R.X.Wg) (C:=R.BA) (n:=R.I3) (val:=R.val) T w' ⟨by rw[K.ty]at T6;exact T6,hc⟩;rw[K.prog,K.ty];have DR:(G ((KH 198).at ⟨T,[Oo 199 #[Av R.X.Wg]]⟩ [B1 PV [4]]) [RE]).finishComm A6 #[rC R.X.Ch (T.getD 7 A') (Ay #[])] kq 0 A' A9=G ((KH 198).at ⟨T,[Oo 199 #[Av R.X.Wg]]⟩ [B1 PV []]) [RE]:=by unfold aDo;show({G _ _ with frame:=cG _ _,status:=DJ,offers:=Z}:AR)=_;simp only[G];rw[LF,Xr 4 (by omega)];show({frame:=(KH 198).at (Z8 _ (Iu 4).dst _) _,..}:AR)=_;rw[Hn];rfl
   rw[DR];exact AP
  |_+5=>cases H
def aZG(K:R.Ok)(U:C2 reads (B0 (ow R.RO) A3) R.RO R.E R.wL w)(I:KD R.RO R.Sh R.J4 R.E)(H:∃t p,w.heap[R.AW]?=Y (AF #[Cl (Y R.X.Ch)] t p))(s:∀b,R.Sh b->¬R.J4 b/\b<w.heap.size):Way R.X.P A9 R.Sh (AtSend R.X R.i R.BA R.I3 R.val R.Sh) R.J4 (kv R.X.P (call198 R.X.Wg R.AW R.br R.BA)) w:=by
 rw[K.prog];refine Way.ctl rfl (aIQ _ _ _ _ _) ?_;rw[aIP];refine Way.ctl rfl (λ_=>FT) ?_;refine Way.ctl rfl (λ_=>II) ?_;have z:Hf jv.size=[0]:=by kernel_rfl
 rw[z];have Q:(jv.getD 0 Aw).op=.defer {callee:=N7 (JE 199),args:=#[An 0],argTypes:=#[325]}:=by kernel_rfl
 have M:(jv.getD 0 Aw).dst=Z:=by kernel_rfl
 refine Way.ctl rfl (λ_=>stepG_defer (o:=jv.getD 0 Aw) (by kernel_rfl) (by kernel_rfl) (by simp[KH]) Q) ?_;rw[M];have e:#[An 0].map (Cg ⟨#[Av R.X.Wg,Av R.AW,Av R.br,Av R.BA,A',A',A',A'],[]⟩)=#[Av R.X.Wg]:=by simp[Cg]
 rw[e];refine Way.ctl rfl (λ_=>Hs) ?_;refine Way.draw (by kernel_rfl) λo y=>?_;rw[aBp,aTd]at y;have N:okO [] o=A3:=by simp only[JG,He,or_false]at y;rcases y with rfl|rfl|rfl|rfl|rfl|rfl|rfl|rfl<;>rfl
 refine aZ9 K o [] #[Av R.X.Wg,Av R.AW,Av R.br,Av R.BA,A',A',A',A'] R.E R.wL R.J4 w N ?_;exact⟨rfl,rfl,rfl,rfl,λh=>(by cases h),λh=>(by cases h),λh=>(by cases h),λh=>(by cases h),λ_=>rfl,AT.le_refl _,U,I,H,s,λ_ h=>h⟩
end
end
section
open Go.Proofs.YtcfhleenecfghaaGreatDoor
open Go.Conc Go.RowKit
variable{w:A0}{x:A1}{b:Ag}{ops:Array BR}{o:BR}{ρ:C'->A1}{cs:List Ag}{q:List Cb}{BA i j:Nat}{a:Nu}
section
variable{P:Ap}{main:Bool}{Sh S:zy}{Stop:zv}
def Way.oper{i:Nat}{rest:List Nat}{w:A0}(K:ops[i]?=Y o)(l:Gt o (I6 ops a.tmps)=A3)(U:b.kind≠Ki)(h:∀z,CB Sh S w z->∃v y I H,(Ab a.eval o).runT P z #[]=(Ac (D6 v) y,I)/\Gb Sh S z y I H/\Way P main Sh Stop H (G (b.at (a.put o.dst v) (B1 ops rest::q)) cs) y):Way P main Sh Stop S (G (b.at a (B1 ops (i::rest)::q)) cs) w:=by
 refine .step rfl λz A2=>?_;obtain⟨v,y,I,H,m,s,N⟩:=h z A2;have Q:((b.at a (B1 ops (i::rest)::q)).kind==Ki)=A9:=by simpa[Frame.at]using U
 have M:(b.at a (B1 ops (i::rest)::q)).finish v=b.at (a.put o.dst v) (B1 ops rest::q):=by rw[LF,K];rfl
 refine⟨_,y,_,H,by rw[Tq K l,Jh Q m rfl,M];rfl,⟨s.size,s.same,s.os,s.output,s.tape,s.grow,λe he=>s.evs e (cB he)⟩,N⟩
def Way.pure{i:Nat}{rest:List Nat}{w:A0}(v:A1)(H:ops[i]?=Y o)(K:Gt o (I6 ops a.tmps)=A3)(z:b.kind≠Ki)(h:∀w,(Ab a.eval o).runT P w #[]=(Ac (D6 v) w,#[]))(y:Way P main Sh Stop S (G (b.at (a.put o.dst v) (B1 ops rest::q)) cs) w):Way P main Sh Stop S (G (b.at a (B1 ops (i::rest)::q)) cs) w:=Way.oper H K z λs I=>⟨v,s,#[],S,h s,Gb.idle _ _ _,y.rely I⟩
def Way.aTP{i:Nat}{rest:List Nat}{w:A0}(K:ops[i]?=Y o)(l:Gt o (I6 ops a.tmps)=A3)(U:b.kind≠Ki)(h:∀z,CB Sh S w z->∃y I H,(Ab a.eval o).runT P z #[]=(Ac .skip y,I)/\Gb Sh S z y I H/\Way P main Sh Stop H (G (b.at (a.put o.dst A') (B1 ops rest::q)) cs) y):Way P main Sh Stop S (G (b.at a (B1 ops (i::rest)::q)) cs) w:=by
 refine .step rfl λz A2=>?_;obtain⟨y,I,H,m,s,N⟩:=h z A2;have Q:((b.at a (B1 ops (i::rest)::q)).kind==Ki)=A9:=by simpa[Frame.at]using U
 have M:(b.at a (B1 ops (i::rest)::q)).finish A'=b.at (a.put o.dst A') (B1 ops rest::q):=by rw[LF,K];rfl
 refine⟨_,y,_,H,by rw[Tq K l,Jh Q m rfl,M];rfl,⟨s.size,s.same,s.os,s.output,s.tape,s.grow,λe he=>s.evs e (cB he)⟩,N⟩
end
noncomputable def Xh:Bg:=Tryz.f126.body.getD VG
def fstC:Bg->Bg|Bh x _=>x|c=>c
def sndC:Bg->Bg|Bh _ y=>y|c=>c
def Mu:Bg->Bg|Wq _ c|r5 c=>c|c=>c
def ML:Bg->Array BR|Ej _ ops _=>ops|_=>#[]
noncomputable def c3:Bg:=sndC (sndC (sndC Xh))
noncomputable def o2:Array BR:=ML (fstC (sndC (sndC Xh)))
noncomputable def MK:Array BR:=ML (fstC (fstC c3))
noncomputable def Zn:Bg:=Mu (Mu (sndC (fstC c3)))
noncomputable def PU:Array BR:=ML (fstC Zn)
noncomputable def gj:Bg:=Mu (fstC (sndC (sndC Zn)))
noncomputable def OR:Array BR:=ML (fstC gj)
noncomputable def WT:Array BR:=ML (fstC (sndC gj))
noncomputable def My:Array BR:=ML (sndC (sndC gj))
noncomputable def TV:Array BR:=ML (sndC (sndC (sndC Zn)))
noncomputable def TW:Array BR:=ML (fstC (sndC c3))
noncomputable def RF:Bg:=sndC (sndC c3)
def aIb:c3=Bh (Bh (Ej 3 MK A9) (Wq 0 (r5 Zn))) (Bh (Ej 9 TW A9) RF):=by kernel_rfl
def a2O:Zn=Bh (Ej 4 PU A9) (Bh (.cond (An 17) VG (.exit 0)) (Bh (Wq 1 gj) (Ej 8 TV A9))):=by kernel_rfl
def aGa:gj=Bh (Ej 5 OR A9) (Bh (Ej 6 WT A9) (Ej 7 My A9)):=by kernel_rfl
def Ef(h:i<ops.size):ops[i]?=Y (ops.getD i Aw):=by rw[Iv,EP h];rfl
def aBX{n:Nat}(h:ρ (An 16)=A7 A8 j)(b:ρ (An 15)=A7 A8 n)(w:A0):(Ab ρ (PU.getD 0 Aw)).runT A6 w #[]=(Ac (D6 (Af (Bz (j<n)))) w,#[]):=by
 have s:(PU.getD 0 Aw).op=.binOp .lss 3 (An 16) (An 15) 3:=by kernel_rfl
 unfold Ab;rw[s];simp[h,b,go_sem]
def aWV{bl off cap n:Nat}(b:ρ (An 14)=A4 (Y ⟨bl,off,Z⟩) n cap)(h:ρ (An 16)=A7 A8 j)(s:j<n)(w:A0):(Ab ρ (OR.getD 0 Aw)).runT A6 w #[]=(Ac (D6 (Ad (Y ⟨bl,off+j*2,Z⟩))) w,#[]):=by
 have y:(OR.getD 0 Aw).op=.indexAddr 57 (An 14) (An 16):=by kernel_rfl
 unfold Ab;rw[y];simp[b,h,go_sem,s]
def run_load{bl off:Nat}{p v:zz}(b:ρ (An 18)=Ad (Y ⟨bl,off,Z⟩))(s:w.cell? ⟨bl,off,Z⟩=Y (J p))(hv:w.cell? ⟨bl,off+1,Z⟩=Y (J v)):(Ab ρ (OR.getD 1 Aw)).runT A6 w #[]=(Ac (D6 (A_ #[J p,J v])) w,#[⟨Ie ⟨bl,off,Z⟩,A9,A9⟩,⟨Ie ⟨bl,off+1,Z⟩,A9,A9⟩]):=by
 have h:(OR.getD 1 Aw).op=R0 85 (An 18):=by kernel_rfl
 unfold Ab;rw[h];simp[b,go_sem,s,hv]
def aWF(w:A0):(Ab ρ (OR.getD 2 Aw)).runT A6 w #[]=(Ac (D6 (Av w.heap.size)) {w with heap:=w.heap.push (AF #[J B8,J B8] 85)},#[]):=by
 have b:(OR.getD 2 Aw).op=.alloc 85:=by kernel_rfl
 unfold Ab;rw[b];simp[go_sem];rfl
def q8{b:Nat}{c:zw}{t:Aj}{z:Nat×Nat}{v:A1}(h:w.heap[b]?=Y (AF c t z)):(w.setCell ⟨b,i,Z⟩ v).heap[b]?=Y (AF (c.setIfInBounds i v) t z):=by unfold LK;rw[WO _ _ _ h];rfl
def Rn(w:A0)(b:Nat)(p v:zz):A0:=(w.setCell ⟨b,0,Z⟩ (J p)).setCell ⟨b,1,Z⟩ (J v)
def aUQ{p v:zz}{y:A1}(b:w.heap[BA]?=Y (AF #[x,y] 85)):(Rn w BA p v).heap[BA]?=Y (AF #[J p,J v] 85):=by unfold Rn;rw[q8 (q8 b)];simp
def aAj{b:Nat}{p v:zz}(h:b≠BA):(Rn w BA p v).heap[b]?=w.heap[b]?:=by unfold Rn LK;rw[Nb _ _ _ h,Nb _ _ _ h]
def yW(w:A0)(b:Nat)(p v:zz):(Rn w b p v).heap.size=w.heap.size:=by unfold Rn LK;simp
def run_store{p v:zz}{y:A1}(N:ρ (An 8)=Av BA)(M:ρ (An 19)=A_ #[J p,J v])(h:w.heap[BA]?=Y (AF #[x,y] 85)):(Ab ρ (OR.getD 3 Aw)).runT A6 w #[]=(Ac .skip (Rn w BA p v),#[⟨Ie ⟨BA,0,Z⟩,A3,A9⟩,⟨Ie ⟨BA,1,Z⟩,A3,A9⟩]):=by
 have Q:(OR.getD 3 Aw).op=.store 85 (An 8) (An 19):=by kernel_rfl
 have c0:w.cell? ⟨BA,0,Z⟩=Y x:=by simp[FB,h]
 have I:w.frozen? ⟨BA,0,Z⟩=A9:=by simp[cf,h]
 have H:=q8 (i:=0) (v:=J p) h;have c1:(w.setCell ⟨BA,0,Z⟩ (J p)).cell? ⟨BA,1,Z⟩=Y y:=by simp[FB,H]
 have K:(w.setCell ⟨BA,0,Z⟩ (J p)).frozen? ⟨BA,1,Z⟩=A9:=by simp[cf,H]
 unfold Ab Rn;rw[Q];have z:∀(w:A0)(b i:Nat)(x:A1)(s:zz)(es:Array C5),w.cell? ⟨b,i,Z⟩=Y x->w.frozen? ⟨b,i,Z⟩=A9->(store ⟨b,i,Z⟩ (J s)).events A6 w es=es.push ⟨Ie ⟨b,i,Z⟩,A3,A9⟩:=by intro w b i x s es hc U;unfold sH store;rw[bg (by simp) (by simp),hc];simp only[U];rfl
 simp[N,M,go_sem,c0,I,c1,K];rw[z _ _ _ _ _ _ c0 I,z _ _ _ _ _ _ c1 K];rfl
def aWS{l m p A:A1}(h:ρ (An 6)=l)(b:ρ (An 5)=m)(h2:ρ (An 2)=p)(s:ρ (An 8)=A)(w:A0):(Ab ρ (My.getD 0 Aw)).runT A6 w #[]=(Ac (D6 (FU (Ek 198) #[] #[l,m,p,A])) w,#[]):=by
 have y:(My.getD 0 Aw).op=.makeFunc (Ek 198) #[] #[An 6,An 5,An 2,An 8]:=by kernel_rfl
 unfold Ab;rw[y];simp[h,b,h2,s,go_sem,Instr.makeFunc]
def aWT{l m p s:A1}(b:ρ (An 21)=FU (Ek 198) #[] #[l,m,p,s])(w:A0):(Ab ρ (My.getD 1 Aw)).runT A6 w #[]=(Ac (a'w {target:=.fn (Ek 198) #[l,m,p,s],args:=#[]}) w,#[]):=by
 have h:(My.getD 1 Aw).op=.go {callee:=N7 (An 21),args:=#[],argTypes:=#[]}:=by kernel_rfl
 unfold Ab;rw[h];simp[b,go_sem,cE]
def aWE(hc:ρ (Iy (A7 A8 1))=A7 A8 1)(b:ρ (An 16)=A7 A8 j)(s:j<9223372036854775807)(w:A0):(Ab ρ (TV.getD 0 Aw)).runT A6 w #[]=(Ac (D6 (A7 A8 (j+1:Nat))) w,#[]):=by
 have h:(TV.getD 0 Aw).op=.binOp .add 3 (An 16) (Iy (A7 A8 1)) 3:=by kernel_rfl
 unfold Ab;rw[h];simp[b,hc,go_sem];rw[VK];omega
def run_move(h:ρ (An 22)=x)(w:A0):(Ab ρ (TV.getD 1 Aw)).runT A6 w #[]=(Ac (D6 x) w,#[]):=by
 have b:(TV.getD 1 Aw).op=Mb (An 22):=by kernel_rfl
 unfold Ab;rw[b];simp[h]
end
section
open Go.Proofs.YtcfhleenecfghaaGreatDoor
open Go.Conc Go.RowKit Go.Conc.Lib Go.ConcR.Gen Go.ConcN.Gen
open Go.ConcN(WgLive)
open Go.ConcR(Payload)
variable{w:A0}{T:zw}
def aZ0(x:A1):#[x]++MU (ry.ntmps-(#[x]:zw).size) A'=#[x,A',A',A',A',A',A',A',A',A',A',A',A',A',A',A',A',A',A',A',A',A',A',A',A',A',A',A',A',A',A',A',A',A',A',A',A',A',A',A',A',A',A',A',A',A',A',A',A',A',A',A',A',A',A',A',A',A',A',A',A',A',A',A',A',A',A',A',A',A',A',A',A',A',A',A',A',A',A',A',A',A',A',A']:=by rw[show ry.ntmps=84 by kernel_rfl];simp only[I7,Kr,tR,Nat.reduceAdd,Nat.reduceSub,aCn,aCo,aH8,aGm,U9,Kq]
def aHi(x y:A1):#[x,y]++MU (rv.ntmps-(#[x,y]:zw).size) A'=#[x,y,A',A',A',A',A',A',A',A',A',A',A',A',A',A',A',A',A',A',A',A',A',A',A',A',A',A',A',A',A',A',A',A',A',A',A',A',A',A',A',A',A',A',A',A',A',A',A',A',A',A',A',A',A',A',A',A',A',A',A',A',A',A',A',A',A',A',A',A',A',A',A',A',A',A',A',A',A',A',A',A',A',A',A',A',A',A',A',A',A',A',A',A',A',A',A',A',A',A',A',A',A',A',A',A',A',A',A',A',A',A',A',A',A',A',A']:=by rw[show rv.ntmps=117 by kernel_rfl];simp only[I7,Kr,tR,Nat.reduceAdd,Nat.reduceSub,aCn,aCo,aH8,aGm,U9,Kq]
def z4:PU.size=1:=by kernel_rfl
def z5:OR.size=4:=by kernel_rfl
def Wk:WT.size=1:=by kernel_rfl
def Tl:My.size=2:=by kernel_rfl
def aCf:TV.size=2:=by kernel_rfl
def z9:TW.size=1:=by kernel_rfl
section
variable[CV]
structure JJ where
 X:HQ
 cs:List Ag
 bl:Nat
 off:Nat
 cap:Nat
 ms:List (zz×zz)
 br:Nat
 AW:Nat
 old:zy
 w0:A0
variable{R:JJ}
structure CY(R:JJ)(j:Nat)(T:zw):Prop where
 size:T.size=39
 t1:T.getD 1 A'=A4 (Y ⟨R.bl,R.off,Z⟩) R.ms.length R.cap
 t2:T.getD 2 A'=Av R.br
 t5:T.getD 5 A'=Av R.AW
 t6:T.getD 6 A'=Av R.X.Wg
 t14:T.getD 14 A'=A4 (Y ⟨R.bl,R.off,Z⟩) R.ms.length R.cap
 t15:T.getD 15 A'=A7 A8 R.ms.length
 t16:T.getD 16 A'=A7 A8 j
structure NH(R:JJ)(Sh S:zy)(w:A0):Prop where
 Vh:∀b,R.old b->S b∨Sh b
 OX:∀b,Sh b->R.old b
 s:∀b,S b->R.old b
 same:∀b,R.old b->w.heap[b]?=R.w0.heap[b]?
 size:R.w0.heap.size<=w.heap.size
 out:w.os=R.w0.os/\w.output=R.w0.output
omit[CV]in def NH.rely{Sh S:zy}{d8:A0}(h:NH R Sh S w)(y:CB Sh S w d8):NH R Sh S d8:=⟨h.Vh,h.OX,h.s,λb z=>(y.same b (h.Vh b z)).trans (h.same b z),G3 h.size y.size,y.os.trans h.out.1,y.output.trans h.out.2⟩
noncomputable def VX:List Cb:=[Wx Zn,cL 0,BS (Bh (Ej 9 TW A9) RF)]
noncomputable def head(R:JJ)(T:zw):AR:=G ((B5 126).at ⟨T,[]⟩ (BS Zn::VX)) R.cs
noncomputable def waited(R:JJ)(T:zw):AR:=G ((B5 126).at ⟨T,[]⟩ [B1 TW [],BS RF]) R.cs
structure JJ.Ok(R:JJ):Prop where
 prog:R.X.P=A6
 ty:R.X.ty=JV.tWg
 n:R.X.n=R.ms.length
 small:R.ms.length<2147483648
 aSi:∀j p v,R.ms[j]?=Y (p,v)->R.w0.cell? ⟨R.bl,R.off+j*2,Z⟩=Y (J p)/\R.w0.cell? ⟨R.bl,R.off+j*2+1,Z⟩=Y (J v)
 aA8:R.old R.bl
 lt:∀b,R.old b->b<R.w0.heap.size
 child:∀j p v w BA,R.ms[j]?=Y (p,v)->(∀b,R.old b->w.heap[b]?=R.w0.heap[b]?)->R.w0.heap.size<=BA->w.heap[BA]?=Y (AF #[J p,J v] 85)->∃I3 val,Way R.X.P A9 R.old (AtSend R.X j BA I3 val R.old) (λb=>b=BA) (kv R.X.P (call198 R.X.Wg R.AW R.br BA)) w
 goal:∀T Sh S g' w',CY R R.ms.length T->NH R Sh S w'->qo R.X (waited R T) g'->R.X.Goal Sh S g' w'
omit[CV]in def CY.set{j d:Nat}(h:CY R j T)(v:A1)(K:d≠1/\d≠2/\d≠5/\d≠6/\d≠14/\d≠15/\d≠16):CY R j (T.setIfInBounds d v):=by obtain⟨b,h2,H,I,s,y,z⟩:=K;exact⟨by simpa using h.size,by rw[Br b];exact h.t1,by rw[Br h2];exact h.t2,by rw[Br H];exact h.t5,by rw[Br I];exact h.t6,by rw[Br s];exact h.t14,by rw[Br y];exact h.t15,by rw[Br z];exact h.t16⟩
def E7.ctl{r:Nat}{Sh S:zy}{g g':AR}{w:A0}(hs:g.status=DJ)(h:∀w,Bi R.X.P A3 g w=Cw g' w #[])(k:E7 R.X r Sh S g' w):E7 R.X r Sh S g w:=by cases r with|zero=>exact Way.ctl hs h k|succ r=>exact Way.ctl hs h k
def aYH(K:R.Ok){Sh S:zy}(h:CY R R.ms.length T)(M:NH R Sh S w):E7 R.X 0 Sh S (head R T) w:=by
 show Way R.X.P A3 Sh (mj R.X Sh) S (head R T) w;unfold head;rw[a2O];refine Way.ctl rfl (λ_=>FT) ?_;refine Way.ctl rfl (λ_=>II) ?_;rw[show Hf PU.size=[0]by kernel_rfl];refine Way.pure (Af A9) (Ef (by rw[z4];omega)) (by kernel_rfl) (by simp[B5]) (λw=>?_) ?_;·rw[K.prog,aBX (ρ:=Cg ⟨T,[]⟩) h.t16 h.t15];simp
 rw[show(PU.getD 0 Aw).dst=Y 17 by kernel_rfl];show Way R.X.P A3 Sh (mj R.X Sh) S (G ((B5 126).at ⟨T.setIfInBounds 17 (Af A9),[]⟩ _) R.cs) w;have y:=h.set (d:=17) (Af A9) (by omega);have z:(T.setIfInBounds 17 (Af A9)).getD 17 A'=Af A9:=FO (by rw[h.size];omega);generalize T.setIfInBounds 17 (Af A9)=b at y z;refine Way.ctl rfl (λ_=>Hs) ?_;refine Way.ctl rfl (λ_=>FT) ?_;refine Way.ctl rfl (λ_=>cC (t:=A9) z) ?_;refine Way.ctl rfl (λ_=>stepG_exit (k':=[BS (Bh (Ej 9 TW A9) RF)]) rfl) ?_;refine Way.ctl rfl (λ_=>FT) ?_;refine Way.ctl rfl (λ_=>II) ?_;rw[show Hf TW.size=[0]by kernel_rfl];have l:(TW.getD 0 Aw).op=If {callee:=N7 (JE 201),args:=#[An 6],argTypes:=#[325]}:=by kernel_rfl
 obtain⟨c,N⟩:∃c,ry.body=Y c:=⟨_,rfl⟩;refine Way.ctl rfl (λw=>Tg (Ef (by rw[z9];omega)) (by kernel_rfl) (by simp[B5]) l (by rw[K.prog];exact aEQ) (by kernel_rfl) N) ?_;refine .stop λm A2=>⟨rfl,λp=>?_⟩;have A:=aZ' (X:=R.X) (L:=JV) (b₀:=B5 126) (a₀:=⟨b,[]⟩) (ops₀:=TW) (i₀:=0) (rest₀:=[]) (k₀:=[BS RF]) (cs:=R.cs) (by rw[K.prog];exact qU) m p;have U:=aYz (X:=R.X) (L:=JV) (b₀:=B5 126) (a₀:=⟨b,[]⟩) (ops₀:=TW) (i₀:=0) (rest₀:=[]) (k₀:=[BS RF]) (cs:=R.cs) (by rw[K.prog];exact qU) K.ty;refine⟨_,_,3,U,?_,λI H w' C=>?_⟩
 ·have e:#[An 6].map (Cg ⟨b,[]⟩)=#[Av R.X.Wg]:=by simp only[M',Gd,Kt];rw[show Cg ⟨b,[]⟩ (An 6)=Av R.X.Wg from y.t6]
  have Q:R.X.P.funcs[201]?=Y ry:=by rw[K.prog];exact aEQ
  rw[e,enter_at (c:=rO JV) _ Q rfl,aZ0];exact A
 have s:TW[0]?.bind (·.dst)=Y 23:=by kernel_rfl
 rw[s]at H;exact K.goal (b.setIfInBounds 23 (Ay #[])) Sh S I w' (y.set _ (by omega)) ((M.rely A2).rely C) H
noncomputable def gl:List Cb:=BS (Ej 7 My A9)::cL 1::BS (Ej 8 TV A9)::VX
noncomputable def mR:List Cb:=cL 1::BS (Ej 8 TV A9)::VX
def aYD(K:R.Ok){r j:Nat}{Sh S:zy}(z:CY R j T)(Q:j<R.ms.length)(h:∀T,CY R (j+1) T->E7 R.X r Sh S (head R T) w):E7 R.X r Sh S (G ((B5 126).at ⟨T,[]⟩ (B1 My []::mR)) R.cs) w:=by
 have U:=K.small;refine E7.ctl rfl (λ_=>Hs) ?_;unfold mR;refine E7.ctl rfl (λ_=>stepG_inBlock) ?_;refine E7.ctl rfl (λ_=>II) ?_;rw[show Hf TV.size=[0,1]by kernel_rfl];have y:∀{ops:Array BR}{i:Nat}{rest:List Nat}{q:List Cb}{o:BR}{a:Nu}(v:A1)(H:ops[i]?=Y o)(I:Gt o (I6 ops a.tmps)=A3)(h:∀w,(Ab a.eval o).runT A6 w #[]=(Ac (D6 v) w,#[])),E7 R.X r Sh S (G ((B5 126).at (a.put o.dst v) (B1 ops rest::q)) R.cs) w->E7 R.X r Sh S (G ((B5 126).at a (B1 ops (i::rest)::q)) R.cs) w:=by intro ops i rest q o a v H I hx N;cases r with|zero=>exact Way.pure v H I (by simp[B5]) (by rw[K.prog];exact hx) N|succ r=>exact Way.pure v H I (by simp[B5]) (by rw[K.prog];exact hx) N
 refine y (A7 A8 (j+1:Nat)) (Ef (by rw[aCf];omega)) (by kernel_rfl) (aWE (ρ:=Cg ⟨T,[]⟩) rfl z.t16 (by omega)) ?_;rw[show(TV.getD 0 Aw).dst=Y 22 by kernel_rfl];show E7 R.X r Sh S (G ((B5 126).at ⟨T.setIfInBounds 22 (A7 A8 (j+1:Nat)),[]⟩ _) R.cs) w;have b:=z.set (d:=22) (A7 A8 (j+1:Nat)) (by omega);have s:(T.setIfInBounds 22 (A7 A8 (j+1:Nat))).getD 22 A'=A7 A8 (j+1:Nat):=FO (by rw[z.size];omega);generalize T.setIfInBounds 22 (A7 A8 (j+1:Nat))=M at b s;refine y (A7 A8 (j+1:Nat)) (Ef (by rw[aCf];omega)) (by kernel_rfl) (run_move (ρ:=Cg ⟨M,[]⟩) s) ?_;rw[show(TV.getD 1 Aw).dst=Y 16 by kernel_rfl];show E7 R.X r Sh S (G ((B5 126).at ⟨M.setIfInBounds 16 (A7 A8 (j+1:Nat)),[]⟩ _) R.cs) w;refine E7.ctl rfl (λ_=>Hs) ?_;unfold VX;refine E7.ctl rfl (λ_=>stepG_inLoop) ?_;refine h _ ⟨by simpa using b.size,by rw[Br (by omega)];exact b.t1,by rw[Br (by omega)];exact b.t2,by rw[Br (by omega)];exact b.t5,by rw[Br (by omega)];exact b.t6,by rw[Br (by omega)];exact b.t14,by rw[Br (by omega)];exact b.t15,FO (by rw[b.size];omega)⟩
def aYC(K:R.Ok){r j BA:Nat}{Sh S:zy}{p v:zz}(H1:R.X.n-(r+1)=j)(A2:r<R.X.n)(hm:R.ms[j]?=Y (p,v))(H:CY R j T)(D:T.getD 8 A'=Av BA)(Im:NH R Sh (λb=>S b) w)(W':R.w0.heap.size<=BA)(IX:w.heap[BA]?=Y (AF #[J p,J v] 85))(ih:∀Sh S T w,CY R (j+1) T->NH R Sh S w->E7 R.X r Sh S (head R T) w):Way R.X.P A3 Sh (AtGo R.X j (E7 R.X r) Sh) (λb=>S b∨b=BA) (G ((B5 126).at ⟨T,[]⟩ (B1 WT []::gl)) R.cs) w:=by
 refine Way.ctl rfl (λ_=>Hs) ?_;unfold gl;refine Way.ctl rfl (λ_=>II) ?_;rw[show Hf My.size=[0,1]by kernel_rfl];refine Way.pure (FU (Ek 198) #[] #[Av R.X.Wg,Av R.AW,Av R.br,Av BA]) (Ef (by rw[Tl];omega)) (by kernel_rfl) (by simp[B5]) (by rw[K.prog];exact aWS (ρ:=Cg ⟨T,[]⟩) H.t6 H.t5 H.t2 D) ?_;rw[show(My.getD 0 Aw).dst=Y 21 by kernel_rfl];show Way R.X.P A3 Sh (AtGo R.X j (E7 R.X r) Sh) (λb=>S b∨b=BA) (G ((B5 126).at ⟨T.setIfInBounds 21 (FU (Ek 198) #[] #[Av R.X.Wg,Av R.AW,Av R.br,Av BA]),[]⟩ _) R.cs) w;have l:=H.set (d:=21) (FU (Ek 198) #[] #[Av R.X.Wg,Av R.AW,Av R.br,Av BA]) (by omega);have m:(T.setIfInBounds 21 (FU (Ek 198) #[] #[Av R.X.Wg,Av R.AW,Av R.br,Av BA])).getD 21 A'=FU (Ek 198) #[] #[Av R.X.Wg,Av R.AW,Av R.br,Av BA]:=FO (by rw[H.size];omega);generalize T.setIfInBounds 21 (FU (Ek 198) #[] #[Av R.X.Wg,Av R.AW,Av R.br,Av BA])=y at l m;refine .stop λs I=>?_;have z:NH R Sh S s:=Im.rely ⟨I.size,λb h=>I.same b (h.imp AD id),I.os,I.output⟩;have N:s.heap[BA]?=Y (AF #[J p,J v] 85):=by rw[I.same _ (AD (AJ rfl))];exact IX
 obtain⟨I3,U,Fa⟩:=K.child j p v s BA hm z.same W' N;have A:¬R.old BA:=λx=>by have:=K.lt _ x;omega
 have C:(Ab (Cg ⟨y,[]⟩) (My.getD 1 Aw)).runT R.X.P s #[]=(Ac (a'w (call198 R.X.Wg R.AW R.br BA)) s,#[]):=by rw[K.prog];exact aWT (ρ:=Cg ⟨y,[]⟩) m s
 have Q:(Ab (Cg ⟨y,[]⟩) (My.getD 1 Aw)).run R.X.P s=Ac (a'w (call198 R.X.Wg R.AW R.br BA)) s:=by have:=Rs (P:=R.X.P) (Ab (Cg ⟨y,[]⟩) (My.getD 1 Aw)) s #[];rw[C]at this;exact this.symm
 have M:r9 R.X.P (B5 126).fn ⟨y,[]⟩ (My.getD 1 Aw) s=#[]:=by unfold r9 sH;rw[C];exact rD _ _
 refine⟨rfl,G ((B5 126).at ⟨y,[]⟩ (B1 My []::mR)) R.cs,_,λb=>Sh b∨R.old b,λ_=>False,R.old,λb=>b=BA,BA,I3,U,?_,rfl,?_,rfl,Fa,?_⟩;·have:=stepG_spawn (P:=R.X.P) (main:=A3) (b:=B5 126) (a:=⟨y,[]⟩) (k:=mR) (cs:=R.cs) (rest:=[]) (Ef (ops:=My) (i:=1) (by rw[Tl];omega)) (by kernel_rfl) (by simp[B5]) Q rfl;rw[M,show(My.getD 1 Aw).dst=Z by kernel_rfl]at this;exact this
 ·refine⟨λb h=>h.elim,λb h=>AJ h,λb=>VW,λb h=>(z.Vh b h).imp AD id,λb h=>h.elim,λb h=>h.elim,λb h=>?_⟩;subst h;exact⟨A,λx=>A (z.OX _ x)⟩
 have hlt:j<R.ms.length:=(List.getElem?_eq_some_iff.1 hm).1;exact aYD K l hlt λDk GK=>ih _ _ Dk s GK ⟨λb h=>AJ (AJ h),λb h=>h.elim (z.OX b) id,λb h=>h.elim,z.same,z.size,z.out⟩
def aYB(K:R.Ok){r j:Nat}{Sh S:zy}(H1:R.X.n-(r+1)=j)(A2:r<R.X.n)(g9:CY R j T)(Im:NH R Sh S w)(ih:∀Sh S T w,CY R (j+1) T->NH R Sh S w->E7 R.X r Sh S (head R T) w):E7 R.X (r+1) Sh S (head R T) w:=by
 show Way R.X.P A3 Sh (StopA R.X r (E7 R.X r) Sh) S (head R T) w;have hn:=K.n;have hlt:j<R.ms.length:=by omega
 obtain⟨⟨p,v⟩,hm⟩:∃x,R.ms[j]?=Y x:=⟨_,List.getElem?_eq_getElem hlt⟩;unfold head;rw[a2O];refine Way.ctl rfl (λ_=>FT) ?_;refine Way.ctl rfl (λ_=>II) ?_;rw[show Hf PU.size=[0]by kernel_rfl];refine Way.pure (Af A3) (Ef (by rw[z4];omega)) (by kernel_rfl) (by simp[B5]) (λw=>?_) ?_;·rw[K.prog,aBX (ρ:=Cg ⟨T,[]⟩) g9.t16 g9.t15];simp[hlt]
 rw[show(PU.getD 0 Aw).dst=Y 17 by kernel_rfl];show Way R.X.P A3 Sh (StopA R.X r (E7 R.X r) Sh) S (G ((B5 126).at ⟨T.setIfInBounds 17 (Af A3),[]⟩ _) R.cs) w;have A:=g9.set (d:=17) (Af A3) (by omega);have df:(T.setIfInBounds 17 (Af A3)).getD 17 A'=Af A3:=FO (by rw[g9.size];omega);generalize T.setIfInBounds 17 (Af A3)=BK at A df;refine Way.ctl rfl (λ_=>Hs) ?_;refine Way.ctl rfl (λ_=>FT) ?_;refine Way.ctl rfl (λ_=>cC (t:=A3) df) ?_;refine Way.ctl rfl (λ_=>stepG_skip) ?_;refine Way.ctl rfl (λ_=>FT) ?_;refine Way.ctl rfl (λ_=>kx) ?_;rw[aGa];refine Way.ctl rfl (λ_=>FT) ?_;refine Way.ctl rfl (λ_=>II) ?_;rw[show Hf OR.size=[0,1,2,3]by kernel_rfl];refine Way.pure (Ad (Y ⟨R.bl,R.off+j*2,Z⟩)) (Ef (by rw[z5];omega)) (by kernel_rfl) (by simp[B5]) (λw=>by rw[K.prog];exact aWV (ρ:=Cg ⟨BK,[]⟩) A.t14 A.t16 hlt w) ?_;rw[show(OR.getD 0 Aw).dst=Y 18 by kernel_rfl];show Way R.X.P A3 Sh (StopA R.X r (E7 R.X r) Sh) S (G ((B5 126).at ⟨BK.setIfInBounds 18 (Ad (Y ⟨R.bl,R.off+j*2,Z⟩)),[]⟩ _) R.cs) w;have GK:=A.set (d:=18) (Ad (Y ⟨R.bl,R.off+j*2,Z⟩)) (by omega);have i':(BK.setIfInBounds 18 (Ad (Y ⟨R.bl,R.off+j*2,Z⟩))).getD 18 A'=Ad (Y ⟨R.bl,R.off+j*2,Z⟩):=FO (by rw[A.size];omega);generalize BK.setIfInBounds 18 (Ad (Y ⟨R.bl,R.off+j*2,Z⟩))=Dk at GK i';refine Way.oper (Ef (by rw[z5];omega)) (by kernel_rfl) (by simp[B5]) λd8 FP=>?_;have Ss:=Im.rely FP;have DN:∀i,d8.cell? ⟨R.bl,i,Z⟩=R.w0.cell? ⟨R.bl,i,Z⟩:=λi=>by unfold FB;rw[Ss.same _ K.aA8]
 obtain⟨c1,c2⟩:=K.aSi j p v hm;refine⟨A_ #[J p,J v],d8,#[⟨Ie ⟨R.bl,R.off+j*2,Z⟩,A9,A9⟩,⟨Ie ⟨R.bl,R.off+j*2+1,Z⟩,A9,A9⟩],S,by rw[K.prog];exact run_load (ρ:=Cg ⟨Dk,[]⟩) i' (by rw[DN];exact c1) (by rw[DN];exact c2),?_,?_⟩;·refine⟨Ae _,λ_ _ _=>rfl,rfl,rfl,rfl,λb=>⟨AD,λx=>x.elim (λz=>z) λy=>by omega⟩,λe he=>?_⟩;have Aa:S R.bl∨Sh R.bl/\A9=A9:=(Im.Vh _ K.aA8).imp id λx=>⟨x,rfl⟩;simp only[XW,JG,He,or_false]at he;rcases he with rfl|rfl<;>exact .cell _ _ Aa
 rw[show(OR.getD 1 Aw).dst=Y 19 by kernel_rfl];show Way R.X.P A3 Sh (StopA R.X r (E7 R.X r) Sh) S (G ((B5 126).at ⟨Dk.setIfInBounds 19 (A_ #[J p,J v]),[]⟩ _) R.cs) d8;have RJ:=GK.set (d:=19) (A_ #[J p,J v]) (by omega);have U:(Dk.setIfInBounds 19 (A_ #[J p,J v])).getD 19 A'=A_ #[J p,J v]:=FO (by rw[GK.size];omega);generalize Dk.setIfInBounds 19 (A_ #[J p,J v])=C at RJ U;clear DN c1 c2 FP Im df i';refine Way.oper (Ef (by rw[z5];omega)) (by kernel_rfl) (by simp[B5]) λI Fe=>?_;have N:=Ss.rely Fe;refine⟨Av I.heap.size,{I with heap:=I.heap.push (AF #[J B8,J B8] 85)},#[],λb=>S b∨b=I.heap.size,by rw[K.prog];exact aWF (ρ:=Cg ⟨C,[]⟩) I,?_,?_⟩;·refine⟨by simp,λb H _=>?_,rfl,rfl,rfl,λb=>⟨λx=>x.imp id λy=>by simp only[bq];omega,λx=>x.imp id λy=>by simp only[bq]at y;omega⟩,by simp⟩;show(I.heap.push _)[b]?=_;rw[H_ H,EP H]
 rw[show(OR.getD 2 Aw).dst=Y 8 by kernel_rfl];have rg:=N.size;generalize W':I.heap.size=h at rg;show Way R.X.P A3 Sh (StopA R.X r (E7 R.X r) Sh) (λb=>S b∨b=h) (G ((B5 126).at ⟨C.setIfInBounds 8 (Av h),[]⟩ _) R.cs) _;have NP:=RJ.set (d:=8) (Av h) (by omega);have HT:(C.setIfInBounds 8 (Av h)).getD 8 A'=Av h:=FO (by rw[RJ.size];omega);have U:(C.setIfInBounds 8 (Av h)).getD 19 A'=A_ #[J p,J v]:=by rw[Br (by omega)];exact U
 generalize C.setIfInBounds 8 (Av h)=M at NP HT U;have oC:∀b,R.old b->b≠h:=λb H x=>by have:=K.lt _ H;omega
 have vT:NH R Sh S {I with heap:=I.heap.push (AF #[J B8,J B8] 85)}:=by refine⟨N.Vh,N.OX,N.s,λb H=>?_,by simp only[bq];omega,N.out⟩;have D:b<I.heap.size:=Ku (K.lt b H) (by omega);show(I.heap.push _)[b]?=_;rw[H_ D,<-EP D];exact N.same b H
 have IX:({I with heap:=I.heap.push (AF #[J B8,J B8] 85)}:A0).heap[h]?=Y (AF #[J B8,J B8] 85):=by show(I.heap.push _)[h]?=_;rw[<-W',zn]
 generalize({I with heap:=I.heap.push (AF #[J B8,J B8] 85)}:A0)=qZ at vT IX;clear N Ss Fe W';refine Way.aTP (Ef (by rw[z5];omega)) (by kernel_rfl) (by simp[B5]) λl m=>?_;have Q:NH R Sh S l:=vT.rely ⟨m.size,λb H=>m.same b (H.imp AD id),m.os,m.output⟩;have x8:l.heap[h]?=Y (AF #[J B8,J B8] 85):=by rw[m.same _ (AD (AJ rfl))];exact IX
 refine⟨Rn l h p v,#[⟨Ie ⟨h,0,Z⟩,A3,A9⟩,⟨Ie ⟨h,1,Z⟩,A3,A9⟩],λb=>S b∨b=h,by rw[K.prog];exact run_store (ρ:=Cg ⟨M,[]⟩) HT U x8,?_,?_⟩;·refine⟨by rw[yW];exact Ae _,λb _ H=>aAj λx=>H (AJ x),rfl,rfl,rfl,λb=>⟨AD,λx=>x.elim (λz=>z) λy=>by rw[yW]at y;omega⟩,λe he=>?_⟩;simp only[XW,JG,He,or_false]at he;rcases he with rfl|rfl<;>exact .cell _ _ (AD (AJ rfl))
 rw[show(OR.getD 3 Aw).dst=Z by kernel_rfl];show Way R.X.P A3 Sh (StopA R.X r (E7 R.X r) Sh) (λb=>S b∨b=h) (G ((B5 126).at ⟨M,[]⟩ _) R.cs) _;have a5k:NH R Sh S (Rn l h p v):=⟨Q.Vh,Q.OX,Q.s,λb H=>by rw[aAj (oC b H)];exact Q.same b H,by rw[yW];exact Q.size,Q.out⟩;have a7e:(Rn l h p v).heap[h]?=Y (AF #[J p,J v] 85):=aUQ x8;generalize Rn l h p v=kS at a5k a7e;clear Q x8 m vT IX U;refine Way.ctl rfl (λ_=>Hs) ?_;refine Way.ctl rfl (λ_=>FT) ?_;refine Way.ctl rfl (λ_=>II) ?_;rw[show Hf WT.size=[0]by kernel_rfl];have d0:(WT.getD 0 Aw).op=If {callee:=N7 (JE 197),args:=#[An 6,Iy (A7 A8 1)],argTypes:=#[325,3]}:=by kernel_rfl
 obtain⟨c,KV⟩:∃c,rv.body=Y c:=⟨_,rfl⟩;refine Way.ctl rfl (λw=>Tg (Ef (by rw[Wk];omega)) (by kernel_rfl) (by simp[B5]) d0 (by rw[K.prog];exact aEN) (by kernel_rfl) KV) ?_;refine .stop λzY aOk=>⟨rfl,λT6=>?_⟩;have aKC:WT[0]?.bind (·.dst)=Y 20:=by kernel_rfl
 have AB:=aHg (X:=R.X) (L:=JV) (Nx:=λg=>g=G ((B5 126).at ⟨M.setIfInBounds 20 (Ay #[]),[]⟩ (B1 WT []::gl)) R.cs) (b₀:=B5 126) (a₀:=⟨M,[]⟩) (ops₀:=WT) (i₀:=0) (rest₀:=[]) (k₀:=gl) (cs:=R.cs) (by rw[K.prog];exact qU) K.ty (by rw[aKC];rfl) zY T6;refine⟨λg=>g=G ((B5 126).at ⟨M.setIfInBounds 20 (Ay #[]),[]⟩ (B1 WT []::gl)) R.cs,12,?_,λg' Ct w' L3=>?_⟩
 ·have e:#[An 6,Iy (A7 A8 1)].map (Cg ⟨M,[]⟩)=#[Av R.X.Wg,A7 A8 1]:=by simp only[M',Gd,Kt];rw[show Cg ⟨M,[]⟩ (An 6)=Av R.X.Wg from NP.t6];rfl
  have AK:R.X.P.funcs[197]?=Y rv:=by rw[K.prog];exact aEN
  rw[e,enter_at (c:=a'R JV) _ AK rfl,aHi];exact AB
 subst Ct;have jG:CB Sh (λb=>S b∨b=h) kS w':=aOk.trans L3;rw[H1];refine aYC K H1 A2 hm (NP.set (d:=20) _ (by omega)) (by rw[Br (by omega)];exact HT) (a5k.rely ⟨jG.size,λb H=>jG.same b (H.imp AD id),jG.os,jG.output⟩) rg (by rw[jG.same _ (AD (AJ rfl))];exact a7e) ih
def aBb(K:R.Ok):∀(r:Nat)(Sh S:zy)(T:zw)(w:A0),r<=R.X.n->CY R (R.X.n-r) T->NH R Sh S w->E7 R.X r Sh S (head R T) w|0,Sh,S,T,w,_,h,l=>aYH K (by rw[<-K.n];exact h) l|r+1,Sh,S,T,w,A2,h,l=>aYB K rfl (by omega) h l λSh S T w b h2=>aBb K r Sh S T w (by omega) (by rw[show R.X.n-r=R.X.n-(r+1)+1 by omega];exact b) h2
end
variable{R:JJ}
end
section
open Go.Proofs.YtcfhleenecfghaaGreatDoor
open Go.Conc Go.RowKit Go.Conc.Lib
open Go.ConcN(WgLive)
open Go.ConcR(Payload wgBlock)
variable{w:A0}{T:zw}{ρ:C'->A1}
def z2:o2.size=1:=by kernel_rfl
def z3:MK.size=3:=by kernel_rfl
def aWU(w:A0):(Ab ρ (o2.getD 0 Aw)).runT A6 w #[]=(Ac (D6 (Av w.heap.size)) {w with heap:=w.heap.push (AF #[A7 EK 0,A7 fy 0] 325)},#[]):=by
 have b:(o2.getD 0 Aw).op=.alloc 325:=by kernel_rfl
 unfold Ab;rw[b];simp[go_sem]
def aWf{x:A1}(h:ρ (An 1)=x)(w:A0):(Ab ρ (MK.getD 0 Aw)).runT A6 w #[]=(Ac (D6 x) w,#[]):=by
 have b:(MK.getD 0 Aw).op=Mb (An 1):=by kernel_rfl
 unfold Ab;rw[b];simp[h]
def aWW{a:Ak}{n cap:Nat}(h:ρ (An 14)=A4 (Y a) n cap)(w:A0):(Ab ρ (MK.getD 1 Aw)).runT A6 w #[]=(Ac (D6 (A7 A8 n)) w,#[]):=by
 have b:(MK.getD 1 Aw).op=If {callee:=Kj .len,args:=#[An 14],argTypes:=#[57]}:=by kernel_rfl
 unfold Ab;rw[b];simp[h,go_sem]
def aWj(hc:ρ (Iy (A7 A8 0))=A7 A8 0)(w:A0):(Ab ρ (MK.getD 2 Aw)).runT A6 w #[]=(Ac (D6 (A7 A8 0)) w,#[]):=by
 have b:(MK.getD 2 Aw).op=Mb (Iy (A7 A8 0)):=by kernel_rfl
 unfold Ab;rw[b];simp[hc]
section
variable[CV]{R:JJ}
def E7.pure(K:R.Ok){r:Nat}{Sh S:zy}{w:A0}{ops:Array BR}{i:Nat}{rest:List Nat}{q:List Cb}{o:BR}{a:Nu}(v:A1)(h:ops[i]?=Y o)(s:Gt o (I6 ops a.tmps)=A3)(hx:∀w,(Ab a.eval o).runT A6 w #[]=(Ac (D6 v) w,#[]))(b:E7 R.X r Sh S (G ((B5 126).at (a.put o.dst v) (B1 ops rest::q)) R.cs) w):E7 R.X r Sh S (G ((B5 126).at a (B1 ops (i::rest)::q)) R.cs) w:=by cases r with|zero=>exact Way.pure v h s (by simp[B5]) (by rw[K.prog];exact hx) b|succ r=>exact Way.pure v h s (by simp[B5]) (by rw[K.prog];exact hx) b
def aYE(K:R.Ok){Sh S:zy}(hs:T.size=39)(b:T.getD 1 A'=A4 (Y ⟨R.bl,R.off,Z⟩) R.ms.length R.cap)(h2:T.getD 2 A'=Av R.br)(s:T.getD 5 A'=Av R.AW)(y:T.getD 6 A'=Av R.X.Wg)(z:NH R Sh S w):E7 R.X R.X.n Sh S (G ((B5 126).at ⟨T,[]⟩ [B1 o2 [],BS c3]) R.cs) w:=by
 refine E7.ctl rfl (λ_=>Hs) ?_;rw[aIb];refine E7.ctl rfl (λ_=>FT) ?_;refine E7.ctl rfl (λ_=>FT) ?_;refine E7.ctl rfl (λ_=>II) ?_;rw[show Hf MK.size=[0,1,2]by kernel_rfl];refine E7.pure K (A4 (Y ⟨R.bl,R.off,Z⟩) R.ms.length R.cap) (Ef (by rw[z3];omega)) (by kernel_rfl) (aWf (ρ:=Cg ⟨T,[]⟩) b) ?_;rw[show(MK.getD 0 Aw).dst=Y 14 by kernel_rfl];show E7 R.X R.X.n Sh S (G ((B5 126).at ⟨T.setIfInBounds 14 (A4 (Y ⟨R.bl,R.off,Z⟩) R.ms.length R.cap),[]⟩ _) R.cs) w;have h:(T.setIfInBounds 14 (A4 (Y ⟨R.bl,R.off,Z⟩) R.ms.length R.cap)).getD 14 A'=A4 (Y ⟨R.bl,R.off,Z⟩) R.ms.length R.cap:=FO (by omega);refine E7.pure K (A7 A8 R.ms.length) (Ef (by rw[z3];omega)) (by kernel_rfl) (aWW (ρ:=Cg ⟨T.setIfInBounds 14 (A4 (Y ⟨R.bl,R.off,Z⟩) R.ms.length R.cap),[]⟩) h) ?_;rw[show(MK.getD 1 Aw).dst=Y 15 by kernel_rfl];refine E7.pure K (A7 A8 0) (Ef (by rw[z3];omega)) (by kernel_rfl) (aWj rfl) ?_;rw[show(MK.getD 2 Aw).dst=Y 16 by kernel_rfl];show E7 R.X R.X.n Sh S (G ((B5 126).at ⟨((T.setIfInBounds 14 (A4 (Y ⟨R.bl,R.off,Z⟩) R.ms.length R.cap)).setIfInBounds 15 (A7 A8 R.ms.length)).setIfInBounds 16 (A7 A8 0),[]⟩ _) R.cs) w;refine E7.ctl rfl (λ_=>Hs) ?_;refine E7.ctl rfl (λ_=>kx) ?_;refine E7.ctl rfl (λ_=>aDK) ?_;refine aBb K R.X.n Sh S _ w (Ae _) ?_ z;rw[aHR];refine⟨by simpa using hs,?_,?_,?_,?_,?_,?_,?_⟩;·rw[Br (by omega),Br (by omega),Br (by omega)];exact b
 ·rw[Br (by omega),Br (by omega),Br (by omega)];exact h2
 ·rw[Br (by omega),Br (by omega),Br (by omega)];exact s
 ·rw[Br (by omega),Br (by omega),Br (by omega)];exact y
 ·rw[Br (by omega),Br (by omega)];exact h
 ·rw[Br (by omega)];exact FO (by simp[hs])
 exact FO (by simp[hs])
def aHz(K:R.Ok)(I:R.X.Wg=w.heap.size)(s:R.old=X_ R.X.Wb R.X.Wg R.X.Ch (w.heap.size+1))(H:R.w0={w with heap:=w.heap.push (Nw R.X.ty 0 0)})(hs:T.size=39)(M:T.getD 1 A'=A4 (Y ⟨R.bl,R.off,Z⟩) R.ms.length R.cap)(h2:T.getD 2 A'=Av R.br)(N:T.getD 5 A'=Av R.AW)(Q:∃tm,w.heap[R.X.Ch]?=Y (Jb R.X.n #[] A9 0 0 tm))(U:EW R.X.Wb w.heap.size R.X.Ch):Z3 R.X (G ((B5 126).at ⟨T,[]⟩ [B1 o2 [0],BS c3]) R.cs) w:=by
 refine⟨rfl,I,λh y z=>?_,Q,U⟩;have hx:=aWU (ρ:=Cg ⟨T,[]⟩) h;have l:(((B5 126).at ⟨T,[]⟩ [B1 o2 [0],BS c3]).kind==Ki)=A9:=rfl;have DR:((B5 126).at ⟨T,[]⟩ [B1 o2 [0],BS c3]).finish (Av h.heap.size)=(B5 126).at ⟨T.setIfInBounds 6 (Av h.heap.size),[]⟩ [B1 o2 [],BS c3]:=by rw[LF,Ef (by rw[z2];omega)];show(B5 126).at (Z8 _ (o2.getD 0 Aw).dst _) _=_;rw[show(o2.getD 0 Aw).dst=Y 6 by kernel_rfl];rfl
 have m:Nw R.X.ty 0 0=AF #[A7 EK 0,A7 fy 0] 325:=by rw[K.ty];rfl
 refine⟨G ((B5 126).at ⟨T.setIfInBounds 6 (Av h.heap.size),[]⟩ [B1 o2 [],BS c3]) R.cs,?_,?_⟩;·rw[K.prog,Tq (Ef (by rw[z2];omega)) (by kernel_rfl),Jh l hx rfl,DR,rD,m];rfl
 refine aYE K (by simpa using hs) (by rw[Br (by omega)];exact M) (by rw[Br (by omega)];exact h2) (by rw[Br (by omega)];exact N) ?_ ?_;·rw[FO (by omega),z,I]
 rw[z];refine⟨λb hb=>AD (by rw[<-s];exact hb),λb hb=>hb.elim,λb hb=>by rw[s];exact hb,λb hb=>?_,?_,by rw[H];exact⟨y.os,y.output⟩⟩
 ·rw[s]at hb;have hlt:b<w.heap.size:=by have:=hb.1;have:=hb.2.2.1;omega
  rw[H];show(h.heap.push _)[b]?=(w.heap.push _)[b]?;rw[H_ (by omega),H_ hlt,<-EP,<-EP];exact y.same b (AD ⟨hlt,hb.2.1⟩)
 rw[H];simp[z]
end
end
section
open Go.Conc(G solo Deaf QuitsD Goes crowd crowd_pick woken awake awake_of runT_crowd_go woken_quitsD)
open Go.ConcN(upd upd_same upd_ne sumTo)
open Go.ConcR(DC0)
section
variable{P:Ap}{Wb:zy}{R:A0->A0->Prop}{Stop:AR->A0->Prop}
def Gb.none{w:A0}{S:zy}:Gb (λ_=>False) S w w #[] S:=Gb.idle _ _ _
def aIH(s2:∀w d,R w (w.at d)):∀(m:Nat)(a:AR)(w:A0),Z9 P A3 R DC0 Stop m a w->∀(gs:Array AR)(sl:Option (Nat×Nat))(t:Dh)(q:Nat->Nat),De P Wb gs w t q a->∃(N:Nat)(s:Array AR)(a':AR)(d:Nat)(z:Option (Nat×Nat))(H:Dh)(Q:Nat->Nat),Ey P N (EV gs w sl) t=(Ds (EV s (w.at d) z),H)/\s.size=gs.size/\De P Wb s (w.at d) H Q a'/\Stop a' (w.at d):=by
 intro m;induction m with
 |zero=>intro a w h gs sl t q hc;exact⟨0,gs,a,w.drawn,sl,t,q,rfl,rfl,hc,h _ (s2 w w.drawn)⟩
 |succ m ih=>
  intro a w h gs sl t q hc;rcases h with h|⟨l,h⟩;·exact⟨0,gs,a,w.drawn,sl,t,q,rfl,rfl,hc,h _ (s2 w w.drawn)⟩
  have Dl:∀d,∃y,Bi P A3 a (w.at d)=Cw y (w.at d) #[]/\Z9 P A3 R DC0 Stop m y (w.at d):=by intro d;have I:=h (w.at d) (s2 w d);cases hs:Bi P A3 a (w.at d)with|go y w' es=>rw[hs]at I;obtain⟨⟨rfl,rfl⟩,h2⟩:=I;exact⟨y,rfl,h2⟩|_=>rw[hs]at I;exact I.elim
  have xT:∀(M d:Nat)(gs:Array AR)(sl:Option (Nat×Nat))(t:Dh)(q:Nat->Nat),J_ gs.size q<=M->De P Wb gs (w.at d) t q a->∃(N:Nat)(s:Array AR)(a':AR)(K:Nat)(z:Option (Nat×Nat))(H:Dh)(Q:Nat->Nat),Ey P N (EV gs (w.at d) sl) t=(Ds (EV s (w.at K) z),H)/\s.size=gs.size/\De P Wb s (w.at K) H Q a'/\Stop a' (w.at K):=by
   intro M;induction M with
   |zero=>
    intro d gs sl t q Al hc;obtain⟨i,g,b,z,hi,U,Bm⟩:=Wr (P:=P) (w:=w.at d) (sl:=sl) (hc.awake l) ⟨0,a,hc.zero,l⟩;rcases UB i with rfl|D
    ·obtain rfl:g=a:=by rw[hc.zero]at hi;exact(CH hi).symm
     obtain⟨y,m0,hk⟩:=Dl b;have p:=Qz (P:=P) (sl:=z) (i:=0) hi (show Bi P (0==0) g ((w.at d).at b)=_ from m0);obtain⟨_,A⟩:=(hc.at b).own (a':=y) (AJ trivial) (Gb.none (w:=(w.at d).at b)) g.frame.fn g.frame.place;obtain⟨N,s,a',K,C,H,Q,I,h2,h3,h4⟩:=ih y (w.at b) hk _ z _ q A;exact⟨N+1,s,a',K,C,H,Q,by simp only[Ey,Bm,p];exact I,h2.trans (by simp),h3,h4⟩
    have AH:=hc.leave.old i g D hi;have hlt:i<gs.size:=(Array.getElem?_eq_some_iff.1 hi).1;have:q i<=J_ gs.size q:=fp hlt;have TE:q i=0:=by omega
    rw[TE]at AH;rw[AH.1]at U;cases U
   |succ M jX=>
    intro d gs sl t q Al hc;obtain⟨i,g,b,z,hi,U,Bm⟩:=Wr (P:=P) (w:=w.at d) (sl:=sl) (hc.awake l) ⟨0,a,hc.zero,l⟩;rcases UB i with rfl|D
    ·obtain rfl:g=a:=by rw[hc.zero]at hi;exact(CH hi).symm
     obtain⟨y,m0,hk⟩:=Dl b;have p:=Qz (P:=P) (sl:=z) (i:=0) hi (show Bi P (0==0) g ((w.at d).at b)=_ from m0);obtain⟨_,A⟩:=(hc.at b).own (a':=y) (AJ trivial) (Gb.none (w:=(w.at d).at b)) g.frame.fn g.frame.place;obtain⟨N,s,a',K,C,H,Q,I,h2,h3,h4⟩:=ih y (w.at b) hk _ z _ q A;exact⟨N+1,s,a',K,C,H,Q,by simp only[Ey,Bm,p];exact I,h2.trans (by simp),h3,h4⟩
    have AH:=hc.leave.old i g D hi;have MB:(i==0)=A9:=by simp;omega
    have hlt:i<gs.size:=(Array.getElem?_eq_some_iff.1 hi).1;cases Li:q i with
    |zero=>rw[Li]at AH;rw[AH.1]at U;cases U
    |succ k=>
     rw[Li]at AH;rcases AH with⟨AK,_⟩|⟨_,y,es,hm,WC,NV⟩;·rw[AK]at U;cases U
     have p:=Qz (P:=P) (sl:=z) (i:=i) hi (by rw[MB];exact WC ((w.at d).at b));have K6:J_ gs.size (CP q i k)+(k+1)=J_ gs.size q+k:=by have:=Wu q k id hlt;simpa[Li]using this
     have A:=(hc.at b).slip l D hi hm NV g.frame.fn g.frame.place;obtain⟨N,s,a',K,C,H,Q,I,h2,h3,h4⟩:=jX b _ z _ (CP q i k) (by simp;omega) A;exact⟨N+1,s,a',K,C,H,Q,by simp only[Ey,Bm,p];exact I,h2.trans (by simp),h3,h4⟩
  exact xT _ w.drawn gs sl t q (Ae _) hc
end
end
section
open Go.Conc(G solo Deaf QuitsD crowd crowd_pick woken awake awake_of runT_crowd_go woken_quitsD rcase crowd_recv_buf crowd_recv_closed partners_nil offersAt_of_not_blocked getElem?_stand ph Deaf_other)
open Go.ConcN(upd upd_same upd_ne sumTo)
variable{z:A1}{tm:Bool}
section
variable{P:Ap}{Wb:zy}{gs:Array AR}{w w':A0}{t:Dh}{q:Nat->Nat}{a:AR}
def De.comm(h:De P Wb gs w t q a){a':AR}(I:w'.heap.size=w.heap.size){u:Dh}(hu:∀s∈u,s.g=0/\s.act.touch?=Z)(M:Om (t++u) 0=0):De P Wb (gs.setIfInBounds 0 a') w' (t++u) q a':=by
 have H:0<gs.size:=(Array.getElem?_eq_some_iff.1 h.zero).1;refine⟨by simp[H],⟨λj x z hx=>?_,λj z=>?_⟩,?_,?_,M,λb K=>by rw[I];exact h.Pb b K⟩;·rw[Gp (by omega)]at hx;rw[On t (g':=0) (by omega) _ λs y=>(hu s y).1];exact h.leave.old j x z hx
 ·rw[On t (g':=0) (by simp at z;omega) _ λs y=>(hu s y).1];exact h.leave.above j (by simpa using z)
 ·rw[I];have:=h.Jt.OP h.ro H (u:=u) λs y=>⟨(hu s y).1,λx hx=>by rw[(hu s y).2]at hx;cases hx⟩;simpa using this
 have:=h.OO.app (u:=u) (g:=0) (λs y=>(hu s y).1) (AD rfl);simpa using this
def a3a{a':AR}{w':A0}(I:a.status=DJ)(A:w'.heap.size=w.heap.size)(C:∀(d:Nat)(gs:Array AR)(sl:Option (Nat×Nat)),gs[0]?=Y a->(∀k x,0<k->gs[k]?=Y x->x.status≠l0)->∃u,N9 P (EV gs (w.at d) sl) 0=(Ds (EV (gs.setIfInBounds 0 a') (w'.at d) sl),u)/\(∀op∈u,op.g=0/\op.act.touch?=Z)/\∀t,Om (t++u) 0=Om t 0):∀(M d:Nat)(gs:Array AR)(sl:Option (Nat×Nat))(t:Dh)(q:Nat->Nat),J_ gs.size q<=M->De P Wb gs (w.at d) t q a->∃(N:Nat)(H:Array AR)(K:Nat)(s:Option (Nat×Nat))(l:Dh)(m:Nat->Nat),Ey P N (EV gs (w.at d) sl) t=(Ds (EV H (w'.at K) s),l)/\H.size=gs.size/\De P Wb H (w'.at K) l m a':=by
 have own:∀(d:Nat)(gs:Array AR)(sl:Option (Nat×Nat))(t:Dh)(q:Nat->Nat),De P Wb gs (w.at d) t q a->∃u,N9 P (EV gs (w.at d) sl) 0=(Ds (EV (gs.setIfInBounds 0 a') (w'.at d) sl),u)/\De P Wb (gs.setIfInBounds 0 a') (w'.at d) (t++u) q a':=by
  intro d gs sl t q hc;obtain⟨u,y,h2,h3⟩:=C d gs sl hc.zero λk x hk hx=>by rcases(hc.leave.old k x hk hx).status with h|h<;>rw[h]<;>simp
  exact⟨u,y,hc.comm (w':=w'.at d) A h2 (by rw[h3];exact hc.hears)⟩
 intro M;induction M with
 |zero=>
  intro d gs sl t q Al hc;obtain⟨i,g,b,s,hi,z,U⟩:=Wr (P:=P) (w:=w.at d) (sl:=sl) (hc.awake I) ⟨0,a,hc.zero,I⟩;rcases UB i with rfl|Q;·obtain⟨u,y,h2⟩:=own b gs s t q (hc.at b);exact⟨1,_,b,s,_,q,by simp only[Ey,U];rw[show(w.at d).at b=w.at b from rfl,y],by simp,h2⟩
  have AH:=hc.leave.old i g Q hi;have hlt:i<gs.size:=(Array.getElem?_eq_some_iff.1 hi).1;have:q i<=J_ gs.size q:=fp hlt;have D:q i=0:=by omega
  rw[D]at AH;rw[AH.1]at z;cases z
 |succ M jX=>
  intro d gs sl t q Al hc;obtain⟨i,g,b,s,hi,z,U⟩:=Wr (P:=P) (w:=w.at d) (sl:=sl) (hc.awake I) ⟨0,a,hc.zero,I⟩;rcases UB i with rfl|Q;·obtain⟨u,y,h2⟩:=own b gs s t q (hc.at b);exact⟨1,_,b,s,_,q,by simp only[Ey,U];rw[show(w.at d).at b=w.at b from rfl,y],by simp,h2⟩
  have AH:=hc.leave.old i g Q hi;have MB:(i==0)=A9:=by simp;omega
  have hlt:i<gs.size:=(Array.getElem?_eq_some_iff.1 hi).1;cases p:q i with
  |zero=>rw[p]at AH;rw[AH.1]at z;cases z
  |succ k=>
   rw[p]at AH;rcases AH with⟨AK,_⟩|⟨_,g',es,hm,WC,NV⟩;·rw[AK]at z;cases z
   have HE:=Qz (P:=P) (sl:=s) (i:=i) hi (by rw[MB];exact WC ((w.at d).at b));have K6:J_ gs.size (CP q i k)+(k+1)=J_ gs.size q+k:=by have:=Wu q k id hlt;simpa[p]using this
   have I9:=(hc.at b).slip I Q hi hm NV g.frame.fn g.frame.place;obtain⟨N,H,K,Td,l,m,y,h2,h3⟩:=jX b _ s _ (CP q i k) (by simp;omega) I9;exact⟨N+1,H,K,Td,l,m,by simp only[Ey,U,HE];exact y,h2.trans (by simp),h3⟩
def aA2{c:Nat}{b:Bool}{gs:Array AR}(h:∀k x,0<k->gs[k]?=Y x->x.status≠l0):partners (gs.setIfInBounds 0 aDH) c b=[]:=by
 refine aDG λk x hx=>?_;rcases aDE gs 0 k x hx with⟨_,rfl⟩|⟨s,hx⟩;·rfl
 exact rB (h k x (by omega) hx) _ _
def aII{c cap s r:Nat}{buf:zw}{closed:Bool}{shape:CommShape}(U:a.status=DJ)(M:∀d,Bi P A3 a (w.at d)=.comm a #[ZA c z] A3 shape (w.at d) #[])(hc:w.heap[c]?=Y (Jb cap buf closed s r tm))(l:0<buf.size)(sl:Option (Nat×Nat))(K:De P Wb gs w t q a):∃(N:Nat)(h:Array AR)(y:Nat)(m:Option (Nat×Nat))(H:Dh)(p:Nat->Nat),Ey P N (EV gs w sl) t=(Ds (EV h ((w.setChan c cap (buf.extract 1 buf.size) closed s (r+1) tm).at y) m),H)/\h.size=gs.size/\De P Wb h ((w.setChan c cap (buf.extract 1 buf.size) closed s (r+1) tm).at y) H p (a.finishComm P #[ZA c z] shape 0 (buf.getD 0 A') A3):=by
 refine a3a (w:=w) U (by simp[gL]) (λd gs sl I Q=>?_) _ w.drawn gs sl t q (Ae _) K;have A:=crowd_recv_buf (P:=P) (sl:=sl) (i:=0) (w:=w.at d) I (M d) (c:=c) (cap:=cap) (buf:=buf) (closed:=closed) (s:=s) (r:=r) (tm:=tm) hc l (aA2 Q);refine⟨_,A,λop b=>?_,λt=>?_⟩;·rw[fi]at b;simp at b;rcases b with rfl|rfl<;>exact⟨rfl,rfl⟩
 rw[Wt];intro op b;rw[fi]at b;simp at b;rcases b with rfl|rfl<;>exact⟨by simp,by simp⟩
def aIG{c cap s r:Nat}{shape:CommShape}(U:a.status=DJ)(M:∀d,Bi P A3 a (w.at d)=.comm a #[ZA c z] A3 shape (w.at d) #[])(hc:w.heap[c]?=Y (Jb cap #[] A3 s r tm))(sl:Option (Nat×Nat))(K:De P Wb gs w t q a):∃(N:Nat)(h:Array AR)(y:Nat)(l:Option (Nat×Nat))(H:Dh)(m:Nat->Nat),Ey P N (EV gs w sl) t=(Ds (EV h (w.at y) l),H)/\h.size=gs.size/\De P Wb h (w.at y) H m (a.finishComm P #[ZA c z] shape 0 z A9):=by
 refine a3a (w:=w) (w':=w) U rfl (λd gs sl I Q=>?_) _ w.drawn gs sl t q (Ae _) K;have p:=crowd_recv_closed (P:=P) (sl:=sl) (i:=0) (w:=w.at d) I (M d) (c:=c) (cap:=cap) (s:=s) (r:=r) (tm:=tm) hc (aA2 Q);refine⟨_,p,λop b=>?_,λt=>?_⟩;·rw[fi]at b;simp at b;subst b;exact⟨rfl,rfl⟩
 rw[Wt];intro op b;rw[fi]at b;simp at b;subst b;exact⟨by simp,by simp⟩
end
end
section
open Go.Proofs.YtcfhleenecfghaaGreatDoor
open Go.Conc(crowd)
open Go.ConcN(WgLive sumTo)
open Go.ConcR(Payload)
section
variable[CV]
def JJ.Goal(R:JJ)(Sh S:zy)(g:AR)(w:A0):Prop:=∃T,CY R R.ms.length T/\NH R Sh S w/\qo R.X (waited R T) g
structure tk(R:JJ)(m:Tt)(t:Dh):Prop where
 at_:∃(gs:Array AR)(w:A0)(sl:Option (Nat×Nat))(T:zw)(q:Nat->Nat)(B9:List (Nat×A1)),m=EV gs w sl/\gs.size=R.X.c0+R.X.n/\De R.X.P R.X.BW gs w t q (waited R T)/\CY R R.ms.length T/\(∀b,R.old b->w.heap[b]?=R.w0.heap[b]?)/\R.w0.heap.size<=w.heap.size/\(w.os=R.w0.os/\w.output=R.w0.output)/\R.X.Ch≠R.X.Wg/\(∃tm,w.heap[R.X.Ch]?=Y (Jb R.X.n (B9.map (·.2)).toArray A9 B9.length 0 tm))/\(∀i,(∃v,(i,v)∈B9)↔i<R.X.n)/\(B9.map (·.1)).Nodup/\∀i v,(i,v)∈B9->∃M,(∀b,M b->b<w.heap.size/\¬R.X.BW b/\b≠R.X.Ch/\¬R.old b)/\R.X.ND i v M w
variable{R:JJ}
omit[CV]in def aI6(Bm:R.X.M2)(wG:R.X.Goal=R.Goal){m:Tt}{t:Dh}(h:cv R.X m t):∃N K H,Ey R.X.P N m t=(Ds K,H)/\tk R K H:=by obtain⟨gs,w,sl,a,q,Sh,S,B9,rfl,rg,KW,I,T6,ds,Fa,Fh,GC,NS⟩:=h;rw[wG]at I;obtain⟨T,g9,z,s⟩:=I;obtain⟨k,wH⟩:=s w T6;obtain⟨N,Q,a',d,DX,H,EG,U,h2,h3,rfl⟩:=aIH (R:=Da R.X) (λw d AE=>AE) k a w wH gs sl t q KW;refine⟨N,_,H,U,Q,w.at d,DX,T,EG,B9,rfl,h2.trans rg,h3,g9,z.same,z.size,z.out,ds,Fa,Fh,GC,λi v hv=>?_⟩;obtain⟨M,y,hm⟩:=NS i v hv;exact⟨M,λb s=>⟨(y b s).1,(y b s).2.1,(y b s).2.2.1,λh=>(z.Vh b h).elim (y b s).2.2.2.1 (y b s).2.2.2.2⟩,Bm i v M w (w.at d) (λ_ _=>rfl) hm⟩
def JJ.from(R:JJ)(N0:Nat):JJ:={R with X:={R.X with N0:=N0}}
omit[CV]in def V2{P:Ap}:∀{N dB:Nat}{m E_ J9:Tt}{t qN qO:Dh},Ey P N m t=(Ds E_,qN)->Ey P dB E_ qN=(Ds J9,qO)->Ey P (N+dB) m t=(Ds J9,qO)|0,dB,m,E_,J9,t,qN,qO,h,k=>by simp only[Ey,Q8]at h;obtain⟨b,rfl⟩:=h;cases b;rw[LO];exact k|N+1,dB,m,E_,J9,t,qN,qO,h,k=>by rw[Nat.add_right_comm];simp only[Ey]at h⊢;cases hs:gP P m with|mk e ops=>rw[hs]at h;cases e with|next s=>exact V2 h k|_=>cases h
def aI'(h:∀N0,(R.from N0).Ok)(l:∀N0,(R.from N0).X.Goal=(R.from N0).Goal)(K:∀N0,(R.from N0).X.M2){T:zw}{w:A0}(m:R.X.Wg=w.heap.size)(p:R.old=X_ R.X.Wb R.X.Wg R.X.Ch (w.heap.size+1))(A:R.w0={w with heap:=w.heap.push (Nw R.X.ty 0 0)})(hs:T.size=39)(b:T.getD 1 A'=A4 (Y ⟨R.bl,R.off,Z⟩) R.ms.length R.cap)(h2:T.getD 2 A'=Av R.br)(Q:T.getD 5 A'=Av R.AW)(C:∃tm,w.heap[R.X.Ch]?=Y (Jb R.X.n #[] A9 0 0 tm))(Mq:EW R.X.Wb w.heap.size R.X.Ch)(gs:Array AR)(sl:Option (Nat×Nat))(t:Dh)(q:Nat->Nat)(U:R.X.c0=gs.size)(D:De R.X.P R.X.Wb gs w t q (Go.Conc.G ((B5 126).at ⟨T,[]⟩ [B1 o2 [0],BS c3]) R.cs)):∃N s z N0,Ey R.X.P N (EV gs w sl) t=(Ds s,z)/\tk (R.from N0) s z:=by
 have I:∀N0,Z3 {R.X with N0:=N0} (Go.Conc.G ((B5 126).at ⟨T,[]⟩ [B1 o2 [0],BS c3]) R.cs) w:=λN0=>aHz (R:=R.from N0) (h N0) m p A hs b h2 Q C Mq;have hn:R.X.n<2147483648:=by have b:=(h 0).n;have h2:=(h 0).small;rw[<-b]at h2;exact h2
 obtain⟨N,s,z,N0,A2,H1⟩:=phase (X:=R.X) K hn I _ w gs sl t q U (CB.refl _ _ _) rfl I (Ae _) D;obtain⟨M,y,H,L3,bi⟩:=aI6 (R:=R.from N0) (K N0) (l N0) H1;exact⟨N+M,y,H,N0,V2 A2 L3,bi⟩
end
end
section
open Go.Proofs.YtcfhleenecfghaaGreatDoor
open Go.Conc Go.RowKit
variable{v x:A1}{b:Bool}{ρ:C'->A1}
noncomputable def Uw:Array BR:=ML (fstC RF)
noncomputable def Nd:Array BR:=ML (fstC (sndC RF))
noncomputable def a3o:Bg:=fstC (sndC (sndC RF))
noncomputable def jr:Array BR:=ML (fstC a3o)
noncomputable def VZ:Bg:=Mu (Mu (sndC a3o))
noncomputable def Lp:Array BR:=ML (fstC VZ)
noncomputable def gk:Bg:=Mu (sndC (sndC VZ))
noncomputable def Nf:Array BR:=ML (fstC gk)
noncomputable def JB:Array BR:=ML (sndC gk)
noncomputable def aF:Bg:=sndC (sndC (sndC RF))
def aIY:RF=Bh (Ej 10 Uw A9) (Bh (Ej 11 Nd A9) (Bh (Bh (Ej 12 jr A9) (Wq 2 (r5 VZ))) aF)):=by kernel_rfl
def aHG:VZ=Bh (Ej 13 Lp A9) (Bh (.cond (An 30) VG (.exit 2)) (Wq 3 gk)):=by kernel_rfl
def aGc:gk=Bh (Ej 14 Nf A9) (Ej 15 JB A9):=by kernel_rfl
def aCe:Uw.size=2:=by kernel_rfl
def qj:Nd.size=4:=by kernel_rfl
def z12:jr.size=1:=by kernel_rfl
def qk:Lp.size=2:=by kernel_rfl
def zf:Nf.size=3:=by kernel_rfl
def kV:JB.size=5:=by kernel_rfl
def aBY{o:BR}(s:o.op=R0 316 (An 5)){AW Ch:Nat}{w:A0}{t:Aj}{p:Nat×Nat}(b:ρ (An 5)=Av AW)(h:w.heap[AW]?=Y (AF #[Cl (Y Ch)] t p)):(Ab ρ o).runT A6 w #[]=(Ac (D6 (Cl (Y Ch))) w,#[⟨Ie ⟨AW,0,Z⟩,A9,A9⟩]):=by
 unfold Ab;rw[s];simp only[b];have hc:w.cell? ⟨AW,0,Z⟩=Y (Cl (Y Ch)):=by simp[FB,h]
 simp[go_sem,hc]
def aTK:(Uw.getD 0 Aw).op=R0 316 (An 5):=by kernel_rfl
def aTL:(jr.getD 0 Aw).op=R0 316 (An 5):=by kernel_rfl
def aTM:(Uw.getD 1 Aw).op=If {callee:=Kj .close,args:=#[An 24],argTypes:=#[316]}:=by kernel_rfl
def aTN:(Lp.getD 0 Aw).op=.recv 316 (An 28) A3:=by kernel_rfl
def aBW(h:ρ (An 29)=Ay #[v,Af b])(w:A0):(Ab ρ (Lp.getD 1 Aw)).runT A6 w #[]=(Ac (D6 (Af b)) w,#[]):=by
 have s:(Lp.getD 1 Aw).op=.extract (An 29) 1:=by kernel_rfl
 unfold Ab;rw[s];simp[h,go_sem]
def aWR(h:ρ (An 29)=Ay #[v,Af b])(w:A0):(Ab ρ (Nf.getD 0 Aw)).runT A6 w #[]=(Ac (D6 v) w,#[]):=by
 have s:(Nf.getD 0 Aw).op=.extract (An 29) 0:=by kernel_rfl
 unfold Ab;rw[s];simp[h,go_sem]
def aWb(h:ρ (An 1)=x)(w:A0):(Ab ρ (Nd.getD 0 Aw)).runT A6 w #[]=(Ac (D6 x) w,#[]):=by
 have b:(Nd.getD 0 Aw).op=Mb (An 1):=by kernel_rfl
 unfold Ab;rw[b];simp[h]
def aWY{a:Ak}{n cap:Nat}(h:ρ (An 25)=A4 (Y a) n cap)(w:A0):(Ab ρ (Nd.getD 1 Aw)).runT A6 w #[]=(Ac (D6 (A7 A8 n)) w,#[]):=by
 have b:(Nd.getD 1 Aw).op=If {callee:=Kj .len,args:=#[An 25],argTypes:=#[57]}:=by kernel_rfl
 unfold Ab;rw[b];simp[h,go_sem]
def aWK(h:ρ (An 27)=x)(w:A0):(Ab ρ (Nd.getD 3 Aw)).runT A6 w #[]=(Ac (D6 x) w,#[]):=by
 have b:(Nd.getD 3 Aw).op=.assign (An 27):=by kernel_rfl
 unfold Ab;rw[b];simp[h]
open Go.ConcR(Payload)
variable{w:A0}{buf:zw}{tm:Bool}{ρ:C'->A1}{BA b cap n:Nat}{F:zy}{o:Obj}
def Qa:Obj->Obj|AF c t _=>AF c t (0,c.size)|o=>o
noncomputable def OA(old:zy)(w:A0):A0:=open Classical in{w with heap:=w.heap.mapIdx λb o=>if old b then Qa o else o}
def uo(old:zy)(w:A0):(OA old w).heap.size=w.heap.size:=by simp[OA]
def uk{old:zy}(h:old b)(e:w.heap[b]?=Y o):(OA old w).heap[b]?=Y (Qa o):=by simp[OA,e,h]
def um{old:zy}(h:¬old b):(OA old w).heap[b]?=w.heap[b]?:=by simp[OA,h]
def aPr(h:∀c t p,o≠AF c t p):Qa o=o:=by cases o<;>first|rfl|exact absurd rfl (h _ _ _)
structure O4(F:zy)(old:zy)(w:A0):Prop where
 heap:∀b,old b->∃o,w.heap[b]?=Y o/\Ge F (C_ old) o o/\∀c t p,o=AF c t p->p.1=p.2
 EX:∀b,b<Ci->old b
 low:Ci<=w.heap.size
def O4.lt{old:zy}(h:O4 F old w)(s:old b):b<w.heap.size:=by obtain⟨o,e,_⟩:=h.heap b s;exact(Array.getElem?_eq_some_iff.1 e).1
def O4.same{old:zy}{w':A0}(h:O4 F old w)(e:∀b,old b->w'.heap[b]?=w.heap[b]?)(y:Ci<=w'.heap.size):O4 F old w':=⟨λb s=>by rw[e b s];exact h.heap b s,h.EX,y⟩
def zW(old:zy)(h:Nat):zy:=λb=>old b∨b=h
def Ge.Qa{F:zy}{E:AT}{o:Obj}(h:Ge F E o o)(b:∀c t p,o=AF c t p->p.1=p.2):Ge F E (Twin.Qa o) o:=by
 cases o with
 |cells c t p=>cases h with|cells _ hv _=>exact .cells t hv (AD (b c t p rfl))
 |_=>exact h
def aLU{old:zy}{so:Dj}(s:O4 F old w)(U:¬old BA)(N:∃p v,w.heap[BA]?=Y (AF #[J p,J v] 85))(Q:∀b,old b->¬so.obj b)(K:¬so.Hx):C2 F so old (C_ (zW old BA)) (OA old w) w:=by
 refine⟨w.tape,λb I x=>?_,λi q=>rfl,λb h=>?_,⟨by show Ci<=(OA old w).heap.size;rw[uo];exact s.low,s.low⟩,λx=>absurd x K⟩
 ·obtain⟨rfl,h⟩:=x;by_cases H:old I;·obtain⟨o,e,k,z⟩:=s.heap I H;exact⟨_,o,uk H e,e,(k.mono (OM λ_ y=>AD y)).Qa λc t p y=>z c t p y⟩
  obtain rfl:I=BA:=h.resolve_left H;obtain⟨p,v,e⟩:=N;exact⟨_,_,(um H).trans e,e,.cells _ (.cons (.string _) (.cons (.string _) .nil)) (.refl _)⟩
 obtain⟨o,e,k,z⟩:=s.heap b h;refine⟨by show b<(OA old w).heap.size;rw[uo];exact s.lt h,?_⟩;have e1:(on (OA old w) w.tape).heap[b]?=Y (Qa o):=uk h e;by_cases hc:∃c t p,o=AF c t p;·obtain⟨c,t,p,rfl⟩:=hc;exact AD ⟨c,t,_,e1,λx hx=>⟨Nat.zero_le _,hx,trivial⟩⟩
 have M:∀c t p,o≠AF c t p:=λc t p y=>hc ⟨c,t,p,y⟩;refine AJ ⟨Q b h,λc t p y=>?_⟩;rw[e1,aPr M]at y;exact M c t p (CH y)
section
variable[CV]
structure h8(R:JJ)(rd:zy)(vr:A1)(Q:zz->zz->Nat->A1->A0->Prop):Prop where
 Jo:O4 reads rd R.w0
 sub:∀b,rd b->R.old b
 br:rd R.br
 AW:R.old R.AW
 ch:∃t p,R.w0.heap[R.AW]?=Y (AF #[Cl (Y R.X.Ch)] t p)
 xj:∀w:A0,(∀b o,rd b->R.w0.heap[b]?=Y o->w.heap[b]?=Y (Qa o))->∀ρ:C'->A1,ρ (An 2)=Av R.br->∃es,(Ab ρ (Iu 1)).runT A6 w #[]=(Ac (D6 vr) w,es)
 call:∀(j:Nat)p v,R.ms[j]?=Y (p,v)->∀w:A0,(∀b o,rd b->R.w0.heap[b]?=Y o->w.heap[b]?=Y (Qa o))->Ai A6 200 #[vr,A_ #[J p,J v]] w λe w1=>∃x,e=AZ x/\Q p v w.heap.size x w1/\∀b,b<w.heap.size->w1.heap[b]?=w.heap[b]?
 msg:∀(j:Nat)p v BA,R.ms[j]?=Y (p,v)->¬rd BA->∀n E x x' w1 w' S,BA<n->(∀b,rd b->b<n)->(C_ (zW rd BA)).le E->AN reads E x x'->Q p v n x w1->C2 reads (B0 (ow rd) A3) rd E w1 w'->KD rd R.old S E->S BA->∃M,(∀b,M b->S b/\b≠BA)/\R.X.ND j x' M w'
omit[CV]in def aRC{p v:zz}(h3:ρ (An 3)=Av BA)(h:w.heap[BA]?=Y (AF #[J p,J v] 85)):∃b,(Ab ρ (Iu 2)).runT A6 w #[]=(Ac (D6 (A_ #[J p,J v])) w,b):=by
 have z:(Iu 2).op=R0 85 (An 3):=by kernel_rfl
 unfold Ab;rw[z];simp only[h3];have s:w.cell? ⟨BA,0,Z⟩=Y (J p):=by simp[FB,h]
 have y:w.cell? ⟨BA,1,Z⟩=Y (J v):=by simp[FB,h]
 exact⟨_,by simp[go_sem,s,y];rfl⟩
def aJ5{R:JJ}{rd:zy}{vr:A1}{Q:zz->zz->Nat->A1->A0->Prop}(A:R.X.P=A6)(C:R.X.ty=JV.tWg)(K:h8 R rd vr Q){j:Nat}{p v:zz}(hlt:∀b,R.old b->b<R.w0.heap.size)(l:R.ms[j]?=Y (p,v))(N:∀b,R.old b->w.heap[b]?=R.w0.heap[b]?)(W':R.w0.heap.size<=BA)(y:w.heap[BA]?=Y (AF #[J p,J v] 85)):∃I3 val,Way R.X.P A9 R.old (AtSend R.X j BA I3 val R.old) (λb=>b=BA) (kv R.X.P (call198 R.X.Wg R.AW R.br BA)) w:=by
 have M:¬rd BA:=λh=>by have:=K.Jo.lt h;omega
 have Al:O4 reads rd w:=K.Jo.same (λb s=>N b (K.sub b s)) (by have h1:=K.Jo.low;have h2:=(Array.getElem?_eq_some_iff.1 y).1;omega);have I:∀T b o,rd b->R.w0.heap[b]?=Y o->(on (OA rd w) T).heap[b]?=Y (Qa o):=λT b o s e=>uk s ((N b (K.sub b s)).trans e);refine⟨0,J p,aZG (R:={X:=R.X,i:=j,RO:=rd,Sh:=R.old,J4:=λb=>b=BA,E:=C_ (zW rd BA),wL:=OA rd w,AW:=R.AW,br:=R.br,BA:=BA,dP:=R.br,dN:=BA,vr:=vr,ez:=A_ #[J p,J v],Q:=λx H=>Q p v w.heap.size x H/\∀b,b<w.heap.size->H.heap[b]?=(OA rd w).heap[b]?,I3:=0,val:=J p}) ?_ ?_ ?_ ?_ ?_⟩
 ·refine⟨A,C,λb s=>⟨rfl,AD (K.Jo.EX b s)⟩,K.AW,⟨rfl,AD K.br⟩,⟨rfl,AJ rfl⟩,rfl,λρ h T=>K.xj _ (I T) ρ h,λρ h T=>?_,λT=>(K.call j p v l _ (I T)).mono ?_,?_⟩;·exact aRC h (by show(OA rd w).heap[BA]?=_;rw[um M];exact y)
  ·rintro e H⟨x,rfl,AH,s⟩;have D:(on (OA rd w) T).heap.size=w.heap.size:=uo rd w;rw[D]at AH s;exact⟨x,rfl,AH,λb U=>s b U⟩
  intro E x x' H w' S m hx AH A2 hc Bj;refine⟨?_,K.msg j p v BA l M w.heap.size E x x' H w' S (Array.getElem?_eq_some_iff.1 y).1 (λb s=>Al.lt s) m hx AH.1 A2 hc (Bj _ rfl)⟩;obtain⟨T,bi⟩:=A2;have U:BA<w.heap.size:=(Array.getElem?_eq_some_iff.1 y).1;obtain⟨o,o',e,e',AA⟩:=bi.heap BA BA (m _ _ ⟨rfl,AJ rfl⟩);have e1:H.heap[BA]?=Y o:=e;rw[AH.2 BA U,um M,y]at e1;obtain rfl:=CH e1;cases AA with
  |cells t hv z=>
   rename_i c' q;have e2:c'=#[J p,J v]:=by obtain⟨hH⟩:=c';match hH,hv with|[_,_],.cons (.string _) (.cons (.string _) .nil)=>rfl
   subst e2;simp[FB,e']
 ·exact aLU Al M ⟨p,v,y⟩ (λb s h=>h s) λh=>h
 ·rintro b b'⟨rfl,s⟩;rcases s with s|s;·exact AD ⟨s,K.sub _ s⟩
  exact AJ ⟨λh=>M (s▸h),s⟩
 ·obtain⟨t,q,e⟩:=K.ch;exact⟨t,q,(N _ K.AW).trans e⟩
 intro b s;have h1:=hlt b s;refine⟨λe=>?_,?_⟩;·have e:b=BA:=e;omega
 have h2:=N b s;rw[EP h1]at h2;exact(Array.getElem?_eq_some_iff.1 h2).1
end
def aWQ{c s r:Nat}(b:ρ (An 24)=Cl (Y c))(hc:w.heap[c]?=Y (Jb cap buf A9 s r tm)):(Ab ρ (Uw.getD 1 Aw)).runT A6 w #[]=(Ac (D6 (Ay #[])) (w.setChan c cap buf A3 s r tm),#[⟨Nz c,A9,A3⟩,⟨Nz c,A3,A3⟩]):=by
 unfold Ab;rw[aTM];simp only[U',M',Gd,Kt,b];have h:(a'7 #[316] (Uw.getD 1 Aw).type #[Cl (Y c)]).runT A6 w #[]=(Ac (Ay #[]) (w.setChan c cap buf A3 s r tm),#[⟨Nz c,A9,A3⟩,⟨Nz c,A3,A3⟩]):=by unfold a'7;change(Sem.getObj c _).runT A6 w #[]=_;simp only[DQ,hc];change(Sem.setObj c _ _).runT A6 w _=_;simp only[DQ,hc];rfl
 change(Dx (a'7 #[316] (Uw.getD 1 Aw).type #[Cl (Y c)]) _).runT A6 w #[]=_;rw[JC,h];rfl
def oc:∃i,A6.info? 234=Y i/\i.size=8/\i.bytes=136/\∃z,i.zero=Y z:=by
 have h:((A6.info? 234).map λi=>(i.size,i.bytes,i.zero.isSome))=Y (8,136,A3):=by kernel_rfl
 obtain⟨i,hi,h⟩:=Option.map_eq_some_iff.1 h;simp only[Q8]at h;obtain⟨z,b⟩:=Option.isSome_iff_exists.1 h.2.2;exact⟨i,hi,h.1,h.2.1,z,b⟩
def yz:A6.underlying 130=Y (.slice 234):=by kernel_rfl
def eg{l:Type}{P:Ap}{s:Sem l}{w1:A0}{v:l}(h:s.run P w=Ac v w1):∃b,s.runT P w #[]=(Ac v w1,b):=by have:=Rs (P:=P) s w #[];rw[h]at this;exact⟨(s.runT P w #[]).2,by rw[<-this]⟩
def aW_(hc:ρ (Iy (A7 A8 0))=A7 A8 0)(s:ρ (An 26)=A7 A8 n)(hn:n<2147483648)(w:A0):∃b h,(Ab ρ (Nd.getD 2 Aw)).runT A6 w #[]=(Ac (D6 (A4 (Y ⟨w.heap.size,0,Z⟩) 0 n)) b,h)/\b.ownsRow w.heap.size 234 8 (A4 (Y ⟨w.heap.size,0,Z⟩) 0 n) 0 []/\w.grownBy b Z:=by
 have K:(Nd.getD 2 Aw).op=lL 130 (Iy (A7 A8 0)) (An 26):=by kernel_rfl
 obtain⟨i,hi,I,H,z,N⟩:=oc;obtain⟨b,M,y,h2⟩:=run_make_own (P:=A6) w w.heap.size 130 234 i z 8 yz hi N I A8 A8 n (by rw[H];omega) (by simp[maxLen];omega) (Ae _);obtain⟨h,he⟩:=eg M;refine⟨b,h,?_,y,h2⟩;unfold Ab;rw[K];simp only[hc,s];change(Dx (Instr.makeSlice 130 (A7 A8 0) (A7 A8 n)) _).runT A6 w #[]=_;rw[JC,he];rfl
def yx(w:A0)(c cap:Nat)(buf:zw)(cl:Bool)(s r:Nat)(tm:Bool):(w.setChan c cap buf cl s r tm).heap.size=w.heap.size:=by simp[gL]
def yw{c:Nat}{cl:Bool}{s r:Nat}(h:b≠c):(w.setChan c cap buf cl s r tm).heap[b]?=w.heap[b]?:=by unfold gL;simp[HM,Gu h]
noncomputable def cw:List Cb:=[Wx VZ,cL 2,BS aF]
structure Va(c:Nat)(B:Nat)(Wb Db:zy)(got:List A1)(T:zw)(w:A0):Prop where
 size:T.size=39
 t28:T.getD 28 A'=Cl (Y c)
 own:w.ownsRow B 234 8 (T.getD 9 A') (got.length) (got.flatMap λv=>v.cells.toList)
 vr:AN CM (C_ Db) (T.getD 9 A') (T.getD 9 A')
 closed:Closed CM Wb Db w
 off:¬Db c
 low:∀b,Wb b->b<w.heap.size
def aYF{cs:List Ag}{Wb m:zy}{T:zw}{bl off AW c l s r:Nat}{t:Aj}{p:Nat×Nat}(rg:T.size=39)(h1:T.getD 1 A'=A4 (Y ⟨bl,off,Z⟩) n cap)(li:T.getD 5 A'=Av AW)(UW:w.heap[AW]?=Y (AF #[Cl (Y c)] t p))(hc:w.heap[c]?=Y (Jb l buf A9 s r tm))(di:EW Wb w.heap.size AW)(nc:EW Wb w.heap.size c)(vw:Closed CM Wb m w)(wh:¬m c)(Du:∀b,Wb b->b<w.heap.size)(hn:n<2147483648):CZ A6 Wb (λg w'=>∃BV Mn,g=G ((B5 126).at ⟨BV,[]⟩ (BS VZ::cw)) cs/\Va c w.heap.size Wb Mn [] BV w'/\(∀b,m b->Mn b)/\(∀b,Mn b->m b∨w.heap.size<=b)/\w'.heap[c]?=Y (Jb l buf A3 s r tm)/\(∀b,b<w.heap.size->b≠c->w'.heap[b]?=w.heap[b]?)/\w.heap.size<=w'.heap.size) (G ((B5 126).at ⟨T,[]⟩ [B1 TW [],BS RF]) cs) w:=by
 have i6:AW≠c:=λe=>by rw[e,hc]at UW;cases UW
 rw[aIY];refine .ctl rfl (λ_=>Hs) ?_;refine .ctl rfl (λ_=>FT) ?_;refine .ctl rfl (λ_=>II) ?_;rw[show Hf Uw.size=[0,1]by kernel_rfl];refine .oper (w2:=w) (v:=Cl (Y c)) (es:=#[⟨Ie ⟨AW,0,Z⟩,A9,A9⟩]) (Ef (by rw[aCe];omega)) (by kernel_rfl) (by simp[B5]) (λd=>aBY (w:=w.at d) aTK (ρ:=Cg ⟨T,[]⟩) li UW) rfl (λ_ _=>rfl) ⟨rfl,rfl,rfl⟩ (λe he=>?_) ?_;·simp only[XW,cz]at he;subst he;exact .cell _ _ (AD di)
 rw[show(Uw.getD 0 Aw).dst=Y 24 by kernel_rfl];show CZ A6 Wb _ (G ((B5 126).at ⟨T.setIfInBounds 24 (Cl (Y c)),[]⟩ _) cs) w;have GL:(T.setIfInBounds 24 (Cl (Y c))).size=39:=by simpa using rg
 have D:(T.setIfInBounds 24 (Cl (Y c))).getD 24 A'=Cl (Y c):=FO (by rw[rg];omega);have g1:(T.setIfInBounds 24 (Cl (Y c))).getD 1 A'=A4 (Y ⟨bl,off,Z⟩) n cap:=by rw[Br (by omega)];exact h1
 have PF:(T.setIfInBounds 24 (Cl (Y c))).getD 5 A'=Av AW:=by rw[Br (by omega)];exact li
 generalize T.setIfInBounds 24 (Cl (Y c))=H at GL D g1 PF;refine .oper (w2:=w.setChan c l buf A3 s r tm) (v:=Ay #[]) (es:=#[⟨Nz c,A9,A3⟩,⟨Nz c,A3,A3⟩]) (Ef (by rw[aCe];omega)) (by kernel_rfl) (by simp[B5]) (λd=>aWQ (w:=w.at d) (ρ:=Cg ⟨H,[]⟩) D hc) (yx ..) (λx hx=>yw λe=>hx (e▸nc)) ⟨rfl,rfl,rfl⟩ (λe he=>?_) ?_;·simp only[XW,JG,He,or_false]at he;rcases he with rfl|rfl<;>exact .obj _ _ (AD nc)
 rw[show(Uw.getD 1 Aw).dst=Z by kernel_rfl];show CZ A6 Wb _ (G ((B5 126).at ⟨H,[]⟩ _) cs) _;have ds:(w.setChan c l buf A3 s r tm).heap[c]?=Y (Jb l buf A3 s r tm):=heap_setChan w c l buf A3 s r tm (Array.getElem?_eq_some_iff.1 hc).1;have Dz:∀b,b≠c->(w.setChan c l buf A3 s r tm).heap[b]?=w.heap[b]?:=λb K=>yw K;have A:(w.setChan c l buf A3 s r tm).heap.size=w.heap.size:=yx ..;generalize w.setChan c l buf A3 s r tm=w2 at ds Dz A;have vv:Closed CM Wb m w2:=vw.same λb K=>Dz b λe=>wh (e▸K);have Ub:∀b,Wb b->b<w2.heap.size:=λb K=>by rw[A];exact Du b K
 refine .ctl rfl (λ_=>Hs) ?_;refine .ctl rfl (λ_=>FT) ?_;refine .ctl rfl (λ_=>II) ?_;rw[show Hf Nd.size=[0,1,2,3]by kernel_rfl];refine .pure (A4 (Y ⟨bl,off,Z⟩) n cap) (Ef (by rw[qj];omega)) (by kernel_rfl) (by simp[B5]) (aWb (ρ:=Cg ⟨H,[]⟩) g1) ?_;rw[show(Nd.getD 0 Aw).dst=Y 25 by kernel_rfl];show CZ A6 Wb _ (G ((B5 126).at ⟨H.setIfInBounds 25 _,[]⟩ _) cs) w2;have GV:(H.setIfInBounds 25 (A4 (Y ⟨bl,off,Z⟩) n cap)).size=39:=by simpa using GL
 have a5I:(H.setIfInBounds 25 (A4 (Y ⟨bl,off,Z⟩) n cap)).getD 25 A'=A4 (Y ⟨bl,off,Z⟩) n cap:=FO (by rw[GL];omega);have a5K:(H.setIfInBounds 25 (A4 (Y ⟨bl,off,Z⟩) n cap)).getD 5 A'=Av AW:=by rw[Br (by omega)];exact PF
 generalize H.setIfInBounds 25 (A4 (Y ⟨bl,off,Z⟩) n cap)=N at GV a5I a5K;refine .pure (A7 A8 n) (Ef (by rw[qj];omega)) (by kernel_rfl) (by simp[B5]) (aWY (ρ:=Cg ⟨N,[]⟩) a5I) ?_;rw[show(Nd.getD 1 Aw).dst=Y 26 by kernel_rfl];show CZ A6 Wb _ (G ((B5 126).at ⟨N.setIfInBounds 26 _,[]⟩ _) cs) w2;have K5:(N.setIfInBounds 26 (A7 A8 n)).size=39:=by simpa using GV
 have ur:(N.setIfInBounds 26 (A7 A8 n)).getD 26 A'=A7 A8 n:=FO (by rw[GV];omega);have a5L:(N.setIfInBounds 26 (A7 A8 n)).getD 5 A'=Av AW:=by rw[Br (by omega)];exact a5K
 generalize N.setIfInBounds 26 (A7 A8 n)=I at K5 ur a5L;have oH:(Nd.getD 2 Aw).op=lL 130 (Iy (A7 A8 0)) (An 26):=by kernel_rfl
 refine(WV Ry (λ_=>trivial) (Wb:=Wb) (R:=m) (ow:=[]) (Q:=λv M=>v=A4 (Y ⟨w2.heap.size,0,Z⟩) 0 n/\M.ownsRow w2.heap.size 234 8 v 0 []/\w2.heap.size<=M.heap.size/\∀k,k<w2.heap.size->M.heap[k]?=w2.heap[k]?) (Ef (by rw[qj];omega)) (by kernel_rfl) (by simp[B5]) (by rw[oH];rfl) (by unfold Lu;rw[oH]) (by rw[oH];rfl) ?_ vv Ub ?_).bind ?_
 ·intro x hx;rw[oH]at hx;simp only[opsOf,Dg,XW,JG,He,or_false]at hx;rcases hx with rfl|rfl;·exact .int _ _
  show AN CM (C_ m) (I.getD 26 A') (I.getD 26 A');rw[ur];exact .int _ _
 ·intro T0;obtain⟨M,es,e1,e2,Co⟩:=aW_ (ρ:=Cg ⟨I,[]⟩) (n:=n) rfl ur hn (on w2 T0);exact⟨_,_,M,es,e1,AD rfl,rfl,e2,Co.size,λk hk=>Co.block k hk (by simp)⟩
 rintro g z⟨Sj,v,M,rfl,hv,⟨rfl,Aa,Y6,L2⟩,Eg,T3,iW,j1,Bw⟩;rw[show(Nd.getD 2 Aw).dst=Y 27 by kernel_rfl];show CZ A6 Wb _ (G ((B5 126).at ⟨I.setIfInBounds 27 _,[]⟩ _) cs) z;have L5:(I.setIfInBounds 27 (A4 (Y ⟨w2.heap.size,0,Z⟩) 0 n)).size=39:=by simpa using K5
 have a5J:(I.setIfInBounds 27 (A4 (Y ⟨w2.heap.size,0,Z⟩) 0 n)).getD 27 A'=A4 (Y ⟨w2.heap.size,0,Z⟩) 0 n:=FO (by rw[K5];omega);have Mv:(I.setIfInBounds 27 (A4 (Y ⟨w2.heap.size,0,Z⟩) 0 n)).getD 5 A'=Av AW:=by rw[Br (by omega)];exact a5L
 generalize I.setIfInBounds 27 (A4 (Y ⟨w2.heap.size,0,Z⟩) 0 n)=U at L5 a5J Mv;refine .pure (A4 (Y ⟨w2.heap.size,0,Z⟩) 0 n) (Ef (by rw[qj];omega)) (by kernel_rfl) (by simp[B5]) (aWK (ρ:=Cg ⟨U,[]⟩) a5J) ?_;rw[show(Nd.getD 3 Aw).dst=Y 9 by kernel_rfl];show CZ A6 Wb _ (G ((B5 126).at ⟨U.setIfInBounds 9 _,[]⟩ _) cs) z;have PK:(U.setIfInBounds 9 (A4 (Y ⟨w2.heap.size,0,Z⟩) 0 n)).size=39:=by simpa using L5
 have a5N:(U.setIfInBounds 9 (A4 (Y ⟨w2.heap.size,0,Z⟩) 0 n)).getD 9 A'=A4 (Y ⟨w2.heap.size,0,Z⟩) 0 n:=FO (by rw[L5];omega);have xb:(U.setIfInBounds 9 (A4 (Y ⟨w2.heap.size,0,Z⟩) 0 n)).getD 5 A'=Av AW:=by rw[Br (by omega)];exact Mv
 generalize U.setIfInBounds 9 (A4 (Y ⟨w2.heap.size,0,Z⟩) 0 n)=C at PK a5N xb;refine .ctl rfl (λ_=>Hs) ?_;refine .ctl rfl (λ_=>FT) ?_;refine .ctl rfl (λ_=>FT) ?_;refine .ctl rfl (λ_=>II) ?_;rw[show Hf jr.size=[0]by kernel_rfl];have aMv:z.heap[AW]?=Y (AF #[Cl (Y c)] t p):=by rw[T3,L2 AW (by rw[A];exact di.1),Dz AW i6];exact UW
 have eD:w.heap.size<=z.heap.size:=by rw[T3];omega
 refine .oper (w2:=z) (v:=Cl (Y c)) (es:=#[⟨Ie ⟨AW,0,Z⟩,A9,A9⟩]) (Ef (by rw[z12];omega)) (by kernel_rfl) (by simp[B5]) (λd=>aBY (w:=z.at d) aTL (ρ:=Cg ⟨C,[]⟩) xb aMv) rfl (λ_ _=>rfl) ⟨rfl,rfl,rfl⟩ (λe he=>?_) ?_;·simp only[XW,cz]at he;subst he;exact .cell _ _ (AD ⟨by have:=di.1;show AW<z.heap.size;omega,di.2⟩)
 rw[show(jr.getD 0 Aw).dst=Y 28 by kernel_rfl];show CZ A6 Wb _ (G ((B5 126).at ⟨C.setIfInBounds 28 _,[]⟩ _) cs) z;have Uh:(C.setIfInBounds 28 (Cl (Y c))).size=39:=by simpa using PK
 have a8v:(C.setIfInBounds 28 (Cl (Y c))).getD 28 A'=Cl (Y c):=FO (by rw[PK];omega);have xl:(C.setIfInBounds 28 (Cl (Y c))).getD 9 A'=A4 (Y ⟨w2.heap.size,0,Z⟩) 0 n:=by rw[Br (by omega)];exact a5N
 generalize C.setIfInBounds 28 (Cl (Y c))=Mk at Uh a8v xl;refine .ctl rfl (λ_=>Hs) ?_;refine .ctl rfl (λ_=>kx) ?_;refine .ctl rfl (λ_=>aDK) ?_;refine .stop λd=>⟨Mk,Sj,rfl,⟨Uh,a8v,?_,?_,iW.same λ_ _=>rfl,λh=>?_,j1⟩,Eg,λb K=>?_,?_,λb K RM=>?_,eD⟩;·rw[xl];rw[A]at Aa;have e:(z.at d).heap=M.heap:=T3;rcases Aa with⟨x,y⟩;refine⟨x,?_⟩;rw[e];simpa[A]using y
 ·rw[xl];exact hv
 ·rcases Bw c h with h|h;·exact wh h
  have:=nc.1;omega
 ·rcases Bw b K with h|h;·exact AD h
  exact AJ (by omega)
 ·show z.heap[c]?=_;rw[T3,L2 c (by rw[A];exact nc.1)];exact ds
 show z.heap[b]?=_;rw[T3,L2 b (by omega)];exact Dz b RM
end
end Go.Proofs.YtcfhleenecfghaaGreatDoor.Twin
