import Derived.Conc.CrowdBase
import Derived.Conc.Beside
import Derived.Conc.LoneCalls
import Derived.Conc.CrowdRun
import Derived.Conc.CrowdComm
import Derived.Conc.WgGenN3
import Derived.Conc.WgArith
import Derived.Test.YtcfhleenecfghaaGreatDoorProg
import Derived.KernelRfl
import Derived.RowKit
import Derived.Conc.CompanyDraw
import Derived.Test.YtcfhleenecfghaaGreatDoorK5
set_option linter.all false
set_option maxHeartbeats 4000000
set_option maxRecDepth 100000
open Array renaming append_assoc->a6h,ext'->a6i,getD_eq_getD_getElem?->JX,getElem?_eq_getElem->ET,getElem?_map->nG,getElem?_push_lt->H4,getElem?_push_size->vW,getElem?_setIfInBounds->H5,getElem?_setIfInBounds_ne->JF,getElem?_setIfInBounds_self_of_lt->XW,mem_of_getElem?->cm,mem_singleton->vX,replicate->Sf,replicate_succ->a6k,replicate_zero->a6l,size_push->aB
open Bool renaming and_eq_true->IP,false->A5,false_eq_true->EU,true->A0
open ByteArray renaming empty->BS
open Classical renaming byContradiction->nN,choose->aD,choose_spec->U5
open Decidable renaming decide->Bn
open Except renaming bind->Vd,pure->Ve
open Go renaming Act->Ja,Addr->Aa,BinOp->Im,Code->Cv,Event->By,FloatKind->ht,Frame->AY,FuncId->Xi,Goroutine->AK,HappensBefore->a7u,IntKind->KY,Item->Cw,Machine->UI,MemOp->aZI,Next->MF,Oper->Bf,Operand->C2,Program->Ac,Sem->BQ,Trace->DX,TypeId->A_,TypeInfo->Mx,Value->A1,World->A',behindNumber->ij,boundsPanic->Vp,callFunc->Pw,deafBehind->MG,execOp->AU,fieldPlace->ik,followBlind->aA8,goexitEntry->x_,mayWake->xf,movedNumber->im,movedPointer->iq,plainCell->Vs,program->ir,results->De,runNT->Eg,runT->MH,run_convert_to_unsafe->om,runtimePanic->RJ,stepG->Be,store->aZU,throw->ot,undef->Y,underlying->Iq,unwind->HL,yielded->Gu
open Go.Act renaming eval->Cu,put->aJ
open Go.BinOp renaming add->aZ0,lss->aZ1
open Go.Builtin renaming append_->U9,firstCells->nR,holdsCells->hZ,lenOf->nS,len_->h_,mayShare->nT,unsafeAdd_->hd
open Go.CallKind renaming early->aYR,normal->a73
open Go.Callee renaming value->aYa
open Go.Code renaming block->aYi,region->aYH,seq->aYB
open Go.CommShape renaming send->aZ2
open Go.Conc renaming Aside->hg,Deaf->Sj,Deaf_other->Nd,Deaf_own->nV,Goes->Xc,QuitsD->nX,again_running->a7F,aside_setCell->aM,awake->a7G,awake_of->nY,base->B6,baseD->Jc,counts_old->aTs,crowd->Ea,crowd_pick->Vh,dcall->Nf,deafBehind_still->hj,deaf_old->aTt,events_convert_to_unsafe->nZ,g?_old->dA,getElem?_append_cases->UB,goes_go->vv,goes_oper_k->n_,hb_app->aTu,listed->na,lt_of_act?->a7J,lt_size_of_getElem?->aTv,mem_listed->nb,mem_ofEvents->K5,mem_seen->aN,noRace_append->nc,ofEvents_eq->dB,offersAt->aTw,offersAt_of_not_blocked->nd,ph->a7L,runT_crowd_go->Pm,scase->nf,seen_none->ng,semEvents->Xe,stepG_add_atomic->a7M,stepG_cond->hl,stepG_load_atomic->vx,stepG_mark0->nh,stepG_markAt->ni,stepG_oper->Sk,stepG_region->Hu,stepG_region_end->Hf,stepG_seq->GB,stepG_unwind_entry->a7Q,touchAt->ho,touchAt_of->nk,touch_mute->nl,touch_of->nm,woken->Pn,woken_quitsD->Xf
open Go.Conc.Aside renaming refl->aYW
open Go.Conc.Goes renaming cases->KV,rely->R8,running->aL,step->d',stop->Jb
open Go.Conc.Lib renaming WgLib->nW,WgLink->hh
open Go.Conc.QuitsD renaming ctl->a7E
open Go.ConcN renaming AsideCell->aTx,CTag->Oa,Deaf_absent->vy,Deaf_still->Vi,Mode->Jd,OpenSt->w5,Ssum->dD,WgLive->IQ,bk_cell->w6,bk_dis->ns,bk_rd->nt,cell_of_block->aU',cnt->Fz,fork_knows->a7T,get_map_set->Xg,get_map_set_same->dE,le_sumTo->dF,norel_of->w7,pend->KW,phi->HK,st_flag->a7U,st_waiters->a7V,sumTo->Io,sumTo_le->aU0,sumTo_upd->Vj,sumTo_upd_out->w8,upd->Cq,upd_ne->GQ,upd_same->Fs
open Go.ConcN.CTag renaming blk->aYj,sp->aYS
open Go.ConcN.Gen.WgLive renaming cell0->nn,cell1->np
open Go.ConcN.Mode renaming fin->aTy,last->vz,opn->a7R,reg->aTz,retag->a7S
open Go.ConcN.RW renaming refl->LZ
open Go.ConcR renaming Payload->Ck,WgAt->Ip,mk->Ng,ofEvent_loc_mark->a7p,ofEvent_mk->aU1,smA->Vk,stA->Ef,wgBlock->Ms
open Go.ConcR.Gen renaming body_add->w9,body_wait->nu,dc0_none->nv,x_acquire_b->a7W,x_acquire_f->a7X,x_acquire_n->a7Y,x_acquire_x->a7Z,x_addU64_b->a7_,x_addU64_f->a7a,x_addU64_n->a7b,x_addU64_x->a7c,x_casU64_b->a7d,x_casU64_f->a7e,x_casU64_n->a7f,x_casU64_x->a7g,x_disable_b->a7h,x_disable_f->a7i,x_disable_n->a7j,x_disable_x->a7k,x_enable_b->nw,x_enable_f->nx,x_enable_n->ny,x_enable_x->nz,x_loadU64_b->wA,x_loadU64_f->wB,x_loadU64_n->wC,x_loadU64_x->wD,x_semacquire_b->a7l,x_semacquire_f->a7m,x_semacquire_n->a7n,x_semacquire_x->a7o
open Go.Deferred renaming ofValue->aO
open Go.Departure renaming mixedOrders->aZF
open Go.Ending renaming returned->hq
open Go.Extern renaming find->aP,findNext->Xh
open Go.Extern.BytealgCount renaming count->o3
open Go.Extern.BytealgIndex renaming index->o4
open Go.Extern.BytealgIndexByte renaming indexByte->o5
open Go.Extern.Race renaming none_->a7r
open Go.Fn renaming func->aYI
open Go.Frame renaming enter->GR,finish_at->KX
open Go.GStep renaming after->Nh,go->aYE
open Go.GoStatus renaming blocked->aZW,running->aYF
open Go.Goroutine renaming finishComm->a7t
open Go.Instr renaming box->i',build->iA,buildSlice->dH,fieldAt->iC,indexAt->Xj,loadAt->iE,storeAt->iG,sureAddr->dL
open Go.IntKind renaming i32->a7x,i64->Po,u64->UF,wrap_i32->a7y,wrap_i64->dM,wrap_u64->w_
open Go.Item renaming code->aY9,inBlock->aYk,inRegion->aY7
open Go.Loc renaming cell->aYL,low_mono->a84,mark->aY_
open Go.Made renaming infoAt->oC,reckon->oD,reckonStruct->oE
open Go.Mark renaming acquire->aYo,disable->aYp,enable->aYx,release->aYc
open Go.MemAct renaming mark->aYd,ofEvent->KZ,touch?->aS
open Go.MemOp renaming ofEvents->K6
open Go.Mode renaming atomic->aYZ
open Go.Next renaming comm->a_',skip->aYU,spawn->aZZ,value->aYD
open Go.Obj renaming cells->BE,chan->aYQ
open Go.Op renaming addrCmp->iL,addrMod->iM,addrSub->iN,binOp->aZ_,call->a8E,complexOp->a8F,eqGuardIn->iO,equal->Ss,floatArith->a8G,floatCmp->a8H,indexAddr->aZ3,intArith->oG,intBits->oH,intCmp->oI,intDiv->oJ,load->aYf,maxDepth->iP,nilCheck->aZ5,operands->Dn,shift->oK,stringOp->aT,twoPlaces->iQ,unary->iR
open Go.Op.Complex renaming arith->a8B,cmp->a8C
open Go.Operand renaming const->aU7,func->aYM,global->aZM,tmp->oM
open Go.Proofs.Tryz renaming f197->oO,f198->wv,f201->oP,f351->wy,f407->wz,f409->x0,func197->x2,func198->a8W,func199->a8X,func200->oS,func201->x3,func351->iU,func407->oU,func409->iV,prog->A4
open Go.Region renaming Mode->a9o,ready->St,schedule->a9p,wanted->EY
open Go.Region.linearise renaming go->o_
open Go.Result renaming ok->aY6
open Go.Sem renaming bind->Dy,events->oc,run->aW,runT->DV
open Go.Stepped renaming next->aYG
open Go.Trace renaming act?->od,g?->dc
open Go.TypeDesc renaming int->aYh,slice->aZR
open Go.Unsupported renaming initOrder->aZ6
open Go.Value renaming agg->dd,bool->aY5,chan->aYC,func->aYK,int->IS,pointer->aY4,slice->As,string->AI,tuple->aY8
open Go.World renaming cell?->F3,farLoad->og,farStore->oh,frozen?->ic,setCell->La,setChan->df
open Iff renaming rfl->UR
open Inhabited renaming default->Ag
open List renaming append_toArray->aBL,cons_append->ML,getElem?_eq_getElem->Ld,length_cons->Jg,length_nil->pb,map_cons->GU,map_nil->K8,map_toArray->Le,mem_cons->Hw,mem_singleton->ak,mem_toArray->UT,nil_append->YL,not_mem_nil->H8,push_toArray->aBi,range->H9,size_toArray->Kd
open List.mapM renaming loop->aUV
open MonadExceptOf renaming throw->pj
open Nat renaming eq_zero_or_pos->UX,le_refl->AX,le_trans->HA,lt_of_lt_of_le->K9,lt_or_ge->IW,lt_wfRel->aBx
open Ne renaming symm->JK
open Option renaming bind_eq_bind->Nu,bind_eq_some_iff->IX,getD_some->HB,map_some->MP,none->J,some->Z
open Option.some renaming inj->D3,injEq->W5
open Or renaming inl->AA,inr->AF
open Prod renaming Lex->aC2,lex->aC3
open Prod.Lex renaming left->ps,right->yc
open Pure renaming pure->Fi
open Relation.TransGen renaming single->aZs
namespace Go.Proofs.YtcfhleenecfghaaGreatDoor.Twin
variable{w:A'}{v:A1}{t:A_}{a:Aa}{P p:Ac}{o:Bf}{b:Bool}{ρ:C2->A1}{h:Halt}{k:KY}{d8:Type}
theorem seen_cells{at_:Aa}{u:A_}{k:Aa}{r:Array A1×A_×(Nat×Nat)×Nat×A1×List (Nat×Nat×List UInt8)}(h:w.seen p at_ u k b=.ok r):∃c e z,w.heap[at_.block]?=Z (BE c e z):=by
 unfold World.seen at h;cases e:w.heap[at_.block]? with
 |none=>
  exfalso;rw[e]at h;simp only[bind,Vd,Fi,Ve,ot,throwThe,pj]at h;repeat' split at h
  all_goals first|cases h|(simp at*)
 |some o=>
  cases o with
  |cells c t z=>exact⟨c,t,z,rfl⟩
  |_=>
   exfalso;rw[e]at h;simp only[bind,Vd,Fi,Ve,ot,throwThe,pj]at h;repeat' split at h
   all_goals first|cases h|(simp at*)
theorem eT{b:Nat}{o:Obj}(h:w.heap[b]?=Z o):b<w.heap.size:=(Array.getElem?_eq_some_iff.1 h).1
theorem zW(h:w.cell? a=Z v):a.block<w.heap.size:=by unfold F3 at h;cases e:w.heap[a.block]? with|none=>rw[e]at h;cases h|some o=>exact eT e
theorem aFH{r:A1×List Aa}(h:w.farLoad p a b=.ok r):∀x∈r.2,x.block<w.heap.size:=by
 unfold og at h;split at h
 ·split at h
  ·rename_i m e;cases h;unfold World.viewLoad at e;simp only[bind,Vd,Fi,Ve,ot,throwThe,pj]at e;split at e;·cases e
   ·rename_i x hx;obtain⟨c,t,z,f⟩:=seen_cells hx;split at e;·cases e;intro y hy;obtain⟨i,_,rfl⟩:=List.mem_map.1 hy;exact eT f
    ·cases e
  ·cases h
 ·cases h
theorem aFK{r:A'×List Aa}(h:w.farStore p a v b=.ok r):(∀x∈r.2,x.block<w.heap.size)/\r.1.heap.size=w.heap.size/\r.1.os=w.os/\r.1.output=w.output/\r.1.tape=w.tape:=by
 unfold oh at h;split at h
 ·split at h
  ·rename_i m e;cases h;unfold World.viewStore at e;simp only[bind,Vd,Fi,Ve,ot,throwThe,pj]at e;split at e;·cases e
   ·split at e;·cases e
    ·rename_i x hx;obtain⟨c,t,z,f⟩:=seen_cells hx;split at e
     ·split at e;·cases e
      ·split at e;·cases e
       ·cases e;refine⟨λy hy=>?_,by simp,rfl,rfl,rfl⟩;obtain⟨i,_,rfl⟩:=List.mem_map.1 hy;exact eT f
     ·cases e
  ·cases h
 ·cases h
def AO(P:Ac){d8:Type}(Q:d8->Prop):BQ d8->Prop|.pure a=>Q a|.load _ _ k=>∀v,AO P Q (k v)|.store _ _ _ k=>AO P Q k|.new _ k=>∀b,AO P Q (k b)|.shape _ k=>∀s,AO P Q (k s)|.freeze _ _ k=>AO P Q k|.frozen _ k=>∀b,AO P Q (k b)|.getObj _ k=>∀o,AO P Q (k o)|.setObj _ _ k=>AO P Q k|.choose _ k=>∀n,AO P Q (k n)|.sys _ _=>False|.program k=>AO P Q (k P)|.mark m k=>m=.noRoom/\AO P Q k|.halt h=>TN h
theorem AO.bind{P:Ac}{d8 d:Type}{s:BQ d8}{f:d8->BQ d}{Q:d8->Prop}{R:d->Prop}(h:AO P Q s)(p:∀a,Q a->AO P R (f a)):AO P R (s>>=f):=by show AO P R (s.bind f);induction s with|pure a=>exact p a h|load m a k e=>exact λv=>e v (h v)|store m a v k e=>exact e h|new o k e=>exact λb=>e b (h b)|shape r k e=>exact λb=>e b (h b)|freeze a n k e=>exact e h|frozen a k e=>exact λb=>e b (h b)|getObj r k e=>exact λb=>e b (h b)|setObj r o k e=>exact e h|choose q k e=>exact λb=>e b (h b)|sys c k e=>exact h.elim|program k e=>exact e P h|mark m k e=>exact⟨h.1,e h.2⟩|halt x=>exact h
def any{d8:Type}:d8->Prop:=λ_=>True
theorem AO.DD{d:Type}{s:BQ d8}{f:d8->BQ d}{R:d->Prop}(h:AO P any s)(b:∀a,AO P R (f a)):AO P R (s>>=f):=h.bind λa _=>b a
theorem AO.ret(a:d8):AO P any (Fi a:BQ d8):=trivial
def mZ{d8:Type}:Result d8->A'|aY6 _ w=>w|.halt _ w=>w
structure EN(w w':A')(es es':Array By):Prop where
 size:w.heap.size<=w'.heap.size
 os:w'.os=w.os
 output:w'.output=w.output
 tape:w'.tape=w.tape
 evs:∀e∈es',e∈es∨KU (λ_=>False) (λb=>b<w'.heap.size) e
theorem EN.refl(w:A')(es:Array By):EN w w es es:=⟨AX _,rfl,rfl,rfl,λ_ h=>AA h⟩
theorem aF5{e:By}{n m:Nat}(h:KU (λ_=>False) (λb=>b<n) e)(hn:n<=m):KU (λ_=>False) (λb=>b<m) e:=by cases h with|cell w s h=>exact .cell w s (h.imp (λx=>K9 x hn) id)|obj w s h=>exact .obj w s (h.imp (λx=>K9 x hn) id)|extern f=>exact .extern f|noRoom=>exact .noRoom
theorem EN.trans{w w1 w2:A'}{es es1 d:Array By}(h:EN w w1 es es1)(k:EN w1 w2 es1 d):EN w w2 es d:=⟨HA h.size k.size,k.os.trans h.os,k.output.trans h.output,k.tape.trans h.tape,λe he=>by
 rcases k.evs e he with x|x;·exact(h.evs e x).imp id λy=>aF5 y k.size
 ·exact AF x⟩
theorem EN.step{w1:A'}{es:Array By}(b:w.heap.size<=w1.heap.size)(h2:w1.os=w.os)(h3:w1.output=w.output)(h4:w1.tape=w.tape):EN w w1 es es:=⟨b,h2,h3,h4,λ_ h=>AA h⟩
theorem AO.runs{s:BQ d8}{Q:d8->Prop}:∀(w:A')(es:Array By),AO P Q s->EN w (mZ (s.runT P w es).1) es (s.runT P w es).2:=by
 induction s with
 |pure a=>exact λw es _=>EN.refl w es
 |load m a k b=>
  intro w es h;simp only[DV];split
  ·rename_i v hv;refine EN.trans ⟨AX _,rfl,rfl,rfl,λe he=>?_⟩ (b v w _ (h v));rcases Array.mem_push.1 he with x|rfl;·exact AA x
   ·exact AF (.cell _ _ (AA (zW hv)))
  ·split
   ·rename_i v touched f;refine EN.trans ⟨AX _,rfl,rfl,rfl,λe he=>?_⟩ (b v w _ (h v));rcases Array.mem_append.1 he with x|x;·exact AA x
    ·obtain⟨y,hy,rfl⟩:=Array.mem_map.1 x;exact AF (.cell _ _ (AA (aFH f y (by simpa using hy))))
   ·exact EN.refl w es
 |store m a v k b=>
  intro w es h;have A:∀{r:A'×List Aa},w.farStore P a v (m==aYZ)=.ok r->EN w (mZ (k.runT P r.1 (es++r.2.toArray.map (⟨aYL ·,A0,m==aYZ⟩))).1) es (k.runT P r.1 (es++r.2.toArray.map (⟨aYL ·,A0,m==aYZ⟩))).2:=by
   intro r f;obtain⟨C,h2,h3,h4,D⟩:=aFK f;refine EN.trans ⟨by rw[h2];exact AX _,h3,h4,D,λe he=>?_⟩ (b r.1 _ h);rcases Array.mem_append.1 he with x|x;·exact AA x
   ·obtain⟨y,hy,rfl⟩:=Array.mem_map.1 x;exact AF (.cell _ _ (AA (by rw[h2];exact C y (by simpa using hy))))
  have p:∀{u:A1},w.cell? a=Z u->EN w (mZ (k.runT P (w.setCell a v) (es.push ⟨aYL a,A0,m==aYZ⟩)).1) es (k.runT P (w.setCell a v) (es.push ⟨aYL a,A0,m==aYZ⟩)).2:=by
   intro u hu;have z:(w.setCell a v).heap.size=w.heap.size:=by simp[La]
   refine EN.trans (w1:=w.setCell a v) ⟨by rw[z];exact AX _,rfl,rfl,rfl,λe he=>?_⟩ (b _ _ h);rcases Array.mem_push.1 he with x|rfl;·exact AA x
   ·exact AF (.cell _ _ (AA (by rw[z];exact zW hu)))
  cases v<;>simp only[DV];all_goals
   first
   |exact EN.refl w es
   |
    (
     split
     ·split;·exact EN.refl w es
      ·exact p (by assumption)
     ·split;·exact A (by assumption)
      ·exact EN.refl w es)
 |new o k b=>exact λw es h=>EN.trans (w1:={w with heap:=w.heap.push o}) (.step (by simp) rfl rfl rfl) (b _ _ _ (h _))
 |shape r k b=>exact λw es h=>b _ w es (h _)
 |freeze a n k b=>
  intro w es h;have:(w.freeze a n).heap.size=w.heap.size/\(w.freeze a n).os=w.os/\(w.freeze a n).output=w.output/\(w.freeze a n).tape=w.tape:=by
   unfold World.freeze;repeat' split
   all_goals simp
  exact EN.trans (.step (by rw[this.1];exact AX _) this.2.1 this.2.2.1 this.2.2.2) (b _ es h)
 |frozen a k b=>exact λw es h=>b _ w es (h _)
 |getObj r k b=>
  intro w es h;simp only[DV];split;·exact EN.refl w es
  ·rename_i o H _;refine EN.trans ⟨AX _,rfl,rfl,rfl,λe he=>?_⟩ (b _ w _ (h _));rcases Array.mem_push.1 he with x|rfl;·exact AA x
   ·exact AF (.obj _ _ (AA (eT (by assumption))))
  ·exact EN.refl w es
 |setObj r o k b=>
  intro w es h;simp only[DV];split;·exact EN.refl w es
  ·refine EN.trans (w1:={w with heap:=w.heap.setIfInBounds r o}) ⟨by simp,rfl,rfl,rfl,λe he=>?_⟩ (b _ _ h);rcases Array.mem_push.1 he with x|rfl;·exact AA x
   ·exact AF (.obj _ _ (AA (by simp only[Array.size_setIfInBounds];exact eT (by assumption))))
  ·exact EN.refl w es
 |choose q k b=>
  intro w es h;simp only[DV];split;·exact b _ w es (h _)
  ·exact EN.trans (w1:={w with drawn:=w.drawn+1}) (.step (AX _) rfl rfl rfl) (b _ _ es (h _))
 |sys c k b=>exact λw es h=>h.elim
 |program k b=>exact λw es h=>b P w es h
 |mark m k b=>
  intro w es h;obtain⟨rfl,h⟩:=h;refine EN.trans ⟨AX _,rfl,rfl,rfl,λe he=>?_⟩ (b w _ h);rcases Array.mem_push.1 he with x|rfl;·exact AA x
  ·exact AF .noRoom
 |halt x=>exact λw es _=>EN.refl w es
def cn(w:A')(h:Halt):Prop:=TN h∨∃g c t,h=.unsupported (aZ6 g)/\w.heap[g]?=Z (.pending c t)
theorem a3d(w:A')(a:Aa)(s:String):cn w (w.noCell a s):=by
 unfold World.noCell;split;·rename_i c t e;exact AF ⟨_,c,t,rfl,e⟩
 ·exact AA λg e=>by cases e
 ·exact AA trivial
theorem aFG(e:w.farLoad p a b=.error h):cn w h:=by
 unfold og at e;split at e
 ·split at e;·cases e
  ·cases e;exact AA λg e=>by cases e
 ·cases e;exact a3d _ _ _
theorem aFJ(e:w.farStore p a v b=.error h):cn w h:=by
 unfold oh at e;split at e
 ·split at e;·cases e
  ·cases e;exact AA λg e=>by cases e
 ·cases e;exact a3d _ _ _
def aBq{d8:Type}(Q:d8->Prop)(r:Result d8):Prop:=match r with|aY6 a _=>Q a|.halt h w=>cn w h
theorem AO.ends{s:BQ d8}{Q:d8->Prop}:∀(w:A')(es:Array By),AO P Q s->aBq Q (s.runT P w es).1:=by
 induction s with
 |pure a=>exact λw es h=>h
 |load m a k b=>
  intro w es h;simp only[DV];split;·exact b _ _ _ (h _)
  ·split;·exact b _ _ _ (h _)
   ·exact aFG (by assumption)
 |store m a v k b=>
  intro w es h;cases v<;>simp only[DV];all_goals
   first
   |exact AA trivial
   |
    (
     split
     ·split;·exact AA λg e=>by cases e
      ·exact b _ _ h
     ·split;·exact b _ _ h
      ·exact aFJ (by assumption))
 |new o k b=>exact λw es h=>b _ _ _ (h _)
 |shape r k b=>exact λw es h=>b _ w es (h _)
 |freeze a n k b=>exact λw es h=>b _ es h
 |frozen a k b=>exact λw es h=>b _ w es (h _)
 |getObj r k b=>
  intro w es h;simp only[DV];split;·exact AA trivial
  ·exact b _ _ _ (h _)
  ·exact AA trivial
 |setObj r o k b=>
  intro w es h;simp only[DV];split;·exact AA trivial
  ·exact b _ _ h
  ·exact AA trivial
 |choose q k b=>
  intro w es h;simp only[DV];split;·exact b _ w es (h _)
  ·exact b _ _ es (h _)
 |sys c k b=>exact λw es h=>h.elim
 |program k b=>exact λw es h=>b P w es h
 |mark m k b=>exact λw es h=>b w _ h.2
 |halt x=>exact λw es h=>AA h
section
variable{P:Ac}
theorem HH(s:String):AO P any (stuck s:BQ d8):=trivial
theorem aLe(v:A1):AO P any (goPanic v:BQ d8):=trivial
theorem LO{u:Unsupported}(h:∀g,u≠aZ6 g):AO P any (unsupported u:BQ d8):=h
theorem aLm(a:Aa)(m:Mode):AO P any (load a m):=λ_=>trivial
theorem aW5(a:Aa)(v:A1)(m:Mode):AO P any (aZU a v m):=trivial
theorem bz(r:Nat):AO P any (shape r):=λ_=>trivial
theorem aLd(a:Aa):AO P any (frozen a):=λ_=>trivial
theorem tf(r:Nat):AO P any (getObj r):=λ_=>trivial
theorem lg(q:Question):AO P any (choose q):=λ_=>trivial
theorem a2k(o:Obj):AO P any (newObj o):=λ_=>trivial
theorem X9:AO P any ir:=trivial
theorem AO.map{d:Type}{s:BQ d8}{f:d8->d}(h:AO P any s):AO P any (f<$>s):=AO.DD (s:=s) (f:=λa=>Sem.pure (f a)) h λ_=>trivial
theorem gX(t:A_):AO P any (typeInfo t):=by unfold typeInfo;repeat' first|contradiction|(with_reducible exact AO.ret _)|(with_reducible exact HH _)|(with_reducible exact X9)|(with_reducible refine AO.DD ?_ λ_=>?_)|split|dsimp only|exact trivial
theorem SH(t:A_):AO P any (Iq t):=by unfold Iq;repeat' first|contradiction|(with_reducible exact AO.ret _)|(with_reducible exact HH _)|(with_reducible exact X9)|(with_reducible refine AO.DD ?_ λ_=>?_)|split|dsimp only|exact trivial
theorem VJ(t:A_):AO P any (sizeOf t):=by unfold sizeOf;repeat' first|contradiction|(with_reducible exact AO.ret _)|(with_reducible exact gX ..)|(with_reducible refine AO.DD ?_ λ_=>?_)|split|dsimp only|exact trivial
theorem a2f(t:A_):AO P any (isAgg t):=by unfold isAgg;repeat' first|contradiction|(with_reducible exact AO.ret _)|(with_reducible exact SH ..)|(with_reducible refine AO.DD ?_ λ_=>?_)|split|dsimp only|exact trivial
theorem ti(t:A_):AO P any (zeroValue t):=by unfold zeroValue;repeat' first|contradiction|(with_reducible exact AO.ret _)|((with_reducible refine LO λg e=>?_);cases e)|(with_reducible exact gX ..)|(with_reducible refine AO.DD ?_ λ_=>?_)|split|dsimp only|exact trivial
theorem a2i(a:Aa):∀(n i:Nat)(b:Array A1),AO P any (loadCellsFrom a i n b)|0,_,_=>trivial|n+1,i,b=>AO.DD (s:=load _) (λ_=>trivial) λv=>a2i a n (i+1) (b.push v)
theorem a2h(a:Aa)(n:Nat):AO P any (loadCells a n):=a2i a n 0 #[]
theorem th(a:Aa):∀(b:List A1)(i:Nat),AO P any (storeCells a b i)|[],_=>trivial|_::rest,i=>AO.DD (s:=aZU _ _) trivial λ_=>th a rest (i+1)
theorem a2j(t:A_)(a:Aa):AO P any (loadVar t a):=by unfold loadVar;repeat' first|contradiction|(with_reducible exact AO.ret _)|(with_reducible exact aLm _ _)|(with_reducible exact VJ ..)|(with_reducible exact a2f ..)|(with_reducible exact a2h ..)|(with_reducible refine AO.DD ?_ λ_=>?_)|split|dsimp only|exact trivial
theorem aLx(t:A_)(a:Aa)(v:A1):AO P any (storeVar t a v):=by unfold storeVar;repeat' first|contradiction|(with_reducible exact AO.ret _)|(with_reducible exact HH _)|(with_reducible exact VJ ..)|(with_reducible exact th ..)|(with_reducible refine AO.DD ?_ λ_=>?_)|split|dsimp only|exact trivial
theorem tg(e:A_)(c:Array A1):AO P any (newRow e c):=by unfold newRow;repeat' first|contradiction|(with_reducible exact AO.ret _)|(with_reducible exact a2k _)|(with_reducible refine AO.DD ?_ λ_=>?_)|split|dsimp only|exact trivial
theorem a2l(e:A_)(v:A1):AO P any (newVar e v):=by unfold newVar;repeat' first|contradiction|(with_reducible exact AO.ret _)|(with_reducible exact tg ..)|(with_reducible refine AO.DD ?_ λ_=>?_)|split|dsimp only|exact trivial
theorem aLW(t:A_):AO P any (elemOf t):=by unfold elemOf;repeat' first|contradiction|(with_reducible exact AO.ret _)|(with_reducible exact HH _)|(with_reducible exact SH ..)|(with_reducible refine AO.DD ?_ λ_=>?_)|split|dsimp only|exact trivial
theorem aW3(t:A_)(cs:Array A1)(off:Nat):AO P any (part t cs off):=by unfold part;repeat' first|contradiction|(with_reducible exact AO.ret _)|(with_reducible exact HH _)|(with_reducible exact VJ ..)|(with_reducible exact a2f ..)|(with_reducible refine AO.DD ?_ λ_=>?_)|split|dsimp only|exact trivial
theorem gW(e:RuntimeError):AO P any (RJ e:BQ d8):=by unfold RJ;repeat' first|contradiction|(with_reducible exact AO.ret _)|(with_reducible exact X9)|(with_reducible exact aLe _)|(with_reducible exact a2l ..)|(with_reducible exact aLW ..)|(with_reducible refine AO.DD ?_ λ_=>?_)|split|dsimp only|exact trivial
theorem aLQ(k:KY)(x y:Int)(c:BoundsCode):AO P any (Vp k x y c:BQ d8):=by unfold Vp;repeat' first|contradiction|(with_reducible exact AO.ret _)|(with_reducible exact lg _)|(with_reducible exact gW ..)|(with_reducible refine AO.DD ?_ λ_=>?_)|(with_reducible refine AO.map ?_)|split|dsimp only|exact trivial
theorem lj(v:A1):AO P any (dL v):=by unfold dL;repeat' first|contradiction|(with_reducible exact AO.ret _)|(with_reducible exact HH _)|(with_reducible refine AO.DD ?_ λ_=>?_)|split|dsimp only|exact trivial
theorem a2b(v:A1):AO P any (asIntOf v):=by unfold asIntOf;repeat' first|contradiction|(with_reducible exact AO.ret _)|(with_reducible exact HH _)|((with_reducible refine LO λg e=>?_);cases e)|(with_reducible refine AO.DD ?_ λ_=>?_)|split|dsimp only|exact trivial
theorem a2a(v:A1):AO P any (asInt v):=by unfold asInt;repeat' first|contradiction|(with_reducible exact AO.ret _)|(with_reducible exact a2b ..)|(with_reducible refine AO.DD ?_ λ_=>?_)|split|dsimp only|exact trivial
theorem a2_(v:A1):AO P any (asBool v):=by unfold asBool;repeat' first|contradiction|(with_reducible exact AO.ret _)|(with_reducible exact HH _)|(with_reducible refine AO.DD ?_ λ_=>?_)|split|dsimp only|exact trivial
theorem a2s(r:Nat):AO P any (viewAt r):=by unfold viewAt;repeat' first|contradiction|(with_reducible exact AO.ret _)|(with_reducible exact bz _)|(with_reducible exact tf _)|(with_reducible refine AO.DD ?_ λ_=>?_)|split|dsimp only|exact trivial
theorem a2n(r:Nat):AO P any (numberAt r):=by unfold numberAt;repeat' first|contradiction|(with_reducible exact AO.ret _)|(with_reducible exact bz _)|(with_reducible exact tf _)|(with_reducible refine AO.DD ?_ λ_=>?_)|split|dsimp only|exact trivial
theorem aLt(a:Aa):AO P any (noView a):=by unfold noView;repeat' first|contradiction|(with_reducible exact AO.ret _)|((with_reducible refine LO λg e=>?_);cases e)|(with_reducible exact a2s ..)|(with_reducible refine AO.DD ?_ λ_=>?_)|split|dsimp only|exact trivial
theorem lf(a:Aa):AO P any (byteOf a):=by unfold byteOf;repeat' first|contradiction|(with_reducible exact AO.ret _)|(with_reducible exact HH _)|(with_reducible exact bz _)|(with_reducible exact X9)|(with_reducible exact aLt ..)|(with_reducible refine AO.DD ?_ λ_=>?_)|split|dsimp only|exact trivial
theorem aLv(a:Aa)(n m:Nat):AO P any (partAt a n m):=by unfold partAt;repeat' first|contradiction|(with_reducible exact AO.ret _)|(with_reducible exact lf ..)|(with_reducible refine AO.DD ?_ λ_=>?_)|split|dsimp only|exact trivial
theorem aLa(a:Aa)(f:Field):AO P any (ik a f):=by unfold ik;repeat' first|contradiction|(with_reducible exact AO.ret _)|(with_reducible exact VJ ..)|(with_reducible exact aLv ..)|(with_reducible refine AO.DD ?_ λ_=>?_)|split|dsimp only|exact trivial
theorem aL_(s:A_)(v:A1)(f:Nat):AO P any (iC s v f):=by unfold iC;repeat' first|contradiction|(with_reducible exact AO.ret _)|(with_reducible exact HH _)|(with_reducible exact SH ..)|(with_reducible exact lj ..)|(with_reducible exact aLa ..)|(with_reducible refine AO.DD ?_ λ_=>?_)|split|dsimp only|exact trivial
theorem aLg(t:A_)(x i:A1):AO P any (Xj t x i):=by unfold Xj;repeat' first|contradiction|(with_reducible exact AO.ret _)|(with_reducible exact HH _)|((with_reducible refine LO λg e=>?_);cases e)|(with_reducible exact SH ..)|(with_reducible exact VJ ..)|(with_reducible exact aLQ ..)|(with_reducible exact lj ..)|(with_reducible exact a2b ..)|(with_reducible refine AO.DD ?_ λ_=>?_)|split|dsimp only|exact trivial
theorem aLn(t:A_)(x:A1):AO P any (iE t x):=by unfold iE;repeat' first|contradiction|(with_reducible exact AO.ret _)|(with_reducible exact a2j ..)|(with_reducible exact lj ..)|(with_reducible refine AO.DD ?_ λ_=>?_)|split|dsimp only|exact trivial
theorem aLw(t:A_)(x y:A1):AO P any (iG t x y):=by unfold iG;repeat' first|contradiction|(with_reducible exact AO.ret _)|(with_reducible exact aLx ..)|(with_reducible exact lj ..)|(with_reducible refine AO.DD ?_ λ_=>?_)|split|dsimp only|exact trivial
theorem te(a:Aa):AO P any (ij a):=by unfold ij;repeat' first|contradiction|(with_reducible exact AO.ret _)|(with_reducible exact a2n ..)|(with_reducible refine AO.DD ?_ λ_=>?_)|split|dsimp only|exact trivial
theorem aLN(a:Aa)(b:Bool):AO P any (asNumber a b):=by unfold asNumber;repeat' first|contradiction|(with_reducible exact AO.ret _)|(with_reducible exact a2k _)|(with_reducible refine AO.DD ?_ λ_=>?_)|split|dsimp only|exact trivial
theorem a2r(ts:Array A_)(t:A_)(x y:A1):AO P any (hd ts t #[x,y]):=by
 unfold hd;cases x with
 |pointer a=>
  refine AO.DD (s:=asInt y) (a2a y) λn=>?_;repeat'
   first
   |contradiction
   |(with_reducible exact AO.ret _)
   |(with_reducible exact bz _)
   |(with_reducible exact X9)
   |((with_reducible refine LO λg e=>?_);cases e)
   |(with_reducible exact a2a ..)
   |(with_reducible exact a2s ..)
   |(with_reducible refine AO.DD ?_ λ_=>?_)
   |(with_reducible refine AO.map ?_)
   |split
   |dsimp only
   |exact trivial
 |_=>exact trivial
theorem aLp(t:A_)(x y:A1):AO P any (im t x y):=by unfold im;repeat' first|contradiction|(with_reducible exact AO.ret _)|((with_reducible refine LO λg e=>?_);cases e)|(with_reducible exact SH ..)|(with_reducible exact te ..)|(with_reducible exact aLN ..)|(with_reducible exact a2r ..)|(with_reducible refine AO.DD ?_ λ_=>?_)|split|dsimp only|exact trivial
theorem aLq(t:A_)(x y:A1):AO P any (iq t x y):=by unfold iq;repeat' first|contradiction|(with_reducible exact AO.ret _)|((with_reducible refine LO λg e=>?_);cases e)|(with_reducible exact a2n ..)|(with_reducible exact a2r ..)|(with_reducible refine AO.DD ?_ λ_=>?_)|split|dsimp only|exact trivial
theorem a2c(b:Im)(k:ht)(x y:Nat):AO P any (a8G b k x y):=by unfold a8G;repeat' first|contradiction|(with_reducible exact AO.ret _)|(with_reducible exact HH _)|(with_reducible exact lg _)|(with_reducible refine AO.DD ?_ λ_=>?_)|split|dsimp only|exact trivial
theorem a2d(b:Im)(k:ht)(x y:Nat):AO P any (a8H b k x y):=by unfold a8H;repeat' first|contradiction|(with_reducible exact AO.ret _)|(with_reducible exact HH _)|(with_reducible refine AO.DD ?_ λ_=>?_)|split|dsimp only|exact trivial
theorem aLy(b:Im)(x y:ByteArray):AO P any (aT b x y):=by unfold aT;repeat' first|contradiction|(with_reducible exact AO.ret _)|(with_reducible exact HH _)|((with_reducible refine LO λg e=>?_);cases e)|(with_reducible refine AO.DD ?_ λ_=>?_)|split|dsimp only|exact trivial
theorem a2e(b:Im)(k:KY)(x y:Int):AO P any (oG b k x y):=by unfold oG;repeat' first|contradiction|(with_reducible exact AO.ret _)|(with_reducible exact HH _)|(with_reducible refine AO.DD ?_ λ_=>?_)|split|dsimp only|exact trivial
theorem aLj(b:Im)(k:KY)(x y:Int):AO P any (oJ b k x y):=by unfold oJ;repeat' first|contradiction|(with_reducible exact AO.ret _)|(with_reducible exact HH _)|(with_reducible exact gW ..)|(with_reducible refine AO.DD ?_ λ_=>?_)|split|dsimp only|exact trivial
theorem aLi(b:Im)(x y:Int):AO P any (oI b x y):=by unfold oI;repeat' first|contradiction|(with_reducible exact AO.ret _)|(with_reducible exact HH _)|(with_reducible refine AO.DD ?_ λ_=>?_)|split|dsimp only|exact trivial
theorem aLh(b:Im)(k:KY)(x y:Int):AO P any (oH b k x y):=by unfold oH;repeat' first|contradiction|(with_reducible exact AO.ret _)|(with_reducible exact HH _)|(with_reducible refine AO.DD ?_ λ_=>?_)|split|dsimp only|exact trivial
theorem aW4(e:Im)(k b:KY)(x y:Int):AO P any (oK e k x b y):=by unfold oK;repeat' first|contradiction|(with_reducible exact AO.ret _)|(with_reducible exact HH _)|(with_reducible exact gW ..)|(with_reducible refine AO.DD ?_ λ_=>?_)|split|dsimp only|exact trivial
theorem aLL(b:Im)(k:ht)(x y:Nat):AO P any (a8B b k x y):=by unfold a8B;repeat' first|contradiction|(with_reducible exact AO.ret _)|(with_reducible exact HH _)|(with_reducible exact a2c ..)|(with_reducible refine AO.DD ?_ λ_=>?_)|split|dsimp only|exact trivial
theorem aLU(b:Im)(k:ht)(x y:Nat):AO P any (a8C b k x y):=by unfold a8C;repeat' first|contradiction|(with_reducible exact AO.ret _)|(with_reducible exact a2_ ..)|(with_reducible exact a2d ..)|(with_reducible refine AO.DD ?_ λ_=>?_)|split|dsimp only|exact trivial
theorem aM'(b:UnOp)(x:A1):AO P any (iR b x):=by unfold iR;repeat' first|contradiction|(with_reducible exact AO.ret _)|(with_reducible exact HH _)|((with_reducible refine LO λg e=>?_);cases e)|(with_reducible exact a2e ..)|(with_reducible exact aLh ..)|(with_reducible refine AO.DD ?_ λ_=>?_)|split|dsimp only|exact trivial
theorem a2p(a b:Aa):AO P any (iQ a b):=by unfold iQ;repeat' first|contradiction|(with_reducible exact AO.ret _)|(with_reducible exact X9)|((with_reducible refine LO λg e=>?_);cases e)|(with_reducible exact lf ..)|(with_reducible refine AO.DD ?_ λ_=>?_)|split|dsimp only|exact trivial
theorem aLJ(k:KY)(a b:Aa):AO P any (iN k a b):=by unfold iN;repeat' first|contradiction|(with_reducible exact AO.ret _)|(with_reducible exact a2p ..)|(with_reducible refine AO.DD ?_ λ_=>?_)|split|dsimp only|exact trivial
theorem aLH(f:Im)(a b:Aa):AO P any (iL f a b):=by unfold iL;repeat' first|contradiction|(with_reducible exact AO.ret _)|((with_reducible refine LO λg e=>?_);cases e)|(with_reducible exact a2p ..)|(with_reducible refine AO.DD ?_ λ_=>?_)|split|dsimp only|exact trivial
theorem aLI(k:KY)(a:Aa)(n:Int):AO P any (iM k a n):=by unfold iM;repeat' first|contradiction|(with_reducible exact AO.ret _)|(with_reducible exact bz _)|((with_reducible refine LO λg e=>?_);cases e)|(with_reducible exact gX ..)|(with_reducible exact lf ..)|(with_reducible refine AO.DD ?_ λ_=>?_)|split|dsimp only|exact trivial
theorem aLR(e:A_)(v:A1):AO P any (i' e v):=by unfold i';repeat' first|contradiction|(with_reducible exact AO.ret _)|(with_reducible exact a2l ..)|(with_reducible refine AO.DD ?_ λ_=>?_)|split|dsimp only|exact trivial
theorem aLl(v:A1):AO P any (nS v):=by unfold nS;repeat' first|contradiction|(with_reducible exact AO.ret _)|(with_reducible exact HH _)|(with_reducible refine AO.DD ?_ λ_=>?_)|split|dsimp only|exact trivial
theorem aLb(s n:Nat)(v:A1):AO P any (nR s n v):=by unfold nR;repeat' first|contradiction|(with_reducible exact AO.ret _)|(with_reducible exact HH _)|(with_reducible exact a2h ..)|(with_reducible refine AO.DD ?_ λ_=>?_)|(with_reducible refine AO.map ?_)|split|dsimp only|exact trivial
theorem aLf(a:Aa)(n:Nat):AO P any (hZ a n):=by unfold hZ;repeat' first|contradiction|(with_reducible exact AO.ret _)|(with_reducible exact bz _)|(with_reducible refine AO.DD ?_ λ_=>?_)|split|dsimp only|exact trivial
theorem aLo(s l n:Nat)(b:Option Aa)(v:A1):AO P any (nT s l n b v):=by unfold nT;repeat' first|contradiction|(with_reducible exact AO.ret _)|(with_reducible exact aLd _)|(with_reducible exact aLf ..)|(with_reducible refine AO.DD ?_ λ_=>?_)|split|dsimp only|exact trivial
theorem aLO(n:Nat):AO P any (askRoom n):=by
 unfold askRoom;split;·exact⟨rfl,trivial⟩
 ·exact trivial
theorem aLs:AO P any (mark .noRoom):=⟨rfl,trivial⟩
theorem aLk(ts:Array A_)(t:A_)(args:Array A1):AO P any (h_ ts t args):=by unfold h_;repeat' first|contradiction|(with_reducible exact AO.ret _)|(with_reducible exact HH _)|(with_reducible exact tf _)|(with_reducible exact SH ..)|(with_reducible refine AO.DD ?_ λ_=>?_)|(with_reducible refine AO.map ?_)|split|dsimp only|exact trivial
theorem a2g{d8 d:Type}{f:d8->BQ d}(h:∀a,AO P any (f a)):∀(l:List d8)(e:List d),AO P any (aUV f l e)|[],_=>trivial|a::l,e=>AO.DD (h a) λb=>a2g h l (b::e)
theorem a2Z{d:Type}{f:d8->BQ d}(h:∀a,AO P any (f a))(l:Array d8):AO P any (l.mapM f):=by rw[Array.mapM_eq_mapM_toList];exact AO.map (a2g h _ _)
theorem aLS(t:A_)(b:Array (Nat×A1)):AO P any (iA t b):=by unfold iA;repeat' first|contradiction|(with_reducible exact AO.ret _)|(with_reducible exact HH _)|(with_reducible exact SH ..)|(with_reducible exact VJ ..)|(with_reducible exact ti ..)|(with_reducible refine a2Z (λ_=>?_) _)|(with_reducible refine AO.DD ?_ λ_=>?_)|split|dsimp only|exact trivial
theorem aLT(t:A_)(n:Nat)(b:Array (Nat×A1)):AO P any (dH t n b):=by unfold dH;repeat' first|contradiction|(with_reducible exact AO.ret _)|(with_reducible exact HH _)|((with_reducible refine LO λg e=>?_);cases e)|(with_reducible exact SH ..)|(with_reducible exact VJ ..)|(with_reducible exact ti ..)|(with_reducible exact tg ..)|(with_reducible refine AO.DD ?_ λ_=>?_)|(with_reducible refine AO.map ?_)|split|dsimp only|exact trivial
theorem aLZ(h:P.underlying t=Z (aYh k))(x y:A1):AO P any (Ss t x y):=by
 unfold Ss;rw[show iP=9999+1 from rfl];unfold Op.equalIn;have hu:AO P (λd=>d=aYh k) (Iq t):=by unfold Iq;refine AO.bind (Q:=λp=>p=P) (show AO P _ ir from rfl) λp f=>?_;subst f;rw[h];exact rfl
 refine AO.bind hu λd b=>?_;subst b;dsimp only;repeat' first|contradiction|(with_reducible exact AO.ret _)|(with_reducible exact HH _)|(with_reducible exact X9)|((with_reducible refine LO λg e=>?_);cases e)|(with_reducible exact te ..)|(with_reducible exact lf ..)|(with_reducible exact gX ..)|(with_reducible refine AO.DD ?_ λ_=>?_)|(with_reducible refine AO.map ?_)|split|dsimp only|exact trivial
theorem aLV(e:Im)(h:e=aZ0∨e=.sub∨e=.rem∨e=aZ1∨e=.geq∨e=.eql)(k:ht)(a b c d:Nat):AO P any (a8F e k a b c d):=by rcases h with rfl|rfl|rfl|rfl|rfl|rfl<;>unfold a8F<;>dsimp only;all_goals repeat' first|contradiction|(with_reducible exact AO.ret _)|(with_reducible exact HH _)|(with_reducible exact aLL ..)|(with_reducible exact aLU ..)|(with_reducible refine AO.DD ?_ λ_=>?_)|split|dsimp only|exact trivial
theorem aLP(m:P.underlying t=Z (aYh k))(f:Im)(h:f=aZ0∨f=.sub∨f=.rem∨f=aZ1∨f=.geq∨f=.eql)(x y:A1):AO P any (binOp f t x y):=by have hc:=λk a b c d=>aLV (P:=P) f h k a b c d;rcases h with rfl|rfl|rfl|rfl|rfl|rfl<;>unfold binOp<;>split;all_goals repeat' first|contradiction|(with_reducible exact AO.ret _)|(with_reducible exact HH _)|((with_reducible refine LO λg e=>?_);cases e)|(with_reducible exact a2e ..)|(with_reducible exact aLj ..)|(with_reducible exact aLi ..)|(with_reducible exact a2c ..)|(with_reducible exact a2d ..)|(with_reducible exact aLy ..)|(with_reducible exact hc ..)|(with_reducible exact aLZ m ..)|(with_reducible exact SH ..)|(with_reducible exact aLp ..)|(with_reducible exact aLq ..)|(with_reducible exact aLJ ..)|(with_reducible exact aLH ..)|(with_reducible exact aLI ..)|(with_reducible exact te ..)|(with_reducible refine AO.DD ?_ λ_=>?_)|split|dsimp only|exact trivial
end
section
variable{P:Ac}
theorem a2q{d:TypeDesc}(e:P.underlying t=Z d):AO P (λx=>x=d) (Iq t):=by unfold Iq;refine AO.bind (Q:=λp=>p=P) (show AO P _ ir from rfl) λp b=>?_;subst b;rw[e];exact rfl
theorem aLK{ts:Array A_}{u e:A_}(h:ts[1]?=Z u)(hu:P.underlying u=Z (aZR e))(t:A_)(args:Array A1):AO P any (U9 ts t args):=by
 unfold U9;split
 ·refine AO.DD (SH _) λd=>?_;split
  ·split;·refine AO.DD (VJ _) λf=>?_;rw[h];dsimp only;refine AO.bind (a2q hu) λd p=>?_;subst p;refine AO.bind (Q:=λb=>b=A5) rfl λb m=>?_;subst m;simp only[EU,↓reduceIte,Bool.not_false];repeat' first|contradiction|(with_reducible exact AO.ret _)|(with_reducible exact lg _)|((with_reducible refine LO λg e=>?_);cases e)|(with_reducible exact SH ..)|(with_reducible exact VJ ..)|(with_reducible exact gX ..)|(with_reducible exact gW ..)|(with_reducible exact aLl ..)|(with_reducible exact aLb ..)|(with_reducible exact ti ..)|(with_reducible exact aLo ..)|(with_reducible exact aLO ..)|(with_reducible exact aLs ..)|(with_reducible exact th ..)|(with_reducible exact tg ..)|(with_reducible refine AO.DD ?_ λ_=>?_)|split|dsimp only|exact trivial
   ·exact trivial
  ·exact trivial
 ·exact trivial
theorem aLc:∀(l:List FieldStep)(t:A_)(x:Option A1),AO P any (aA8 l t x)|[],_,_=>trivial|s::rest,t,x=>by have b:=λt x=>aLc rest t x;unfold aA8;repeat' first|contradiction|(with_reducible exact AO.ret _)|(with_reducible exact HH _)|(with_reducible exact b ..)|(with_reducible exact SH ..)|(with_reducible exact aW3 ..)|(with_reducible refine AO.DD ?_ λ_=>?_)|split|dsimp only|exact trivial
theorem a2m:∀(n:Nat)(t:A_)(v:A1)(b:String),AO P any (nilAhead n t v b)|0,_,_,_=>trivial|n+1,t,v,b=>by have e:=λt v=>a2m n t v b;unfold nilAhead;repeat' first|contradiction|(with_reducible exact AO.ret _)|(with_reducible exact HH _)|(with_reducible exact e ..)|(with_reducible exact SH ..)|(with_reducible exact gX ..)|(with_reducible exact aLc ..)|(with_reducible refine AO.DD ?_ λ_=>?_)|split|dsimp only|exact trivial
def cI:MF->Prop|aYD _|aYU=>True|_=>False
theorem Tf{s:BQ A1}(h:AO P any s):AO P cI (do Fi (aYD (<-s))):=h.bind λ_ _=>trivial
theorem aLz{s:BQ Unit}(h:AO P any s):AO P cI (do s;Fi aYU):=h.bind λ_ _=>trivial
def a3m(P:Ac):Op->Bool|.move _|.assign _|.pick ..|aZ5 _|aYf ..|.store ..|.fieldAddr ..|aZ3 ..|.unOp ..|.build ..|.buildSlice ..|.box ..=>A0|aZ_ op t _ _ _=>(match op with|aZ0|.sub|.rem|aZ1|.geq|.eql=>A0|_=>A5)&&(match P.underlying t with|Z (aYh _)=>A0|_=>A5)|a8E {callee:=.builtin .len,..}=>A0|a8E {callee:=.builtin .append,argTypes:=ts,..}=>(match ts[1]? with|Z u=>(match P.underlying u with|Z (aZR _)=>A0|_=>A5)|J=>A5)|_=>A5
theorem aLY(f:P.underlying t=Z (aYh k))(a b:A1):AO P any (iO iP t a b):=by rw[show iP=9999+1 from rfl];unfold iO;refine AO.bind (a2q f) λd e=>?_;subst e;exact trivial
theorem aLX(f:P.underlying t=Z (aYh k))(h:Im)(x y:C2)(a b:A1):AO P any (eqGuard h t x y a b):=by unfold eqGuard;repeat' first|contradiction|(with_reducible exact AO.ret _)|(with_reducible exact X9)|((with_reducible refine LO λg e=>?_);cases e)|(with_reducible exact aLY f ..)|(with_reducible refine AO.DD ?_ λ_=>?_)|split|dsimp only|exact trivial
theorem lh{Q:d8->Prop}:AO P Q (RJ .nilDeref:BQ d8):=by unfold RJ;exact AO.DD trivial λp=>trivial
theorem aLr{x:C2}(h:o.op=aZ5 x):AO P cI (AU ρ o):=by
 unfold AU;rw[h];dsimp only;split;·exact lh
 ·exact lh
 ·exact lh
 ·split;·exact lh
  ·refine AO.DD trivial λp=>AO.DD (a2m _ _ _ _) λb=>?_;split;·exact λg e=>by cases e
   ·exact trivial
  ·exact trivial
 ·exact trivial
theorem aLu(h:a3m P o.op=A0):AO P cI (AU ρ o):=by
 cases m:o.op with
 |nilCheck x=>exact aLr m
 |move x=>unfold AU;rw[m];exact trivial
 |assign x=>unfold AU;rw[m];exact trivial
 |pick c a b=>unfold AU;rw[m];exact(a2_ _).bind λ_ _=>trivial
 |load t a=>unfold AU;rw[m];exact Tf (aLn _ _)
 |store t a x=>unfold AU;rw[m];exact aLz (aLw _ _ _)
 |fieldAddr s x f=>unfold AU;rw[m];exact Tf (aL_ _ _ _)
 |indexAddr t x i=>unfold AU;rw[m];exact Tf (aLg _ _ _)
 |unOp op t x=>unfold AU;rw[m];exact Tf (aM' _ _)
 |build t p=>unfold AU;rw[m];exact Tf (aLS _ _)
 |buildSlice t n p=>unfold AU;rw[m];exact Tf (aLT _ _ _)
 |box t x=>unfold AU;rw[m];exact Tf (aLR _ _)
 |binOp op t x y q=>
  rw[m]at h;obtain⟨A,h2⟩:=Bool.and_eq_true_iff.1 h;cases hu:P.underlying t with
  |none=>rw[hu]at h2;cases h2
  |some d=>
   rw[hu]at h2;cases d with
   |int k=>
    have D:op=aZ0∨op=.sub∨op=.rem∨op=aZ1∨op=.geq∨op=.eql:=by
     cases op<;>first
     |(simp;done)
     |cases A
    unfold AU;rw[m];exact Tf (AO.DD (aLX hu _ _ _ _ _) λ_=>aLP hu op D _ _)
   |_=>cases h2
 |call c=>
  rw[m]at h;obtain⟨z,C,ts⟩:=c;cases z with
  |builtin b=>
   cases b with
   |len=>unfold AU;rw[m];exact Tf (aLk _ _ _)
   |append=>
    have h:(match ts[1]? with
    |Z u=>match P.underlying u with
     |Z (aZR _)=>A0
     |_=>A5
    |J=>A5)=A0:=h;cases A:ts[1]? with
    |none=>rw[A]at h;cases h
    |some u=>
     rw[A]at h;dsimp only at h;cases hu:P.underlying u with
     |none=>rw[hu]at h;cases h
     |some d=>
      rw[hu]at h;cases d with
      |slice e=>unfold AU;rw[m];exact Tf (aLK A hu _ _)
      |_=>cases h
   |_=>cases h
  |_=>cases h
 |_=>rw[m]at h;cases h
end
section
open Go.Conc(G solo Knows Perm Quiet touchAt touch_of touchAt_of getElem?_append_cases knows_own noRace_append Deaf)
open Go.ConcN(PermW)
variable{l:Loc}
def Fu(l:Loc)(b:Nat):Prop:=(∃a:Aa,l=aYL a/\a.block=b)∨l=.obj b
theorem Fu.one{b b':Nat}(h:Fu l b)(k:Fu l b'):b=b':=by
 rcases h with⟨a,rfl,rfl⟩|rfl
 ·rcases k with⟨f,e,rfl⟩|e;·cases e;rfl
  ·cases e
 ·rcases k with⟨f,e,rfl⟩|e;·cases e
  ·cases e;rfl
theorem Fu.low{l:Loc}{b B:Nat}(h:Fu l b):l.low B->b<B:=by
 rcases h with⟨a,rfl,rfl⟩|rfl;·exact id
 ·exact id
theorem Fu.of_low{b B:Nat}(h:Fu l b)(e:b<B):l.low B:=by
 rcases h with⟨a,rfl,rfl⟩|rfl;·exact e
 ·exact e
structure Lh(Wb:Nat->Prop)(n B:Nat)(S Sh:Nat->Nat->Prop):Prop where
 apart:∀g h b,S g b->S h b->g=h
 SV:∀g h b,S g b->¬Sh h b
 wg:∀g b,Wb b->¬S g b/\¬Sh g b
 low:∀g b,S g b∨Sh g b->b<B
 num:∀g b,S g b∨Sh g b->g<n
 OW:∀b,Wb b->b<B
structure IZ(Wb:Nat->Prop)(n B:Nat)(S Sh:Nat->Nat->Prop)(t:DX):Prop where
 nr:∀said,¬Race said t
 own:∀g b,S g b->∀l,Fu l b->Perm t g l
 shr:∀g b,Sh g b->∀l,Fu l b->PermW t g l
 quiet:Quiet (λl=>∃b,Wb b/\Fu l b) t
 low:∀op∈t,∀x,op.act.touch?=Z x->x.loc.low B
 gs:∀(i:Nat)(op:aZI),t[i]?=Z op->op.g<n
def Pc(S:Nat->Nat->Prop)(g:Nat)(X:Nat->Prop):Nat->Nat->Prop:=λh b=>if h=g then X b else S h b
theorem cZ(S:Nat->Nat->Prop)(g:Nat)(X:Nat->Prop)(b:Nat):Pc S g X g b↔X b:=by simp[Pc]
theorem VX(S:Nat->Nat->Prop){g h:Nat}(X:Nat->Prop)(e:h≠g)(b:Nat):Pc S g X h b↔S h b:=by simp[Pc,e]
section
variable{Wb:Nat->Prop}{n B:Nat}{S Sh:Nat->Nat->Prop}{t:DX}
theorem aSg{d m:Nat->Prop}{e:By}{x:Touch}(h:KU m d e)(hx:(KZ e).touch?=Z x):∃b,Fu x.loc b/\(d b∨m b/\x.write=A5):=by cases h with|cell w s h=>rename_i a;simp only[KZ,aS,W5]at hx;subst hx;exact⟨a.block,AA ⟨a,rfl,rfl⟩,h⟩|obj w s h=>rename_i r;cases w<;>cases s<;>simp only[KZ,aS,W5,reduceCtorEq]at hx;all_goals(subst hx;exact⟨r,AF rfl,h⟩)|extern f=>simp[KZ,aS]at hx|noRoom=>simp[KZ,aS]at hx
theorem IZ.fresh(h:IZ Wb n B S Sh t){b:Nat}(y:B<=b)(p:Fu l b)(g:Nat):Perm t g l:=by intro i a m e;obtain⟨x,hx,s⟩:=nm m;have f:=h.low x (cm hx) a s;exfalso;subst e;have:=p.low f;omega
theorem IZ.step(R:Lh Wb n B S Sh)(h:IZ Wb n B S Sh t){g:Nat}(AB:g<n){B':Nat}(DC:B<=B'){X:Nat->Prop}(K:∀b,X b↔S g b∨B<=b/\b<B'){fn:Xi}{pos:String}{es:Array By}(F9:∀e∈es,KU (Sh g) X e):Lh Wb n B' (Pc S g X) Sh/\IZ Wb n B' (Pc S g X) Sh (t++K6 g fn pos es):=by
 have U:∀b,X b∨Sh g b->b<B':=λb s=>by
  rcases s with s|s
  ·rcases(K b).1 s with h1|h1;·have:=R.low g b (AA h1);omega
   ·exact h1.2
  ·have:=R.low g b (AF s);omega
 have d:∀D b,D≠g->S D b->¬X b:=λD b md hs hx=>by
  rcases(K b).1 hx with h1|h1;·exact md (R.apart _ _ b hs h1)
  ·have:=R.low D b (AA hs);omega
 have N:∀D b,X b->¬Sh D b:=λD b hx hs=>by
  rcases(K b).1 hx with h1|h1;·exact R.SV _ _ b h1 hs
  ·have:=R.low D b (AF hs);omega
 have Q:∀b,Wb b->¬X b:=λb z hx=>by
  rcases(K b).1 hx with h1|h1;·exact(R.wg g b z).1 h1
  ·have:=R.OW b z;omega
 have H:∀m∈K6 g fn pos es,m.g=g/\∀x,m.act.touch?=Z x->∃b,Fu x.loc b/\(X b∨Sh g b/\x.write=A5):=λm p=>by obtain⟨e,he,rfl⟩:=K5 p;exact⟨rfl,λx hx=>aSg (F9 e he) hx⟩
 refine⟨⟨λa c b=>?_,λa c b=>?_,λa b z=>⟨?_,(R.wg a b z).2⟩,λa b s=>?_,λa b s=>?_,λb s=>by have:=R.OW b s;omega⟩,λsaid=>?_,λa b hs l I=>?_,λa b hs l I=>?_,h.quiet.app λm p x hx z=>?_,λm p=>?_,λi m hi=>?_⟩
 ·by_cases f:a=g<;>by_cases M:c=g;·intros;rw[f,M]
  ·rw[f,cZ,VX _ _ M];exact λh1 h2=>absurd h1 (d c b M h2)
  ·rw[M,cZ,VX _ _ f];exact λh1 h2=>absurd h2 (d a b f h1)
  ·rw[VX _ _ f,VX _ _ M];exact R.apart a c b
 ·by_cases f:a=g;·rw[f,cZ];exact N c b
  ·rw[VX _ _ f];exact R.SV a c b
 ·by_cases f:a=g;·rw[f,cZ];exact Q b z
  ·rw[VX _ _ f];exact(R.wg a b z).1
 ·by_cases f:a=g;·rw[f,cZ]at s;exact U b s
  ·rw[VX _ _ f]at s;have:=R.low a b s;omega
 ·by_cases f:a=g;·rw[f];exact AB
  ·rw[VX _ _ f]at s;exact R.num a b s
 ·refine nc (h.nr said) (λm p=>(H m p).1) λi a A6 m p b s hc=>?_;obtain⟨y,A,C⟩:=(H m p).2 b s;rcases C with hx|⟨hs,z⟩
  ·rcases(K y).1 hx with h1|h1;·exact h.own g y h1 b.loc A i a A6 hc.1
   ·exact h.fresh h1.1 A g i a A6 hc.1
  ·exact h.shr g y hs b.loc A i a A6 hc.1 (hc.2.2.1.resolve_right (by simp[z]))
 ·by_cases f:a=g
  ·subst f;rw[cZ]at hs;refine Perm.app ?_ λm p _ _ _=>(H m p).1;rcases(K b).1 hs with h1|h1;·exact h.own a b h1 l I
   ·exact h.fresh h1.1 I a
  ·rw[VX _ _ f]at hs;refine(h.own a b hs l I).app λm p x hx e=>?_;obtain⟨y,A,C⟩:=(H m p).2 x hx;have:y=b:=Fu.one (e▸A) I;subst this;rcases C with h1|⟨h1,_⟩;·exact absurd h1 (d a y f hs)
   ·exact absurd h1 (R.SV a g y hs)
 ·refine(h.shr a b hs l I).app λm p x hx e z=>?_;obtain⟨y,A,C⟩:=(H m p).2 x hx;have:y=b:=Fu.one (e▸A) I;subst this;rcases C with h1|⟨_,h1⟩;·exact absurd hs (N a y h1)
  ·rw[h1]at z;cases z
 ·obtain⟨eW,Ae,kc⟩:=z;obtain⟨y,A,C⟩:=(H m p).2 x hx;have:y=eW:=Fu.one A kc;subst this;rcases C with h1|⟨h1,_⟩;·exact absurd h1 (Q y Ae)
  ·exact absurd h1 (R.wg g y Ae).2
 ·rcases Array.mem_append.1 p with p|p;·exact λx hx=>a84 DC (h.low m p x hx)
  ·intro x hx;obtain⟨y,A,C⟩:=(H m p).2 x hx;exact A.of_low (U y (C.imp id And.left))
 ·rcases UB hi with⟨_,DJ⟩|⟨_,bY⟩;·exact h.gs i m DJ
  ·rw[(H m bY).1];exact AB
end
end
section
open Go.Conc(G solo Knows Perm Quiet touchAt touch_of touchAt_of touchAt_old getElem?_append_cases knows_own noRace_append Deaf NoRelease)
open Go.ConcN(PermW RelBy)
variable{a:Aa}
section
variable{Wb:Nat->Prop}{n B:Nat}{S Sh:Nat->Nat->Prop}{t:DX}
def aBI(Wb:Nat->Prop)(g:Nat)(e:aZI):Prop:=e.g=g/\∀x,e.act.touch?=Z x->(∃b,Wb b/\Fu x.loc b)/\x.kind≠.plain/\(x.kind=.said->g=0)
theorem IZ.NP(R:Lh Wb n B S Sh)(h:IZ Wb n B S Sh t){g:Nat}(I:g<n){u:DX}(hu:∀f∈u,aBI Wb g f):IZ Wb n B S Sh (t++u):=by
 have y:∀f∈u,∀x,f.act.touch?=Z x->∀A b,S A b∨Sh A b->¬Fu x.loc b:=λf m x hx A b hs M=>by
  obtain⟨⟨C,p,h2⟩,_⟩:=(hu f m).2 x hx;have:=Fu.one h2 M;subst this;have:=R.wg A C p;rcases hs with hs|hs;·exact this.1 hs
  ·exact this.2 hs
 refine⟨λz=>?_,λa b hs l s=>?_,λa b hs l s=>?_,h.quiet.app λf m x hx Q=>?_,λf m=>?_,λi f hi=>?_⟩;·refine nc (h.nr z) (λf m=>(hu f m).1) λi a D f m b H hc=>?_;obtain⟨p,h2,h3⟩:=(hu f m).2 b H;exact h.quiet.known p h2 h3 i a D hc
 ·exact(h.own a b hs l s).app λf m x hx e=>absurd (e▸s) (y f m x hx a b (AA hs))
 ·exact(h.shr a b hs l s).app λf m x hx e _=>absurd (e▸s) (y f m x hx a b (AF hs))
 ·obtain⟨_,h2,h3⟩:=(hu f m).2 x hx;exact⟨h2,λe=>(hu f m).1.trans (h3 e)⟩
 ·rcases Array.mem_append.1 m with m|m;·exact h.low f m
  ·intro x hx;obtain⟨⟨C,p,h2⟩,_⟩:=(hu f m).2 x hx;exact h2.of_low (R.OW C p)
 ·rcases UB hi with⟨_,K⟩|⟨_,N⟩;·exact h.gs i f K
  ·rw[(hu f N).1];exact I
theorem IZ.hand(h:IZ Wb n B S Sh t){B7:Nat->Prop}{d B':Nat}{S' Sh':Nat->Nat->Prop}(hn:n<=d)(m:B<=B')(y:∀b,B7 b->Wb b∨B<=b)(p:∀g b,S' g b->∀l,Fu l b->Perm t g l)(hs:∀g b,Sh' g b->∀l,Fu l b->PermW t g l):IZ B7 d B' S' Sh' t:=by
 refine⟨h.nr,p,hs,λi e x hi hx z=>?_,λe s x hx=>a84 m (h.low e s x hx),λi e hi=>K9 (h.gs i e hi) hn⟩;obtain⟨b,f,h2⟩:=z;rcases y b f with h3|h3;·exact h.quiet i e x hi hx ⟨b,h3,h2⟩
 ·exfalso;have:=h2.low (h.low e (cm hi) x hx);omega
theorem IZ.spawn(h:IZ Wb n B S Sh t){S' Sh':Nat->Nat->Prop}{x y:aZI}(hx:x.g=0/\x.act=.go n)(hy:y.g=n/\y.act=.start)(AV:Sj t 0=0)(hn:0<n)(LP:∀b,S' 0 b->S 0 b)(ZO:∀b,S' n b->S 0 b)(d:∀g b,g≠0->g≠n->S' g b->S g b)(HY:∀b,Sh' 0 b->S 0 b∨Sh 0 b)(aR4:∀b,Sh' n b->S 0 b∨Sh 0 b)(aRO:∀g b,g≠0->g≠n->Sh' g b->Sh g b):IZ Wb (n+1) B S' Sh' (t++#[x,y]):=by
 have hk:Sj t n=0:=vy λi p hi e=>by have:=h.gs i p hi;omega
 have A:∀p∈#[x,y],∀b,p.act.touch?=Z b->False:=by
  intro p f b m;simp only[UT,Hw,H8,or_false]at f;rcases f with rfl|rfl;·rw[hx.2]at m;cases m
  ·rw[hy.2]at m;cases m
 have K:∀{i:Nat}{a:Touch},ho (t++#[x,y]) i=Z a->ho t i=Z a:=by
  intro i a H;obtain⟨z,AR,I⟩:=nm H;rcases UB AR with⟨_,Q⟩|⟨_,U⟩;·rw[nk Q];exact I
  ·exact(A z U a I).elim
 have M:∀b,S 0 b∨Sh 0 b->∀l,Fu l b->PermW t 0 l:=λb m l s=>by
  rcases m with m|m;·exact PermW.of (h.own 0 b m l s)
  ·exact h.shr 0 b m l s
 refine⟨λN=>?_,λg b hs l s=>?_,λg b hs l s=>?_,h.quiet.app λp f b m _=>(A p f b m).elim,λp f=>?_,λi p hi=>?_⟩
 ·have e:t++#[x,y]=t++#[x]++#[y]:=by apply a6i;simp
  rw[e];refine nc (g:=n) (nc (g:=0) (h.nr N) (λp f=>by simp at f;rw[f];exact hx.1) λi a _ p f b m _=>(A p (by simp at f⊢;exact AA f) b m).elim) (λp f=>by simp at f;rw[f];exact hy.1) λi a _ p f b m _=>(A p (by simp at f⊢;exact AF f) b m).elim
 ·by_cases C:g=0;·subst C;exact(h.own 0 b (LP b hs) l s).app λp f b m _=>(A p f b m).elim
  ·by_cases D:g=n;·subst D;exact λi a H e=>a7T hx hy AV hk (h.own 0 b (ZO b hs) l s i a (K H) e)
   ·exact(h.own g b (d g b C D hs) l s).app λp f b m _=>(A p f b m).elim
 ·by_cases C:g=0;·subst C;exact(M b (HY b hs) l s).app λp f b m _ _=>(A p f b m).elim
  ·by_cases D:g=n;·subst D;exact λi a H e d0=>a7T hx hy AV hk (M b (aR4 b hs) l s i a (K H) e d0)
   ·exact(h.shr g b (aRO g b C D hs) l s).app λp f b m _ _=>(A p f b m).elim
 ·rcases Array.mem_append.1 f with f|f;·exact h.low p f
  ·simp only[UT,Hw,H8,or_false]at f;exact λb m=>(A p (by simpa using f) b m).elim
 ·rcases UB hi with⟨_,DJ⟩|⟨_,bY⟩;·exact Nat.lt_succ_of_lt (h.gs i p DJ)
  ·simp only[UT,Hw,H8,or_false]at bY;rcases bY with rfl|rfl;·rw[hx.1];omega
   ·rw[hy.1];omega
end
section
variable(Wb:Nat->Prop)(c:Nat)(t:DX)
structure T3:Prop where
 known:∀i a,ho t i=Z a->a.loc.isMemory=A0->(¬∃b,Wb b/\Fu a.loc b)->Knows t 0 i∨∃g,c<=g/\t.g? i=Z g
 over:∀i g,t.g? i=Z g->g≠0->t.counts i->(∃j,t.g? j=Z 0/\a7u t i j)∨c<=g
structure Ou(a:Aa)(k r:Nat):Prop where
 rel:RelBy a t k r
 before:∀i x,ho t i=Z x->t.g? i=Z k->(¬∃b,Wb b/\Fu x.loc b)->i<r
end
section
variable{Wb:Nat->Prop}{c:Nat}{t u:DX}
theorem T3.app(h:T3 Wb c t){g:Nat}(hu:∀m∈u,m.g=g)(b:g=0∨c<=g∨∀m∈u,m.act.touch?=J):T3 Wb c (t++u):=by
 refine⟨λi a I M hn=>?_,λi p A C hc=>?_⟩
 ·obtain⟨x,hx,s⟩:=nm I;rcases UB hx with⟨hi,Q⟩|⟨_,y⟩
  ·rcases h.known i a (by rw[nk Q];exact s) M hn with f|⟨p,f,h2⟩;·exact AA (f.app u)
   ·exact AF ⟨p,f,by rw[dA hi];exact h2⟩
  ·rcases b with rfl|b|b;·have:=knows_own hx;rw[hu x y]at this;exact AA this
   ·exact AF ⟨g,b,by simp[dc,hx,hu x y]⟩
   ·rw[b x y]at s;cases s
 ·obtain⟨m,D,N⟩:=Option.map_eq_some_iff.1 A;rcases UB D with⟨hi,d⟩|⟨_,H⟩
  ·rcases h.over i p (by rw[<-dA (u:=u) hi];exact A) C ((aTs hi).1 hc)with⟨j,f,h2⟩|f
   ·have K:j<t.size:=by obtain⟨z,U,_⟩:=Option.map_eq_some_iff.1 f;exact aTv U
    exact AA ⟨j,by rw[dA K];exact f,aTu u h2⟩
   ·exact AF f
  ·have e:p=g:=by rw[<-N,hu m H]
   rcases b with rfl|b|b;·exact absurd e C
   ·exact AF (e▸b)
   ·obtain⟨x,hx,_⟩:=hc;have:ho (t++u) i=Z x:=hx;rw[nk D,b m H]at this;cases this
theorem Ou.other{k r g:Nat}(h:Ou Wb t a k r)(hu:∀e∈u,e.g=g)(f:g≠k):Ou Wb (t++u) a k r:=by
 refine⟨h.rel.appOther hu f,λi x hx b hn=>?_⟩;obtain⟨e,m,s⟩:=nm hx;rcases UB m with⟨hi,p⟩|⟨_,y⟩;·exact h.before i x (by rw[nk p];exact s) (by rw[<-dA (u:=u) hi];exact b) hn
 ·exfalso;simp[dc,m]at b;exact f ((hu e y).symm.trans b)
theorem T3.join{n q:Nat}(h:T3 Wb c t)(m:∀g,c<=g->(∃i,t.g? i=Z g)->∃r,Ou Wb t a g r/\r<q){N0:Nat}(hn:∀i,N0<=i->t.act? i≠Z (aYd (aYc a)))(hy:∀i g,t.g? i=Z g->c<=g->N0<=i)(Q:t.act? q=Z (aYd (aYo a)))(A:t.g? q=Z 0)(K:t.heard q)(c0:0<c):T3 Wb n t:=by
 have s:∀g r,c<=g->Ou Wb t a g r->r<q->a7u t r q:=λg r y b f=>aZs (AF ⟨.marked f (AF b.rel.act) Q λk e _=>hn k (by have:=hy r g b.rel.g y;omega),b.rel.heard,K⟩);have H:∃z,t[q]?=Z z/\z.g=0:=by obtain⟨z,C,D⟩:=Option.map_eq_some_iff.1 A;exact⟨z,C,D⟩
 obtain⟨z,C,D⟩:=H;refine⟨λi x hx M I=>?_,λi g p N hc=>?_⟩
 ·rcases h.known i x hx M I with e|⟨g,e,h2⟩;·exact AA e
  ·obtain⟨r,b,f⟩:=m g e ⟨i,h2⟩;have hlt:=b.before i x hx h2 I;exact AA ⟨q,z,C,D,AF (.trans (aZs (AA ⟨hlt,g,h2,b.rel.g⟩)) (s g r e b f))⟩
 ·rcases h.over i g p N hc with e|e;·exact AA e
  ·obtain⟨r,b,f⟩:=m g e ⟨i,p⟩;have d:i<=r:=Nat.le_of_not_lt λhlt=>b.rel.after i hlt p hc;rcases IW i r with hlt|U;·exact AA ⟨q,A,.trans (aZs (AA ⟨hlt,g,p,b.rel.g⟩)) (s g r e b f)⟩
   ·obtain rfl:i=r:=by omega
    exact AA ⟨q,A,s g i e b f⟩
end
end
section
open Go.Conc(G solo Deaf Leavers QuitsD crowd crowd_pick runT_crowd_go awake_of woken_quitsD woken_run Deaf_other Deaf_own touch_mute low_mute deafBehind_still woken)
open Go.ConcN(sumTo upd sumTo_upd upd_ne upd_same)
def EM(Wb:Nat->Prop)(B:Nat):Nat->Prop:=λb=>b<B/\¬Wb b
def eB(X:Nat->Prop):Nat->Nat->Prop:=λg b=>g=0/\X b
def yZ:Nat->Nat->Prop:=λ_ _=>False
structure Dm(P:Ac)(Wb:Nat->Prop)(gs:Array AK)(w:A')(t:DX)(q:Nat->Nat)(a:AK):Prop where
 zero:gs[0]?=Z a
 leave:Leavers P t gs q
 JB:IZ Wb gs.size w.heap.size (eB (EM Wb w.heap.size)) yZ t
 NN:T3 Wb gs.size t
 hears:Sj t 0=0
 OW:∀b,Wb b->b<w.heap.size
section
variable{P:Ac}{Wb:Nat->Prop}{gs:Array AK}{w w':A'}{t:DX}{q:Nat->Nat}{a:AK}
theorem Dm.ro(h:Dm P Wb gs w t q a):Lh Wb gs.size w.heap.size (eB (EM Wb w.heap.size)) yZ:=by
 have f:0<gs.size:=(Array.getElem?_eq_some_iff.1 h.zero).1;refine⟨λg h b x y=>x.1.trans y.1.symm,λ_ _ _ _ x=>x,λg b e=>⟨λx=>x.2.2 e,λx=>x⟩,λg b x=>?_,λg b x=>?_,h.OW⟩
 ·rcases x with x|x;·exact x.2.1
  ·exact x.elim
 ·rcases x with x|x;·rw[x.1];exact f
  ·exact x.elim
theorem k3{Sh S:Nat->Prop}{e:By}(h:KU Sh S e):e.loc≠aY_ aYp/\e.loc≠aY_ .enable:=by cases h<;>refine⟨?_,?_⟩<;>intro x<;>cases x
theorem Dm.own(h:Dm P Wb gs w t q a){a':AK}{es:Array By}{S':Nat->Prop}(hs:a'.status=aYF∨True)(f:GC (λ_=>False) (EM Wb w.heap.size) w w' es S')(fn:Xi)(pos:String):S'=EM Wb w'.heap.size/\Dm P Wb ((gs.map (Pn P a a' w')).setIfInBounds 0 a') w' (t++K6 0 fn pos es) q a':=by
 have C:0<gs.size:=(Array.getElem?_eq_some_iff.1 h.zero).1;have A:S'=EM Wb w'.heap.size:=by
  funext b;refine propext ((f.grow b).trans ⟨λx=>?_,λx=>?_⟩)
  ·rcases x with x|x;·exact⟨by have:=x.1;have:=f.size;omega,x.2⟩
   ·exact⟨x.2,λy=>by have:=h.OW b y;omega⟩
  ·by_cases z:b<w.heap.size;·exact AA ⟨z,x.2⟩
   ·exact AF ⟨by omega,x.1⟩
 refine⟨A,⟨by simp[C],⟨λj x s hx=>?_,λj s=>?_⟩,?_,?_,?_,λb z=>by have:=h.OW b z;have:=f.size;omega⟩⟩
 ·have I:0≠j:=by omega
  rw[JF I,nG]at hx;obtain⟨y,hy,rfl⟩:=Option.map_eq_some_iff.1 hx;have D:=h.leave.old j y s hy;rw[Xf D,Nd t (by omega) _ λH p=>by obtain⟨e,_,rfl⟩:=K5 p;rfl];exact D
 ·rw[Nd t (g':=0) (by simp at s;omega) _ λH p=>by obtain⟨e,_,rfl⟩:=K5 p;rfl];exact h.leave.above j (by simpa using s)
 ·have:=(h.JB.step (g:=0) h.ro C f.size (X:=S') (λb=>by rw[f.grow b];exact⟨λx=>x.imp (λy=>⟨rfl,y⟩) id,λx=>x.imp (λy=>y.2) id⟩) (fn:=fn) (pos:=pos) (es:=es) f.evs).2;have e:Pc (eB (EM Wb w.heap.size)) 0 S'=eB (EM Wb w'.heap.size):=by
   funext g b;unfold Pc eB;by_cases m:g=0;·rw[if_pos m,A];exact propext ⟨λx=>⟨m,x⟩,λx=>x.2⟩
   ·rw[if_neg m];exact propext ⟨λx=>absurd x.1 m,λx=>absurd x.1 m⟩
  rw[e]at this;simpa using this
 ·have:=h.NN.app (u:=K6 0 fn pos es) (g:=0) λH p=>by obtain⟨e,_,rfl⟩:=K5 p;rfl (AA rfl);simpa using this
 ·rw[nV];exact(hj (λe he=>k3 (f.evs e he)) _).trans h.hears
theorem a5G{n B:Nat}{S Sh:Nat->Nat->Prop}(R:Lh Wb n B S Sh)(h:IZ Wb n B S Sh t){g:Nat}(b:g<n){fn:Xi}{pos:String}{es:Array By}(f:∀e∈es,e.mute=A0):IZ Wb n B S Sh (t++K6 g fn pos es):=by refine h.NP R b λp m=>?_;obtain⟨e,he,rfl⟩:=K5 m;exact⟨rfl,λx hx=>by rw[nl (f e he)]at hx;cases hx⟩
theorem Dm.slip(h:Dm P Wb gs w t q a)(D:a.status=aYF){i k:Nat}(H:0<i){g g':AK}{es:Array By}(hi:gs[i]?=Z g)(z:∀e∈es,e.mute=A0)(C:nX P k (MG (Sj t i) es) g')(fn:Xi)(pos:String):Dm P Wb ((gs.map (Pn P g g' w)).setIfInBounds i g') w (t++K6 i fn pos es) (Cq q i k) a:=by
 have hlt:i<gs.size:=(Array.getElem?_eq_some_iff.1 hi).1;refine⟨?_,⟨λj x m hx=>?_,λj m=>?_⟩,?_,?_,?_,h.OW⟩
 ·have A:i≠0:=by omega
  rw[JF A,nG,h.zero];simp[woken_run D]
 ·by_cases p:i=j;·subst p;rw[XW (by simpa using hlt)]at hx;obtain rfl:=D3 hx;rw[Fs,nV];exact C
  ·rw[JF p,nG]at hx;obtain⟨y,hy,rfl⟩:=Option.map_eq_some_iff.1 hx;have f:=h.leave.old j y m hy;rw[Xf f,GQ q k (JK p),Nd t p _ λs b=>by obtain⟨e,_,rfl⟩:=K5 b;rfl];exact f
 ·rw[Nd t (g':=i) (by simp at m;omega) _ λs b=>by obtain⟨e,_,rfl⟩:=K5 b;rfl];exact h.leave.above j (by simpa using m)
 ·have:=a5G h.ro h.JB hlt (fn:=fn) (pos:=pos) z;simpa using this
 ·have:=h.NN.app (u:=K6 i fn pos es) (g:=i) λs b=>by obtain⟨e,_,rfl⟩:=K5 b;rfl (AF (AF λs b=>by obtain⟨e,he,rfl⟩:=K5 b;exact nl (z e he)));simpa using this
 ·rw[Nd t (g:=0) (g':=i) (by omega) _ λs b=>by obtain⟨e,_,rfl⟩:=K5 b;rfl];exact h.hears
theorem Dm.at(h:Dm P Wb gs w t q a)(d:Nat):Dm P Wb gs (w.at d) t q a:=⟨h.zero,h.leave,h.JB,h.NN,h.hears,h.OW⟩
theorem Bx.at(Sh S:Nat->Prop)(w:A')(d:Nat):Bx Sh S w (w.at d):=⟨AX _,λ_ _=>rfl,rfl,rfl⟩
theorem Dm.awake(h:Dm P Wb gs w t q a)(f:a.status=aYF):∀g∈gs,a7G g:=by
 intro g b;obtain⟨i,hi,rfl⟩:=Array.mem_iff_getElem.1 b;rcases UX i with rfl|e
 ·have:gs[0]=a:=by simpa[ET hi]using h.zero
  rw[this];exact nY (AA f)
 ·exact nY ((h.leave.old i _ e (ET hi)).status.elim AA λx=>AF (AF x))
end
end
section
open Go.Conc(G solo)
variable{w':A'}{E:AN}
section
variable{P:Ac}{F:Nat->Prop}{fb:Nat->Bool}{el:HC}{k:Nat}{RO Sh:Nat->Prop}{so:Dr}{r:List Cw}
structure Static(P:Ac)(F:Nat->Prop)(fb:Nat->Bool)(el:HC)(k:Nat):Prop where
 fit:Fit P F
 EF:P.globals.size=D4
 calm:∀z,Calm P F (B4 el z)
 sub:∀f,fb f=A0->F f
 laid:Laid P F fb el k
def Cg(F:Nat->Prop)(so:Dr)(RO:Nat->Prop)(E:AN)(w w':A'):Prop:=∃T,C3 F so RO E (on w T) w'
theorem Cg.rely{E:AN}{S:Nat->Prop}{wL w d:A'}(h:Cg F so RO E wL w)(hc:JZ RO Sh S E)(b:Bx Sh S w d):Cg F so RO E wL d:=by obtain⟨T,h⟩:=h;exact⟨_,h.rely hc b T⟩
theorem C3.A2{w:A'}(h:C3 F so RO E w w'):Cg F so RO E w w':=⟨w.tape,h⟩
theorem aTN(X:Static P F fb el k)(C:∀b,¬RO b↔el.J5 b)(main ret:Bool)(D:ret=A0->r=[]){fr0 d:AY}{base':List AY}{wL:A'}{S:Nat->Prop}{Q:AY->A'->Prop}(x:Ej P F fb el k E r fr0 d)(A:fr0.mode=.run)(y:∀b,b<D4->E.rel b b)(h:Cg F (B4 el A0) RO E wL w')(s:JZ RO Sh S E)(m:∀T,∃N e f,runN P N (solo (G fr0 [bot]) (on wL T))=aYG (solo (G e [bot]) f)/\Fin ret e/\Q e f):Way P main Sh (nL P F fb el k (B4 el A0) RO Sh E r base' ret Q) S (G d base') w':=by obtain⟨H,h⟩:=h;have p:=a4N (P:=P) (fr0:=fr0) (w0:=wL) (ret:=ret) (λT=>let⟨N,e,f,a,b,_⟩:=m T;⟨N,e,f,a,b⟩) ⟨wL.tape,0,wL.drawn⟩;exact aSk X.fit X.EF X.calm ⟨rfl,C⟩ X.sub X.laid main D m _ p (λT _=>rfl) (λT _ j z=>by cases z) rfl (AX _) x (AA A) .base y (AN.le_refl _) h s
theorem PZ{d8:Type}(s:BQ d8):∀(w:A')(es:Array By),(s.runT P w es).1=s.run P w:=by
 induction s with
 |pure a=>intro w es;rfl
 |load m a k b=>
  intro w es;simp only[DV,aW];split;·exact b _ _ _
  ·split;·exact b _ _ _
   ·rfl
 |store m a v k b=>
  intro w es;cases v<;>simp only[DV,aW];all_goals
   split
   ·split;·rfl
    ·exact b _ _
   ·split;·exact b _ _
    ·rfl
 |new o k b=>intro w es;exact b _ _ _
 |shape r k b=>intro w es;exact b _ _ _
 |freeze a n k b=>intro w es;exact b _ _
 |frozen a k b=>intro w es;exact b _ _ _
 |getObj r k b=>
  intro w es;simp only[DV,aW];split;·rfl
  ·exact b _ _ _
  ·rfl
 |setObj r o k b=>
  intro w es;simp only[DV,aW];split;·rfl
  ·exact b _ _
  ·rfl
 |choose q k b=>
  intro w es;simp only[DV,aW];split;·exact b _ _ _
  ·exact b _ _ _
 |sys c k b=>intro w es;exact b _ _ _
 |program k b=>intro w es;exact b _ _ _
 |mark m k b=>intro w es;exact b _ _
 |halt h=>intro w es;rfl
def a6o(F:Nat->Prop)(so:Dr)(RO Sh:Nat->Prop)(E:AN)(c':AY)(cs':List AY)(Q:A1->A'->Prop)(S:Nat->Prop)(g:AK)(w':A'):Prop:=∃b v e f,g=G (c'.finish e) cs'/\AJ F b v e/\Q v f/\E.le b/\Cg F so RO b f w'/\JZ RO Sh S b
theorem aTM(X:Static P F fb el k)(S5:∀b,¬RO b↔el.J5 b)(main:Bool){f:Nat}{fn:Func}{code:Cv}{args yu:Array A1}{c':AY}{cs':List AY}{wL:A'}{S:Nat->Prop}{Q:A1->A'->Prop}(Ba:P.funcs[f]?=Z fn)(K:fn.body=Z code)(hc:F8 P fb el.own (el.own f) k code=A0)(Yv:Hi (el.own f)=[])(B3:∀t∈el.own f,args.size<=t)(JN:Ab F E args.toList yu.toList)(AB:∀b,b<D4->E.rel b b)(d0:Cg F (B4 el A0) RO E wL w')(Gi:JZ RO Sh S E)(TP:∀T,Calls P f args (on wL T) λe h=>∃v,e=hq v/\Q v h):Way P main Sh (a6o F (B4 el A0) RO Sh E c' cs' Q) S (G (GR P f yu a73) (c'::cs')) w':=by
 have H0:∀T,∃N s h,runN P N (solo (G (GR P f args a73) [bot]) (on wL T))=aYG (solo (G s [bot]) h)/\Fin A0 s/\∃v,Q v h/\s.fn=f/\s.leaving P h (hq v):=by intro T;obtain⟨e,h,s,⟨v,rfl,M⟩,Bp,AE,A9⟩:=TP T [bot];obtain⟨N,H'⟩:=Bp;exact⟨N,s,h,H',A9.1,v,M,AE,A9⟩
 refine(aTN X S5 main A0 (λ_=>rfl) (r:=[]) (Ej.enter Ba K hc Yv B3 JN) rfl AB d0 Gi H0).bind ?_;rintro py g BZ⟨H,I,m,h,rfl,BM,Dk,⟨v,M,Wm,hm,AT,hk,z,PE,GG⟩,fd,C,A⟩;refine .step rfl λp A2=>?_;have y:C3 F (B4 el A0) RO H (on h (join h.tape h.drawn p.tape p.drawn)) p:=(C:C3 F (B4 el A0) RO H (on h h.tape) BZ).rely A A2 _;have hs:AG P F ⟨el.J5,False,el.own,el.HP⟩ (Ci F) H (De z I.tmps) (De z m.tmps):=BM.results PE;have U:∃es,(De z I.tmps).runT P h #[]=(aY6 v h,es):=by have:=PZ (P:=P) (De z I.tmps) h #[];rw[GG]at this;exact⟨((De z I.tmps).runT P h #[]).2,by rw[<-this]⟩
 obtain⟨es,U⟩:=U;have gC:=(AG.tape X.fit.JD hs (w':=BZ) ⟨C.heap,C.tape,λ_ x=>x.elim,C.low,C.even⟩ U).2 (join h.tape h.drawn p.tape p.drawn) (λi q h1 h2=>by omega);obtain⟨C1,v',d,es',r1,r2,D,EJ,Gp⟩:=AG.runs X.fit.JD (Pr:=RO) (RO:=RO) (λ_ x=>x) (λx=>False.elim x) hs (⟨y.heap,y.tape,y.kept,y.low,y.even⟩:C3 F ⟨el.J5,False,el.own,el.HP⟩ RO H _ p) (es:=#[]) (es':=#[]) .nil gC;have lc:Be P main (G m (c'::cs')) p=aYE (G (c'.finish v') cs') d (seen P m.fn es'):=by rw[Qy rfl (BM.mode.trans hm)];exact R0 BM.defers.2 (BM.mode.trans hm) BM.kind.2 (by show P.funcs[m.fn]?=_;rw[BM.fn];exact PE) r1
 obtain⟨Ov,BW,Rt⟩:=Yk (P:=P) (fn:=m.fn) A (λb K=>(y.kept b K).1) EJ Gp;refine⟨_,d,_,Ov,lc,BW,.stop λEp FW=>?_⟩;have D':Cg F (B4 el A0) RO C1 h d:=⟨_,⟨D.heap,D.tape,D.kept,D.low,D.even⟩⟩;exact⟨C1,v,v',h,rfl,r2,M,AN.le_trans fd EJ.le,D'.rely Rt FW,Rt⟩
end
end
section
open Go.Conc(G solo Deaf QuitsD Goes scase semEvents NoRelease)
open Go.ConcN(WgLive RW DWs AtR0 WSit WD CTag Mode Vc Ssum Fsum cnt pend phi)
open Go.ConcR(KK WgAt stA smA rd wr mk Payload)
variable{Stop:(Nat->Prop)->AK->A'->Prop}{w:A'}{g:AK}{P:Ac}{main:Bool}{S Sh:Nat->Prop}
inductive EO|leaf|node(f:A'->EO)
inductive EO.lt:EO->EO->Prop|mk(f:A'->EO)(w:A'):EO.lt (f w) (.node f)
theorem EO.wf:WellFounded EO.lt:=⟨λt=>by induction t with|leaf=>exact⟨_,λy h=>by cases h⟩|node f b=>exact⟨_,λy h=>by cases h;exact b _⟩⟩
def Ki(P:Ac)(main:Bool)(Sh:Nat->Prop)(Stop:(Nat->Prop)->AK->A'->Prop):EO->(Nat->Prop)->AK->A'->Prop|.leaf,S,g,w=>∀b,Bx Sh S w b->Stop S g b|.node f,S,g,w=>g.status=aYF/\∀b,Bx Sh S w b->∃m w' h e,Be P main g b=aYE m w' h/\GC Sh S b w' h e/\Ki P main Sh Stop (f b) e m w'
theorem Way.Fq(h:Way P main Sh Stop S g w):∃τ,Ki P main Sh Stop τ S g w:=by induction h with|stop h=>exact⟨.leaf,h⟩|go f hs h p m=>rename_i S g w;classical refine⟨.node λb=>if e:Bx Sh S w b then aD (m b e)else .leaf,hs,λb e=>⟨(f b).g,(f b).w,(f b).es,(f b).S,(h b e).1,(h b e).2,?_⟩⟩;simp only[e,↓reduceDIte];exact U5 (m b e)
theorem Ki.rely{τ:EO}{d:A'}(h:Ki P main Sh Stop τ S g w)(m:Bx Sh S w d):Ki P main Sh Stop τ S g d:=by cases τ with|leaf=>exact λe b=>h e (m.trans b)|node f=>exact⟨h.1,λe b=>h.2 e (m.trans b)⟩
def aH(e:Nat)(b D:Nat->EO):Prop:=∃i,i<e/\EO.lt (b i) (D i)/\∀a,a≠i->b a=D a
theorem a'D:∀(b:Nat)(D:Nat->EO),Acc (aH b) D
 |0,D=>⟨_,λy⟨i,hi,_⟩=>by omega⟩
 |b+1,D=>by
  have p:∀x:EO,∀D:Nat->EO,D b=x->Acc (aH (b+1)) D:=by
   intro x;induction x using EO.wf.induction with
   |h x m=>
    intro D s;have:=a'D b D;induction this with
    |intro D _ f=>
     refine⟨_,λe⟨i,hi,hlt,hs⟩=>?_⟩;rcases IW i b with z|z;·exact f e ⟨i,z,hlt,hs⟩ ((hs b (by omega)).trans s)
     ·obtain rfl:i=b:=by omega
      exact m (e i) (s▸hlt) e rfl
  exact p _ D rfl
def WB:Type:=Nat×(Nat->EO)×Nat
def Kg(b:Nat):WB->WB->Prop:=aC2 (·<·) (aC2 (aH b) (·<·))
theorem aQ7(b:Nat):WellFounded (Kg b):=(aC3 ⟨_,aBx.wf⟩ (aC3 ⟨aH b,⟨a'D b⟩⟩ ⟨_,aBx.wf⟩)).wf
section
variable[Ck]
structure Gw where
 P:Ac
 ty:A_
 Wg:Nat
 Ch:Nat
 c0:Nat
 N0:Nat
 n:Nat
 Wb:Nat->Prop
 MM:Nat->A1->(Nat->Prop)->A'->Prop
 Goal:(Nat->Prop)->(Nat->Prop)->AK->A'->Prop
def Gw.B7(X:Gw)(b:Nat):Prop:=X.Wb b∨b=X.Wg
def Qk:Nat->Loc->Prop:=λ_ _=>False
structure Em where
 wd:WD
 Fq:Option EO
 S:Nat->Prop
 Sh:Nat->Prop
 C:Nat
 HU:Nat
 val:A1
variable(X:Gw)
def AtSend(i C f:Nat)(val:A1)(Sh S:Nat->Prop)(g:AK)(w:A'):Prop:=g.status=aYF/\S C/\∃v z h M,Be X.P A5 g w=.comm g #[nf X.Ch v z] A0 aZ2 w h/\(∀e∈h,KU Sh S e)/\(∀b,M b->S b/\b≠C)/\X.MM i v M w/\∀w',(∀b,S b->w'.heap[b]?=w.heap[b]?)->IQ X.ty X.Wg w'->∃m,Xc X.P A5 (RW X.ty X.Wg C f 0 (1-1)) (DWs X.Wg Qk Qk C f 1) (AtR0 X.P X.ty X.Wg C f 0 1 val) m (g.finishComm X.P #[nf X.Ch v z] aZ2 0 Y A5) w'
def Is(i:Nat)(e:Em)(g:AK)(w:A'):Prop:=match e.Fq with|Z τ=>e.wd.stage=7/\e.wd.deaf=0/\e.wd.fuel=0/\Ki X.P A5 e.Sh (AtSend X i e.C e.HU e.val e.Sh) τ e.S g w|J=>WSit X.P X.ty X.Wg e.C e.HU Qk Qk 0 1 e.val e.wd.stage e.wd.fuel e.wd.deaf g w/\e.S e.C
def Dh(w b:A'):Prop:=IQ X.ty X.Wg w->IQ X.ty X.Wg b
def vh(w w':A')(es:Array By):Prop:=w'=w/\∀e∈es,∃a:Aa,a.block=X.Wg/\(e=⟨aY_ (.read a),A5,A0⟩∨e=⟨aY_ (.write a),A5,A0⟩)
abbrev DG(Stop:AK->A'->Prop)(m:Nat)(g:AK)(w:A'):Prop:=Xc X.P A0 (Dh X) (vh X) Stop m g w
section
variable(Hs Ee:AK->Prop)
def AtAcq(g:AK)(w:A'):Prop:=g.status=aYF/\∃b,Be X.P A0 g w=aYE b w #[Ng (aYo (Ef X.Wg))]/\Ee b
def AtKe(g:AK)(w:A'):Prop:=g.status=aYF/\∃b,Be X.P A0 g w=aYE b w #[Ng aYx]/\∃m,DG X (AtAcq X Ee) m b w
def AtW4(g:AK)(w:A'):Prop:=g.status=aYF/\(Ip X.ty X.Wg w 0 0->∃b,Be X.P A0 g w=aYE b w #[rd (Ef X.Wg)]/\∃m,DG X (AtKe X Ee) m b w)
def AtW3(g:AK)(w:A'):Prop:=g.status=aYF/\g.offers=J/\((∃st,Ip X.ty X.Wg w st 0)->Be X.P A0 g w=aYE {g with status:=aZW} w #[])/\(Ip X.ty X.Wg w 0 1->∃b,Be X.P A0 g w=aYE b (w.setCell (Vk X.Wg) (IS .u32 0)) (Xe (Vk X.Wg))/\∃m,DG X (AtW4 X Ee) m b (w.setCell (Vk X.Wg) (IS .u32 0)))
def AtW2(e:Nat)(g:AK)(w:A'):Prop:=g.status=aYF/\∀v:Nat,v<2147483648->Ip X.ty X.Wg w (v*KK) 0->(v=e->∃b,Be X.P A0 g w=aYE b (w.setCell (Ef X.Wg) (IS UF (v*KK+1))) #[rd (Ef X.Wg),wr (Ef X.Wg)]/\∃m,DG X (AtW3 X Ee) m b (w.setCell (Ef X.Wg) (IS UF (v*KK+1))))/\(v≠e->∃b,Be X.P A0 g w=aYE b w #[rd (Ef X.Wg)]/\∃m,DG X (λg _=>Hs g) m b w)
def AtW1(g:AK)(w:A'):Prop:=g.status=aYF/\∀v:Nat,v<2147483648->Ip X.ty X.Wg w (v*KK) 0->∃b,Be X.P A0 g w=aYE b w #[rd (Ef X.Wg)]/\(v=0->∃m,DG X (AtKe X Ee) m b w)/\(v≠0->∃m,DG X (AtW2 X Hs Ee v) m b w)
def AtKd(g:AK)(w:A'):Prop:=g.status=aYF/\∃b,Be X.P A0 g w=aYE b w #[Ng aYp]/\∃m,DG X (λg _=>Hs g) m b w
def YC:Prop:=∀g,Hs g->g.status=aYF/\∀w,IQ X.ty X.Wg w->∃m,DG X (AtW1 X Hs Ee) m g w
end
section
variable(Nx:AK->Prop)
def AtKeS(g:AK)(w:A'):Prop:=g.status=aYF/\∃b,Be X.P A0 g w=aYE b w #[Ng aYx]/\∃m,DG X (λg _=>Nx g) m b w
def AtA1(g:AK)(w:A'):Prop:=g.status=aYF/\∀v:Nat,v<2147483647->Ip X.ty X.Wg w (v*KK) 0->∃b,Be X.P A0 g w=aYE b (w.setCell (Ef X.Wg) (IS UF ((v+1)*KK))) #[rd (Ef X.Wg),wr (Ef X.Wg)]/\∃m,DG X (AtKeS X Nx) m b (w.setCell (Ef X.Wg) (IS UF ((v+1)*KK)))
def AtKdS(g:AK)(w:A'):Prop:=g.status=aYF/\∃b,Be X.P A0 g w=aYE b w #[Ng aYp]/\∃m,DG X (AtA1 X Nx) m b w
end
structure Split(Sh S Sh0 S0 Kh IA:Nat->Prop):Prop where
 HY:∀b,S0 b->S b
 ui:∀b,IA b->S b
 ur:∀b,Sh0 b↔Sh b∨Kh b
 VT:∀b,Kh b->S b∨Sh b
 apart:∀b,S0 b->¬IA b
 a0:∀b,S0 b->¬Kh b
 ac:∀b,IA b->¬Kh b/\¬Sh b
def AtGo(i:Nat)(MF:(Nat->Prop)->(Nat->Prop)->AK->A'->Prop)(Sh S:Nat->Prop)(g:AK)(w:A'):Prop:=g.status=aYF/\∃f b Sh0 S0 Kh IA C h e,Be X.P A0 g w=.spawn f b w #[]/\b.status=aYF/\Split Sh S Sh0 S0 Kh IA/\IA C/\Way X.P A5 Kh (AtSend X i C h e Kh) IA b w/\MF Sh0 S0 f w
def jU(Sh S:Nat->Prop)(g:AK)(w:A'):Prop:=g.status=aYF/\(IQ X.ty X.Wg w->∃Hs Ee m,YC X Hs Ee/\DG X (AtKd X Hs) m g w/\∀b,Ee b->∀w',Bx Sh S w w'->X.Goal Sh S b w')
def StopA(r:Nat)(MF:(Nat->Prop)->(Nat->Prop)->AK->A'->Prop)(Sh S:Nat->Prop)(g:AK)(w:A'):Prop:=g.status=aYF/\(IQ X.ty X.Wg w->∃Nx m,DG X (AtKdS X Nx) m g w/\∀b,Nx b->∀w',Bx Sh S w w'->Way X.P A0 Sh (AtGo X (X.n-(r+1)) MF Sh) S b w')
def ED:Nat->(Nat->Prop)->(Nat->Prop)->AK->A'->Prop|0,Sh,S,g,w=>Way X.P A0 Sh (jU X Sh) S g w|r+1,Sh,S,g,w=>Way X.P A0 Sh (StopA X r (ED r) Sh) S g w
inductive FI:Oa->Nat->EO->Nat->Nat->(Nat->Prop)->(Nat->Prop)->AK->A'->Prop|JW{r:Nat}{τ:EO}{Sh S:Nat->Prop}{g:AK}{w:A'}:r<X.n->Ki X.P A0 Sh (StopA X r (ED X r) Sh) τ S g w->FI (aYS (r+1) 6) (X.n-(r+1)) τ 0 0 Sh S g w|Zd{τ:EO}{Sh S:Nat->Prop}{g:AK}{w:A'}:Ki X.P A0 Sh (jU X Sh) τ S g w->FI (aYS 0 6) X.n τ 0 0 Sh S g w|skd{r m:Nat}{Nx:AK->Prop}{Sh S:Nat->Prop}{g:AK}{w:A'}:r<X.n->DG X (AtKdS X Nx) m g w->(∀g',Nx g'->∀w',Bx Sh S w w'->Way X.P A0 Sh (AtGo X (X.n-(r+1)) (ED X r) Sh) S g' w')->FI (aYS (r+1) 5) (X.n-(r+1)) .leaf m 0 Sh S g w|sa1{r m:Nat}{Nx:AK->Prop}{Sh S:Nat->Prop}{g:AK}{w:A'}:r<X.n->DG X (AtA1 X Nx) m g w->(∀g',Nx g'->∀w',Bx Sh S w w'->Way X.P A0 Sh (AtGo X (X.n-(r+1)) (ED X r) Sh) S g' w')->FI (aYS (r+1) 4) (X.n-(r+1)) .leaf m 1 Sh S g w|ske{r m:Nat}{Nx:AK->Prop}{Sh S:Nat->Prop}{g:AK}{w:A'}:r<X.n->DG X (AtKeS X Nx) m g w->(∀g',Nx g'->∀w',Bx Sh S w w'->Way X.P A0 Sh (AtGo X (X.n-(r+1)) (ED X r) Sh) S g' w')->FI (aYS (r+1) 3) (X.n-(r+1)) .leaf m 1 Sh S g w|cT{r m:Nat}{Nx:AK->Prop}{Sh S:Nat->Prop}{g:AK}{w:A'}:r<X.n->DG X (λg _=>Nx g) m g w->(∀g',Nx g'->∀w',Bx Sh S w w'->Way X.P A0 Sh (AtGo X (X.n-(r+1)) (ED X r) Sh) S g' w')->FI (aYS (r+1) 2) (X.n-(r+1)) .leaf m 0 Sh S g w|sgo{r:Nat}{τ:EO}{Sh S:Nat->Prop}{g:AK}{w:A'}:r<X.n->Ki X.P A0 Sh (AtGo X (X.n-(r+1)) (ED X r) Sh) τ S g w->FI (aYS (r+1) 1) (X.n-(r+1)) τ 0 0 Sh S g w|kd{m:Nat}{Hs Ee:AK->Prop}{Sh S:Nat->Prop}{g:AK}{w:A'}:YC X Hs Ee->DG X (AtKd X Hs) m g w->(∀g',Ee g'->∀w',Bx Sh S w w'->X.Goal Sh S g' w')->FI .kd X.n .leaf m 0 Sh S g w|anch{m:Nat}{Hs Ee:AK->Prop}{Sh S:Nat->Prop}{g:AK}{w:A'}:YC X Hs Ee->DG X (λg _=>Hs g) m g w->(∀g',Ee g'->∀w',Bx Sh S w w'->X.Goal Sh S g' w')->FI .anch X.n .leaf m 1 Sh S g w|w1{m:Nat}{Hs Ee:AK->Prop}{Sh S:Nat->Prop}{g:AK}{w:A'}:YC X Hs Ee->DG X (AtW1 X Hs Ee) m g w->(∀g',Ee g'->∀w',Bx Sh S w w'->X.Goal Sh S g' w')->FI .w1 X.n .leaf m 1 Sh S g w|w2{L' m:Nat}{Hs Ee:AK->Prop}{Sh S:Nat->Prop}{g:AK}{w:A'}:YC X Hs Ee->DG X (AtW2 X Hs Ee L') m g w->(∀g',Ee g'->∀w',Bx Sh S w w'->X.Goal Sh S g' w')->FI (.w2 L') X.n .leaf m 1 Sh S g w|w3{m:Nat}{Ee:AK->Prop}{Sh S:Nat->Prop}{g:AK}{w:A'}:DG X (AtW3 X Ee) m g w->(∀g',Ee g'->∀w',Bx Sh S w w'->X.Goal Sh S g' w')->FI .w3 X.n .leaf (m+1) 1 Sh S g w|blk{Ee:AK->Prop}{Sh S:Nat->Prop}{g:AK}{w:A'}:(∀f3,Dh X w f3->AtW3 X Ee g f3)->(∀g',Ee g'->∀w',Bx Sh S w w'->X.Goal Sh S g' w')->FI aYj X.n .leaf 0 1 Sh S {g with status:=aZW} w|w4{m:Nat}{Ee:AK->Prop}{Sh S:Nat->Prop}{g:AK}{w:A'}:DG X (AtW4 X Ee) m g w->(∀g',Ee g'->∀w',Bx Sh S w w'->X.Goal Sh S g' w')->FI .w4 X.n .leaf m 1 Sh S g w|ke{m:Nat}{Ee:AK->Prop}{Sh S:Nat->Prop}{g:AK}{w:A'}:DG X (AtKe X Ee) m g w->(∀g',Ee g'->∀w',Bx Sh S w w'->X.Goal Sh S g' w')->FI .ke X.n .leaf m 1 Sh S g w|acq{m:Nat}{Ee:AK->Prop}{Sh S:Nat->Prop}{g:AK}{w:A'}:DG X (AtAcq X Ee) m g w->(∀g',Ee g'->∀w',Bx Sh S w w'->X.Goal Sh S g' w')->FI .acq X.n .leaf m 0 Sh S g w
end
end
section
open Go.Conc(G solo Deaf QuitsD Goes scase semEvents NoRelease crowd woken Aside again_running)
open Go.ConcN(WgLive RW DWs AtR0 WSit WD CTag Mode Vc Ssum Fsum cnt pend phi sumTo PayAt)
open Go.ConcR(KK WgAt stA smA rd wr mk Payload again_blocked)
variable[Ck]
def Az(X:Gw)(j:Nat)(S0:Nat->Prop)(W:Nat->Em):Nat->Nat->Prop:=λg b=>g=0/\S0 b∨∃i,i<j/\g=X.c0+i/\(W i).S b
def Bq(X:Gw)(j:Nat)(Sh0:Nat->Prop)(W:Nat->Em):Nat->Nat->Prop:=λg b=>g=0/\Sh0 b∨∃i,i<j/\g=X.c0+i/\(W i).Sh b
structure Fv(X:Gw)(j:Nat)(gs:Array AK)(w:A')(t:DX)(W:Nat->Em)(Sh0 S0:Nat->Prop)(q:Nat->Nat)(BU:Nat)(BA:List (Nat×A1)):Prop where
 size:gs.size=X.c0+j
 pos:0<X.c0
 old:∀i g,0<i->i<X.c0->gs[i]?=Z g->nX X.P (q i) (Sj t i) g
 wk:∀i,i<j->∃g,gs[X.c0+i]?=Z g/\Is X i (W i) g w
 ro:Lh X.B7 (X.c0+j) w.heap.size (Az X j S0 W) (Bq X j Sh0 W)
 JB:IZ X.B7 (X.c0+j) w.heap.size (Az X j S0 W) (Bq X j Sh0 W) t
 NN:T3 X.B7 X.c0 t
 deaf0:Sj t 0=BU
 deafW:∀i,i<j->Sj t (X.c0+i)=(W i).wd.deaf
 norel:∀i,X.N0<=i->t.act? i≠Z (aYd (aYc (Ef X.Wg)))
 cg:X.N0<=t.size/\∀i g,t.g? i=Z g->X.c0<=g->X.N0<=i
 rel:∀i,i<j->(W i).wd.stage<=6->∃r,Ou X.B7 t (Ef X.Wg) (X.c0+i) r
 chan:∃tm,w.heap[X.Ch]?=Z (aYQ X.n (BA.map (·.2)).toArray A5 BA.length 0 tm)
 Jj:∀g b,Az X j S0 W g b∨Bq X j Sh0 W g b->b≠X.Ch
 Ue:X.Ch≠X.Wg
 Mm:∀i,(∃v,(i,v)∈BA)↔i<j/\(W i).Fq=J
 nodup:(BA.map (·.1)).Nodup
 msg:∀i v,(i,v)∈BA->∃M,(∀b,M b->(W i).S b/\b≠(W i).C)/\X.MM i v M w
def Gw.L8(X:Gw):Prop:=∀i v M w w',(∀b,M b->w'.heap[b]?=w.heap[b]?)->X.MM i v M w->X.MM i v M w'
section
variable{X:Gw}{j:Nat}{gs:Array AK}{w w':A'}{t:DX}{W:Nat->Em}{Sh0 S0:Nat->Prop}{q:Nat->Nat}{BU:Nat}{BA:List (Nat×A1)}
omit[Ck]in theorem Az.zero(e:0<X.c0)(b:Nat):Az X j S0 W 0 b↔S0 b:=by
 refine⟨λh=>?_,λh=>AA ⟨rfl,h⟩⟩;rcases h with h|⟨i,_,h,_⟩;·exact h.2
 ·omega
omit[Ck]in theorem Bq.zero(e:0<X.c0)(b:Nat):Bq X j Sh0 W 0 b↔Sh0 b:=by
 refine⟨λh=>?_,λh=>AA ⟨rfl,h⟩⟩;rcases h with h|⟨i,_,h,_⟩;·exact h.2
 ·omega
omit[Ck]in theorem Az.at(f:0<X.c0){i:Nat}(hi:i<j)(b:Nat):Az X j S0 W (X.c0+i) b↔(W i).S b:=by
 refine⟨λh=>?_,λh=>AF ⟨i,hi,rfl,h⟩⟩;rcases h with h|⟨e,_,h,hs⟩;·omega
 ·obtain rfl:i=e:=by omega
  exact hs
omit[Ck]in theorem Bq.at(f:0<X.c0){i:Nat}(hi:i<j)(b:Nat):Bq X j Sh0 W (X.c0+i) b↔(W i).Sh b:=by
 refine⟨λh=>?_,λh=>AF ⟨i,hi,rfl,h⟩⟩;rcases h with h|⟨e,_,h,hs⟩;·omega
 ·obtain rfl:i=e:=by omega
  exact hs
omit[Ck]in theorem ua{Wb:Nat->Prop}{n B:Nat}{S Sh:Nat->Nat->Prop}(R:Lh Wb n w.heap.size S Sh){g h:Nat}(m:h≠g){es:Array By}{S':Nat->Prop}(f:GC (Sh g) (S g) w w' es S'):Bx (Sh h) (S h) w w':=by
 refine⟨f.size,λb e=>f.same b (R.low h b e) λhs=>?_,f.os,f.output⟩;rcases e with e|e;·exact m (R.apart _ _ b e hs)
 ·exact R.SV _ _ b hs e
omit[Ck]in theorem cN{c:Nat}(h:hg c w w'){Sh S:Nat->Prop}(hc:∀b,S b∨Sh b->b≠c):Bx Sh S w w':=⟨by rw[h.size];exact AX _,λb e=>h.block b (hc b e),h.os,h.output⟩
theorem aQn{Sh S:Nat->Prop}{C HU:Nat}{ty:A_}{Wg:Nat}(h:Bx Sh S w w')(f:S C)(m:IQ ty Wg w->IQ ty Wg w'):RW ty Wg C HU 0 (1-1) w w':=by have e:=h.same C (AA f);exact⟨λb p=>by omega,m,λ⟨cs,hc,hn⟩=>⟨cs,e.trans hc,hn⟩,aU' e _⟩
theorem Is.rely{i:Nat}{e:Em}{g:AK}(h:Is X i e g w)(f:Bx e.Sh e.S w w')(p:IQ X.ty X.Wg w->IQ X.ty X.Wg w'):Is X i e g w':=by unfold Is at h⊢;cases b:e.Fq with|some τ=>rw[b]at h;obtain⟨m,h2,h3,h4⟩:=h;exact⟨m,h2,h3,h4.rely f⟩|none=>rw[b]at h;exact⟨h.1.rely (aQn f h.2 p),h.2⟩
omit[Ck]in theorem Ki.status{P:Ac}{main:Bool}{Sh:Nat->Prop}{Stop:(Nat->Prop)->AK->A'->Prop}{τ:EO}{S:Nat->Prop}{g:AK}(hs:∀S g w,Stop S g w->g.status=aYF)(h:Ki P main Sh Stop τ S g w):g.status=aYF:=by cases τ with|leaf=>exact hs _ _ _ (h w (Bx.refl _ _ _))|node f=>exact h.1
theorem Is.status{i:Nat}{e:Em}{g:AK}(h:Is X i e g w):g.status=aYF∨g.status=.finished:=by
 unfold Is at h;split at h;·exact AA (Ki.status (λ_ _ _ x=>x.1) h.2.2.2)
 ·exact h.1.status
theorem Is.woken{i:Nat}{e:Em}{g:AK}(h:Is X i e g w)(a a':AK)(b:A'):Pn X.P a a' b g=g:=by
 unfold Pn;split;·exact a7F _ h.status
 ·rfl
omit[Ck]in theorem Dh.trans:∀a b c,Dh X a b->Dh X b c->Dh X a c:=λ_ _ _ h k=>k∘h
omit[Ck]in theorem Dh.refl(w:A'):Dh X w w:=id
theorem FI.rely{tag:Oa}{τ:EO}{f d:Nat}{Sh S:Nat->Prop}{a:AK}(h:FI X tag j τ f d Sh S a w)(m:Bx Sh S w w')(p:Dh X w w'):FI X tag j τ f d Sh S a w':=by cases h with|JW hn h=>exact .JW hn (h.rely m)|Zd h=>exact .Zd (h.rely m)|skd hn h k=>exact .skd hn (R8 Dh.trans h p) λb e w2 h2=>k b e w2 (m.trans h2)|sa1 hn h k=>exact .sa1 hn (R8 Dh.trans h p) λb e w2 h2=>k b e w2 (m.trans h2)|ske hn h k=>exact .ske hn (R8 Dh.trans h p) λb e w2 h2=>k b e w2 (m.trans h2)|cT hn h k=>exact .cT hn (R8 Dh.trans h p) λb e w2 h2=>k b e w2 (m.trans h2)|sgo hn h=>exact .sgo hn (h.rely m)|kd s h k=>exact .kd s (R8 Dh.trans h p) λb e w2 h2=>k b e w2 (m.trans h2)|anch s h k=>exact .anch s (R8 Dh.trans h p) λb e w2 h2=>k b e w2 (m.trans h2)|w1 s h k=>exact .w1 s (R8 Dh.trans h p) λb e w2 h2=>k b e w2 (m.trans h2)|w2 s h k=>exact .w2 s (R8 Dh.trans h p) λb e w2 h2=>k b e w2 (m.trans h2)|w3 h k=>exact .w3 (R8 Dh.trans h p) λb e w2 h2=>k b e w2 (m.trans h2)|blk h k=>exact .blk (λy x=>h y (Dh.trans _ _ _ p x)) λb e w2 h2=>k b e w2 (m.trans h2)|w4 h k=>exact .w4 (R8 Dh.trans h p) λb e w2 h2=>k b e w2 (m.trans h2)|ke h k=>exact .ke (R8 Dh.trans h p) λb e w2 h2=>k b e w2 (m.trans h2)|acq h k=>exact .acq (R8 Dh.trans h p) λb e w2 h2=>k b e w2 (m.trans h2)
omit[Ck]in theorem DG.status{Stop:AK->A'->Prop}{m:Nat}{g:AK}(hs:∀g w,Stop g w->g.status=aYF)(h:DG X Stop m g w):g.status=aYF:=aL hs w (Dh.refl w) h
theorem FI.status{tag:Oa}{τ:EO}{f d:Nat}{Sh S:Nat->Prop}{a:AK}(e:∀r,tag≠aYS (r+1) 2∨True)(h:FI X tag j τ f d Sh S a w):a.status=aYF/\tag≠.blk∨a.status=aZW/\tag=aYj/\a.offers=J:=by
 have m:∀{i:Nat}{MF:(Nat->Prop)->(Nat->Prop)->AK->A'->Prop}{Sh S:Nat->Prop}{g:AK}{w:A'},Way X.P A0 Sh (AtGo X i MF Sh) S g w->g.status=aYF:=by intro i Next Sh S g w h;obtain⟨τ,h⟩:=h.Fq;exact Ki.status (λ_ _ _ x=>x.1) h
 cases h with|JW hn h=>exact AA ⟨Ki.status (λ_ _ _ x=>x.1) h,by simp⟩|Zd h=>exact AA ⟨Ki.status (λ_ _ _ x=>x.1) h,by simp⟩|skd hn h k=>exact AA ⟨DG.status (λ_ _ y=>y.1) h,by simp⟩|sa1 hn h k=>exact AA ⟨DG.status (λ_ _ y=>y.1) h,by simp⟩|ske hn h k=>exact AA ⟨DG.status (λ_ _ y=>y.1) h,by simp⟩|cT hn h k=>exact AA ⟨DG.status (λg _ y=>m (k g y w (Bx.refl _ _ _))) h,by simp⟩|sgo hn h=>exact AA ⟨Ki.status (λ_ _ _ x=>x.1) h,by simp⟩|kd b h k=>exact AA ⟨DG.status (λ_ _ y=>y.1) h,by simp⟩|anch b h k=>exact AA ⟨DG.status (λg _ y=>(b g y).1) h,by simp⟩|w1 b h k=>exact AA ⟨DG.status (λ_ _ y=>y.1) h,by simp⟩|w2 b h k=>exact AA ⟨DG.status (λ_ _ y=>y.1) h,by simp⟩|w3 h k=>exact AA ⟨DG.status (λ_ _ y=>y.1) h,by simp⟩|blk h k=>exact AF ⟨rfl,rfl,(h w (Dh.refl w)).2.1⟩|w4 h k=>exact AA ⟨DG.status (λ_ _ y=>y.1) h,by simp⟩|ke h k=>exact AA ⟨DG.status (λ_ _ y=>y.1) h,by simp⟩|acq h k=>exact AA ⟨DG.status (λ_ _ y=>y.1) h,by simp⟩
theorem FI.wokenBy{tag:Oa}{τ:EO}{f d:Nat}{Sh S:Nat->Prop}{a:AK}(h:FI X tag j τ f d Sh S a w)(z:Bx Sh S w w')(x:Dh X w w')(g g':AK):∃b m,FI X b j τ m d Sh S (Pn X.P g g' w' a) w'/\m<=f+1/\(b=tag∨tag=aYj/\b=.w3)/\(xf X.P g=A0->g'.status=aYF->b≠aYj):=by
 have e:=h.rely z x;unfold Pn;split
 ·rcases e.status λ_=>AF trivial with⟨hs,y⟩|⟨_,rfl,_⟩;·exact⟨tag,f,by rw[a7F _ (AA hs)];exact e,by omega,AA rfl,λ_ _=>y⟩
  ·cases e with|blk p k=>rename_i Ee A;have h3:=p w' (Dh.refl w');exact⟨.w3,0+1,by rw[again_blocked h3.1 h3.2.1];exact .w3 (Jb p) k,by omega,AF ⟨rfl,rfl⟩,λ_ _=>by simp⟩
 ·rename_i hc;exact⟨tag,f,e,by omega,AA rfl,λs h2=>absurd (by simp[s,h2]) hc⟩
end
end
section
open Go.Conc(G solo Deaf QuitsD Goes scase semEvents NoRelease crowd woken Aside Deaf_other woken_quitsD)
open Go.ConcN(WgLive upd upd_same upd_ne)
open Go.ConcR(KK WgAt stA smA rd wr mk Payload)
variable[Ck]
section
variable{X:Gw}{j:Nat}{gs gsn:Array AK}{w w':A'}{t u:DX}{W:Nat->Em}{Sh0 S0:Nat->Prop}{q:Nat->Nat}{BU:Nat}{BA au:List (Nat×A1)}
omit[Ck]in theorem gh{N0:Nat}{a:Aa}{t u:DX}(h:∀i,N0<=i->t.act? i≠Z (aYd (aYc a)))(hu:∀b∈u,b.act≠aYd (aYc a)):∀i,N0<=i->(t++u).act? i≠Z (aYd (aYc a)):=by
 intro i hi hx;obtain⟨b,f,e⟩:=Option.map_eq_some_iff.1 hx;rcases UB f with⟨_,m⟩|⟨_,p⟩;·exact h i hi (by simp[od,m,e])
 ·exact hu b p e
omit[Ck]in theorem hP{N0 c0:Nat}{t u:DX}(h:N0<=t.size/\∀i g,t.g? i=Z g->c0<=g->N0<=i):N0<=(t++u).size/\∀i g,(t++u).g? i=Z g->c0<=g->N0<=i:=by
 refine⟨by simp only[Array.size_append];omega,λi g b hc=>?_⟩;rcases IW i t.size with hlt|e;·exact h.2 i g (by rw[<-dA (u:=u) hlt];exact b) hc
 ·omega
theorem Fv.at(h:Fv X j gs w t W Sh0 S0 q BU BA)(e:X.L8)(d:Nat):Fv X j gs (w.at d) t W Sh0 S0 q BU BA:=⟨h.size,h.pos,h.old,λi hi=>let⟨g,a,b⟩:=h.wk i hi;⟨g,a,b.rely (Bx.at _ _ _ _) id⟩,h.ro,h.JB,h.NN,h.deaf0,h.deafW,h.norel,h.cg,h.rel,h.chan,h.Jj,h.Ue,h.Mm,h.nodup,λi v hv=>let⟨M,a,b⟩:=h.msg i v hv;⟨M,a,e i v M w _ (λ_ _=>rfl) b⟩⟩
theorem Fv.zI(h:Fv X j gs w t W Sh0 S0 q BU BA){i:Nat}(hi:i<j){g':AK}{e':Em}(d:gsn.size=gs.size)(Ww:gsn[X.c0+i]?=Z g')(H:∀k,k≠X.c0+i->k≠0->gsn[k]?=gs[k]?)(hu:∀A∈u,A.g=X.c0+i)(Hl:∀f,f<j->f≠i->Bx (W f).Sh (W f).S w w')(Bl:IQ X.ty X.Wg w->IQ X.ty X.Wg w')(Mc:Is X i e' g' w')(FE:Lh X.B7 (X.c0+j) w'.heap.size (Az X j S0 (Cq W i e')) (Bq X j Sh0 (Cq W i e')))(PM:IZ X.B7 (X.c0+j) w'.heap.size (Az X j S0 (Cq W i e')) (Bq X j Sh0 (Cq W i e')) (t++u))(U:Sj (t++u) (X.c0+i)=e'.wd.deaf)(Z5:∀A∈u,A.act≠aYd (aYc (Ef X.Wg)))(hrel:e'.wd.stage<=6->∃r,Ou X.B7 (t++u) (Ef X.Wg) (X.c0+i) r)(Q:∃tm,w'.heap[X.Ch]?=Z (aYQ X.n (au.map (·.2)).toArray A5 au.length 0 tm))(N:∀b,e'.S b∨e'.Sh b->b≠X.Ch)(z:∀f,(∃v,(f,v)∈au)↔f<j/\(Cq W i e' f).Fq=J)(EH:(au.map (·.1)).Nodup)(Mb:∀f v,(f,v)∈au->∃M,(∀b,M b->(Cq W i e' f).S b/\b≠(Cq W i e' f).C)/\X.MM f v M w'):Fv X j gsn w' (t++u) (Cq W i e') Sh0 S0 q BU au:=by
 have s:=h.pos;refine⟨d.trans h.size,h.pos,λk g Jt hk D=>?_,λf p=>?_,FE,PM,h.NN.app hu (AF (AA (by omega))),?_,λf p=>?_,gh h.norel Z5,hP h.cg,λf p y=>?_,Q,λg b K=>?_,h.Ue,z,EH,Mb⟩;·rw[H k (by omega) (by omega)]at D;rw[Nd t (g':=X.c0+i) (by omega) u hu];exact h.old k g Jt hk D
 ·by_cases e:f=i;·subst e;exact⟨g',Ww,by rw[Fs];exact Mc⟩
  ·obtain⟨x,hx,gH⟩:=h.wk f p;refine⟨x,by rw[H _ (by omega) (by omega)];exact hx,?_⟩;rw[GQ W _ e];exact gH.rely (Hl f p e) Bl
 ·rw[Nd t (g':=X.c0+i) (by omega) u hu];exact h.deaf0
 ·by_cases e:f=i;·subst e;rw[Fs];exact U
  ·rw[Nd t (g':=X.c0+i) (by omega) u hu,h.deafW f p,GQ W _ e]
 ·by_cases e:f=i;·subst e;rw[Fs]at y;exact hrel y
  ·rw[GQ W _ e]at y;obtain⟨r,A2⟩:=h.rel f p y;exact⟨r,A2.other hu (by omega)⟩
 ·have I:(∃f,f<j/\g=X.c0+f/\((Cq W i e' f).S b∨(Cq W i e' f).Sh b))∨g=0/\(S0 b∨Sh0 b):=by
   rcases K with(⟨m,h2⟩|⟨f,m,h2,h3⟩)|(⟨m,h2⟩|⟨f,m,h2,h3⟩);·exact AF ⟨m,AA h2⟩
   ·exact AA ⟨f,m,h2,AA h3⟩
   ·exact AF ⟨m,AF h2⟩
   ·exact AA ⟨f,m,h2,AF h3⟩
  rcases I with⟨f,m,_,h3⟩|⟨_,h2⟩
  ·by_cases e:f=i;·subst e;rw[Fs]at h3;exact N b h3
   ·rw[GQ W _ e]at h3;refine h.Jj (X.c0+f) b ?_;rcases h3 with h3|h3;·exact AA ((Az.at s m b).2 h3)
    ·exact AF ((Bq.at s m b).2 h3)
  ·refine h.Jj 0 b ?_;rcases h2 with h2|h2;·exact AA ((Az.zero s b).2 h2)
   ·exact AF ((Bq.zero s b).2 h2)
theorem Fv.aD8(h:Fv X j gs w t W Sh0 S0 q BU BA)(C:X.L8){a':AK}{d:Nat->Prop}{DW:Nat}(B3:gsn.size=gs.size)(z:∀k,k≠0->gsn[k]?=gs[k]?)(hu:∀p∈u,p.g=0)(A:∀e,e<j->Bx (W e).Sh (W e).S w w')(Bl:IQ X.ty X.Wg w->IQ X.ty X.Wg w')(FE:Lh X.B7 (X.c0+j) w'.heap.size (Az X j d W) (Bq X j Sh0 W))(PM:IZ X.B7 (X.c0+j) w'.heap.size (Az X j d W) (Bq X j Sh0 W) (t++u))(I:Sj (t++u) 0=DW)(U:∀p∈u,p.act≠aYd (aYc (Ef X.Wg)))(H:w'.heap[X.Ch]?=w.heap[X.Ch]?)(D:∀b,d b->b≠X.Ch):Fv X j gsn w' (t++u) W Sh0 d q DW BA:=by
 have li:=h.pos;refine⟨B3.trans h.size,h.pos,λk g Q N y=>?_,λe f=>?_,FE,PM,h.NN.app hu (AA rfl),I,λe f=>?_,gh h.norel U,hP h.cg,λe f Bp=>?_,?_,λg b m=>?_,h.Ue,h.Mm,h.nodup,λi v hv=>?_⟩;·rw[z k (by omega)]at y;rw[Nd t (g':=0) (by omega) u hu];exact h.old k g Q N y
 ·obtain⟨x,hx,gH⟩:=h.wk e f;exact⟨x,by rw[z _ (by omega)];exact hx,gH.rely (A e f) Bl⟩
 ·rw[Nd t (g':=0) (by omega) u hu,h.deafW e f]
 ·obtain⟨r,A2⟩:=h.rel e f Bp;exact⟨r,A2.other hu (by omega)⟩
 ·rw[H];exact h.chan
 ·rcases m with(⟨s,h2⟩|⟨e,s,h2,h3⟩)|m;·exact D b h2
  ·exact h.Jj (X.c0+e) b (AA ((Az.at li s b).2 h3))
  ·exact h.Jj g b (AF m)
 ·obtain⟨M,a,b⟩:=h.msg i v hv;refine⟨M,a,C i v M w w' (λx hx=>?_) b⟩;obtain⟨K,_⟩:=(h.Mm i).1 ⟨v,hv⟩;exact(A i K).same x (AA (a x hx).1)
theorem Fv.aD7(h:Fv X j gs w t W Sh0 S0 q BU BA){i k:Nat}(LH:0<i)(kX:i<X.c0){g':AK}{fn:Xi}{pos:String}{es:Array By}(d:gsn.size=gs.size)(M:gsn[i]?=Z g')(D:∀k,k≠i->k≠0->gsn[k]?=gs[k]?)(z:∀e∈es,e.mute=A0)(N:nX X.P k (MG (Sj t i) es) g'):Fv X j gsn w (t++K6 i fn pos es) W Sh0 S0 (Cq q i k) BU BA:=by
 have li:=h.pos;have hu:∀y∈K6 i fn pos es,y.g=i:=λy f=>by obtain⟨e,_,rfl⟩:=K5 f;rfl
 refine⟨d.trans h.size,h.pos,λl g I H s=>?_,λp b=>?_,h.ro,a5G h.ro h.JB (by omega) z,h.NN.app hu (AF (AF λy f=>by obtain⟨e,he,rfl⟩:=K5 f;exact nl (z e he))),?_,λp b=>?_,gh h.norel λy f=>?_,hP h.cg,λp b U=>?_,h.chan,h.Jj,h.Ue,h.Mm,h.nodup,h.msg⟩
 ·by_cases e:l=i;·subst e;rw[M]at s;obtain rfl:=D3 s;rw[Fs,nV];exact N
  ·rw[D l e (by omega)]at s;rw[GQ q k e,Nd t (g':=i) (λx=>e x.symm) _ hu];exact h.old l g I H s
 ·obtain⟨x,hx,gH⟩:=h.wk p b;exact⟨x,by rw[D _ (by omega) (by omega)];exact hx,gH⟩
 ·rw[Nd t (g':=i) (by omega) _ hu];exact h.deaf0
 ·rw[Nd t (g':=i) (by omega) _ hu];exact h.deafW p b
 ·obtain⟨e,he,rfl⟩:=K5 f;intro hx;have K:=z e he;obtain⟨A,wr,C⟩:=e;cases A with|mark m=>simp[KZ]at hx;subst hx;simp[Event.mute]at K|cell a=>simp[KZ]at hx|obj r=>cases wr<;>cases C<;>simp[KZ]at hx|_=>simp[KZ]at hx
 ·obtain⟨r,Q⟩:=h.rel p b U;exact⟨r,Q.other hu (by omega)⟩
omit[Ck]in theorem Az.R1(m:0<X.c0){i:Nat}(hi:i<j)(e':Em):Az X j S0 (Cq W i e')=Pc (Az X j S0 W) (X.c0+i) e'.S:=by
 funext g b;unfold Pc;by_cases h:g=X.c0+i;·subst h;rw[if_pos rfl];refine propext ((Az.at m hi b).trans ?_);rw[Fs]
 ·rw[if_neg h];unfold Az;refine propext (or_congr UR ⟨?_,?_⟩);·rintro⟨f,e,h2,h3⟩;rw[GQ W _ (by omega)]at h3;exact⟨f,e,h2,h3⟩
  ·rintro⟨f,e,h2,h3⟩;exact⟨f,e,h2,by rw[GQ W _ (by omega)];exact h3⟩
omit[Ck]in theorem Bq.R1{i:Nat}(e':Em)(he:e'.Sh=(W i).Sh):Bq X j Sh0 (Cq W i e')=Bq X j Sh0 W:=by
 funext g b;unfold Bq;refine propext (or_congr UR ⟨?_,?_⟩)
 ·rintro⟨f,h,h2,h3⟩;refine⟨f,h,h2,?_⟩;by_cases e:f=i;·subst e;rw[Fs,he]at h3;exact h3
  ·rw[GQ W _ e]at h3;exact h3
 ·rintro⟨f,h,h2,h3⟩;refine⟨f,h,h2,?_⟩;by_cases e:f=i;·subst e;rw[Fs,he];exact h3
  ·rw[GQ W _ e];exact h3
omit[Ck]in theorem Az.a2u(f:0<X.c0)(S':Nat->Prop):Az X j S' W=Pc (Az X j S0 W) 0 S':=by
 funext g b;unfold Pc;by_cases e:g=0;·subst e;rw[if_pos rfl];exact propext (Az.zero f b)
 ·rw[if_neg e];unfold Az;refine propext (or_congr ⟨λx=>absurd x.1 e,λx=>absurd x.1 e⟩ UR)
omit[Ck]in theorem Az.cQ{i:Nat}(e':Em)(he:e'.S=(W i).S):Az X j S0 (Cq W i e')=Az X j S0 W:=by
 funext g b;unfold Az;refine propext (or_congr UR ⟨?_,?_⟩)
 ·rintro⟨f,h,h2,h3⟩;refine⟨f,h,h2,?_⟩;by_cases e:f=i;·subst e;rw[Fs,he]at h3;exact h3
  ·rw[GQ W _ e]at h3;exact h3
 ·rintro⟨f,h,h2,h3⟩;refine⟨f,h,h2,?_⟩;by_cases e:f=i;·subst e;rw[Fs,he];exact h3
  ·rw[GQ W _ e];exact h3
end
end
section
open Go.Conc(G solo Deaf QuitsD Goes scase semEvents NoRelease crowd woken Aside Deaf_other woken_quitsD runT_crowd_go)
open Go.ConcN(WgLive upd upd_same upd_ne WD CTag Vc Ssum Fsum cnt pend phi sumTo sumTo_upd phi_mono phi_retag)
open Go.ConcR(KK WgAt stA smA rd wr mk Payload)
variable[Ck]
def Co(W:Nat->Em):Nat->WD:=λi=>(W i).wd
def K1(e:Em):Nat:=if e.Fq.isSome then 1 else 0
def cY(j:Nat)(W:Nat->Em):Nat:=Io j λi=>K1 (W i)
def U7(j:Nat)(τ:EO)(W:Nat->Em):Nat->EO|0=>τ|k+1=>if k<j then((W k).Fq).getD .leaf else .leaf
def Gq(X:Gw)(j:Nat)(W:Nat->Em)(tag:Oa)(τ:EO)(f0:Nat)(q:Nat->Nat):WB:=(HK X.n (Vc j (Co W)) tag+dD j (Co W)+cY j W,U7 j τ W,f0+2*Fsum j (Co W)+2*Io X.c0 q)
def Inv(X:Gw)(b:WB)(m:UI)(t:DX):Prop:=∃(gs:Array AK)(w:A')(sl:Option (Nat×Nat))(j:Nat)(W:Nat->Em)(tag:Oa)(τ:EO)(f0 BU:Nat)(a:AK)(st GO:Int)(Sh0 S0:Nat->Prop)(q:Nat->Nat)(BA:List (Nat×A1)),m=Ea gs w sl/\gs[0]?=Z a/\FI X tag j τ f0 BU Sh0 S0 a w/\Fv X j gs w t W Sh0 S0 q BU BA/\Ip X.ty X.Wg w st GO/\Jd j (Co W) tag st GO/\b=Gq X j W tag τ f0 q
section
variable{X:Gw}{j:Nat}{gs:Array AK}{w w':A'}{sl:Option (Nat×Nat)}{t:DX}{W:Nat->Em}{tag:Oa}{τ:EO}{f0 BU:Nat}{a:AK}{Sh0 S0:Nat->Prop}{q:Nat->Nat}{BA:List (Nat×A1)}
omit[Ck]in theorem hK(W:Nat->Em)(i:Nat)(e:Em):Co (Cq W i e)=Cq (Co W) i e.wd:=by
 funext a;unfold Co;by_cases h:a=i;·subst h;rw[Fs,Fs]
 ·rw[GQ _ _ h,GQ _ _ h]
omit[Ck]in theorem l_{Ir A IN B B':Nat}{F R7:Nat->EO}(h:IN<A):Kg Ir (IN,R7,B') (A,F,B):=ps _ _ h
omit[Ck]in theorem a2W{Ir A IN B B':Nat}{F R7:Nat->EO}(b:IN=A)(h:aH Ir R7 F):Kg Ir (IN,R7,B') (A,F,B):=by subst b;exact yc _ (ps _ _ h)
omit[Ck]in theorem tc{Ir A IN B B':Nat}{F R7:Nat->EO}(b:IN=A)(e:R7=F)(h:B'<B):Kg Ir (IN,R7,B') (A,F,B):=by subst b e;exact yc _ (yc _ h)
theorem FI.bound(h:FI X tag j τ f0 BU Sh0 S0 a w):j+KW tag<=X.n:=by cases h<;>simp only[KW]<;>(try simp)<;>omega
omit[Ck]in theorem aFD{i:Nat}(hi:i<j){e':Em}{R4 Pf:EO}(b:(W i).Fq=Z R4)(h2:e'.Fq=Z Pf)(hlt:EO.lt Pf R4)(hn:j<=X.n):aH (X.n+1) (U7 j τ (Cq W i e')) (U7 j τ W):=by
 refine⟨i+1,by omega,?_,λk e=>?_⟩;·simp only[U7,hi,↓reduceIte,Fs,b,h2,HB];exact hlt
 ·cases k with
  |zero=>rfl
  |succ k=>
   have:k≠i:=by omega
   simp only[U7,GQ W e' this]
omit[Ck]in theorem aFC{i:Nat}{e':Em}(h:e'.Fq=(W i).Fq):U7 j τ (Cq W i e')=U7 j τ W:=by
 funext k;cases k with
 |zero=>rfl
 |succ k=>
  by_cases e:k=i;·subst e;simp only[U7,Fs,h]
  ·simp only[U7,GQ W e' e]
inductive cx(e e':Em):Prop|stage:e'.wd.stage+K1 e'<e.wd.stage+K1 e->Fz e'.wd<=Fz e.wd->cx e e'|JW{R4 Pf:EO}:e'.wd.stage=e.wd.stage->e.Fq=Z R4->e'.Fq=Z Pf->EO.lt Pf R4->cx e e'|fuel:e'.wd.stage=e.wd.stage->e'.Fq=e.Fq->e'.wd.fuel+1=e.wd.fuel->cx e e'
omit[Ck]in theorem a4t{i:Nat}(hi:i<j){e':Em}(m:cx (W i) e')(hn:j<=X.n){tag':Oa}{f':Nat}(p:tag'=tag∨tag=aYj/\tag'=.w3)(z:f'<=f0+1):Kg (X.n+1) (Gq X j (Cq W i e') tag' τ f' q) (Gq X j W tag τ f0 q):=by
 have s:dD j (Co (Cq W i e'))+(W i).wd.stage=dD j (Co W)+e'.wd.stage:=Vj W e' (λe=>e.wd.stage) hi;have h:Fsum j (Co (Cq W i e'))+(W i).wd.fuel=Fsum j (Co W)+e'.wd.fuel:=Vj W e' (λe=>e.wd.fuel) hi;have y:Vc j (Co (Cq W i e'))+Fz (W i).wd=Vc j (Co W)+Fz e'.wd:=Vj W e' (λe=>Fz e.wd) hi;have x:cY j (Cq W i e')+K1 (W i)=cY j W+K1 e':=Vj W e' K1 hi;have f:∀v,HK X.n v tag'=HK X.n v tag:=λv=>phi_retag X.n v p;unfold Gq;cases m with
 |stage b h2=>refine l_ ?_;rw[f];have:=phi_mono X.n (v:=Vc j (Co W)) (v':=Vc j (Co (Cq W i e'))) (by omega) tag;omega
 |JW b h2 h3 h4=>
  have hc:Fz e'.wd=Fz (W i).wd:=by simp only[Fz,b]
  have hu:K1 e'=K1 (W i):=by simp only[K1,h2,h3,Option.isSome_some]
  refine a2W ?_ (aFD hi h2 h3 h4 hn);rw[f,show Vc j (Co (Cq W i e'))=Vc j (Co W)by omega];omega
 |fuel b h2 h3=>
  have hc:Fz e'.wd=Fz (W i).wd:=by simp only[Fz,b]
  have hu:K1 e'=K1 (W i):=by simp only[K1,h2]
  refine tc ?_ (aFC h2) (by omega);rw[f,show Vc j (Co (Cq W i e'))=Vc j (Co W)by omega];omega
theorem workerStep(Ai:X.L8)(A6:gs[0]?=Z a)(N:FI X tag j τ f0 BU Sh0 S0 a w)(m:Fv X j gs w t W Sh0 S0 q BU BA){i:Nat}(hi:i<j){g g':AK}{es:Array By}{e':Em}{d OT:Int}(AB:gs[X.c0+i]?=Z g)(lc:Be X.P A5 g w=aYE g' w' es)(fz:Bx Sh0 S0 w w')(Q:∀h,h<j->h≠i->Bx (W h).Sh (W h).S w w')(Mc:Is X i e' g' w')(FE:Lh X.B7 (X.c0+j) w'.heap.size (Az X j S0 (Cq W i e')) (Bq X j Sh0 (Cq W i e')))(PM:IZ X.B7 (X.c0+j) w'.heap.size (Az X j S0 (Cq W i e')) (Bq X j Sh0 (Cq W i e')) (t++K6 (X.c0+i) g.frame.fn g.frame.place es))(fM:MG (W i).wd.deaf es=e'.wd.deaf)(Z5:∀e∈es,e.loc≠aY_ (aYc (Ef X.Wg)))(hrel:e'.wd.stage<=6->∃r,Ou X.B7 (t++K6 (X.c0+i) g.frame.fn g.frame.place es) (Ef X.Wg) (X.c0+i) r)(Rs:w'.heap[X.Ch]?=w.heap[X.Ch]?)(FU:∀b,e'.S b∨e'.Sh b->b≠X.Ch)(HT:e'.Fq=J↔(W i).Fq=J)(Mb:∀v M,(∀b,M b->(W i).S b/\b≠(W i).C)->X.MM i v M w->(i,v)∈BA->(∀b,M b->e'.S b/\b≠e'.C)/\X.MM i v M w')(Bl:Ip X.ty X.Wg w' d OT)(Cs:∀f,f=tag∨tag=aYj/\f=.w3->(xf X.P g=A0->g'.status=aYF->f≠aYj)->Jd j (Cq (Co W) i e'.wd) f d OT)(AE:cx (W i) e'):∃Ec ops p,MH X.P (Ea gs w sl) (X.c0+i)=(aYG Ec,ops)/\Kg (X.n+1) p (Gq X j W tag τ f0 q)/\Inv X p Ec (t++ops):=by
 have li:=m.pos;have I:=N.bound;have hlt:X.c0+i<gs.size:=by rw[m.size];omega
 have LH:(X.c0+i==0)=A5:=by simp;omega
 have Au:=Pm (P:=X.P) (sl:=sl) (i:=X.c0+i) AB (by rw[LH];exact lc);have K:Dh X w w':=λ_=>⟨_,_,Bl⟩;obtain⟨f,H,Ks,If,U,D⟩:=N.wokenBy fz K g g';have Hc:∀k,k≠X.c0+i->k≠0->((gs.map (Pn X.P g g' w')).setIfInBounds (X.c0+i) g')[k]?=gs[k]?:=by
  intro k hk Jt;rw[Xg _ _ _ _ (JK hk)];rcases IW k X.c0 with hlt|MZ;·cases s:gs[k]? with|none=>rfl|some x=>rw[MP,Xf (m.old k x (by omega) hlt s)]
  ·cases s:gs[k]? with
   |none=>rfl
   |some x=>
    have FV:k-X.c0<j:=by have:=(Array.getElem?_eq_some_iff.1 s).1;rw[m.size]at this;omega
    obtain⟨y,hy,OF⟩:=m.wk (k-X.c0) FV;rw[show X.c0+(k-X.c0)=k by omega,s]at hy;obtain rfl:=D3 hy;rw[MP,OF.woken]
 refine⟨_,_,Gq X j (Cq W i e') f τ H q,Au,a4t hi AE (by omega) U If,_,w',sl,j,Cq W i e',f,τ,H,BU,_,d,OT,Sh0,S0,q,BA,rfl,?_,Ks,?_,Bl,?_,rfl⟩;·rw[Xg _ _ _ _ (by omega),A6,MP]
 ·refine m.zI hi (by simp) (dE _ _ _ hlt) Hc λop A=>by obtain⟨e,_,rfl⟩:=K5 A;rfl Q K Mc FE PM ?_ (λop A=>?_) hrel ?_ FU (λh=>?_) m.nodup λh v hv=>?_;·rw[nV,m.deafW i hi];exact fM
  ·exact w7 Z5 op A
  ·rw[Rs];exact m.chan
  ·rw[m.Mm h];by_cases e:h=i;·subst e;rw[Fs];exact and_congr UR HT.symm
   ·rw[GQ W _ e]
  ·obtain⟨M,z,h2⟩:=m.msg h v hv;by_cases e:h=i;·subst e;rw[Fs];obtain⟨h3,h4⟩:=Mb v M z h2 hv;exact⟨M,h3,h4⟩
   ·rw[GQ W _ e];refine⟨M,z,Ai h v M w w' (λb I=>?_) h2⟩;obtain⟨GY,_⟩:=(m.Mm h).1 ⟨v,hv⟩;exact(Q h GY e).same b (AA (z b I).1)
 ·rw[hK];exact Cs f U D
theorem a2t(I:X.L8)(K:gs[0]?=Z a)(f:Fv X j gs w t W Sh0 S0 q BU BA){a':AK}{es:Array By}{tag':Oa}{d:EO}{f':Nat}{T9:Nat->Prop}{OU OT:Int}(Q:Be X.P A0 a w=aYE a' w' es)(Hl:∀A,A<j->Bx (W A).Sh (W A).S w w')(FE:Lh X.B7 (X.c0+j) w'.heap.size (Az X j T9 W) (Bq X j Sh0 W))(PM:IZ X.B7 (X.c0+j) w'.heap.size (Az X j T9 W) (Bq X j Sh0 W) (t++K6 0 a.frame.fn a.frame.place es))(Z5:∀e∈es,e.loc≠aY_ (aYc (Ef X.Wg)))(N:w'.heap[X.Ch]?=w.heap[X.Ch]?)(M:∀b,T9 b->b≠X.Ch)(Ks:FI X tag' j d f' (MG BU es) Sh0 T9 a' w')(C:Ip X.ty X.Wg w' OU OT)(Cs:Jd j (Co W) tag' OU OT)(hlt:HK X.n (Vc j (Co W)) tag'<HK X.n (Vc j (Co W)) tag∨HK X.n (Vc j (Co W)) tag'=HK X.n (Vc j (Co W)) tag/\(EO.lt d τ∨d=τ/\f'<f0)):∃D ops m,MH X.P (Ea gs w sl) 0=(aYG D,ops)/\Kg (X.n+1) m (Gq X j W tag τ f0 q)/\Inv X m D (t++ops):=by
 have li:=f.pos;have Au:=Pm (P:=X.P) (sl:=sl) (i:=0) K (by simpa using Q);have Hc:∀k,k≠0->((gs.map (Pn X.P a a' w')).setIfInBounds 0 a')[k]?=gs[k]?:=by
  intro k Jt;rw[Xg _ _ _ _ (JK Jt)];rcases IW k X.c0 with hlt|MZ;·cases p:gs[k]? with|none=>rfl|some x=>rw[MP,Xf (f.old k x (by omega) hlt p)]
  ·cases p:gs[k]? with
   |none=>rfl
   |some x=>
    have FV:k-X.c0<j:=by have:=(Array.getElem?_eq_some_iff.1 p).1;rw[f.size]at this;omega
    obtain⟨y,hy,OF⟩:=f.wk (k-X.c0) FV;rw[show X.c0+(k-X.c0)=k by omega,p]at hy;obtain rfl:=D3 hy;rw[MP,OF.woken]
 refine⟨_,_,Gq X j W tag' d f' q,Au,?_,_,w',sl,j,W,tag',d,f',MG BU es,a',OU,OT,Sh0,T9,q,BA,rfl,dE _ _ _ (by rw[f.size];omega),Ks,?_,C,Cs,rfl⟩
 ·unfold Gq;rcases hlt with h|⟨h,s|⟨s,h2⟩⟩;·exact l_ (by omega)
  ·refine a2W (by omega) ⟨0,by omega,s,λk U=>?_⟩;cases k with|zero=>exact absurd rfl U|succ k=>rfl
  ·exact tc (by omega) (by rw[s]) (by omega)
 ·exact f.aD8 I (a':=a') (by simp) Hc λH z=>by obtain⟨e,_,rfl⟩:=K5 z;rfl Hl (λ_=>⟨_,_,C⟩) FE PM (by rw[nV,f.deaf0]) (λH z=>w7 Z5 H z) N M
theorem aK_(N:gs[0]?=Z a)(d:FI X tag j τ f0 BU Sh0 S0 a w)(e:Fv X j gs w t W Sh0 S0 q BU BA){st GO:Int}(Bl:Ip X.ty X.Wg w st GO)(Cs:Jd j (Co W) tag st GO){i:Nat}(I:0<i)(A:i<X.c0){g:AK}(s:gs[i]?=Z g)(m:g.status=aYF)(C:∀b,b=tag∨tag=aYj/\b=.w3->Jd j (Co W) b st GO):∃M ops f,MH X.P (Ea gs w sl) i=(aYG M,ops)/\Kg (X.n+1) f (Gq X j W tag τ f0 q)/\Inv X f M (t++ops):=by
 have li:=e.pos;have AD:=e.old i g I A s;have z:(i==0)=A5:=by simp;omega
 have hlt:i<gs.size:=(Array.getElem?_eq_some_iff.1 s).1;cases D:q i with
 |zero=>rw[D]at AD;rw[AD.1]at m;cases m
 |succ k=>
  rw[D]at AD;rcases AD with⟨Q,_⟩|⟨_,p,es,hm,VA,LI⟩;·rw[Q]at m;cases m
  have Gj:=Pm (P:=X.P) (sl:=sl) (i:=i) s (by rw[z];exact VA w);have QS:Io X.c0 (Cq q i k)+(k+1)=Io X.c0 q+k:=by have:=Vj q k id A;simpa[D]using this
  obtain⟨b,H,Ks,If,K,a1U⟩:=d.wokenBy (Bx.refl _ _ w) (Dh.refl w) g p;have Hc:∀k,k≠i->k≠0->((gs.map (Pn X.P g p w)).setIfInBounds i p)[k]?=gs[k]?:=by
   intro k U Jt;rw[Xg _ _ _ _ (JK U)];rcases IW k X.c0 with hlt|MZ;·cases h:gs[k]? with|none=>rfl|some x=>rw[MP,Xf (e.old k x (by omega) hlt h)]
   ·cases h:gs[k]? with
    |none=>rfl
    |some x=>
     have FV:k-X.c0<j:=by have:=(Array.getElem?_eq_some_iff.1 h).1;rw[e.size]at this;omega
     obtain⟨y,hy,OF⟩:=e.wk (k-X.c0) FV;rw[show X.c0+(k-X.c0)=k by omega,h]at hy;obtain rfl:=D3 hy;rw[MP,OF.woken]
  refine⟨_,_,Gq X j W b τ H (Cq q i k),Gj,?_,_,w,sl,j,W,b,τ,H,BU,_,st,GO,Sh0,S0,Cq q i k,BA,rfl,?_,Ks,?_,Bl,C b K,rfl⟩;·unfold Gq;exact tc (by rw[phi_retag X.n _ K]) rfl (by omega)
  ·rw[Xg _ _ _ _ (by omega),N,MP]
  ·exact e.aD7 I A (by simp) (dE _ _ _ hlt) Hc hm LI
end
end
section
open Go.Conc(G solo Deaf QuitsD Goes scase semEvents NoRelease crowd woken Aside Deaf_other woken_quitsD runT_crowd_go crowd_send_room partners_nil offersAt_of_not_blocked getElem?_stand)
open Go.ConcN(WgLive upd upd_same upd_ne WD CTag Vc Ssum Fsum cnt pend phi sumTo sumTo_upd)
open Go.ConcR(KK WgAt stA smA rd wr mk Payload)
variable[Ck]
section
variable{X:Gw}{j:Nat}{gs:Array AK}{w w':A'}{sl:Option (Nat×Nat)}{t:DX}{W:Nat->Em}{tag:Oa}{τ:EO}{f0 BU:Nat}{a:AK}{Sh0 S0:Nat->Prop}{q:Nat->Nat}{BA:List (Nat×A1)}{st GO:Int}
omit[Ck]in theorem Az.Up(e:0<X.c0){i:Nat}(hi:i<j):Az X j S0 W (X.c0+i)=(W i).S:=funext λb=>propext (Az.at e hi b)
omit[Ck]in theorem Bq.Up(e:0<X.c0){i:Nat}(hi:i<j):Bq X j Sh0 W (X.c0+i)=(W i).Sh:=funext λb=>propext (Bq.at e hi b)
omit[Ck]in theorem Az.bF(e:0<X.c0):Az X j S0 W 0=S0:=funext λb=>propext (Az.zero e b)
omit[Ck]in theorem Bq.bF(e:0<X.c0):Bq X j Sh0 W 0=Sh0:=funext λb=>propext (Bq.zero e b)
omit[Ck]in theorem a6D{d8:Type}(f:Nat->d8)(i:Nat):Cq f i (f i)=f:=by
 funext a;by_cases h:a=i;·subst h;rw[Fs]
 ·rw[GQ f _ h]
omit[Ck]in theorem qf{Sh S:Nat->Prop}{e:By}(h:KU Sh S e)(a:Aa):e.loc≠aY_ (aYc a):=by cases h<;>intro x<;>cases x
theorem Fv.eY(h:Fv X j gs w t W Sh0 S0 q BU BA):X.Ch<w.heap.size:=by obtain⟨b,e⟩:=h.chan;exact(Array.getElem?_eq_some_iff.1 e).1
omit[Ck]in theorem a6O(h:Ip X.ty X.Wg w st GO):X.Wg<w.heap.size:=(Array.getElem?_eq_some_iff.1 h).1
theorem Fv.aNh(h:Fv X j gs w t W Sh0 S0 q BU BA){i:Nat}(hi:i<j){es:Array By}{S':Nat->Prop}(p:GC (W i).Sh (W i).S w w' es S'):Bx Sh0 S0 w w'/\∀e,e<j->e≠i->Bx (W e).Sh (W e).S w w':=by
 have b:=h.pos;have f:GC (Bq X j Sh0 W (X.c0+i)) (Az X j S0 W (X.c0+i)) w w' es S':=by rw[Az.Up b hi,Bq.Up b hi];exact p
 refine⟨?_,λe m s=>?_⟩;·have:=ua (B:=0) h.ro (g:=X.c0+i) (h:=0) (by omega) f;rw[Az.bF b,Bq.bF b]at this;exact this
 ·have:=ua (B:=0) h.ro (g:=X.c0+i) (h:=X.c0+e) (by omega) f;rw[Az.Up b m,Bq.Up b m]at this;exact this
omit[Ck]in theorem lx:∀(j:Nat)(l:List Nat),l.Nodup->(∀x∈l,x<j)->l.length<=j
 |0,[],_,_=>AX _
 |0,x::l,_,h=>absurd (h x (by simp)) (by omega)
 |j+1,l,hn,h=>by
  by_cases f:j∈l
  ·have b:=lx j (l.erase j) (hn.erase j) λx hx=>by have:=hn.mem_erase_iff.1 hx;have:=h x this.2;omega
   rw[List.length_erase_of_mem f]at b;omega
  ·have:=lx j l hn λx hx=>by have b:=h x hx;have:x≠j:=λe=>f (e▸hx);omega
   omega
theorem aRe(Q:X.L8)(U:gs[0]?=Z a)(H2:FI X tag j τ f0 BU Sh0 S0 a w)(f:Fv X j gs w t W Sh0 S0 q BU BA)(H:Ip X.ty X.Wg w st GO)(Cs:Jd j (Co W) tag st GO){i:Nat}(hi:i<j){g g':AK}{es:Array By}{S':Nat->Prop}{K d:EO}(AB:gs[X.c0+i]?=Z g)(z:(W i).Fq=Z K)(N:(W i).wd.stage=7)(D:(W i).wd.deaf=0)(NC:(W i).wd.fuel=0)(lc:Be X.P A5 g w=aYE g' w' es)(m:GC (W i).Sh (W i).S w w' es S')(hlt:EO.lt d K)(Tb:Ki X.P A5 (W i).Sh (AtSend X i (W i).C (W i).HU (W i).val (W i).Sh) d S' g' w'):∃I ops y,MH X.P (Ea gs w sl) (X.c0+i)=(aYG I,ops)/\Kg (X.n+1) y (Gq X j W tag τ f0 q)/\Inv X y I (t++ops):=by
 have p:=f.pos;obtain⟨fz,Hl⟩:=f.aNh hi m;have sv:¬(W i).S X.Wg:=λx=>(f.ro.wg (X.c0+i) X.Wg (AF rfl)).1 ((Az.at p hi _).2 x);have rp:¬(W i).S X.Ch:=λx=>f.Jj (X.c0+i) X.Ch (AA ((Az.at p hi _).2 x)) rfl;have Dt:=f.JB.step (g:=X.c0+i) f.ro (by omega) m.size (X:=S') λb=>by rw[m.grow b,Az.at p hi b] (fn:=g.frame.fn) (pos:=g.frame.place) (es:=es) (by rw[Bq.Up p hi];exact m.evs);refine workerStep (sl:=sl) (e':={W i with Fq:=Z d,S:=S'}) Q U H2 f hi AB lc fz Hl ⟨N,D,NC,Tb⟩ ?_ ?_ ?_ (λe he=>qf (m.evs e he) _) λh=>by simp only at h;omega (m.same _ f.eY rp) (λb s=>?_) (by simp[z]) (λv M _ _ hv=>?_) (H.of_block (m.same _ (a6O H) sv)) (λK AH _=>?_) (.JW rfl z rfl hlt);·rw[Az.R1 p hi,Bq.R1 ({W i with Fq:=Z d,S:=S'}:Em) rfl];exact Dt.1
 ·rw[Az.R1 p hi,Bq.R1 ({W i with Fq:=Z d,S:=S'}:Em) rfl];exact Dt.2
 ·simp only[D];exact hj (λe he=>k3 (m.evs e he)) _
 ·rcases s with s|s
  ·rcases(m.grow b).1 s with A|A;·exact f.Jj (X.c0+i) b (AA ((Az.at p hi _).2 A))
   ·have:=f.eY;omega
  ·exact f.Jj (X.c0+i) b (AF ((Bq.at p hi _).2 s))
 ·obtain⟨_,h2⟩:=(f.Mm i).1 ⟨v,hv⟩;rw[z]at h2;cases h2
 ·have:Cq (Co W) i ({W i with Fq:=Z d,S:=S'}:Em).wd=Co W:=a6D (Co W) i;rw[this];exact Cs.retag AH
theorem aRd(Ai:X.L8)(A6:gs[0]?=Z a)(H2:FI X tag j τ f0 BU Sh0 S0 a w)(f:Fv X j gs w t W Sh0 S0 q BU BA)(Bl:Ip X.ty X.Wg w st GO)(Cs:Jd j (Co W) tag st GO){i:Nat}(hi:i<j){g:AK}{R4:EO}(AB:gs[X.c0+i]?=Z g)(d:(W i).Fq=Z R4)(FQ:(W i).wd.stage=7)(O8:(W i).wd.deaf=0)(Ev:AtSend X i (W i).C (W i).HU (W i).val (W i).Sh (W i).S g w):∃Ec ops μ',MH X.P (Ea gs w sl) (X.c0+i)=(aYG Ec,ops)/\Kg (X.n+1) μ' (Gq X j W tag τ f0 q)/\Inv X μ' Ec (t++ops):=by
 have I:=f.pos;have D:=H2.bound;obtain⟨Au,hC,v,z,es,M,fL,F9,U,Mb,kj⟩:=Ev;obtain⟨tm,Rs⟩:=f.chan;have LH:(X.c0+i==0)=A5:=by simp;omega
 have hlt:X.c0+i<gs.size:=by rw[f.size];omega
 have gA:(BA.map (·.2)).toArray.size<X.n:=by
  have PL:∀x∈BA.map (·.1),x<j/\x≠i:=by intro x hx;obtain⟨⟨x',A⟩,hm,rfl⟩:=List.mem_map.1 hx;obtain⟨Q,h2⟩:=(f.Mm x').1 ⟨A,hm⟩;refine⟨Q,λe=>?_⟩;subst e;rw[d]at h2;cases h2
  have Bz:(BA.map (·.1)).length+1<=j:=by
   have EH:(i::BA.map (·.1)).Nodup:=List.nodup_cons.2 ⟨λhx=>(PL i hx).2 rfl,f.nodup⟩;have sg:i::BA.map (·.1)⊆H9 j:=by
    intro x hx;rcases List.mem_cons.1 hx with rfl|hx;·exact List.mem_range.2 hi
    ·exact List.mem_range.2 (PL x hx).1
   have:=lx j _ EH λx hx=>List.mem_range.1 (sg hx);simpa using this
  simp at Bz⊢;omega
 have hp:partners (gs.setIfInBounds (X.c0+i) a7L) X.Ch A5=[]:=by
  refine partners_nil λk x hx=>?_;rcases getElem?_stand gs (X.c0+i) k x hx with⟨_,rfl⟩|⟨_,hx⟩;·rfl
  ·by_cases Jt:k=0
   ·subst Jt;rw[A6]at hx;obtain rfl:=D3 hx;rcases H2.status λ_=>AF trivial with⟨hs,_⟩|⟨_,_,A7⟩;·exact nd (by rw[hs];simp) _ _
    ·unfold aTw;simp[A7]
   ·rcases IW k X.c0 with hlt|MZ;·have:=(f.old k x (by omega) hlt hx).status;exact nd (by rcases this with h|h<;>rw[h]<;>simp) _ _
    ·have FV:k-X.c0<j:=by have:=(Array.getElem?_eq_some_iff.1 hx).1;rw[f.size]at this;omega
     obtain⟨y,hy,OF⟩:=f.wk (k-X.c0) FV;rw[show X.c0+(k-X.c0)=k by omega,hx]at hy;obtain rfl:=D3 hy;exact nd (by rcases OF.status with h|h<;>rw[h]<;>simp) _ _
 have Gj:=crowd_send_room (P:=X.P) (sl:=sl) (i:=X.c0+i) AB (by rw[LH];exact fL) Rs gA hp;have K:hg X.Ch w (w.setChan X.Ch X.n ((BA.map (·.2)).toArray.push v) A5 (BA.length+1) 0 tm):=⟨rfl,rfl,rfl,by simp[df],λk hk=>by simp only[df];rw[JF (JK hk)]⟩;generalize Ii:w.setChan X.Ch X.n ((BA.map (·.2)).toArray.push v) A5 (BA.length+1) 0 tm=w' at K Gj;have F0:∀g b,Az X j S0 W g b∨Bq X j Sh0 W g b->b≠X.Ch:=f.Jj;have Hl:∀s,s<j->Bx (W s).Sh (W s).S w w':=λs DJ=>cN K λb D=>f.Jj (X.c0+s) b (D.imp (Az.at I DJ b).2 (Bq.at I DJ b).2);have fz:Bx Sh0 S0 w w':=cN K λb D=>f.Jj 0 b (D.imp (Az.zero I b).2 (Bq.zero I b).2);have QT:Ip X.ty X.Wg w' st GO:=Bl.of_block (K.block _ (JK f.Ue));obtain⟨m,s8⟩:=kj w' (λb D=>(Hl i hi).same b (AA D)) ⟨_,_,QT⟩;have Ks:=H2.rely fz λ_=>⟨_,_,QT⟩;let H:Em:={W i with Fq:=J,wd:=⟨7,m,0⟩};have FE:Lh X.B7 (X.c0+j) w'.heap.size (Az X j S0 (Cq W i H)) (Bq X j Sh0 (Cq W i H)):=by rw[Az.cQ H rfl,Bq.R1 H rfl,K.size];exact f.ro
 have Bp:=f.JB.step (g:=X.c0+i) f.ro (by omega) (AX _) (X:=(W i).S) (λb=>by rw[Az.at I hi b];exact⟨AA,λh=>h.elim id λh=>by omega⟩) (fn:=g.frame.fn) (pos:=g.frame.place) (es:=es) (by rw[Bq.Up I hi];exact F9);have F':Pc (Az X j S0 W) (X.c0+i) (W i).S=Az X j S0 W:=by have:=Az.R1 (S0:=S0) (W:=W) I hi (W i);rw[<-this,a6D]
 rw[F']at Bp;refine⟨_,_,Gq X j (Cq W i H) tag τ f0 q,Gj,a4t hi (.stage ?_ ?_) (by omega) (AA rfl) (by omega),_,w',sl,j,Cq W i H,tag,τ,f0,BU,a,st,GO,Sh0,S0,q,BA++[(i,v)],rfl,?_,Ks,?_,QT,?_,rfl⟩
 ·show 7+K1 H<(W i).wd.stage+K1 (W i);have Q:K1 H=0:=rfl;have h2:K1 (W i)=1:=by simp[K1,d]
  omega
 ·show Fz (⟨7,m,0⟩:WD)<=Fz (W i).wd;simp[Fz,FQ]
 ·rw[JF (by omega)];exact A6
 ·have hu:∀N∈K6 (X.c0+i) g.frame.fn g.frame.place es++#[{g:=X.c0+i,fn:=g.frame.fn,pos:=g.frame.place,act:=.send X.Ch BA.length},{g:=X.c0+i,fn:=g.frame.fn,pos:=g.frame.place,act:=.sendDone X.Ch BA.length}],N.g=X.c0+i:=by
   intro N p;rcases Array.mem_append.1 p with p|p;·obtain⟨e,_,rfl⟩:=K5 p;rfl
   ·simp at p;rcases p with rfl|rfl<;>rfl
  refine f.zI hi (by simp) (by simp[hlt]) λk hk _=>by rw[JF (JK hk)] hu (λs DJ _=>Hl s DJ) (λ_=>⟨_,_,QT⟩) ⟨.r0 s8,hC⟩ FE ?_ ?_ ?_ λh=>by simp only[H]at h;omega ?_ (λb D=>f.Jj (X.c0+i) b (D.imp (Az.at I hi b).2 (Bq.at I hi b).2)) ?_ ?_ ?_;·rw[Az.cQ H rfl,Bq.R1 H rfl,K.size,<-a6h];refine Bp.2.NP f.ro (g:=X.c0+i) (by omega) λN p=>?_;simp at p;rcases p with rfl|rfl<;>exact⟨rfl,λx hx=>by cases hx⟩
  ·show Sj _ _=0;rw[<-a6h,Vi _ _ _ λN p=>by simp at p;rcases p with rfl|rfl<;>exact⟨by simp,by simp⟩,nV,f.deafW i hi,O8];exact hj (λe he=>k3 (F9 e he)) _
  ·intro N p;rcases Array.mem_append.1 p with p|p;·exact w7 (λe he=>qf (F9 e he) _) N p
   ·simp at p;rcases p with rfl|rfl<;>simp
  ·refine⟨tm,?_⟩;rw[<-Ii];simp[df,f.eY]
  ·intro s;by_cases e:s=i;·subst e;rw[Fs];exact⟨λ_=>⟨hi,rfl⟩,λ_=>⟨v,by simp⟩⟩
   ·rw[GQ W _ e,<-f.Mm s];constructor
    ·rintro⟨A,h⟩;rcases List.mem_append.1 h with h|h;·exact⟨A,h⟩
     ·simp at h;exact absurd h.1 e
    ·rintro⟨A,h⟩;exact⟨A,List.mem_append.2 (AA h)⟩
  ·rw[List.map_append];refine List.nodup_append.2 ⟨f.nodup,by simp,?_⟩;intro x hx y hy;simp at hy;subst hy;obtain⟨⟨x',A⟩,hm,rfl⟩:=List.mem_map.1 hx;obtain⟨_,h2⟩:=(f.Mm x').1 ⟨A,hm⟩;intro e;simp only at e;subst e;rw[d]at h2;cases h2
  ·intro s A hv;by_cases e:s=i
   ·subst e;rw[Fs];rcases List.mem_append.1 hv with hv|hv;·obtain⟨_,h2⟩:=(f.Mm s).1 ⟨A,hv⟩;rw[d]at h2;cases h2
    ·simp at hv;subst hv;exact⟨M,U,Ai s A M w w' (λb D=>(Hl s hi).same b (AA (U b D).1)) Mb⟩
   ·rw[GQ W _ e];rcases List.mem_append.1 hv with hv|hv;·obtain⟨yT,Q,h2⟩:=f.msg s A hv;obtain⟨GY,_⟩:=(f.Mm s).1 ⟨A,hv⟩;exact⟨yT,Q,Ai s A yT w w' (λb D=>(Hl s GY).same b (AA (Q b D).1)) h2⟩
    ·simp at hv;exact absurd hv.1 e
 ·rw[hK];refine Cs.congr λa' _=>?_;by_cases e:a'=i;·subst e;rw[Fs];exact FQ.symm
  ·rw[GQ _ _ e]
end
end
section
open Go.Conc(G solo Deaf QuitsD Goes scase semEvents NoRelease crowd woken Aside Deaf_other touchAt touchAt_of touch_of getElem?_append_cases)
open Go.ConcN(WgLive upd upd_same upd_ne WD WSit CTag Vc Ssum Fsum cnt pend phi sumTo sumTo_upd RelBy RW OpenSt AllQuit isW3 Vc_upd Vc_le others_uncounted bk_cell)
open Go.ConcR(KK WgAt stA smA rd wr mk Payload Bk bk_of_mute ofEvent_loc_mark)
variable{e:By}{Wg:Nat}
variable[Ck]
omit[Ck]in theorem ja(h:Bk Wg e){x:Touch}(hx:(KZ e).touch?=Z x):Fu x.loc Wg/\x.kind=.atomic:=by
 rcases h with h|h|⟨a,wr,rfl,h⟩;·rw[a7p h]at hx;cases hx
 ·rw[a7p h]at hx;cases hx
 ·simp only[KZ,aS,W5]at hx;subst hx;exact⟨AA ⟨a,rfl,h⟩,rfl⟩
omit[Ck]in theorem zE(h:Bk Wg e)(a:Aa):e.loc≠aY_ (aYc a):=by
 rcases h with h|h|⟨b,wr,rfl,_⟩;·rw[h];simp
 ·rw[h];simp
 ·simp
omit[Ck]in theorem Ou.own{Wb:Nat->Prop}{t:DX}{a:Aa}{k r:Nat}(h:Ou Wb t a k r){u:DX}(z:RelBy a (t++u) k r)(hu:∀e∈u,∀x,e.act.touch?=Z x->∃b,Wb b/\Fu x.loc b):Ou Wb (t++u) a k r:=by
 refine⟨z,λi x hx m hn=>?_⟩;obtain⟨e,p,f⟩:=nm hx;rcases UB p with⟨hi,s⟩|⟨_,y⟩;·exact h.before i x (by rw[nk s];exact f) (by rw[<-dA (u:=u) hi];exact m) hn
 ·exact absurd (hu e y x f) hn
section
variable{X:Gw}{j:Nat}{gs:Array AK}{w w':A'}{sl:Option (Nat×Nat)}{t:DX}{W:Nat->Em}{tag:Oa}{τ:EO}{f0 BU:Nat}{a:AK}{Sh0 S0:Nat->Prop}{q:Nat->Nat}{BA:List (Nat×A1)}{st GO:Int}
omit[Ck]in theorem aMj{D:Nat->WD}{i:Nat}(hi:i<j)(K:(D i).stage=5)(U:Jd j D tag st GO)(y:j+KW tag<=X.n)(hn:X.n<2147483648):∃v s:Nat,s<=1/\v<2147483647/\st=((v:Int)+1)*KK+s/\GO=0/\(v=0/\s=1->∀m,Jd j (Cq D i ⟨4,m,1⟩) tag ((v:Int)*KK+s) 0)/\(¬(v=0/\s=1)->∀m,Jd j (Cq D i ⟨1,m,1⟩) tag ((v:Int)*KK+s) 0):=by
 have Q:Fz (D i)=1:=by simp[Fz,K]
 have M:1<=Vc j D:=by have:=dF (f:=λx=>Fz (D x)) hi;simp only[Vc];omega
 have N:=Vc_le j D;have z:∀m,w5 j D->w5 j (Cq D i ⟨1,m,1⟩):=λm h b y=>by
  by_cases e:b=i;·subst e;rw[Fs];simp
  ·rw[GQ D _ e];exact h b y
 have C:∀m,Vc j (Cq D i ⟨1,m,1⟩)+1=Vc j D:=λm=>by have:=Vc_upd D (⟨1,m,1⟩:WD) hi;have A:Fz (⟨1,m,1⟩:WD)=0:=rfl;omega
 cases U with
 |opn p h2 h3=>
  refine⟨Vc j D+KW tag-1,0,by omega,by omega,?_,rfl,λh=>by omega,λ_ m=>?_⟩
  ·have:((Vc j D+KW tag-1:Nat):Int)+1=((Vc j D+KW tag:Nat):Int):=by omega
   rw[this];simp
  ·have e:Vc j D+KW tag-1=Vc j (Cq D i ⟨1,m,1⟩)+KW tag:=by have:=C m;omega
   have:=a7R (j:=j) (D:=Cq D i ⟨1,m,1⟩) (tag:=tag) p (z m h2) (λL' I=>by have:=h3 L' I;have:=C m;omega);rw[e];simpa using this
 |reg p h2 h3=>
  have hp:KW tag=0:=by cases tag<;>first|rfl|exact p.elim
  refine⟨Vc j D-1,1,by omega,by omega,?_,rfl,λhv m=>?_,λhv m=>?_⟩
  ·have:((Vc j D-1:Nat):Int)+1=((Vc j D:Nat):Int):=by omega
   rw[this];simp
  ·have H:Vc j D=1:=by omega
   have Hc:=others_uncounted hi H Q;have:=vz (j:=j) (D:=Cq D i ⟨4,m,1⟩) (tag:=tag) i p hi (by rw[Fs];simp) (λb y e=>by
    rw[GQ D _ e];have A:=Hc b y e;have:=h2 b y;simp only[Fz]at A;split at A;·cases A
    ·omega);rw[Fs]at this;rw[hv.1];simpa using this
  ·have e:Vc j D-1=Vc j (Cq D i ⟨1,m,1⟩):=by have:=C m;omega
   have:=aTz (j:=j) (D:=Cq D i ⟨1,m,1⟩) (tag:=tag) p (z m h2) (by have:=C m;omega);rw[e];simpa using this
 |last L p h2 h3 h4=>
  by_cases e:i=L;·subst e;omega
  ·have:=h4 i hi e;omega
 |sema h2=>have:=h2 i hi;omega
 |fin _ h2=>have:=h2 i hi;omega
theorem aRc(Ai:X.L8)(hn:X.n<2147483648)(A6:gs[0]?=Z a)(H2:FI X tag j τ f0 BU Sh0 S0 a w)(I:Fv X j gs w t W Sh0 S0 q BU BA)(K:Ip X.ty X.Wg w st GO)(Cs:Jd j (Co W) tag st GO){i:Nat}(hi:i<j){g:AK}(AB:gs[X.c0+i]?=Z g)(Au:g.status=aYF)(HT:(W i).Fq=J)(si:Is X i (W i) g w):∃Ec ops Q,MH X.P (Ea gs w sl) (X.c0+i)=(aYG Ec,ops)/\Kg (X.n+1) Q (Gq X j W tag τ f0 q)/\Inv X Q Ec (t++ops):=by
 have U:=I.pos;have f:=H2.bound;unfold Is at si;rw[HT]at si;obtain⟨hs,hC⟩:=si;have aGT:(W i).C≠X.Wg:=λe=>(I.ro.wg (X.c0+i) X.Wg (AF rfl)).1 ((Az.at U hi _).2 (e▸hC));have aGR:(W i).C≠X.Ch:=I.Jj (X.c0+i) _ (AA ((Az.at U hi _).2 hC));have FU:∀b,(W i).S b∨(W i).Sh b->b≠X.Ch:=λb f=>I.Jj (X.c0+i) b (f.imp (Az.at U hi b).2 (Bq.at U hi b).2);have fE:∀g' b,Az X j S0 W g' b∨Bq X j Sh0 W g' b->b≠X.Wg:=λg' b f e=>by
  have:=I.ro.wg g' X.Wg (AF rfl);subst e;rcases f with f|f;·exact this.1 f
  ·exact this.2 f
 generalize sh:(W i).wd.stage=s at hs;generalize aVJ:(W i).wd.fuel=m at hs;generalize ry:(W i).wd.deaf=Uh at hs;have a0L:Sj t (X.c0+i)=Uh:=by rw[I.deafW i hi,ry]
 have EG:(Co W i).stage=s:=sh;have book:∀{g':AK}{w':A'}{es:Array By}{D9 d TE:Nat}{OU OT:Int},Be X.P A5 g w=aYE g' w' es->hg X.Wg w w'->Ip X.ty X.Wg w' OU OT->(∀e∈es,(∀x,(KZ e).touch?=Z x->Fu x.loc X.Wg/\x.kind=.atomic)/\e.loc≠aY_ (aYc (Ef X.Wg)))->WSit X.P X.ty X.Wg (W i).C (W i).HU Qk Qk 0 1 (W i).val D9 d TE g' w'->MG Uh es=TE->(D9<=6->∃r,Ou X.B7 (t++K6 (X.c0+i) g.frame.fn g.frame.place es) (Ef X.Wg) (X.c0+i) r)->(∀y,y=tag∨tag=aYj/\y=.w3->(xf X.P g=A0->g'.status=aYF->y≠aYj)->Jd j (Cq (Co W) i ⟨D9,d,TE⟩) y OU OT)->D9<s/\Fz ⟨D9,d,TE⟩<=Fz (W i).wd∨D9=s/\d+1=m->∃Ec ops Q,MH X.P (Ea gs w sl) (X.c0+i)=(aYG Ec,ops)/\Kg (X.n+1) Q (Gq X j W tag τ f0 q)/\Inv X Q Ec (t++ops):=by
  intro g' w' es D9 d TE OU OT p Ib QT F9 Mc Yv hrel fi hlt;let e':Em:={W i with wd:=⟨D9,d,TE⟩};refine workerStep (sl:=sl) (e':=e') Ai A6 H2 I hi AB p (cN Ib λb f=>fE 0 b (f.imp (Az.zero U b).2 (Bq.zero U b).2)) (λAv DJ _=>cN Ib λb f=>fE (X.c0+Av) b (f.imp (Az.at U DJ b).2 (Bq.at U DJ b).2)) ?_ ?_ ?_ (by rw[ry];exact Yv) (λe he=>(F9 e he).2) hrel (Ib.block _ I.Ue) FU UR (λv M h1 h2 _=>⟨h1,Ai i v M w w' (λb f=>Ib.block b (fE (X.c0+i) b (AA ((Az.at U hi b).2 (h1 b f).1)))) h2⟩) QT fi ?_;·unfold Is;simp only[e',HT];exact⟨Mc,hC⟩
  ·rw[Az.cQ e' rfl,Bq.R1 e' rfl,Ib.size];exact I.ro
  ·rw[Az.cQ e' rfl,Bq.R1 e' rfl,Ib.size];refine I.JB.NP I.ro (g:=X.c0+i) (by omega) λop f1=>?_;obtain⟨e,he,rfl⟩:=K5 f1;refine⟨rfl,λx hx=>?_⟩;obtain⟨h1,h2⟩:=(F9 e he).1 x hx;exact⟨⟨X.Wg,AF rfl,h1⟩,by rw[h2];simp,λe=>by rw[h2]at e;cases e⟩
  ·rcases hlt with⟨h1,h2⟩|⟨h1,h2⟩;·exact .stage (by show D9+K1 e'<_+_;have:K1 e'=K1 (W i):=rfl;omega) h2
   ·exact .fuel (by show D9=_;omega) rfl (by show d+1=_;omega)
 have NP:∀{es:Array By},(∀e∈es,Bk X.Wg e)->∀e∈es,(∀x,(KZ e).touch?=Z x->Fu x.loc X.Wg/\x.kind=.atomic)/\e.loc≠aY_ (aYc (Ef X.Wg)):=λz e he=>⟨λx hx=>ja (z e he) hx,zE (z e he) _⟩;have XL:∀{es:Array By},s<=6->(∀e∈es,Bk X.Wg e)->(∀H e,es[H]?=Z e->(KZ e).touch?=J∨0<MG Uh (es.extract 0 H))->∃r,Ou X.B7 (t++K6 (X.c0+i) g.frame.fn g.frame.place es) (Ef X.Wg) (X.c0+i) r:=by intro es Cz z AT;obtain⟨r,A2⟩:=I.rel i hi (by omega);refine⟨r,A2.own (A2.rel.book a0L _ _ z AT) λop f1 x hx=>?_⟩;obtain⟨e,he,rfl⟩:=K5 f1;exact⟨X.Wg,AF rfl,(ja (z e he) hx).1⟩
 have same:∀d TE,Jd j (Cq (Co W) i ⟨s,d,TE⟩) tag st GO:=λd TE=>by have:=Cs.same (i:=i) d TE;rwa[EG]at this
 have N:∀{g':AK}{d:Nat},Be X.P A5 g w=aYE g' w #[]->WSit X.P X.ty X.Wg (W i).C (W i).HU Qk Qk 0 1 (W i).val s d Uh g' w->d+1=m->s<=6->∃Ec ops Q,MH X.P (Ea gs w sl) (X.c0+i)=(aYG Ec,ops)/\Kg (X.n+1) Q (Gq X j W tag τ f0 q)/\Inv X Q Ec (t++ops):=λp Mc hm Cz=>book p (aYW X.Wg w) K (by simp) Mc rfl (λ_=>XL Cz (by simp) (by simp)) (λ_ A _=>(same _ Uh).retag A) (AF ⟨rfl,hm⟩);cases hs with
 |r0 h=>
  rcases KV h with FM|⟨d,rfl,Dt⟩
  ·obtain⟨_,_,g',p,IH,hk⟩:=FM w (LZ w);refine book p (aYW X.Wg w) K (by intro e he;simp at he;subst he;exact⟨λx hx=>(by cases hx),by simp[Ng]⟩) (.k1 hk) rfl (λ_=>⟨t.size,RelBy.new a0L _ _,λl x hx Fl sS=>?_⟩) (λ_ A _=>(Cs.counted hi (by omega) (AA rfl) _ _).retag A) (AA ⟨by omega,by simp[Fz,sh]⟩);obtain⟨op,A7,V5⟩:=nm hx;rcases UB A7 with⟨A9,_⟩|⟨_,TX⟩;·exact A9
   ·obtain⟨e,he,rfl⟩:=K5 TX;simp at he;subst he;cases V5
  ·obtain⟨g',w',es,p,⟨Rp,PD⟩,EP⟩:=Dt w (LZ w);have Rp:aTx (W i).C (W i).HU 0 w w':=Rp;let e':Em:={W i with wd:=⟨7,d,0⟩};have a1A:∀{Sh S:Nat->Prop},(∀b,S b∨Sh b->b≠(W i).C)->Bx Sh S w w':=λmd=>⟨by rw[Rp.size];exact AX _,λb f=>Rp.block b (md b f),Rp.os,Rp.output⟩;have a'l:∀g',g'≠X.c0+i->∀b,Az X j S0 W g' b∨Bq X j Sh0 W g' b->b≠(W i).C:=λg' md b f e=>by
    subst e;have a'k:Az X j S0 W (X.c0+i) (W i).C:=(Az.at U hi _).2 hC;rcases f with f|f;·exact md (I.ro.apart _ _ _ f a'k)
    ·exact I.ro.SV _ _ _ a'k f
   have aHw:∀e∈es,∀x,(KZ e).touch?=Z x->Fu x.loc X.Wg/\x.kind≠.plain/\x.kind≠.said:=λe he x hx=>by
    obtain⟨_,h2⟩:=(PD e he).1 0 "";rcases h2 x hx with⟨⟨a,h3,h4⟩,BH,Cz⟩|h3|⟨h3,_⟩;·exact⟨AA ⟨a,h3,h4⟩,BH,Cz⟩
    ·exact h3.elim
    ·exact h3.elim
   refine workerStep (sl:=sl) (e':=e') Ai A6 H2 I hi AB p (a1A λb f=>a'l 0 (by omega) b (f.imp (Az.zero U b).2 (Bq.zero U b).2)) (λAv DJ md=>a1A λb f=>a'l (X.c0+Av) (by omega) b (f.imp (Az.at U DJ b).2 (Bq.at U DJ b).2)) ?_ ?_ ?_ ?_ (λe he=>(PD e he).2.2.2) λh=>by simp only[e']at h;omega (Rp.block _ (JK aGR)) FU UR (λv M h1 h2 _=>⟨h1,Ai i v M w w' (λb f=>Rp.block b (h1 b f).2) h2⟩) (K.of_block (Rp.block _ (JK aGT))) (λy A _=>?_) (.fuel ?_ rfl ?_);·unfold Is;simp only[e',HT];exact⟨.r0 EP,hC⟩
   ·rw[Az.cQ e' rfl,Bq.R1 e' rfl,Rp.size];exact I.ro
   ·rw[Az.cQ e' rfl,Bq.R1 e' rfl,Rp.size];refine I.JB.NP I.ro (g:=X.c0+i) (by omega) λop f1=>?_;obtain⟨e,he,rfl⟩:=K5 f1;refine⟨rfl,λx hx=>?_⟩;obtain⟨h1,h2,h3⟩:=aHw e he x hx;exact⟨⟨X.Wg,AF rfl,h1⟩,h2,λe=>absurd e h3⟩
   ·rw[ry];exact hj (λe he=>⟨(PD e he).2.1,(PD e he).2.2.1⟩) 0
   ·exact(same d 0).retag A
   ·show 7=_;omega
   ·show d+1=_;omega
 |k1 h=>
  rcases KV h with FM|⟨d,rfl,Dt⟩
  ·obtain⟨_,g',p,IH,hk⟩:=FM w (LZ w);have z:∀e∈#[Ng aYp],Bk X.Wg e:=by intro e he;simp at he;subst he;exact AA rfl
   exact book p (aYW X.Wg w) K (NP z) (.d1 hk) rfl (λ_=>XL (by omega) z (by intro H e he;exact AA (by have:=cm he;simp at this;subst this;rfl))) (λ_ A _=>(Cs.counted hi (by omega) (AF rfl) _ _).retag A) (AA ⟨by omega,by simp[Fz,sh]⟩)
  ·obtain⟨g',w',es,p,⟨rfl,rfl⟩,EP⟩:=Dt w (LZ w);exact N p (.k1 EP) rfl (by omega)
 |d1 h=>
  rcases KV h with FM|⟨d,rfl,Dt⟩
  ·obtain⟨_,Jp⟩:=FM w (LZ w);obtain⟨v,Va,aJJ,hv,rfl,rfl,aI_,QQ⟩:=aMj (X:=X) hi EG Cs f hn;obtain⟨g',p,A9,AD⟩:=Jp v Va aJJ hv K;have z:∀e∈#[rd (Ef X.Wg),wr (Ef X.Wg)],Bk X.Wg e:=by intro e he;simp at he;rcases he with rfl|rfl<;>exact w6 _ _ rfl
   have a0K:∀H e,(#[rd (Ef X.Wg),wr (Ef X.Wg)]:Array By)[H]?=Z e->(KZ e).touch?=J∨0<MG 1 ((#[rd (Ef X.Wg),wr (Ef X.Wg)]:Array By).extract 0 H):=by intro H e he;match H,he with|0,_=>exact AF (by simp[MG])|1,_=>exact AF (by simp[MG,rd])|H+2,he=>simp at he
   by_cases S1:v=0/\Va=1;·obtain⟨IH,hk⟩:=A9 S1;exact book p (aM w (Ef X.Wg) _) (K.setSt _) (NP z) (.d2 hk) rfl (λ_=>XL (by omega) z a0K) (λ_ A _=>(aI_ S1 _).retag A) (AA ⟨by omega,by simp[Fz]⟩)
   ·obtain⟨DQ,hk⟩:=AD S1;exact book p (aM w (Ef X.Wg) _) (K.setSt _) (NP z) (.quit hk) rfl (λ_=>XL (by omega) z a0K) (λ_ A _=>(QQ S1 _).retag A) (AA ⟨by omega,by simp[Fz]⟩)
  ·obtain⟨g',w',es,p,⟨rfl,rfl⟩,EP⟩:=Dt w (LZ w);exact N p (.d1 EP) rfl (by omega)
 |d2 h=>
  rcases KV h with FM|⟨d,rfl,Dt⟩
  ·obtain⟨_,hx⟩:=FM w (LZ w);obtain⟨Uv,Hc,rfl,rfl⟩:=Cs.isLast hi (by omega);simp only[EG]at K;obtain⟨g',p,IH,hk⟩:=hx (by simpa using K);have z:∀e∈#[rd (Ef X.Wg)],Bk X.Wg e:=by intro e he;simp at he;subst he;exact w6 _ _ rfl
   refine book p (aYW X.Wg w) K (NP z) (.d3 hk) rfl (λ_=>XL (by omega) z (by intro H e he;match H,he with|0,_=>exact AF (by simp[MG])|H+1,he=>simp at he)) (λ_ A _=>?_) (AA ⟨by omega,by simp[Fz]⟩);have:=vz (j:=j) (D:=Cq (Co W) i ⟨3,IH,1⟩) (tag:=tag) i Uv hi (by rw[Fs];simp) (λb f e=>by rw[GQ _ _ e];exact Hc b f e);rw[Fs]at this;exact a7S (by simpa using this) A
  ·obtain⟨g',w',es,p,⟨rfl,rfl⟩,EP⟩:=Dt w (LZ w);exact N p (.d2 EP) rfl (by omega)
 |d3 h=>
  rcases KV h with FM|⟨d,rfl,Dt⟩
  ·obtain⟨_,hx⟩:=FM w (LZ w);obtain⟨Uv,Hc,rfl,rfl⟩:=Cs.isLast hi (by omega);simp only[EG]at K;obtain⟨g',p,IH,hk⟩:=hx (by simpa using K);have z:∀e∈#[wr (Ef X.Wg)],Bk X.Wg e:=by intro e he;simp at he;subst he;exact w6 _ _ rfl
   refine book p (aM w (Ef X.Wg) _) (K.setSt 0) (NP z) (.d4 hk) rfl (λ_=>XL (by omega) z (by intro H e he;match H,he with|0,_=>exact AF (by simp[MG])|H+1,he=>simp at he)) (λ_ A _=>?_) (AA ⟨by omega,by simp[Fz]⟩);have:=vz (j:=j) (D:=Cq (Co W) i ⟨2,IH,1⟩) (tag:=tag) i Uv hi (by rw[Fs];simp) (λb f e=>by rw[GQ _ _ e];exact Hc b f e);rw[Fs]at this;exact a7S (by simpa using this) A
  ·obtain⟨g',w',es,p,⟨rfl,rfl⟩,EP⟩:=Dt w (LZ w);exact N p (.d3 EP) rfl (by omega)
 |d4 h=>
  rcases KV h with FM|⟨d,rfl,Dt⟩
  ·obtain⟨_,aIH,hx⟩:=FM w (LZ w);obtain⟨Uv,Hc,rfl,rfl⟩:=Cs.isLast hi (by omega);simp only[EG]at K;obtain⟨g',p,DQ,AD⟩:=hx (by simpa using K);have aIm:g'.status=aYF:=by cases DQ with|zero=>exact absurd AD.2 (by decide)|succ DQ=>exact AD.elim (λx=>absurd x.2 (by decide)) λx=>x.1
   have z:∀e∈Xe (Vk X.Wg),Bk X.Wg e:=Go.ConcN.bk_sem;refine book p (aM w (Vk X.Wg) _) (K.setSm 1) (NP z) (.quit AD) (by simp[MG,Xe]) (λ_=>XL (by omega) z ?_) (λy A d0=>?_) (AA ⟨by omega,by simp[Fz]⟩);·intro H e he;match H,he with|0,he=>simp[Xe]at he;subst he;exact AA rfl|1,_=>exact AF (by simp[MG,Xe])|2,_=>exact AF (by simp[MG,Xe])|3,he=>simp[Xe]at he;subst he;exact AA rfl|H+4,he=>simp[Xe]at he
   ·have PH:=d0 aIH aIm;have DF:y=.w3:=by
     rcases A with rfl|⟨_,rfl⟩;·cases y<;>first|rfl|exact Uv.elim|exact absurd rfl PH
     ·rfl
    subst DF;simp only[if_true];exact .sema λb f=>by
     by_cases e:b=i;·subst e;rw[Fs]
     ·rw[GQ _ _ e];exact Hc b f e
  ·obtain⟨g',w',es,p,⟨rfl,rfl⟩,EP⟩:=Dt w (LZ w);exact N p (.d4 EP) rfl (by omega)
 |quit h=>
  cases m with
  |zero=>rw[h.1]at Au;cases Au
  |succ DQ=>
   rcases h with⟨AE,_⟩|⟨_,g',es,a0t,Dt,AD⟩;·rw[AE]at Au;cases Au
   ·have z:∀e∈es,Bk X.Wg e:=λe he=>bk_of_mute (a0t e he);exact book (Dt w) (aYW X.Wg w) K (NP z) (.quit AD) rfl (λ_=>XL (by omega) z λH e he=>AA (nl (a0t e (cm he)))) (λ_ A _=>(same DQ _).retag A) (AF ⟨rfl,rfl⟩)
end
end
section
open Go.Conc(G solo Deaf QuitsD Goes scase semEvents NoRelease crowd woken Aside Leavers touchAt Perm)
open Go.ConcN(WgLive upd upd_same upd_ne WD WSit CTag Vc Ssum Fsum cnt pend phi PermW AllQuit)
open Go.ConcR(KK WgAt stA smA rd wr mk Payload)
variable[Ck]
section
variable{X:Gw}{j:Nat}{gs:Array AK}{w w':A'}{sl:Option (Nat×Nat)}{t:DX}{W:Nat->Em}{Sh S Sh0 S0 Kh IA:Nat->Prop}{q:Nat->Nat}{BU:Nat}{BA:List (Nat×A1)}
omit[Ck]in theorem Az.ZN(f:0<X.c0)(e:Em){i:Nat}(hi:i<j)(b:Nat):Az X (j+1) S0 (Cq W j e) (X.c0+i) b↔(W i).S b:=by rw[Az.at f (by omega),GQ W _ (by omega)]
omit[Ck]in theorem Az.ZM(f:0<X.c0)(e:Em)(b:Nat):Az X (j+1) S0 (Cq W j e) (X.c0+j) b↔e.S b:=by rw[Az.at f (by omega),Fs]
omit[Ck]in theorem Bq.ZN(f:0<X.c0)(e:Em){i:Nat}(hi:i<j)(b:Nat):Bq X (j+1) Sh0 (Cq W j e) (X.c0+i) b↔(W i).Sh b:=by rw[Bq.at f (by omega),GQ W _ (by omega)]
omit[Ck]in theorem Bq.ZM(f:0<X.c0)(e:Em)(b:Nat):Bq X (j+1) Sh0 (Cq W j e) (X.c0+j) b↔e.Sh b:=by rw[Bq.at f (by omega),Fs]
omit[Ck]in theorem Az.cc{g b:Nat}(h:Az X j S0 W g b∨Bq X j Sh0 W g b):g=0∨∃i,i<j/\g=X.c0+i:=by
 rcases h with(⟨h,_⟩|⟨i,e,h2,_⟩)|(⟨h,_⟩|⟨i,e,h2,_⟩);·exact AA h
 ·exact AF ⟨i,e,h2⟩
 ·exact AA h
 ·exact AF ⟨i,e,h2⟩
omit[Ck]in theorem Lh.spawn(C:0<X.c0){B:Nat}(R:Lh X.B7 (X.c0+j) B (Az X j S W) (Bq X j Sh W))(s:Split Sh S Sh0 S0 Kh IA)(e:Em)(he:e.S=IA)(fN:e.Sh=Kh):Lh X.B7 (X.c0+(j+1)) B (Az X (j+1) S0 (Cq W j e)) (Bq X (j+1) Sh0 (Cq W j e)):=by
 have z:∀b,Az X j S W 0 b↔S b:=Az.zero C;have U:∀b,Bq X j Sh W 0 b↔Sh b:=Bq.zero C;have z0:∀b,Az X (j+1) S0 (Cq W j e) 0 b↔S0 b:=Az.zero C;have aTl:∀b,Bq X (j+1) Sh0 (Cq W j e) 0 b↔Sh0 b:=Bq.zero C;have o:∀{i},i<j->∀b,Az X j S W (X.c0+i) b↔(W i).S b:=λhi=>Az.at C hi;have Q:∀{i},i<j->∀b,Bq X j Sh W (X.c0+i) b↔(W i).Sh b:=λhi=>Bq.at C hi;have N:∀b,Az X (j+1) S0 (Cq W j e) (X.c0+j) b↔IA b:=λb=>by rw[Az.ZM C,he]
 have aMq:∀b,Bq X (j+1) Sh0 (Cq W j e) (X.c0+j) b↔Kh b:=λb=>by rw[Bq.ZM C,fN]
 have M:∀g b,Az X (j+1) S0 (Cq W j e) g b->g=0/\S0 b/\S b∨g=X.c0+j/\IA b/\S b∨∃i,i<j/\g=X.c0+i/\(W i).S b:=by
  intro g b A;rcases Az.cc (Sh0:=Sh0) (AA A)with rfl|⟨i,hi,rfl⟩;·exact AA ⟨rfl,(z0 b).1 A,s.HY b ((z0 b).1 A)⟩
  ·by_cases e1:i=j;·subst e1;exact AF (AA ⟨rfl,(N b).1 A,s.ui b ((N b).1 A)⟩)
   ·exact AF (AF ⟨i,by omega,rfl,(Az.ZN C e (by omega) b).1 A⟩)
 have tE:∀g b,Bq X (j+1) Sh0 (Cq W j e) g b->g=0/\(Sh b∨Kh b)∨g=X.c0+j/\Kh b∨∃i,i<j/\g=X.c0+i/\(W i).Sh b:=by
  intro g b A;rcases Az.cc (S0:=S0) (AF A)with rfl|⟨i,hi,rfl⟩;·exact AA ⟨rfl,(s.ur b).1 ((aTl b).1 A)⟩
  ·by_cases e1:i=j;·subst e1;exact AF (AA ⟨rfl,(aMq b).1 A⟩)
   ·exact AF (AF ⟨i,by omega,rfl,(Bq.ZN C e (by omega) b).1 A⟩)
 have D:∀{i b},i<j->(W i).S b->¬S b/\¬Sh b:=λ{i b}hi hs=>⟨λh=>by have:=R.apart _ _ b ((o hi b).2 hs) ((z b).2 h);omega,λh=>R.SV _ _ b ((o hi b).2 hs) ((U b).2 h)⟩;refine⟨λg h b x y=>?_,λg h b x y=>?_,λg b K=>⟨λx=>?_,λx=>?_⟩,λg b x=>?_,λg b x=>?_,R.OW⟩
 ·rcases M g b x with⟨rfl,f,p⟩|⟨rfl,f,p⟩|⟨i,hi,rfl,f⟩<;>rcases M h b y with⟨rfl,m,Bi⟩|⟨rfl,m,Bi⟩|⟨Av,I,rfl,m⟩;·rfl
  ·exact absurd m (s.apart b f)
  ·exact absurd p (D I m).1
  ·exact absurd f (s.apart b m)
  ·rfl
  ·exact absurd p (D I m).1
  ·exact absurd Bi (D hi f).1
  ·exact absurd Bi (D hi f).1
  ·exact R.apart _ _ b ((o hi b).2 f) ((o I b).2 m)
 ·rcases M g b x with⟨rfl,f,p⟩|⟨rfl,f,p⟩|⟨i,hi,rfl,f⟩<;>rcases tE h b y with⟨rfl,m⟩|⟨rfl,m⟩|⟨Av,I,rfl,m⟩
  ·rcases m with m|m;·exact R.SV _ _ b ((z b).2 p) ((U b).2 m)
   ·exact s.a0 b f m
  ·exact s.a0 b f m
  ·exact R.SV _ _ b ((z b).2 p) ((Q I b).2 m)
  ·rcases m with m|m;·exact(s.ac b f).2 m
   ·exact(s.ac b f).1 m
  ·exact(s.ac b f).1 m
  ·exact R.SV _ _ b ((z b).2 p) ((Q I b).2 m)
  ·rcases m with m|m;·exact(D hi f).2 m
   ·rcases s.VT b m with H|H;·exact(D hi f).1 H
    ·exact(D hi f).2 H
  ·rcases s.VT b m with H|H;·exact(D hi f).1 H
   ·exact(D hi f).2 H
  ·exact R.SV _ _ b ((o hi b).2 f) ((Q I b).2 m)
 ·rcases M g b x with⟨_,_,p⟩|⟨_,_,p⟩|⟨i,hi,_,f⟩;·exact(R.wg 0 b K).1 ((z b).2 p)
  ·exact(R.wg 0 b K).1 ((z b).2 p)
  ·exact(R.wg _ b K).1 ((o hi b).2 f)
 ·have B_:¬S b/\¬Sh b:=⟨λh=>(R.wg 0 b K).1 ((z b).2 h),λh=>(R.wg 0 b K).2 ((U b).2 h)⟩;have hc:¬Kh b:=λh=>(s.VT b h).elim B_.1 B_.2;rcases tE g b x with⟨_,f⟩|⟨_,f⟩|⟨i,hi,_,f⟩;·exact f.elim B_.2 hc
  ·exact hc f
  ·exact(R.wg _ b K).2 ((Q hi b).2 f)
 ·have B_:S b∨Sh b->b<B:=λh=>h.elim (λh=>R.low 0 b (AA ((z b).2 h))) λh=>R.low 0 b (AF ((U b).2 h));rcases x with x|x
  ·rcases M g b x with⟨_,_,p⟩|⟨_,_,p⟩|⟨i,hi,_,f⟩;·exact B_ (AA p)
   ·exact B_ (AA p)
   ·exact R.low _ b (AA ((o hi b).2 f))
  ·rcases tE g b x with⟨_,f⟩|⟨_,f⟩|⟨i,hi,_,f⟩;·exact f.elim (λh=>B_ (AF h)) λh=>B_ (s.VT b h)
   ·exact B_ (s.VT b f)
   ·exact R.low _ b (AF ((Q hi b).2 f))
 ·rcases Az.cc x with rfl|⟨i,hi,rfl⟩<;>omega
theorem Fv.spawn(h:Fv X j gs w t W Sh S q 0 BA)(A:Split Sh S Sh0 S0 Kh IA){a' child:AK}{x y:aZI}(hx:x.g=0/\x.act=.go (X.c0+j))(hy:y.g=X.c0+j/\y.act=.start){e:Em}(he:e.S=IA)(N:e.Sh=Kh)(H:e.wd=⟨7,0,0⟩)(HT:e.Fq≠J)(hc:Is X j e child w):Fv X (j+1) ((gs.setIfInBounds 0 a').push child) w (t++#[x,y]) (Cq W j e) Sh0 S0 q 0 BA:=by
 have m:=h.pos;have hm:∀s∈#[x,y],s=x∨s=y:=by intro s p;simpa using p
 have Bp:∀s∈#[x,y],s.act≠aYd aYp/\s.act≠aYd .enable:=by
  intro s p;rcases hm s p with rfl|rfl;·rw[hx.2];exact⟨by simp,by simp⟩
  ·rw[hy.2];exact⟨by simp,by simp⟩
 have e2:t++#[x,y]=t++#[x]++#[y]:=by apply a6i;simp
 have Wo:∀k,k≠0->k<gs.size->((gs.setIfInBounds 0 a').push child)[k]?=gs[k]?:=λk Q U=>by rw[H4 (by simpa using U),<-ET,JF (JK Q)]
 have FE:=Lh.spawn m h.ro A e he N;refine⟨by simp[h.size];omega,h.pos,λk g Jt Q I=>?_,λi hi=>?_,FE,?_,?_,by rw[Vi t 0 _ Bp,h.deaf0],λi hi=>?_,gh h.norel λs p=>?_,hP h.cg,λi hi hs=>?_,h.chan,λg b f=>?_,h.Ue,λi=>?_,h.nodup,λi v hv=>?_⟩;·rw[Wo k (by omega) (by rw[h.size];omega)]at I;rw[Vi t _ _ Bp];exact h.old k g Jt Q I
 ·by_cases e1:i=j;·subst e1;refine⟨child,?_,by rw[Fs];exact hc⟩;rw[show X.c0+i=(gs.setIfInBounds 0 a').size by simp[h.size],vW]
  ·obtain⟨g,I,d⟩:=h.wk i (by omega);exact⟨g,by rw[Wo _ (by omega) (by rw[h.size];omega)];exact I,by rw[GQ W _ e1];exact d⟩
 ·refine h.JB.spawn (S':=Az X (j+1) S0 (Cq W j e)) (Sh':=Bq X (j+1) Sh0 (Cq W j e)) hx hy h.deaf0 (by omega) (λb f=>?_) (λb f=>?_) (λg b K hn f=>?_) (λb f=>?_) (λb f=>?_) λg b K hn f=>?_;·exact(Az.zero m b).2 (A.HY b ((Az.zero m b).1 f))
  ·rw[Az.ZM m,he]at f;exact(Az.zero m b).2 (A.ui b f)
  ·rcases Az.cc (Sh0:=Sh0) (AA f)with rfl|⟨i,hi,rfl⟩;·exact absurd rfl K
   ·have z:i<j:=by have:i≠j:=λe=>hn (by rw[e]);omega
    exact(Az.at m z b).2 ((Az.ZN m e z b).1 f)
  ·rcases(A.ur b).1 ((Bq.zero m b).1 f)with C|C;·exact AF ((Bq.zero m b).2 C)
   ·exact(A.VT b C).imp (Az.zero m b).2 (Bq.zero m b).2
  ·rw[Bq.ZM m,N]at f;exact(A.VT b f).imp (Az.zero m b).2 (Bq.zero m b).2
  ·rcases Az.cc (S0:=S0) (AF f)with rfl|⟨i,hi,rfl⟩;·exact absurd rfl K
   ·have z:i<j:=by have:i≠j:=λe=>hn (by rw[e]);omega
    exact(Bq.at m z b).2 ((Bq.ZN m e z b).1 f)
 ·rw[e2];exact(h.NN.app (g:=0) (by intro s p;simp at p;rw[p];exact hx.1) (AA rfl)).app (g:=X.c0+j) (by intro s p;simp at p;rw[p];exact hy.1) (AF (AA (by omega)))
 ·rw[Vi t _ _ Bp];by_cases e1:i=j;·subst e1;rw[Fs,H];exact vy λl s U e=>by have:=h.JB.gs l s U;omega
  ·rw[GQ W _ e1];exact h.deafW i (by omega)
 ·rcases hm s p with rfl|rfl;·rw[hx.2];simp
  ·rw[hy.2];simp
 ·by_cases e1:i=j;·subst e1;rw[Fs,H]at hs;simp at hs
  ·rw[GQ W _ e1]at hs;obtain⟨r,A2⟩:=h.rel i (by omega) hs;rw[e2];exact⟨r,(A2.other (g:=0) (by intro s p;simp at p;rw[p];exact hx.1) (by omega)).other (g:=X.c0+j) (by intro s p;simp at p;rw[p];exact hy.1) (by omega)⟩
 ·have D:S b∨Sh b->b≠X.Ch:=λD'=>h.Jj 0 b (D'.imp (Az.zero m b).2 (Bq.zero m b).2);rcases Az.cc f with rfl|⟨i,hi,rfl⟩
  ·rcases f with f|f;·exact D (AA (A.HY b ((Az.zero m b).1 f)))
   ·rcases(A.ur b).1 ((Bq.zero m b).1 f)with C|C;·exact D (AF C)
    ·exact D (A.VT b C)
  ·by_cases e1:i=j
   ·subst e1;rw[Az.ZM m,Bq.ZM m,he,N]at f;rcases f with f|f;·exact D (AA (A.ui b f))
    ·exact D (A.VT b f)
   ·have z:i<j:=by omega
    rw[Az.ZN m e z,Bq.ZN m e z]at f;exact h.Jj (X.c0+i) b (f.imp (Az.at m z b).2 (Bq.at m z b).2)
 ·rw[h.Mm i];by_cases e1:i=j;·subst e1;rw[Fs];exact⟨λD'=>by omega,λD'=>absurd D'.2 HT⟩
  ·rw[GQ W _ e1];exact⟨λD'=>⟨by omega,D'.2⟩,λD'=>⟨by omega,D'.2⟩⟩
 ·obtain⟨M,C,h2⟩:=h.msg i v hv;obtain⟨z,_⟩:=(h.Mm i).1 ⟨v,hv⟩;rw[GQ W _ (by omega)];exact⟨M,C,h2⟩
def ah(X:Gw)(m:UI)(t:DX):Prop:=∃(gs:Array AK)(w:A')(sl:Option (Nat×Nat))(a:AK)(q:Nat->Nat)(Sh S:Nat->Prop)(BA:List (Nat×A1)),m=Ea gs w sl/\gs.size=X.c0+X.n/\Dm X.P X.B7 gs w t q a/\X.Goal Sh S a w/\IQ X.ty X.Wg w/\X.Ch≠X.Wg/\(∃e,w.heap[X.Ch]?=Z (aYQ X.n (BA.map (·.2)).toArray A5 BA.length 0 e))/\(∀i,(∃v,(i,v)∈BA)↔i<X.n)/\(BA.map (·.1)).Nodup/\∀i v,(i,v)∈BA->∃M,(∀b,M b->b<w.heap.size/\¬X.B7 b/\b≠X.Ch/\¬S b/\¬Sh b)/\X.MM i v M w
omit[Ck]in theorem aJa{l:Loc}{b:Nat}(h:Fu l b):l.isMemory=A0:=by rcases h with⟨a,rfl,_⟩|rfl<;>rfl
theorem Fv.joined(h:Fv X X.n gs w t W Sh S q 0 BA)(Jp:AllQuit X.n (Co W)){a':AK}{gsn:Array AK}(B3:gsn.size=gs.size)(Ww:gsn[0]?=Z a')(Hc:∀k,k≠0->gsn[k]?=gs[k]?)(fn:Xi)(pos:String):∃EA,Dm X.P X.B7 gsn w (t++K6 0 fn pos #[Ng (aYo (Ef X.Wg))]) EA a':=by
 have li:=h.pos;generalize hu:K6 0 fn pos #[Ng (aYo (Ef X.Wg))]=u;have y:u=#[{g:=0,fn:=fn,pos:=pos,act:=aYd (aYo (Ef X.Wg))}]:=by rw[<-hu,dB];simp[aU1]
 have U:∀f∈u,f.g=0:=by intro f m;rw[y]at m;simp at m;rw[m]
 have d:∀f∈u,f.act.touch?=J:=by intro f m;rw[y]at m;simp at m;rw[m];rfl
 have N:∀f∈u,f.act≠aYd aYp/\f.act≠aYd .enable:=by intro f m;rw[y]at m;simp at m;rw[m];exact⟨by simp,by simp⟩
 have Q:IZ X.B7 (X.c0+X.n) w.heap.size (Az X X.n S W) (Bq X X.n Sh W) (t++u):=h.JB.NP h.ro (g:=0) (by omega) λf m=>⟨U f m,λx hx=>by rw[d f m]at hx;cases hx⟩;have I:(t++u)[t.size]?=Z {g:=0,fn:=fn,pos:=pos,act:=aYd (aYo (Ef X.Wg))}:=by rw[y,Array.getElem?_append_right (AX _)];simp
 have kg:∀n,T3 X.B7 n (t++u):=λn=>by
  refine(h.NN.app U (AA rfl)).join (a:=Ef X.Wg) (q:=t.size) (N0:=X.N0) (λg p⟨i,hi⟩=>?_) (gh h.norel λf m=>?_) (hP h.cg).2 ?_ ?_ ?_ li
  ·obtain⟨f,H,kl⟩:=Option.map_eq_some_iff.1 hi;have aVM:=Q.gs i f H;have hlt:g-X.c0<X.n:=by omega
   obtain⟨r,M⟩:=h.rel (g-X.c0) hlt (by have:=Jp (g-X.c0) hlt;unfold Co at this;omega);rw[show X.c0+(g-X.c0)=g by omega]at M;exact⟨r,M.other U (by omega),a7J M.rel.act⟩
  ·rw[y]at m;simp at m;rw[m];simp
  ·simp[od,I]
  ·simp[dc,I]
  ·exact⟨0,by simp[dc,I],by rw[aTt (AX _)];exact h.deaf0⟩
 have bf:∀b l,¬X.B7 b->Fu l b->Perm (t++u) 0 l:=λb l z A i x hx e=>by
  rcases(kg (X.c0+X.n)).known i x hx (by rw[e];exact aJa A) λ⟨b',s,h2⟩=>z (by rw[e]at h2;rw[Fu.one A h2];exact s)with s|⟨g,s,h2⟩;·exact s
  ·obtain⟨f,H,kl⟩:=Option.map_eq_some_iff.1 h2;have:=Q.gs i f H;omega
 have K:∀i,i<X.n->∃g,gs[X.c0+i]?=Z g/\nX X.P (W i).wd.fuel (W i).wd.deaf g:=λi hi=>by obtain⟨g,p,hs⟩:=h.wk i hi;have s:(W i).wd.stage=1:=Jp i hi;unfold Is at hs;cases HT:(W i).Fq with|some τ=>rw[HT]at hs;have:=hs.1;omega|none=>rw[HT]at hs;exact⟨g,p,hs.1.quits s⟩
 refine⟨λk=>if k<X.c0 then q k else(W (k-X.c0)).wd.fuel,Ww,⟨λk g C p=>?_,λk C=>?_⟩,?_,?_,?_,h.ro.OW⟩
 ·rw[Hc k (by omega)]at p;rw[Vi t k u N];by_cases D:k<X.c0;·rw[if_pos D];exact h.old k g C D p
  ·rw[if_neg D];have hlt:k-X.c0<X.n:=by have:=(Array.getElem?_eq_some_iff.1 p).1;rw[h.size]at this;omega
   obtain⟨g1,Yx,K⟩:=K (k-X.c0) hlt;rw[show X.c0+(k-X.c0)=k by omega,p]at Yx;obtain rfl:=D3 Yx;have:=h.deafW (k-X.c0) hlt;rw[show X.c0+(k-X.c0)=k by omega]at this;rw[this];exact K
 ·rw[Vi t k u N];exact vy λi f hi e=>by have:=h.JB.gs i f hi;rw[B3,h.size]at C;omega
 ·rw[B3,h.size];exact Q.hand (AX _) (AX _) (λb z=>AA z) (λg b hs l A=>by obtain⟨rfl,_,z⟩:=hs;exact bf b l z A) λg b hs=>hs.elim
 ·exact kg _
 ·rw[Vi t 0 u N];exact h.deaf0
end
end
section
open Go.Conc(G solo Deaf QuitsD Goes scase semEvents crowd crowd_pick woken Aside awake_of runT_crowd_go runT_crowd_spawn woken_quitsD)
open Go.ConcN(WgLive upd upd_same upd_ne WD WSit CTag Vc Ssum Fsum cnt pend phi sumTo AllQuit OpenSt Vc_le bk_dis bk_en bk_rd bk_rw bk_sem)
open Go.ConcR(KK WgAt stA smA rd wr mk Payload Bk)
variable[Ck]
section
variable{X:Gw}{j:Nat}{gs:Array AK}{w w':A'}{sl:Option (Nat×Nat)}{t:DX}{W:Nat->Em}{tag:Oa}{τ:EO}{f0 BU:Nat}{a:AK}{Sh0 S0:Nat->Prop}{q:Nat->Nat}{BA:List (Nat×A1)}{st GO:Int}
theorem Me(D:X.L8)(I:gs[0]?=Z a)(h:Fv X j gs w t W Sh0 S0 q BU BA){a':AK}{es:Array By}{tag':Oa}{d:EO}{f':Nat}{OU OT:Int}(K:Be X.P A0 a w=aYE a' w' es)(s:hg X.Wg w w')(y:∀e∈es,(∀x,(KZ e).touch?=Z x->Fu x.loc X.Wg/\x.kind≠.plain)/\e.loc≠aY_ (aYc (Ef X.Wg)))(N:FI X tag' j d f' (MG BU es) Sh0 S0 a' w')(U:Ip X.ty X.Wg w' OU OT)(M:Jd j (Co W) tag' OU OT)(hlt:HK X.n (Vc j (Co W)) tag'<HK X.n (Vc j (Co W)) tag∨HK X.n (Vc j (Co W)) tag'=HK X.n (Vc j (Co W)) tag/\(EO.lt d τ∨d=τ/\f'<f0)):∃C ops m,MH X.P (Ea gs w sl) 0=(aYG C,ops)/\Kg (X.n+1) m (Gq X j W tag τ f0 q)/\Inv X m C (t++ops):=by
 have z:=h.pos;have H:∀p b,Az X j S0 W p b∨Bq X j Sh0 W p b->b≠X.Wg:=λp b f e=>by
  have:=h.ro.wg p X.Wg (AF rfl);subst e;rcases f with f|f;·exact this.1 f
  ·exact this.2 f
 refine a2t (sl:=sl) D I h K (λAv A=>cN s λb f=>H (X.c0+Av) b (f.imp (Az.at z A b).2 (Bq.at z A b).2)) ?_ ?_ (λe he=>(y e he).2) (s.block _ h.Ue) (λb f=>h.Jj 0 b (AA ((Az.zero z b).2 f))) N U M hlt;·rw[s.size];exact h.ro
 ·rw[s.size];refine h.JB.NP h.ro (g:=0) (by omega) λop Q=>?_;obtain⟨e,he,rfl⟩:=K5 Q;exact⟨rfl,λx hx=>⟨⟨X.Wg,AF rfl,((y e he).1 x hx).1⟩,((y e he).1 x hx).2,λ_=>rfl⟩⟩
omit[Ck]in theorem Ox{es:Array By}(h:∀e∈es,Bk X.Wg e):∀e∈es,(∀x,(KZ e).touch?=Z x->Fu x.loc X.Wg/\x.kind≠.plain)/\e.loc≠aY_ (aYc (Ef X.Wg)):=λe he=>⟨λx hx=>⟨(ja (h e he) hx).1,by rw[(ja (h e he) hx).2];simp⟩,zE (h e he) _⟩
theorem OL(y:X.L8)(z:gs[0]?=Z a)(I:Fv X j gs w t W Sh0 S0 q BU BA)(K:Ip X.ty X.Wg w st GO)(D:Jd j (Co W) tag st GO){a':AK}{es:Array By}{f':Nat}(C:Be X.P A0 a w=aYE a' w' es)(s:vh X w w' es)(H:w'=w->FI X tag j τ f' BU Sh0 S0 a' w')(hlt:f'<f0):∃p ops f,MH X.P (Ea gs w sl) 0=(aYG p,ops)/\Kg (X.n+1) f (Gq X j W tag τ f0 q)/\Inv X f p (t++ops):=by
 obtain⟨rfl,m⟩:=s;have A:MG BU es=BU:=hj (λe he=>by
  obtain⟨b,_,rfl|rfl⟩:=m e he;·exact⟨by simp,by simp⟩
  ·exact⟨by simp,by simp⟩) _;refine Me (sl:=sl) y z I C (aYW X.Wg w') (λe he=>?_) (by rw[A];exact H rfl) K D (AF ⟨rfl,AF ⟨rfl,hlt⟩⟩);obtain⟨b,h,rfl|rfl⟩:=m e he;·refine⟨λx hx=>?_,by simp⟩;simp only[KZ,aS,W5]at hx;subst hx;exact⟨AA ⟨b,rfl,h⟩,by simp⟩
 ·refine⟨λx hx=>?_,by simp⟩;simp only[KZ,aS,W5]at hx;subst hx;exact⟨AA ⟨b,rfl,h⟩,by simp⟩
theorem vO(D:X.L8)(H:gs[0]?=Z a)(m:Fv X j gs w t W Sh0 S0 q 0 BA)(A:Ip X.ty X.Wg w st GO)(U:Jd j (Co W) tag st GO){a':AK}{es:Array By}{S':Nat->Prop}{d:EO}{f':Nat}(Q:Be X.P A0 a w=aYE a' w' es)(p:GC Sh0 S0 w w' es S')(Ks:FI X tag j d f' 0 Sh0 S' a' w')(hlt:EO.lt d τ):∃C ops s,MH X.P (Ea gs w sl) 0=(aYG C,ops)/\Kg (X.n+1) s (Gq X j W tag τ f0 q)/\Inv X s C (t++ops):=by
 have f:=m.pos;have N:GC (Bq X j Sh0 W 0) (Az X j S0 W 0) w w' es S':=by rw[Az.bF f,Bq.bF f];exact p
 have sv:¬S0 X.Wg:=λx=>(m.ro.wg 0 X.Wg (AF rfl)).1 ((Az.zero f _).2 x);have K:¬S0 X.Ch:=λx=>m.Jj 0 X.Ch (AA ((Az.zero f _).2 x)) rfl;have Dt:=m.JB.step (g:=0) m.ro (by omega) p.size (X:=S') λb=>by rw[p.grow b,Az.zero f b] (fn:=a.frame.fn) (pos:=a.frame.place) (es:=es) (by rw[Bq.bF f];exact p.evs);have M:MG 0 es=0:=hj (λe he=>k3 (p.evs e he)) _;refine a2t (sl:=sl) D H m Q (λAv z=>?_) ?_ ?_ (λe he=>qf (p.evs e he) _) (p.same _ m.eY K) (λb I=>?_) (by rw[M];exact Ks) (A.of_block (p.same _ (a6O A) sv)) U (AF ⟨rfl,AA hlt⟩);·have:=ua (B:=0) m.ro (g:=0) (h:=X.c0+Av) (by omega) N;rw[Az.Up f z,Bq.Up f z]at this;exact this
 ·rw[Az.a2u (S0:=S0) f];exact Dt.1
 ·rw[Az.a2u (S0:=S0) f];exact Dt.2
 ·rcases(p.grow b).1 I with y|y;·exact m.Jj 0 b (AA ((Az.zero f _).2 y))
  ·have:=m.eY;omega
def RN(X:Gw)(gs:Array AK)(w:A')(sl:Option (Nat×Nat))(i:Nat)(f:WB)(t:DX):Prop:=(∃b ops e,MH X.P (Ea gs w sl) i=(aYG b,ops)/\Kg (X.n+1) e f/\Inv X e b (t++ops))∨∃b ops,MH X.P (Ea gs w sl) i=(aYG b,ops)/\ah X b (t++ops)
theorem RN.less{i:Nat}{K3 μ':WB}(h:RN X gs w sl i μ' t)(hc:μ'.1<K3.1):RN X gs w sl i K3 t:=by
 rcases h with⟨f,ops,b,e,h2,h3⟩|h;·refine AA ⟨f,ops,b,e,?_,h3⟩;obtain⟨m,p⟩:=b;obtain⟨s,x⟩:=μ';obtain⟨c1,c2⟩:=K3;cases h2 with|left _ _ h=>exact ps _ _ (Nat.lt_trans h hc)|right _ h=>exact ps _ _ hc
 ·exact AF h
theorem aRa(I:X.L8)(hn:X.n<2147483648)(H:gs[0]?=Z a)(H2:FI X tag j τ f0 BU Sh0 S0 a w)(s:Fv X j gs w t W Sh0 S0 q BU BA)(z:Ip X.ty X.Wg w st GO)(A:Jd j (Co W) tag st GO)(Au:a.status=aYF):RN X gs w sl 0 (Gq X j W tag τ f0 q) t:=by
 have li:=s.pos;have aGp:=Vc_le j (Co W);have hb:=H2.bound;have aGj:∀b,S0 b∨Sh0 b->b≠X.Wg:=λb hb e=>by
  have:=s.ro.wg 0 X.Wg (AF rfl);subst e;rcases hb with hb|hb;·exact this.1 ((Az.zero li _).2 hb)
  ·exact this.2 ((Bq.zero li _).2 hb)
 have u_:∀{w'},hg X.Wg w w'->Bx Sh0 S0 w w':=λh=>cN h aGj;have a6J:∀{f0:Nat}{Hs Ee:AK->Prop}{m:Nat},j=X.n->BU=1->YC X Hs Ee->DG X (AtW1 X Hs Ee) m a w->(∀g',Ee g'->∀w',Bx Sh0 S0 w w'->X.Goal Sh0 S0 g' w')->Jd j (Co W) .w1 st GO->RN X gs w sl 0 (Gq X j W .w1 .leaf m q) t:=by
  intro f0 Hs Ee m H1 AT BD h k A;subst H1 AT;rcases KV h with K|⟨Bv,rfl,U⟩
  ·obtain⟨_,Jp⟩:=K w (Dh.refl w);obtain⟨A7,rfl,rfl,_⟩:=A.open_inv trivial;obtain⟨a',p,AV,h1⟩:=Jp (Vc X.n (Co W)) (by omega) (by simpa[KW]using z);by_cases e:Vc X.n (Co W)=0
   ·obtain⟨IH,hk⟩:=AV e;have AD:AllQuit X.n (Co W):=λi hi=>by
     have hc:=dF (f:=λx=>Fz (Co W x)) hi;have Iz:Fz (Co W i)=0:=by simp only[Vc]at e;omega
     have:=A7 i hi;simp only[Fz]at Iz;split at Iz;·cases Iz
     ·omega
    have:=aTy (j:=X.n) (D:=Co W) (tag:=.ke) trivial AD;exact AA (Me (sl:=sl) I H s p (aYW X.Wg w) (Ox nt) (.ke hk k) z (by simpa[e,KW]using this) (AA (by simp only[HK];omega)))
   ·obtain⟨IH,hk⟩:=h1 e;exact AA (Me (sl:=sl) I H s p (aYW X.Wg w) (Ox nt) (.w2 BD hk k) z (A.reopen trivial trivial rfl λL' MW=>by cases MW;exact⟨AX _,by omega⟩) (AA (by simp only[HK];omega)))
  ·obtain⟨a',w',es,p,N,Q⟩:=U w (Dh.refl w);exact AA (OL (sl:=sl) I H s z A p N (λe=>by subst e;exact .w1 BD Q k) (by omega))
 have a'a:∀{r:Nat}{τ:EO},r<X.n->j=X.n-(r+1)->BU=0->Ki X.P A0 Sh0 (AtGo X (X.n-(r+1)) (ED X r) Sh0) τ S0 a w->Jd j (Co W) (aYS (r+1) 1) st GO->RN X gs w sl 0 (Gq X j W (aYS (r+1) 1) τ 0 q) t:=by
  intro r τ A2 H1 AT h A;subst H1 AT;cases τ with
  |node f=>obtain⟨a',w',es,S',p,BW,Ii⟩:=h.2 w (Bx.refl _ _ _);exact AA (vO (sl:=sl) I H s z A p BW (.sgo A2 Ii) (.mk f w))
  |leaf=>
   obtain⟨_,a',child,yf,py,Kh,IA,C,HU,val,GL,a0E,sp,hC,Tb,kj⟩:=h w (Bx.refl _ _ _);obtain⟨aTn,Tb⟩:=Tb.Fq;obtain⟨A7,rfl,rfl,_⟩:=A.open_inv trivial;have Gj:=runT_crowd_spawn (P:=X.P) (sl:=sl) (i:=0) H (by simpa using GL);rw[s.size]at Gj;let e:Em:={wd:=⟨7,0,0⟩,Fq:=Z aTn,S:=IA,Sh:=Kh,C:=C,HU:=HU,val:=val};have S8:=s.spawn sp (a':=a') (child:=child) (x:={g:=0,fn:=a.frame.fn,pos:=a.frame.place,act:=.go (X.c0+(X.n-(r+1)))}) (y:={g:=X.c0+(X.n-(r+1)),fn:=child.frame.fn,pos:=a.frame.place,act:=.start}) ⟨rfl,rfl⟩ ⟨rfl,rfl⟩ (e:=e) rfl rfl rfl (by simp[e]) ⟨rfl,rfl,rfl,Tb⟩;have jw:Vc (X.n-(r+1)+1) (Co (Cq W (X.n-(r+1)) e))=Vc (X.n-(r+1)) (Co W)+1:=by rw[hK];simp only[Vc,Io,Fs];rw[w8 (Co W) _ Fz (AX _)];rfl
   have bA:dD (X.n-(r+1)+1) (Co (Cq W (X.n-(r+1)) e))=dD (X.n-(r+1)) (Co W)+7:=by rw[hK];simp only[dD,Io,Fs];rw[w8 (Co W) _ WD.stage (AX _)]
   have qZ:cY (X.n-(r+1)+1) (Cq W (X.n-(r+1)) e)=cY (X.n-(r+1)) W+1:=by simp only[cY,Io,Fs];rw[w8 W _ K1 (AX _)];rfl
   have QL:w5 (X.n-(r+1)+1) (Co (Cq W (X.n-(r+1)) e)):=λi hi=>by
    rw[hK];by_cases e1:i=X.n-(r+1);·subst e1;rw[Fs];simp[e]
    ·rw[GQ _ _ e1];exact A7 i (by omega)
   have kJ:((gs.setIfInBounds 0 a').push child)[0]?=Z a':=by rw[H4 (by simp[s.size];omega),<-ET];exact XW (by rw[s.size];omega)
   have bC:X.n-(r+1)+1=X.n-r:=by omega
   rw[bC]at S8 jw bA qZ QL;have aF3:((Vc (X.n-(r+1)) (Co W)+KW (aYS (r+1) 1):Nat):Int)*KK=((Vc (X.n-r) (Co (Cq W (X.n-(r+1)) e))+KW (aYS r 6):Nat):Int)*KK:=by rw[jw];simp[KW]
   have fi:Jd (X.n-r) (Co (Cq W (X.n-(r+1)) e)) (aYS r 6) (((Vc (X.n-(r+1)) (Co W)+KW (aYS (r+1) 1):Nat):Int)*KK) 0:=by rw[aF3];exact a7R trivial QL (by simp)
   cases r with|zero=>obtain⟨vT,hk⟩:=Way.Fq kj;simp only[Nat.sub_zero]at S8 jw bA qZ fi;refine AA ⟨_,_,_,Gj,?_,_,w,sl,X.n,_,aYS 0 6,vT,0,0,a',_,_,yf,py,q,BA,rfl,kJ,.Zd hk,S8,z,fi,rfl⟩;refine l_ ?_;simp only[HK];omega|succ Bc=>obtain⟨vT,hk⟩:=Way.Fq kj;refine AA ⟨_,_,_,Gj,?_,_,w,sl,X.n-(Bc+1),_,aYS (Bc+1) 6,vT,0,0,a',_,_,yf,py,q,BA,rfl,kJ,.JW (by omega) hk,S8,z,fi,rfl⟩;refine l_ ?_;simp only[HK];omega
 cases H2 with
 |@JW r _ _ _ _ _ A2 h=>
  cases τ with
  |node f=>obtain⟨a',w',es,S',p,BW,Ii⟩:=h.2 w (Bx.refl _ _ _);exact AA (vO (sl:=sl) I H s z A p BW (.JW A2 Ii) (.mk f w))
  |leaf=>
   obtain⟨Nx,m,A9,hk⟩:=(h w (Bx.refl _ _ _)).2 ⟨_,_,z⟩;rcases KV A9 with K|⟨Bv,rfl,U⟩;·obtain⟨_,a',p,IH,d⟩:=K w (Dh.refl w);exact AA (Me (sl:=sl) I H s p (aYW X.Wg w) (Ox ns) (.sa1 A2 d hk) z (A.reopen trivial trivial rfl (by simp)) (AA (by simp only[HK];omega)))
   ·obtain⟨a',w',es,p,N,Q⟩:=U w (Dh.refl w);have Kr:=A.reopen (tag':=aYS (r+1) 5) trivial trivial rfl (by simp);exact RN.less (μ':=Gq X _ W (aYS (r+1) 5) .leaf (Bv+1) q) (AA (OL (sl:=sl) I H s z Kr p N (λe=>by subst e;exact .skd A2 Q hk) (by omega))) (by simp only[Gq,HK];omega)
 |Zd h=>
  cases τ with
  |node f=>obtain⟨a',w',es,S',p,BW,Ii⟩:=h.2 w (Bx.refl _ _ _);exact AA (vO (sl:=sl) I H s z A p BW (.Zd Ii) (.mk f w))
  |leaf=>
   obtain⟨Hs,Ee,m,BD,A9,hk⟩:=(h w (Bx.refl _ _ _)).2 ⟨_,_,z⟩;rcases KV A9 with K|⟨Bv,rfl,U⟩;·obtain⟨_,a',p,IH,d⟩:=K w (Dh.refl w);exact AA (Me (sl:=sl) I H s p (aYW X.Wg w) (Ox ns) (.anch BD d hk) z (A.reopen trivial trivial rfl (by simp)) (AA (by simp only[HK];omega)))
   ·obtain⟨a',w',es,p,N,Q⟩:=U w (Dh.refl w);have Kr:=A.reopen (tag':=.kd) trivial trivial rfl (by simp);exact RN.less (μ':=Gq X _ W .kd .leaf (Bv+1) q) (AA (OL (sl:=sl) I H s z Kr p N (λe=>by subst e;exact .kd BD Q hk) (by omega))) (by simp only[Gq,HK];omega)
 |skd A2 h k=>
  rcases KV h with K|⟨Bv,rfl,U⟩;·obtain⟨_,a',p,IH,d⟩:=K w (Dh.refl w);exact AA (Me (sl:=sl) I H s p (aYW X.Wg w) (Ox ns) (.sa1 A2 d k) z (A.reopen trivial trivial rfl (by simp)) (AA (by simp only[HK];omega)))
  ·obtain⟨a',w',es,p,N,Q⟩:=U w (Dh.refl w);exact AA (OL (sl:=sl) I H s z A p N (λe=>by subst e;exact .skd A2 Q k) (by omega))
 |@sa1 r m Nx _ _ _ _ A2 h k=>
  rcases KV h with K|⟨Bv,rfl,U⟩
  ·obtain⟨_,Jp⟩:=K w (Dh.refl w);obtain⟨A7,rfl,rfl,_⟩:=A.open_inv trivial;obtain⟨a',p,IH,d⟩:=Jp (Vc (X.n-(r+1)) (Co W)) (by omega) (by simpa[KW]using z);have BD:=aM w (Ef X.Wg) (IS UF ((((Vc (X.n-(r+1)) (Co W):Nat):Int)+1)*KK));refine AA (Me (sl:=sl) I H s p BD (Ox bk_rw) (.ske A2 d λg' AB w2 h2=>k g' AB w2 ((u_ BD).trans h2)) (z.setSt _) ?_ (AA (by simp only[HK];omega)));have e:(((Vc (X.n-(r+1)) (Co W):Nat):Int)+1)*KK=((Vc (X.n-(r+1)) (Co W)+KW (aYS (r+1) 3):Nat):Int)*KK:=by simp[KW]
   rw[e];exact a7R trivial A7 (by simp)
  ·obtain⟨a',w',es,p,N,Q⟩:=U w (Dh.refl w);exact AA (OL (sl:=sl) I H s z A p N (λe=>by subst e;exact .sa1 A2 Q k) (by omega))
 |ske A2 h k=>
  rcases KV h with K|⟨Bv,rfl,U⟩;·obtain⟨_,a',p,IH,d⟩:=K w (Dh.refl w);exact AA (Me (sl:=sl) I H s p (aYW X.Wg w) (Ox bk_en) (.cT A2 d k) z (A.reopen trivial trivial rfl (by simp)) (AA (by simp only[HK];omega)))
  ·obtain⟨a',w',es,p,N,Q⟩:=U w (Dh.refl w);exact AA (OL (sl:=sl) I H s z A p N (λe=>by subst e;exact .ske A2 Q k) (by omega))
 |cT A2 h k=>
  rcases KV h with K|⟨Bv,rfl,U⟩;·obtain⟨Pf,JU⟩:=(k a (K w (Dh.refl w)) w (Bx.refl _ _ _)).Fq;exact RN.less (a'a A2 rfl rfl JU (A.reopen trivial trivial rfl (by simp))) (by simp only[Gq,HK];omega)
  ·obtain⟨a',w',es,p,N,Q⟩:=U w (Dh.refl w);exact AA (OL (sl:=sl) I H s z A p N (λe=>by subst e;exact .cT A2 Q k) (by omega))
 |sgo A2 h=>exact a'a A2 rfl rfl h A
 |kd BD h k=>
  rcases KV h with K|⟨Bv,rfl,U⟩;·obtain⟨_,a',p,IH,d⟩:=K w (Dh.refl w);exact AA (Me (sl:=sl) I H s p (aYW X.Wg w) (Ox ns) (.anch BD d k) z (A.reopen trivial trivial rfl (by simp)) (AA (by simp only[HK];omega)))
  ·obtain⟨a',w',es,p,N,Q⟩:=U w (Dh.refl w);exact AA (OL (sl:=sl) I H s z A p N (λe=>by subst e;exact .kd BD Q k) (by omega))
 |anch BD h k=>
  rcases KV h with K|⟨Bv,rfl,U⟩;·obtain⟨IH,d⟩:=(BD a (K w (Dh.refl w))).2 w ⟨_,_,z⟩;exact RN.less (a6J (f0:=0) rfl rfl BD d k (A.reopen trivial trivial rfl (by simp))) (by simp only[Gq,HK];omega)
  ·obtain⟨a',w',es,p,N,Q⟩:=U w (Dh.refl w);exact AA (OL (sl:=sl) I H s z A p N (λe=>by subst e;exact .anch BD Q k) (by omega))
 |w1 BD h k=>exact a6J (f0:=0) rfl rfl BD h k A
 |@w2 L' m Hs Ee _ _ _ _ BD h k=>
  rcases KV h with K|⟨Bv,rfl,U⟩
  ·obtain⟨_,Jp⟩:=K w (Dh.refl w);obtain⟨A7,rfl,rfl,JU⟩:=A.open_inv trivial;obtain⟨ER,h1⟩:=JU L' rfl;obtain⟨aHd,aIC⟩:=Jp (Vc X.n (Co W)) (by omega) (by simpa[KW]using z);by_cases e:Vc X.n (Co W)=L';·obtain⟨a',p,IH,d⟩:=aHd e;have Ib:=aM w (Ef X.Wg) (IS UF (((Vc X.n (Co W):Nat):Int)*KK+1));exact AA (Me (sl:=sl) I H s p Ib (Ox bk_rw) (.w3 d λg' AB w2 h2=>k g' AB w2 ((u_ Ib).trans h2)) (z.setSt _) (aTz trivial A7 (by omega)) (AA (by simp only[HK];omega)))
   ·obtain⟨a',p,IH,d⟩:=aIC e;exact AA (Me (sl:=sl) I H s p (aYW X.Wg w) (Ox nt) (.anch BD d k) z (A.reopen trivial trivial rfl (by simp)) (AA (by simp only[HK];omega)))
  ·obtain⟨a',w',es,p,N,Q⟩:=U w (Dh.refl w);exact AA (OL (sl:=sl) I H s z A p N (λe=>by subst e;exact .w2 BD Q k) (by omega))
 |w3 h k=>
  rcases KV h with K|⟨Bv,rfl,U⟩;·obtain⟨_,OA,fJ,ZB⟩:=K w (Dh.refl w);cases A with|opn h1 _ _=>exact h1.elim|reg h1 h2 h3=>exact AA (Me (sl:=sl) I H s (fJ ⟨_,z⟩) (aYW X.Wg w) (by simp) (.blk K k) z (aTz trivial h2 h3) (AF ⟨rfl,AF ⟨rfl,by omega⟩⟩))|last L h1 h2 h3 h4=>exact AA (Me (sl:=sl) I H s (fJ ⟨_,z⟩) (aYW X.Wg w) (by simp) (.blk K k) z (vz L trivial h2 h3 h4) (AF ⟨rfl,AF ⟨rfl,by omega⟩⟩))|sema h2=>obtain⟨a',p,IH,d⟩:=ZB z;have Ib:=aM w (Vk X.Wg) (IS .u32 0);exact AA (Me (sl:=sl) I H s p Ib (Ox bk_sem) (.w4 d λg' AB w2 h2=>k g' AB w2 ((u_ Ib).trans h2)) (z.setSm 0) (aTy trivial h2) (AA (by simp only[HK];omega)))|fin h1 _=>exact h1.elim
  ·obtain⟨a',w',es,p,N,Q⟩:=U w (Dh.refl w);exact AA (OL (sl:=sl) I H s z A p N (λe=>by subst e;exact .w3 Q k) (by omega))
 |blk h k=>simp at Au
 |w4 h k=>
  rcases KV h with K|⟨Bv,rfl,U⟩;·obtain⟨_,hx⟩:=K w (Dh.refl w);obtain⟨AD,rfl,rfl⟩:=A.fin_inv trivial;obtain⟨a',p,IH,d⟩:=hx z;exact AA (Me (sl:=sl) I H s p (aYW X.Wg w) (Ox nt) (.ke d k) z (aTy trivial AD) (AA (by simp only[HK];omega)))
  ·obtain⟨a',w',es,p,N,Q⟩:=U w (Dh.refl w);exact AA (OL (sl:=sl) I H s z A p N (λe=>by subst e;exact .w4 Q k) (by omega))
 |ke h k=>
  rcases KV h with K|⟨Bv,rfl,U⟩;·obtain⟨_,a',p,IH,d⟩:=K w (Dh.refl w);obtain⟨AD,rfl,rfl⟩:=A.fin_inv trivial;exact AA (Me (sl:=sl) I H s p (aYW X.Wg w) (Ox bk_en) (.acq d k) z (aTy trivial AD) (AA (by simp only[HK];omega)))
  ·obtain⟨a',w',es,p,N,Q⟩:=U w (Dh.refl w);exact AA (OL (sl:=sl) I H s z A p N (λe=>by subst e;exact .ke Q k) (by omega))
 |acq h k=>
  rcases KV h with K|⟨Bv,rfl,U⟩
  ·obtain⟨_,a',p,aHU⟩:=K w (Dh.refl w);obtain⟨AD,rfl,rfl⟩:=A.fin_inv trivial;have Gj:=Pm (P:=X.P) (sl:=sl) (i:=0) H (by simpa using p);have Hc:∀l,l≠0->((gs.map (Pn X.P a a' w)).setIfInBounds 0 a')[l]?=gs[l]?:=by
    intro l Wu;rw[Xg _ _ _ _ (JK Wu)];rcases IW l X.c0 with hlt|MZ;·cases Hk:gs[l]? with|none=>rfl|some x=>rw[MP,Xf (s.old l x (by omega) hlt Hk)]
    ·cases Hk:gs[l]? with
     |none=>rfl
     |some x=>
      have FV:l-X.c0<X.n:=by have:=(Array.getElem?_eq_some_iff.1 Hk).1;rw[s.size]at this;omega
      obtain⟨y,hy,OF⟩:=s.wk (l-X.c0) FV;rw[show X.c0+(l-X.c0)=l by omega,Hk]at hy;obtain rfl:=D3 hy;rw[MP,OF.woken]
   obtain⟨EA,Js⟩:=s.joined AD (gsn:=(gs.map (Pn X.P a a' w)).setIfInBounds 0 a') (a':=a') (by simp) (dE _ _ _ (by rw[s.size];omega)) Hc a.frame.fn a.frame.place;refine AF ⟨_,_,Gj,_,w,sl,a',EA,Sh0,S0,BA,rfl,by simp[s.size],Js,k a' aHU w (Bx.refl _ _ _),⟨_,_,z⟩,s.Ue,s.chan,λi=>?_,s.nodup,λi v hv=>?_⟩;·rw[s.Mm i];refine⟨λx=>x.1,λx=>⟨x,?_⟩⟩;obtain⟨g,_,hs⟩:=s.wk i x;have h1:(W i).wd.stage=1:=AD i x;unfold Is at hs;cases HT:(W i).Fq with|some τ=>rw[HT]at hs;have:=hs.1;omega|none=>rfl
   ·obtain⟨M,h1,h2⟩:=s.msg i v hv;have Ko:i<X.n:=((s.Mm i).1 ⟨v,hv⟩).1;refine⟨M,λb hb=>?_,h2⟩;have OD:Az X X.n S0 W (X.c0+i) b:=AF ⟨i,Ko,rfl,(h1 b hb).1⟩;exact⟨s.ro.low _ b (AA OD),λx=>(s.ro.wg _ b x).1 OD,s.Jj _ b (AA OD),λx=>by have:=s.ro.apart _ 0 b OD (AA ⟨rfl,x⟩);have:=s.pos;omega,λx=>s.ro.SV _ 0 b OD (AA ⟨rfl,x⟩)⟩
  ·obtain⟨a',w',es,p,N,Q⟩:=U w (Dh.refl w);exact AA (OL (sl:=sl) I H s z A p N (λe=>by subst e;exact .acq Q k) (by omega))
end
end
section
open Go.Conc(G solo Deaf QuitsD Goes crowd crowd_pick woken Aside awake awake_of runT_crowd_go woken_quitsD Perm)
open Go.ConcN(WgLive upd upd_same upd_ne WD WSit CTag Vc Ssum Fsum cnt pend phi sumTo RW)
open Go.ConcR(KK WgAt wgBlock stA smA rd wr mk Payload)
variable[Ck]
section
variable{X:Gw}{j:Nat}{gs:Array AK}{w w':A'}{sl:Option (Nat×Nat)}{t:DX}{W:Nat->Em}{tag:Oa}{τ:EO}{f0 BU:Nat}{a:AK}{Sh0 S0:Nat->Prop}{q:Nat->Nat}{BA:List (Nat×A1)}{st GO:Int}
theorem Is.runs{i:Nat}{e:Em}{g:AK}(h:Is X i e g w)(hs:e.wd.stage≠1):g.status=aYF:=by unfold Is at h;cases f:e.Fq with|some τ=>rw[f]at h;exact Ki.status (λ_ _ _ x=>x.1) h.2.2.2|none=>rw[f]at h;have b:=h.1;generalize e.wd.stage=s at b hs;generalize e.wd.fuel=m at b;generalize e.wd.deaf=d at b;cases b with|r0 h=>exact aL (λ_ _ x=>x.1) w (LZ w) h|k1 h=>exact aL (λ_ _ x=>x.1) w (LZ w) h|d1 h=>exact aL (λ_ _ x=>x.1) w (LZ w) h|d2 h=>exact aL (λ_ _ x=>x.1) w (LZ w) h|d3 h=>exact aL (λ_ _ x=>x.1) w (LZ w) h|d4 h=>exact aL (λ_ _ x=>x.1) w (LZ w) h|quit h=>exact absurd rfl hs
theorem Fv.awake(e:Fv X j gs w t W Sh0 S0 q BU BA)(f:gs[0]?=Z a)(A:FI X tag j τ f0 BU Sh0 S0 a w):∀g∈gs,a7G g:=by
 intro g s;obtain⟨k,m,rfl⟩:=Array.mem_iff_getElem.1 s;have b:=ET m;by_cases p:k=0
 ·subst p;have:gs[0]=a:=by rw[b]at f;exact D3 f
  rw[this];rcases A.status λ_=>AF trivial with h|h;·exact nY (AA h.1)
  ·exact nY (AF (AA h.1))
 ·rcases IW k X.c0 with hlt|D;·exact nY ((e.old k _ (by omega) hlt b).status.elim AA λx=>AF (AF x))
  ·have z:k-X.c0<j:=by rw[e.size]at m;omega
   obtain⟨y,hy,C⟩:=e.wk (k-X.c0) z;rw[show X.c0+(k-X.c0)=k by omega,b]at hy;rw[D3 hy];exact nY (C.status.elim AA λx=>AF (AF x))
theorem Fv.aR5(z:Fv X j gs w t W Sh0 S0 q BU BA)(m:gs[0]?=Z a)(y:FI X tag j τ f0 BU Sh0 S0 a w)(s:Jd j (Co W) tag st GO):∃(i:Nat)(g:AK),gs[i]?=Z g/\g.status=.running:=by
 rcases y.status λ_=>AF trivial with h|⟨_,rfl,_⟩;·exact⟨0,a,m,h.1⟩
 ·have wk:∀i,i<j->(W i).wd.stage≠1->∃(i:Nat)(g:AK),gs[i]?=Z g/\g.status=.running:=λi hi hs=>by obtain⟨g,p,A⟩:=z.wk i hi;exact⟨_,g,p,A.runs hs⟩
  cases s with
  |opn b _ _=>exact b.elim
  |reg b h2 h3=>
   have:∃i,i<j/\Fz (Co W i)=1:=by
    refine nN λhn=>?_;have:Vc j (Co W)=0:=by
     have C:=aU0 (f:=λi=>Fz (Co W i)) (c:=0) (j:=j) λi hi=>by
      have:¬Fz (Co W i)=1:=λx=>hn ⟨i,hi,x⟩;simp only[Fz]at this⊢;split at this;·exact absurd rfl this
      ·rename_i h;rw[if_neg h];exact AX _
     simp only[Vc];omega
    omega
   obtain⟨i,hi,hc⟩:=this;refine wk i hi λe=>?_;simp only[Fz,Co,e]at hc;cases hc
  |last L b h2 h3 h4=>refine wk L h2 λe=>?_;simp only[Co,e]at h3;omega
  |fin b _=>exact b.elim
theorem aO'(D:X.L8)(hn:X.n<2147483648)(K3:WB)(m:UI)(t:DX)(h:Inv X K3 m t):∃z ops,stepT X.P m=(aYG z,ops)/\((∃b,Kg (X.n+1) b K3/\Inv X b z (t++ops))∨ah X z (t++ops)):=by
 obtain⟨gs,w,sl,j,W,tag,τ,f0,BU,a,st,GO,Sh0,S0,q,BA,rfl,e,H2,M,Bl,s,rfl⟩:=h;obtain⟨i,g,d,Dd,A,Au,Dt⟩:=Vh (P:=X.P) (w:=w) (sl:=sl) (M.awake e H2) (M.aR5 e H2 s);rw[Dt];have H:=H2.rely (Bx.at Sh0 S0 w d) λx=>x;have C:=M.at D d;have I:Ip X.ty X.Wg (w.at d) st GO:=Bl;have p:RN X gs (w.at d) Dd i (Gq X j W tag τ f0 q) t->∃z ops,MH X.P (Ea gs (w.at d) Dd) i=(aYG z,ops)/\((∃b,Kg (X.n+1) b (Gq X j W tag τ f0 q)/\Inv X b z (t++ops))∨ah X z (t++ops)):=by
  rintro(⟨Ec,ops,b,U,h2,h3⟩|⟨Ec,ops,U,h2⟩);·exact⟨Ec,ops,U,AA ⟨b,h2,h3⟩⟩
  ·exact⟨Ec,ops,U,AF h2⟩
 by_cases AV:i=0;·subst AV;rw[e]at A;obtain rfl:=D3 A;exact p (aRa D hn e H C I s Au)
 ·rcases IW i X.c0 with hlt|MZ;·exact p (AA (aK_ e H C I s (by omega) hlt A Au λtag' AH=>s.retag AH))
  ·have K:i-X.c0<j:=by have:=(Array.getElem?_eq_some_iff.1 A).1;rw[M.size]at this;omega
   obtain⟨y,hy,OF⟩:=C.wk (i-X.c0) K;have Q:X.c0+(i-X.c0)=i:=by omega
   rw[Q,A]at hy;obtain rfl:=D3 hy;refine p (AA ?_);have MY:gs[X.c0+(i-X.c0)]?=Z g:=by rw[Q];exact A
   rw[<-Q];cases N:(W (i-X.c0)).Fq with|none=>exact aRc D hn e H C I s K MY Au N OF|some R4=>have hs:=OF;unfold Is at hs;rw[N]at hs;obtain⟨FQ,O8,NC,Tb⟩:=hs;cases R4 with|leaf=>exact aRd D e H C I s K MY N FQ O8 (Tb _ (Bx.refl _ _ _))|node f=>obtain⟨g',w',es,S',lc,BW,Ii⟩:=Tb.2 _ (Bx.refl _ _ _);exact aRe D e H C I s K MY N FQ O8 NC lc BW (.mk f _) Ii
theorem a4L(y:X.L8)(hn:X.n<2147483648)(f:WB):∀(m:UI)(t:DX),Inv X f m t->∃N b e,Eg X.P N m t=(aYG b,e)/\ah X b e:=by
 induction f using(aQ7 (X.n+1)).induction with
 |h f C=>
  intro m t h;obtain⟨s,ops,hs,z⟩:=aO' y hn f m t h;rcases z with⟨p,hlt,hi⟩|A;·obtain⟨N,b,e,x,h2⟩:=C p hlt s _ hi;exact⟨N+1,b,e,by simp only[Eg,hs];exact x,h2⟩
  ·exact⟨1,s,_,by simp only[Eg,hs],A⟩
def W3(Wb:Nat->Prop)(Wg Ch B:Nat):Nat->Prop:=λb=>b<B/\¬Wb b/\b≠Wg/\b≠Ch
structure XX(X:Gw)(a:AK)(w:A'):Prop where
 run:a.status=aYF
 wg:X.Wg=w.heap.size
 go:∀f3,Bx (λ_=>False) (EM X.Wb w.heap.size) w f3->f3.heap.size=w.heap.size->∃a',Be X.P A0 a f3=aYE a' {f3 with heap:=f3.heap.push (Ms X.ty 0 0)} #[]/\ED X X.n (λ_=>False) (W3 X.Wb X.Wg X.Ch (f3.heap.size+1)) a' {f3 with heap:=f3.heap.push (Ms X.ty 0 0)}
 ch:∃tm,w.heap[X.Ch]?=Z (aYQ X.n #[] A5 0 0 tm)
 jd:EM X.Wb w.heap.size X.Ch
theorem a4K(h:Dm X.P X.Wb gs w t q a)(AB:XX X a w)(A:X.c0=gs.size)(U:X.N0=t.size){a':AK}(hs:ED X X.n (λ_=>False) (W3 X.Wb X.Wg X.Ch (w.heap.size+1)) a' {w with heap:=w.heap.push (Ms X.ty 0 0)})(fn:Xi)(pos:String){gsn:Array AK}(d:gsn.size=gs.size)(K:gsn[0]?=Z a')(Hc:∀k,k≠0->gsn[k]?=gs[k]?):∃K3,Inv X K3 (Ea gsn {w with heap:=w.heap.push (Ms X.ty 0 0)} sl) (t++K6 0 fn pos #[]):=by
 have li:0<gs.size:=(Array.getElem?_eq_some_iff.1 h.zero).1;have hc:0<X.c0:=by rw[A];exact li
 have z:t++K6 0 fn pos #[]=t:=by rw[dB];simp
 rw[z];obtain⟨tm,FU⟩:=AB.ch;have C:X.Ch<w.heap.size:=AB.jd.1;have I:X.Ch≠X.Wg:=by rw[AB.wg];omega
 let W:Nat->Em:=λ_=>⟨⟨1,0,0⟩,J,λ_=>False,λ_=>False,0,0,Y⟩;let S0:=W3 X.Wb X.Wg X.Ch (w.heap.size+1);have f:∀g b,Az X 0 S0 W g b↔g=0/\S0 b:=λg b=>⟨λx=>x.elim id λ⟨i,hi,_⟩=>absurd hi (by omega),AA⟩;have p:∀g b,¬Bq X 0 (λ_=>False) W g b:=λg b x=>x.elim (λy=>y.2) λ⟨i,hi,_⟩=>absurd hi (by omega);have s:∀b,S0 b->b<w.heap.size:=λb hb=>by have m:=hb.1;have h2:=hb.2.2.1;rw[AB.wg]at h2;omega
 have FE:Lh X.B7 (X.c0+0) (w.heap.push (Ms X.ty 0 0)).size (Az X 0 S0 W) (Bq X 0 (λ_=>False) W):=by
  refine⟨λg h b x y=>((f g b).1 x).1.trans ((f h b).1 y).1.symm,λg h b _ y=>p h b y,λg b e=>⟨λx=>?_,λx=>p g b x⟩,λg b x=>?_,λg b x=>?_,λb e=>?_⟩
  ·obtain⟨_,hb⟩:=(f g b).1 x;rcases e with e|e;·exact hb.2.1 e
   ·exact hb.2.2.1 e
  ·rcases x with x|x;·have:=s b ((f g b).1 x).2;simp only[aB];omega
   ·exact absurd x (p g b)
  ·rcases x with x|x;·rw[((f g b).1 x).1];omega
   ·exact absurd x (p g b)
  ·simp only[aB];rcases e with e|e;·have:=h.OW b e;omega
   ·rw[e,AB.wg];omega
 have PM:IZ X.B7 (X.c0+0) (w.heap.push (Ms X.ty 0 0)).size (Az X 0 S0 W) (Bq X 0 (λ_=>False) W) t:=by
  refine h.JB.hand (by omega) (by simp) (λb hb=>?_) (λg b hb l A9=>?_) λg b hb=>absurd hb (p g b)
  ·rcases hb with hb|hb;·exact AA hb
   ·exact AF (by rw[hb,AB.wg];exact AX _)
  ·obtain⟨rfl,Ae⟩:=(f g b).1 hb;exact h.JB.own 0 b ⟨rfl,s b Ae,Ae.2.1⟩ l A9
 have kg:T3 X.B7 X.c0 t:=by rw[A];exact⟨λi x hx hm hn=>h.NN.known i x hx hm λ⟨b,m,h2⟩=>hn ⟨b,AA m,h2⟩,h.NN.over⟩
 have N:Fv X 0 gsn {w with heap:=w.heap.push (Ms X.ty 0 0)} t W (λ_=>False) S0 q 0 []:=by
  refine⟨by rw[d,A];rfl,hc,λi g m h2 h3=>?_,λi hi=>absurd hi (by omega),FE,PM,kg,h.hears,λi hi=>absurd hi (by omega),λi hi hx=>?_,⟨by omega,λi g m h2=>?_⟩,λi hi=>absurd hi (by omega),⟨tm,?_⟩,λg b hb=>?_,I,λi=>⟨λ⟨v,hv⟩=>(by cases hv),λD'=>by omega⟩,by simp,λi v hv=>by cases hv⟩;·rw[Hc i (by omega)]at h3;exact h.leave.old i g m h3
  ·have:=a7J hx;omega
  ·obtain⟨op,A7,kl⟩:=Option.map_eq_some_iff.1 m;have:=h.JB.gs i op A7;omega
  ·show(w.heap.push _)[X.Ch]?=_;rw[H4 C,<-ET];exact FU
  ·rcases hb with hb|hb;·exact((f g b).1 hb).2.2.2.2
   ·exact absurd hb (p g b)
 have Q:Ip X.ty X.Wg {w with heap:=w.heap.push (Ms X.ty 0 0)} 0 0:=by show(w.heap.push (Ms X.ty 0 0))[X.Wg]?=_;rw[AB.wg,vW]
 have M:∀r,Jd 0 (Co W) (aYS r 6) 0 0:=λr=>by have:=a7R (j:=0) (D:=Co W) (tag:=aYS r 6) trivial λi hi=>by omega (by simp);simpa[Vc,Io,KW]using this
 cases hn:X.n with|zero=>rw[hn]at hs;obtain⟨τ,H⟩:=Way.Fq hs;have:=FI.Zd (X:=X) H;rw[hn]at this;exact⟨_,gsn,_,sl,0,W,aYS 0 6,τ,0,0,a',0,0,_,S0,q,[],rfl,K,this,N,Q,M 0,rfl⟩|succ r=>rw[hn]at hs;obtain⟨τ,H⟩:=Way.Fq hs;have:=FI.JW (X:=X) (r:=r) (by omega) H;rw[hn,Nat.sub_self]at this;exact⟨_,gsn,_,sl,0,W,aYS (r+1) 6,τ,0,0,a',0,0,_,S0,q,[],rfl,K,this,N,Q,M _,rfl⟩
theorem phase(Ai:∀N0,({X with N0:=N0}:Gw).L8)(hn:X.n<2147483648)(z:∀N0,XX {X with N0:=N0} a w):∀(M:Nat)(b:A')(gs:Array AK)(sl:Option (Nat×Nat))(t:DX)(q:Nat->Nat),X.c0=gs.size->Bx (λ_=>False) (EM X.Wb w.heap.size) w b->b.heap.size=w.heap.size->(∀N0,XX {X with N0:=N0} a b)->Io gs.size q<=M->Dm X.P X.Wb gs b t q a->∃N f h N0,Eg X.P N (Ea gs b sl) t=(aYG f,h)/\ah {X with N0:=N0} f h:=by
 intro M;induction M with
 |zero=>
  intro b gs sl t q D A2 B3 e U hc;obtain⟨i,g,d,p,hi,m,I⟩:=Vh (P:=X.P) (w:=b) (sl:=sl) (hc.awake (z 0).run) ⟨0,a,hc.zero,(z 0).run⟩;rcases UX i with rfl|H
  ·obtain rfl:g=a:=by rw[hc.zero]at hi;exact(D3 hi).symm
   obtain⟨s,lc,hs⟩:=(e t.size).go (b.at d) (Bx.at _ _ _ _) rfl;have A:=Pm (P:=X.P) (sl:=p) (i:=0) hi (show Be X.P (0==0) g (b.at d)=_ from lc);have hlt:0<gs.size:=(Array.getElem?_eq_some_iff.1 hc.zero).1;have K:XX {X with N0:=t.size} g (b.at d):=⟨(e t.size).run,(e t.size).wg,λC h2 h3=>(e t.size).go C ((Bx.at _ _ _ d).trans h2) h3,(e t.size).ch,(e t.size).jd⟩;obtain⟨K3,Q⟩:=a4K (X:={X with N0:=t.size}) (sl:=p) (hc.at d) K D rfl hs g.frame.fn g.frame.place (gsn:=(gs.map (Pn X.P g s {b.at d with heap:=(b.at d).heap.push (Ms X.ty 0 0)})).setIfInBounds 0 s) (by simp) (dE _ _ _ hlt) (λk hk=>by rw[Xg _ _ _ _ (JK hk)];cases Hk:gs[k]? with|none=>rfl|some x=>rw[MP,Xf (hc.leave.old k x (by omega) Hk)]);obtain⟨N,f,h,y,h2⟩:=a4L (X:={X with N0:=t.size}) (Ai t.size) hn K3 _ _ Q;exact⟨N+1,f,h,t.size,by simp only[Eg,I,A];exact y,h2⟩
  ·have AD:=hc.leave.old i g H hi;have hlt:i<gs.size:=(Array.getElem?_eq_some_iff.1 hi).1;have:q i<=Io gs.size q:=dF hlt;have QP:q i=0:=by omega
   rw[QP]at AD;rw[AD.1]at m;cases m
 |succ M ih=>
  intro b gs sl t q D A2 B3 e U hc;obtain⟨i,g,d,p,hi,m,I⟩:=Vh (P:=X.P) (w:=b) (sl:=sl) (hc.awake (z 0).run) ⟨0,a,hc.zero,(z 0).run⟩;rcases UX i with rfl|H
  ·obtain rfl:g=a:=by rw[hc.zero]at hi;exact(D3 hi).symm
   obtain⟨s,lc,hs⟩:=(e t.size).go (b.at d) (Bx.at _ _ _ _) rfl;have A:=Pm (P:=X.P) (sl:=p) (i:=0) hi (show Be X.P (0==0) g (b.at d)=_ from lc);have hlt:0<gs.size:=(Array.getElem?_eq_some_iff.1 hc.zero).1;have K:XX {X with N0:=t.size} g (b.at d):=⟨(e t.size).run,(e t.size).wg,λC h2 h3=>(e t.size).go C ((Bx.at _ _ _ d).trans h2) h3,(e t.size).ch,(e t.size).jd⟩;obtain⟨K3,Q⟩:=a4K (X:={X with N0:=t.size}) (sl:=p) (hc.at d) K D rfl hs g.frame.fn g.frame.place (gsn:=(gs.map (Pn X.P g s {b.at d with heap:=(b.at d).heap.push (Ms X.ty 0 0)})).setIfInBounds 0 s) (by simp) (dE _ _ _ hlt) (λk hk=>by rw[Xg _ _ _ _ (JK hk)];cases Hk:gs[k]? with|none=>rfl|some x=>rw[MP,Xf (hc.leave.old k x (by omega) Hk)]);obtain⟨N,f,h,y,h2⟩:=a4L (X:={X with N0:=t.size}) (Ai t.size) hn K3 _ _ Q;exact⟨N+1,f,h,t.size,by simp only[Eg,I,A];exact y,h2⟩
  ·have AD:=hc.leave.old i g H hi;have LH:(i==0)=A5:=by simp;omega
   have hlt:i<gs.size:=(Array.getElem?_eq_some_iff.1 hi).1;cases Kt:q i with
   |zero=>rw[Kt]at AD;rw[AD.1]at m;cases m
   |succ k=>
    rw[Kt]at AD;rcases AD with⟨AE,_⟩|⟨_,g',es,hm,VA,LI⟩;·rw[AE]at m;cases m
    have A:=Pm (P:=X.P) (sl:=p) (i:=i) hi (by rw[LH];exact VA (b.at d));have QS:Io gs.size (Cq q i k)+(k+1)=Io gs.size q+k:=by have:=Vj q k id hlt;simpa[Kt]using this
    have Hb:=(hc.at d).slip (z 0).run H hi hm LI g.frame.fn g.frame.place;obtain⟨N,f,h,N0,y,h2⟩:=ih (b.at d) _ p _ (Cq q i k) (by simp[D]) (A2.trans (Bx.at _ _ _ d)) B3 (λN0=>⟨(e N0).run,(e N0).wg,λC h2 h3=>(e N0).go C ((Bx.at _ _ _ d).trans h2) h3,(e N0).ch,(e N0).jd⟩) (by simp;omega) Hb;exact⟨N+1,f,h,N0,by simp only[Eg,I,A];exact y,h2⟩
end
end
section
open Go.Conc Go.RowKit Go.Conc.Lib Go.ConcR.Gen Go.ConcN.Gen
open Go.ConcN(WgLive)
open Go.ConcR(KK wgBlock WgAt stA smA rd wr mk Payload DC0)
variable{b₀:AY}{ops₀:Array Bf}{a₀:Ja}{k₀:List Cw}{rest₀:List Nat}{i₀:Nat}
variable[Ck]{L:hh}{X:Gw}
omit[Ck]in theorem A8{w f3:A'}{WG:Gw}(h:IQ WG.ty WG.Wg w)(r:Dh WG w f3):IQ WG.ty WG.Wg f3:=r h
omit[Ck]in theorem DG.more{Stop:AK->A'->Prop}{m:Nat}{g:AK}{w:A'}(h:DG X Stop m g w):∀k,DG X Stop (m+k) g w|0=>h|k+1=>Goes.more (DG.more h k)
omit[Ck]in theorem DG.of{Stop:AK->A'->Prop}:∀{n:Nat}{g:AK}{w:A'},Xc X.P A0 (Dh X) DC0 Stop n g w->DG X Stop n g w
 |0,_,_,h=>h
 |n+1,g,w,h=>by
  rcases h with h|⟨hs,h⟩;·exact AA h
  ·refine AF ⟨hs,λe b=>?_⟩;have:=h e b;revert this;cases Be X.P A0 g e with|go m w' f=>exact λ⟨⟨e1,e2⟩,k⟩=>⟨⟨e1,by rw[e2];simp⟩,DG.of k⟩|_=>exact id
omit[Ck]in theorem DG.glue{Stop:AK->A'->Prop}{m:Nat}:∀{n:Nat}{g:AK}{w:A'},Xc X.P A0 (Dh X) DC0 (λg w=>DG X Stop m g w) n g w->DG X Stop (n+m) g w
 |0,_,w,h=>by rw[Nat.zero_add];exact h w id
 |n+1,g,w,h=>by
  rcases h with h|⟨hs,h⟩;·have:=h w id;rw[Nat.add_comm];exact DG.more this (n+1)
  ·rw[show n+1+m=n+m+1 by omega];refine AF ⟨hs,λe b=>?_⟩;have:=h e b;revert this;cases Be X.P A0 g e with|go p w' f=>exact λ⟨⟨e1,e2⟩,k⟩=>⟨⟨e1,by rw[e2];simp⟩,DG.glue k⟩|_=>exact id
variable{L:hh}{X:Gw}
theorem aCF(H:nW X.P L)(x:X.ty=L.tWg){Nx:AK->Prop}{cs:List AY}(D:Nx (G (b₀.at (a₀.put (ops₀[i₀]?.bind (·.dst)) (aY8 #[])) (aY7 ops₀ rest₀::k₀)) cs))(w:A')(b:IQ X.ty X.Wg w):DG X (AtKdS X Nx) 12 (G ((B6 L.add).at ⟨#[aY4 (Z ⟨X.Wg,0,J⟩),IS Po 1,Y,Y,Y,Y,Y,Y,Y,Y,Y,Y,Y,Y,Y,Y,Y,Y,Y,Y,Y,Y,Y,Y,Y,Y,Y,Y,Y,Y,Y,Y,Y,Y,Y,Y,Y,Y,Y,Y,Y,Y,Y,Y,Y,Y,Y,Y,Y,Y,Y,Y,Y,Y,Y,Y,Y,Y,Y,Y,Y,Y,Y,Y,Y,Y,Y,Y,Y,Y,Y,Y,Y,Y,Y,Y,Y,Y,Y,Y,Y,Y,Y,Y,Y,Y,Y,Y,Y,Y,Y,Y,Y,Y,Y,Y,Y,Y,Y,Y,Y,Y,Y,Y,Y,Y,Y,Y,Y,Y,Y,Y,Y,Y,Y,Y,Y],[]⟩ [aY9 (w9 L)]) (b₀.at a₀ (aY7 ops₀ (i₀::rest₀)::k₀)::cs)) w:=by
 lib_facts;simp only[w9,addFn,HB];refine DG.of ?_;repeat(first|u_c stepG_seq A8 b|u_c stepG_region_end A8 b|u_c stepG_skip A8 b|u_reg A8 b)
 u_cond true A8 b;repeat(first|u_c stepG_seq A8 b|u_c stepG_region_end A8 b|u_c stepG_skip A8 b|u_reg A8 b)
 iterate 2 u_op A8 b
 repeat(first|u_c stepG_seq A8 b|u_c stepG_region_end A8 b|u_c stepG_skip A8 b|u_reg A8 b)
 u_cond false A8 b;repeat(first|u_c stepG_seq A8 b|u_c stepG_region_end A8 b|u_c stepG_skip A8 b|u_reg A8 b)
 refine Jb λf3 h=>?_;replace b:=A8 b h;clear h;refine⟨rfl,_,nh aYp (by simp) rfl rfl (by k_ne) rfl H.f_disable (a7j L) (a7h L) (a7k L) (a7i L),40,?_⟩;refine DG.of ?_;walk_nrm;u_c stepG_region_end A8 b;u_reg A8 b;u_defer A8 b;repeat(first|u_c stepG_seq A8 b|u_c stepG_region_end A8 b|u_c stepG_skip A8 b|u_reg A8 b)
 u_op A8 b;repeat(first|u_c stepG_seq A8 b|u_c stepG_region_end A8 b|u_c stepG_skip A8 b|u_reg A8 b)
 u_bub A8 b;repeat(first|u_c stepG_seq A8 b|u_c stepG_region_end A8 b|u_c stepG_skip A8 b|u_reg A8 b)
 u_cond false A8 b;repeat(first|u_c stepG_seq A8 b|u_c stepG_region_end A8 b|u_c stepG_skip A8 b|u_reg A8 b)
 iterate 6 u_op A8 b
 u_call H.f_uAdd(nm_uAdd L)uAddFn A8 b;repeat(first|u_c stepG_seq A8 b|u_c stepG_region_end A8 b|u_c stepG_skip A8 b|u_reg A8 b)
 u_op A8 b;repeat(first|u_c stepG_seq A8 b|u_c stepG_region_end A8 b|u_c stepG_skip A8 b|u_reg A8 b)
 iterate 4 u_op A8 b
 refine Jb λy K=>?_;replace b:=A8 b K;clear K;refine⟨rfl,λv hv f=>?_⟩;rw[x]at f;rcases UX v with rfl|d
 ·replace f:Ip L.tWg X.Wg y 0 0:=by simpa using f
  have z:(((0:Nat):Int)+1)*KK=KK:=by simp
  rw[z];have U:UF.wrap (0+4294967296)=KK:=by decide
  refine⟨_,(a7M rfl rfl (by k_ne) rfl H.f_addU64 (a7b L) (a7_ L) (a7c L) UF (a7a L) rfl rfl f.cellSt (f.thaw 0)).trans (by rw[U];rfl),60+60,?_⟩;replace b:IQ X.ty X.Wg (y.setCell (Ef X.Wg) (IS UF KK)):=by rw[x];exact⟨_,_,f.setSt _⟩
  clear f;simp only[KK]at b⊢;refine DG.glue ?_;walk_nrm;u_op A8 b;repeat(first|u_c stepG_seq A8 b|u_c stepG_region_end A8 b|u_c stepG_skip A8 b|u_reg A8 b)
  u_c stepG_ret' A8 b;u_leave1 H.f_uAdd A8 b;u_op A8 b;repeat(first|u_c stepG_seq A8 b|u_c stepG_region_end A8 b|u_c stepG_skip A8 b|u_reg A8 b)
  iterate 4 u_op A8 b
  iterate 2 u_skip A8 b
  u_op A8 b;repeat(first|u_c stepG_seq A8 b|u_c stepG_region_end A8 b|u_c stepG_skip A8 b|u_reg A8 b)
  u_cond false A8 b;repeat(first|u_c stepG_seq A8 b|u_c stepG_region_end A8 b|u_c stepG_skip A8 b|u_reg A8 b)
  iterate 4 u_op A8 b
  repeat(first|u_c stepG_seq A8 b|u_c stepG_region_end A8 b|u_c stepG_skip A8 b|u_reg A8 b)
  iterate 4 u_op A8 b
  repeat(first|u_c stepG_seq A8 b|u_c stepG_region_end A8 b|u_c stepG_skip A8 b|u_reg A8 b)
  iterate 10 u_op A8 b
  repeat(first|u_c stepG_seq A8 b|u_c stepG_region_end A8 b|u_c stepG_skip A8 b|u_reg A8 b)
  u_cond true A8 b;repeat(first|u_c stepG_seq A8 b|u_c stepG_region_end A8 b|u_c stepG_skip A8 b|u_reg A8 b)
  iterate 3 u_op A8 b
  refine d' rfl λ_ I=>?_;replace b:=A8 b I;clear I;refine n_ rfl rfl (by k_ne) λQ C=>?_;have Ru:=om (P:=X.P) H.underlying_tPU32 H.underlying_tUP H.room_tU32 (np b).choose_spec;have HS:=λes=>nZ (P:=X.P) H.underlying_tPU32 H.underlying_tUP H.room_tU32 (np b).choose_spec es;go_simp;refine C _ _ ⟨?_,?_⟩;·refine nv ?_;intro ex V';have hm:=nb V';simp[go_sem, *]at hm
  clear C Q Ru HS;refine Jb λn1 M=>?_;replace b:=A8 b M;clear M;refine d' rfl λXU N=>?_;replace b:=A8 b N;clear N;rw[ni .read (by simp) rfl rfl (by k_ne) rfl H.f_raceRead (x_raceRead_n L) (x_raceRead_b L) (x_raceRead_x L) (x_raceRead_f L) (ad:=⟨X.Wg,1,J⟩) (by simp[Cu])];simp only[vv];refine⟨⟨rfl,λe he=>?_⟩,?_⟩;·rw[vX]at he;exact⟨⟨X.Wg,1,J⟩,rfl,AA he⟩
  refine DG.of ?_;walk_nrm;repeat(first|u_c stepG_seq A8 b|u_c stepG_region_end A8 b|u_c stepG_skip A8 b|u_reg A8 b)
  iterate 2 u_op A8 b
  repeat(first|u_c stepG_seq A8 b|u_c stepG_region_end A8 b|u_c stepG_skip A8 b|u_reg A8 b)
  u_cond false A8 b;repeat(first|u_c stepG_seq A8 b|u_c stepG_region_end A8 b|u_c stepG_skip A8 b|u_reg A8 b)
  iterate 3 u_op A8 b
  iterate 2 u_skip A8 b
  iterate 2 u_op A8 b
  iterate 4 u_skip A8 b
  u_op A8 b;repeat(first|u_c stepG_seq A8 b|u_c stepG_region_end A8 b|u_c stepG_skip A8 b|u_reg A8 b)
  u_cond false A8 b;repeat(first|u_c stepG_seq A8 b|u_c stepG_region_end A8 b|u_c stepG_skip A8 b|u_reg A8 b)
  iterate 3 u_op A8 b
  iterate 2 u_skip A8 b
  u_op A8 b;repeat(first|u_c stepG_seq A8 b|u_c stepG_region_end A8 b|u_c stepG_skip A8 b|u_reg A8 b)
  u_cond true A8 b;u_c stepG_ret' A8 b;refine Jb λhN s=>?_;replace b:=A8 b s;clear s;refine⟨rfl,_,a7Q (v:=aY8 #[]) (evs:=#[Ng aYx]) rfl H.f_enable (ny L) (nw L) (nz L) (nx L) (by simp[a7r]) (by simp[Ng]) (by simp[Ng]),1,?_⟩;refine DG.of ?_;u_leave0 H.f_add A8 b;exact Jb λ_ _=>D
 ·obtain⟨V,p⟩:∃V:Int,V=(v:Int)+1:=⟨_,rfl⟩;obtain⟨S,m⟩:∃S:Int,S=V*KK:=⟨_,rfl⟩;have A:UF.wrap ((v:Int)*KK+4294967296)=S:=by rw[w_,m,p];simp only[KK];omega
  rw[<-p,<-m];have a1:S/4294967296=V:=by rw[m];simp only[KK];omega
  have E6:bits .and UF S 2147483648=0:=by rw[m,p];have:=a7U (v+1) 0 (by omega) (by omega);simpa[KK]using this
  have b2:bits .and UF S 2147483647=0:=by rw[m,p];have:=a7V (v+1) 0 (by omega) (by omega);simpa[KK]using this
  have c1:a7x.wrap V=V:=by rw[a7y];omega
  have aGo:1<V:=by omega
  have aVB:V<2147483648:=by omega
  have DQ:(V==1)=A5:=by simp;omega
  have Dg:Bn (V=1)=A5:=decide_eq_false (by omega);have FG:Bn (V<0)=A5:=decide_eq_false (by omega);have Gn:Bn (0<V)=A0:=decide_eq_true (by omega);have J9:(V==0)=A5:=by simp;omega
  have K':Bn (V=0)=A5:=decide_eq_false (by omega);refine⟨_,(a7M rfl rfl (by k_ne) rfl H.f_addU64 (a7b L) (a7_ L) (a7c L) UF (a7a L) rfl rfl f.cellSt (f.thaw 0)).trans (by rw[A];rfl),110,?_⟩;replace b:IQ X.ty X.Wg (y.setCell (Ef X.Wg) (IS UF S)):=by rw[x];exact⟨_,_,f.setSt _⟩
  clear f m p A;refine DG.of ?_;walk_nrm;u_op A8 b;repeat(first|u_c stepG_seq A8 b|u_c stepG_region_end A8 b|u_c stepG_skip A8 b|u_reg A8 b)
  u_c stepG_ret' A8 b;u_leave1 H.f_uAdd A8 b;u_op A8 b;repeat(first|u_c stepG_seq A8 b|u_c stepG_region_end A8 b|u_c stepG_skip A8 b|u_reg A8 b)
  iterate 4 u_op A8 b
  iterate 2 u_skip A8 b
  u_op A8 b;repeat(first|u_c stepG_seq A8 b|u_c stepG_region_end A8 b|u_c stepG_skip A8 b|u_reg A8 b)
  u_cnd false A8 b;repeat(first|u_c stepG_seq A8 b|u_c stepG_region_end A8 b|u_c stepG_skip A8 b|u_reg A8 b)
  iterate 4 u_op A8 b
  repeat(first|u_c stepG_seq A8 b|u_c stepG_region_end A8 b|u_c stepG_skip A8 b|u_reg A8 b)
  iterate 4 u_op A8 b
  repeat(first|u_c stepG_seq A8 b|u_c stepG_region_end A8 b|u_c stepG_skip A8 b|u_reg A8 b)
  iterate 10 u_op A8 b
  repeat(first|u_c stepG_seq A8 b|u_c stepG_region_end A8 b|u_c stepG_skip A8 b|u_reg A8 b)
  u_cnd false A8 b;repeat(first|u_c stepG_seq A8 b|u_c stepG_region_end A8 b|u_c stepG_skip A8 b|u_reg A8 b)
  iterate 2 u_op A8 b
  repeat(first|u_c stepG_seq A8 b|u_c stepG_region_end A8 b|u_c stepG_skip A8 b|u_reg A8 b)
  u_cnd false A8 b;repeat(first|u_c stepG_seq A8 b|u_c stepG_region_end A8 b|u_c stepG_skip A8 b|u_reg A8 b)
  iterate 3 u_op A8 b
  iterate 2 u_skip A8 b
  iterate 2 u_op A8 b
  iterate 4 u_skip A8 b
  u_op A8 b;repeat(first|u_c stepG_seq A8 b|u_c stepG_region_end A8 b|u_c stepG_skip A8 b|u_reg A8 b)
  u_cnd false A8 b;repeat(first|u_c stepG_seq A8 b|u_c stepG_region_end A8 b|u_c stepG_skip A8 b|u_reg A8 b)
  iterate 3 u_op A8 b
  iterate 2 u_skip A8 b
  u_op A8 b;repeat(first|u_c stepG_seq A8 b|u_c stepG_region_end A8 b|u_c stepG_skip A8 b|u_reg A8 b)
  u_cnd true A8 b;u_c stepG_ret' A8 b;refine Jb λhN s=>?_;replace b:=A8 b s;clear s;refine⟨rfl,_,a7Q (v:=aY8 #[]) (evs:=#[Ng aYx]) rfl H.f_enable (ny L) (nw L) (nz L) (nx L) (by simp[a7r]) (by simp[Ng]) (by simp[Ng]),1,?_⟩;refine DG.of ?_;u_leave0 H.f_add A8 b;exact Jb λ_ _=>D
variable{L:hh}{X:Gw}
def Head(X:Gw)(L:hh)(c:AY)(cs:List AY)(g:AK):Prop:=∃T:Array A1,g=G ((B6 L.wait).at ⟨T,[]⟩ [aY9 (L7 L),.inLoop (L7 L),aYk 0]) (c::cs)/\T.size=84/\T[0]?=Z (aY4 (Z ⟨X.Wg,0,J⟩))
def nJ(X:Gw)(b:AK)(g:AK):Prop:=∀w,IQ X.ty X.Wg w->∃m,Xc X.P A0 (Dh X) DC0 (λe _=>e=b) m g w
section
variable{b₀:AY}{a₀:Ja}{ops₀:Array Bf}{i₀:Nat}{rest₀:List Nat}{k₀:List Cw}{cs:List AY}
theorem aTI(H:nW X.P L)(w:A')(b:IQ X.ty X.Wg w):DG X (AtKd X (Head X L (b₀.at a₀ (aY7 ops₀ (i₀::rest₀)::k₀)) cs)) 3 (G ((B6 L.wait).at ⟨#[aY4 (Z ⟨X.Wg,0,J⟩),Y,Y,Y,Y,Y,Y,Y,Y,Y,Y,Y,Y,Y,Y,Y,Y,Y,Y,Y,Y,Y,Y,Y,Y,Y,Y,Y,Y,Y,Y,Y,Y,Y,Y,Y,Y,Y,Y,Y,Y,Y,Y,Y,Y,Y,Y,Y,Y,Y,Y,Y,Y,Y,Y,Y,Y,Y,Y,Y,Y,Y,Y,Y,Y,Y,Y,Y,Y,Y,Y,Y,Y,Y,Y,Y,Y,Y,Y,Y,Y,Y,Y,Y],[]⟩ [aY9 (nu L)]) (b₀.at a₀ (aY7 ops₀ (i₀::rest₀)::k₀)::cs)) w:=by lib_facts;simp only[nu,waitFn,HB];refine DG.of ?_;u_c stepG_seq A8 b;u_cond true A8 b;u_reg A8 b;refine Jb λh e=>?_;replace b:=A8 b e;clear e;refine⟨rfl,_,nh aYp (by simp) rfl rfl (by k_ne) rfl H.f_disable (a7j L) (a7h L) (a7k L) (a7i L),3,?_⟩;refine DG.of ?_;walk_nrm;u_c stepG_region_end A8 b;u_c stepG_block A8 b;u_c stepG_loop A8 b;exact Jb λm f=>⟨_,rfl,by simp,by simp⟩
theorem aTH(H:nW X.P L)(d:X.ty=L.tWg):YC X (Head X L (b₀.at a₀ (aY7 ops₀ (i₀::rest₀)::k₀)) cs) (nJ X (G (b₀.at (a₀.put (ops₀[i₀]?.bind (·.dst)) (aY8 #[])) (aY7 ops₀ rest₀::k₀)) cs)):=by
 rintro g⟨T,rfl,U,t0⟩;refine⟨rfl,λw b=>?_⟩;lib_facts;obtain⟨v0,Hr,Fc,v3,v4,v5,c_,vI,mr,v9,aWM,aSv,aWN,aSw,aWO,aWP,aWQ,aWR,aWS,aWT,v20,v21,v22,aWU,aWV,v25,aWW,aWX,aWY,aWZ,aW_,v31,aWa,aWb,aWc,aWd,aWe,v37,aWf,v39,v40,aWg,aWh,aWi,aWj,v45,v46,aWk,aWl,aWm,v50,v51,aWn,v53,aWo,v55,aWp,aWq,aWr,v59,aWs,aWt,aWu,aWv,aWw,aWx,v66,aWy,aWz,aX',v70,aX0,v72,aX1,aX2,aX3,v76,v77,aX4,aX5,aX6,aX7,aX8,aX9,rfl⟩:=array84 T U;simp only[List.getElem?_toArray,List.getElem?_cons_zero,W5]at t0;subst t0;refine⟨30,?_⟩;simp only[L7,nu,waitFn,HB];refine DG.of ?_;u_c stepG_block A8 b;repeat(first|u_c stepG_seq A8 b|u_c stepG_region_end A8 b|u_c stepG_skip A8 b|u_reg A8 b)
 iterate 3 u_op A8 b
 u_call H.f_uLoad(nm_uLoad L)uLoadFn A8 b;repeat(first|u_c stepG_seq A8 b|u_c stepG_region_end A8 b|u_c stepG_skip A8 b|u_reg A8 b)
 u_op A8 b;repeat(first|u_c stepG_seq A8 b|u_c stepG_region_end A8 b|u_c stepG_skip A8 b|u_reg A8 b)
 iterate 3 u_op A8 b
 refine Jb λf3 s=>?_;replace b:=A8 b s;clear s;refine⟨rfl,λv hv f=>?_⟩;rw[d]at f;rcases UX v with rfl|aJA
 ·replace f:Ip L.tWg X.Wg f3 0 0:=by simpa using f
  refine⟨_,vx (v:=0) rfl rfl (by k_ne) rfl H.f_loadU64 (wC L) (wA L) (wD L) UF (wB L) rfl f.cellSt,λ_=>⟨50,?_⟩,λh=>absurd rfl h⟩;clear f;refine DG.of ?_;walk_nrm;u_op A8 b;repeat(first|u_c stepG_seq A8 b|u_c stepG_region_end A8 b|u_c stepG_skip A8 b|u_reg A8 b)
  u_c stepG_ret' A8 b;u_leave1 H.f_uLoad A8 b;u_op A8 b;repeat(first|u_c stepG_seq A8 b|u_c stepG_region_end A8 b|u_c stepG_skip A8 b|u_reg A8 b)
  iterate 4 u_op A8 b
  repeat(first|u_c stepG_seq A8 b|u_c stepG_region_end A8 b|u_c stepG_skip A8 b|u_reg A8 b)
  iterate 4 u_op A8 b
  repeat(first|u_c stepG_seq A8 b|u_c stepG_region_end A8 b|u_c stepG_skip A8 b|u_reg A8 b)
  iterate 2 u_op A8 b
  repeat(first|u_c stepG_seq A8 b|u_c stepG_region_end A8 b|u_c stepG_skip A8 b|u_reg A8 b)
  u_cond true A8 b;repeat(first|u_c stepG_seq A8 b|u_c stepG_region_end A8 b|u_c stepG_skip A8 b|u_reg A8 b)
  u_cond true A8 b;repeat(first|u_c stepG_seq A8 b|u_c stepG_region_end A8 b|u_c stepG_skip A8 b|u_reg A8 b)
  refine Jb λhN K=>?_;replace b:=A8 b K;clear K;refine⟨rfl,_,nh aYx (by simp) rfl rfl (by k_ne) rfl H.f_enable (ny L) (nw L) (nz L) (nx L),12,?_⟩;refine DG.of ?_;walk_nrm;repeat(first|u_c stepG_seq A8 b|u_c stepG_region_end A8 b|u_c stepG_skip A8 b|u_reg A8 b)
  u_op A8 b;refine d' rfl λ_ p=>?_;replace b:=A8 b p;clear p;refine n_ rfl rfl (by k_ne) λy m=>?_;have C:=om (P:=X.P) H.underlying_tWgP H.underlying_tUP H.room_tWg (nn b).choose_spec;have A:=λz=>nZ (P:=X.P) H.underlying_tWgP H.underlying_tUP H.room_tWg (nn b).choose_spec z;go_simp;refine m _ _ ⟨?_,?_⟩;·refine nv ?_;intro ex D;have I:=nb D;simp[go_sem, *]at I
  clear m y C A;refine Jb λvS M=>?_;replace b:=A8 b M;clear M;refine⟨rfl,_,ni aYo (by simp) rfl rfl (by k_ne) rfl H.f_acquire (a7Y L) (a7W L) (a7Z L) (a7X L) (by simp[Cu,Ef]),λU b=>⟨20,?_⟩⟩;walk_nrm;repeat(first|u_c stepG_seq A8 b|u_c stepG_region_end A8 b|u_c stepG_skip A8 b|u_reg A8 b)
  iterate 8 u_op A8 b
  iterate 2 u_skip A8 b
  u_op A8 b;repeat(first|u_c stepG_seq A8 b|u_c stepG_region_end A8 b|u_c stepG_skip A8 b|u_reg A8 b)
  u_cond false A8 b;repeat(first|u_c stepG_seq A8 b|u_c stepG_region_end A8 b|u_c stepG_skip A8 b|u_reg A8 b)
  u_c stepG_ret' A8 b;u_leave0 H.f_wait A8 b;exact Jb λ_ _=>rfl
 ·obtain⟨S,x⟩:∃S:Int,(v:Int)*KK=S:=⟨_,rfl⟩;have a1:S/4294967296=(v:Int):=by rw[<-x];simp only[KK];omega
  have E6:bits .and UF S 2147483648=0:=by rw[<-x];have:=a7U v 0 (by omega) (by omega);simpa[KK]using this
  have b2:bits .and UF S 2147483647=0:=by rw[<-x];have:=a7V v 0 (by omega) (by omega);simpa[KK]using this
  have c1:a7x.wrap (v:Int)=(v:Int):=by rw[a7y];omega
  have w1:UF.wrap (S+1)=S+1:=by rw[w_,<-x];simp only[KK];omega
  have FG:Bn ((v:Int)<0)=A5:=decide_eq_false (by omega);have Gn:Bn (0<(v:Int))=A0:=decide_eq_true (by omega);have J9:((v:Int)==0)=A5:=by simp;omega
  have K':Bn ((v:Int)=0)=A5:=decide_eq_false (by omega);rw[x]at f;refine⟨_,vx (v:=S) rfl rfl (by k_ne) rfl H.f_loadU64 (wC L) (wA L) (wD L) UF (wB L) rfl f.cellSt,λAV=>absurd AV (by omega),λ_=>⟨60,?_⟩⟩;clear f;refine DG.of ?_;walk_nrm;u_op A8 b;repeat(first|u_c stepG_seq A8 b|u_c stepG_region_end A8 b|u_c stepG_skip A8 b|u_reg A8 b)
  u_c stepG_ret' A8 b;u_leave1 H.f_uLoad A8 b;u_op A8 b;repeat(first|u_c stepG_seq A8 b|u_c stepG_region_end A8 b|u_c stepG_skip A8 b|u_reg A8 b)
  iterate 4 u_op A8 b
  repeat(first|u_c stepG_seq A8 b|u_c stepG_region_end A8 b|u_c stepG_skip A8 b|u_reg A8 b)
  iterate 4 u_op A8 b
  repeat(first|u_c stepG_seq A8 b|u_c stepG_region_end A8 b|u_c stepG_skip A8 b|u_reg A8 b)
  iterate 2 u_op A8 b
  repeat(first|u_c stepG_seq A8 b|u_c stepG_region_end A8 b|u_c stepG_skip A8 b|u_reg A8 b)
  u_cnd false A8 b;repeat(first|u_c stepG_seq A8 b|u_c stepG_region_end A8 b|u_c stepG_skip A8 b|u_reg A8 b)
  iterate 6 u_op A8 b
  u_call H.f_uCas(nm_uCas L)uCasFn A8 b;repeat(first|u_c stepG_seq A8 b|u_c stepG_region_end A8 b|u_c stepG_skip A8 b|u_reg A8 b)
  u_op A8 b;repeat(first|u_c stepG_seq A8 b|u_c stepG_region_end A8 b|u_c stepG_skip A8 b|u_reg A8 b)
  iterate 5 u_op A8 b
  refine Jb λEp LN=>?_;replace b:=A8 b LN;clear LN;refine⟨rfl,λv' l1 f=>⟨λe=>?_,λe=>?_⟩⟩
  ·subst e;rw[d]at f;rw[x]at f⊢;refine⟨_,(stepG_cas_hit (v:=S) (n:=S+1) rfl rfl (by k_ne) rfl H.f_casU64 (a7f L) (a7d L) (a7g L) UF (a7e L) rfl rfl rfl f.cellSt (f.thaw 0)).trans (by rfl),40+40,?_⟩;replace b:IQ X.ty X.Wg (Ep.setCell (Ef X.Wg) (IS UF (S+1))):=by rw[d];exact⟨_,_,f.setSt _⟩
   clear f;refine DG.glue ?_;walk_nrm;u_op A8 b;repeat(first|u_c stepG_seq A8 b|u_c stepG_region_end A8 b|u_c stepG_skip A8 b|u_reg A8 b)
   u_c stepG_ret' A8 b;u_leave1 H.f_uCas A8 b;repeat(first|u_c stepG_seq A8 b|u_c stepG_region_end A8 b|u_c stepG_skip A8 b|u_reg A8 b)
   u_cond true A8 b;repeat(first|u_c stepG_seq A8 b|u_c stepG_region_end A8 b|u_c stepG_skip A8 b|u_reg A8 b)
   iterate 4 u_op A8 b
   repeat(first|u_c stepG_seq A8 b|u_c stepG_region_end A8 b|u_c stepG_skip A8 b|u_reg A8 b)
   u_cond true A8 b;repeat(first|u_c stepG_seq A8 b|u_c stepG_region_end A8 b|u_c stepG_skip A8 b|u_reg A8 b)
   iterate 3 u_op A8 b
   refine d' rfl λ_ p=>?_;replace b:=A8 b p;clear p;refine n_ rfl rfl (by k_ne) λy m=>?_;have C:=om (P:=X.P) H.underlying_tPU32 H.underlying_tUP H.room_tU32 (np b).choose_spec;have A:=λz=>nZ (P:=X.P) H.underlying_tPU32 H.underlying_tUP H.room_tU32 (np b).choose_spec z;go_simp;refine m _ _ ⟨?_,?_⟩;·refine nv ?_;intro ex D;have I:=nb D;simp[go_sem, *]at I
   clear m y C A;refine Jb λU N=>?_;replace b:=A8 b N;clear N;refine d' rfl λaXD Q=>?_;replace b:=A8 b Q;clear Q;rw[ni .write (by simp) rfl rfl (by k_ne) rfl H.f_raceWrite (x_raceWrite_n L) (x_raceWrite_b L) (x_raceWrite_x L) (x_raceWrite_f L) (ad:=⟨X.Wg,1,J⟩) (by simp[Cu]<;>rfl)];simp only[vv];refine⟨⟨rfl,λe he=>?_⟩,?_⟩;·rw[vX]at he;exact⟨⟨X.Wg,1,J⟩,rfl,AF he⟩
   refine DG.of ?_;repeat(first|u_c stepG_seq A8 b|u_c stepG_region_end A8 b|u_c stepG_skip A8 b|u_reg A8 b)
   u_op A8 b;repeat(first|u_c stepG_seq A8 b|u_c stepG_region_end A8 b|u_c stepG_skip A8 b|u_reg A8 b)
   iterate 4 u_op A8 b
   iterate 1 u_skip A8 b
   u_op A8 b;repeat(first|u_c stepG_seq A8 b|u_c stepG_region_end A8 b|u_c stepG_skip A8 b|u_reg A8 b)
   u_cond false A8 b;repeat(first|u_c stepG_seq A8 b|u_c stepG_region_end A8 b|u_c stepG_skip A8 b|u_reg A8 b)
   iterate 4 u_op A8 b
   refine Jb λn1 bs=>?_;replace b:=A8 b bs;clear bs;refine⟨rfl,rfl,λ⟨st,f⟩=>stepG_semacquire_wait rfl rfl rfl H.f_semacquire (a7n L) (a7l L) (a7o L) (a7m L) (by simp[Cu,Vk]) f.cellSm,λAE=>?_⟩;refine⟨_,(stepG_semacquire (n:=1) rfl rfl (by k_ne) rfl H.f_semacquire (a7n L) (a7l L) (a7o L) (a7m L) (by simp[Cu,Vk]) AE.cellSm (by k_ne) (AE.thaw 1)).trans (by rfl),30,?_⟩;replace b:IQ X.ty X.Wg (n1.setCell (Vk X.Wg) (IS .u32 0)):=⟨_,_,AE.setSm 0⟩;clear AE;refine DG.of ?_;walk_nrm;repeat(first|u_c stepG_seq A8 b|u_c stepG_region_end A8 b|u_c stepG_skip A8 b|u_reg A8 b)
   iterate 3 u_op A8 b
   u_call H.f_uLoad(nm_uLoad L)uLoadFn A8 b;repeat(first|u_c stepG_seq A8 b|u_c stepG_region_end A8 b|u_c stepG_skip A8 b|u_reg A8 b)
   u_op A8 b;repeat(first|u_c stepG_seq A8 b|u_c stepG_region_end A8 b|u_c stepG_skip A8 b|u_reg A8 b)
   iterate 3 u_op A8 b
   refine Jb λXU gL=>?_;replace b:=A8 b gL;clear gL;refine⟨rfl,λf=>⟨_,vx (v:=0) rfl rfl (by k_ne) rfl H.f_loadU64 (wC L) (wA L) (wD L) UF (wB L) rfl f.cellSt,30,?_⟩⟩;clear f;refine DG.of ?_;walk_nrm;u_op A8 b;repeat(first|u_c stepG_seq A8 b|u_c stepG_region_end A8 b|u_c stepG_skip A8 b|u_reg A8 b)
   u_c stepG_ret' A8 b;u_leave1 H.f_uLoad A8 b;iterate 2 u_op A8 b
   repeat(first|u_c stepG_seq A8 b|u_c stepG_region_end A8 b|u_c stepG_skip A8 b|u_reg A8 b)
   u_cond true A8 b;repeat(first|u_c stepG_seq A8 b|u_c stepG_region_end A8 b|u_c stepG_skip A8 b|u_reg A8 b)
   refine Jb λhN K=>?_;replace b:=A8 b K;clear K;refine⟨rfl,_,nh aYx (by simp) rfl rfl (by k_ne) rfl H.f_enable (ny L) (nw L) (nz L) (nx L),12,?_⟩;refine DG.of ?_;walk_nrm;repeat(first|u_c stepG_seq A8 b|u_c stepG_region_end A8 b|u_c stepG_skip A8 b|u_reg A8 b)
   u_op A8 b;refine d' rfl λ_ p=>?_;replace b:=A8 b p;clear p;refine n_ rfl rfl (by k_ne) λy m=>?_;have C:=om (P:=X.P) H.underlying_tWgP H.underlying_tUP H.room_tWg (nn b).choose_spec;have A:=λz=>nZ (P:=X.P) H.underlying_tWgP H.underlying_tUP H.room_tWg (nn b).choose_spec z;go_simp;refine m _ _ ⟨?_,?_⟩;·refine nv ?_;intro ex D;have I:=nb D;simp[go_sem, *]at I
   clear m y C A;refine Jb λvS M=>?_;replace b:=A8 b M;clear M;refine⟨rfl,_,ni aYo (by simp) rfl rfl (by k_ne) rfl H.f_acquire (a7Y L) (a7W L) (a7Z L) (a7X L) (by simp[Cu,Ef]),λU b=>⟨20,?_⟩⟩;walk_nrm;repeat(first|u_c stepG_seq A8 b|u_c stepG_region_end A8 b|u_c stepG_skip A8 b|u_reg A8 b)
   u_op A8 b;repeat(first|u_c stepG_seq A8 b|u_c stepG_region_end A8 b|u_c stepG_skip A8 b|u_reg A8 b)
   u_cond false A8 b;repeat(first|u_c stepG_seq A8 b|u_c stepG_region_end A8 b|u_c stepG_skip A8 b|u_reg A8 b)
   u_c stepG_ret' A8 b;u_leave0 H.f_wait A8 b;exact Jb λ_ _=>rfl
  ·rw[d]at f;refine⟨_,stepG_cas_miss (v:=(v':Int)*KK) (old:=S) (n:=S+1) rfl rfl (by k_ne) rfl H.f_casU64 (a7f L) (a7d L) (a7g L) UF (a7e L) rfl rfl rfl f.cellSt (f.thaw 0) (by rw[<-x];simp only[KK];omega),20,?_⟩;clear f;refine DG.of ?_;walk_nrm;u_op A8 b;repeat(first|u_c stepG_seq A8 b|u_c stepG_region_end A8 b|u_c stepG_skip A8 b|u_reg A8 b)
   u_c stepG_ret' A8 b;u_leave1 H.f_uCas A8 b;repeat(first|u_c stepG_seq A8 b|u_c stepG_region_end A8 b|u_c stepG_skip A8 b|u_reg A8 b)
   u_cond false A8 b;repeat(first|u_c stepG_seq A8 b|u_c stepG_region_end A8 b|u_c stepG_skip A8 b|u_reg A8 b)
   u_c stepG_inBlock A8 b;u_c stepG_inLoop A8 b;exact Jb λn1 bs=>⟨_,rfl,by simp,by simp⟩
end
end
section
open Go.Proofs.YtcfhleenecfghaaGreatDoor
variable{row:Array A1->BQ A1}
abbrev Ik:hh:={add:=197,done:=199,wait:=201,relMerge:=276,disable:=277,enable:=278,inBubble:=279,associate:=280,fatal:=281,uOr:=282,uAdd:=283,raceRead:=284,uLoad:=285,uStore:=286,disassociate:=287,semrelease:=288,acquire:=290,isAssociated:=291,uCas:=292,raceWrite:=293,semacquire:=294,orU64:=355,addU64:=356,loadU64:=357,storeU64:=358,casU64:=359,tWgP:=398,tUP:=390,tAssoc:=400,tWg:=325,tAU:=322,tU64:=242,tUint:=305,tU32:=323,tPU32:=403,tPAU:=460,tPU64:=462,tNoCopy:=318,tANoCopy:=319,tAlign64:=320}
theorem my:nW A4 Ik:=⟨x2,a8X,x3,Tryz.func276,Tryz.func277,Tryz.func278,Tryz.func279,Tryz.func280,Tryz.func281,Tryz.func282,Tryz.func283,Tryz.func284,Tryz.func285,Tryz.func286,Tryz.func287,Tryz.func288,Tryz.func290,Tryz.func291,Tryz.func292,Tryz.func293,Tryz.func294,Tryz.func355,Tryz.func356,Tryz.func357,Tryz.func358,Tryz.func359,Tryz.underlying398,Tryz.runUnderlying398,Tryz.sizeOf398,Tryz.isAgg398,Tryz.zeroValue398,Tryz.underlying390,Tryz.runUnderlying390,Tryz.sizeOf390,Tryz.isAgg390,Tryz.zeroValue390,Tryz.underlying400,Tryz.runUnderlying400,Tryz.sizeOf400,Tryz.isAgg400,Tryz.zeroValue400,Tryz.underlying325,Tryz.runUnderlying325,Tryz.sizeOf325,Tryz.isAgg325,Tryz.zeroValue325,Tryz.underlying322,Tryz.runUnderlying322,Tryz.sizeOf322,Tryz.isAgg322,Tryz.zeroValue322,Tryz.underlying242,Tryz.runUnderlying242,Tryz.sizeOf242,Tryz.isAgg242,Tryz.zeroValue242,Tryz.underlying305,Tryz.runUnderlying305,Tryz.sizeOf305,Tryz.isAgg305,Tryz.zeroValue305,Tryz.underlying323,Tryz.runUnderlying323,Tryz.sizeOf323,Tryz.isAgg323,Tryz.zeroValue323,Tryz.underlying403,Tryz.runUnderlying403,Tryz.sizeOf403,Tryz.isAgg403,Tryz.zeroValue403,Tryz.underlying460,Tryz.runUnderlying460,Tryz.sizeOf460,Tryz.isAgg460,Tryz.zeroValue460,Tryz.underlying462,Tryz.runUnderlying462,Tryz.sizeOf462,Tryz.isAgg462,Tryz.zeroValue462,Tryz.underlying0,Tryz.runUnderlying0,Tryz.sizeOf0,Tryz.isAgg0,Tryz.zeroValue0,Tryz.underlying3,Tryz.runUnderlying3,Tryz.sizeOf3,Tryz.isAgg3,Tryz.zeroValue3,Tryz.underlying4,Tryz.runUnderlying4,Tryz.sizeOf4,Tryz.isAgg4,Tryz.zeroValue4,Tryz.underlying9,Tryz.runUnderlying9,Tryz.sizeOf9,Tryz.isAgg9,Tryz.zeroValue9,Tryz.underlying20,Tryz.runUnderlying20,Tryz.sizeOf20,Tryz.isAgg20,Tryz.zeroValue20,Tryz.underlying21,Tryz.runUnderlying21,Tryz.sizeOf21,Tryz.isAgg21,Tryz.zeroValue21,by kernel_rfl,by kernel_rfl⟩
def Ya:List Nat:=[200,45,58,218,289,125,92,93,94,95,174,178,177,179,180,100,246,118,251,252,253,248,249,247,250,196,254,255,339,340,341,194,342,343,275,86,123,405,406,273,354,172,43,434,350,352,353,411,85,410,168,87,169,170,171,242,173,176,243,244,245]
def SR:Nat->List Nat|93=>[3,8,37]|251=>[14]|405=>[4]|172=>[3,9,13,14]|_=>[]
def reads(f:Nat):Prop:=f∈Ya/\SR f=[]∨f=407∨f=351∨f=409
theorem a4B{f:Nat}(h:SR f≠[]):f∈Ya:=by
 unfold SR at h;split at h;·decide
 ·decide
 ·decide
 ·decide
 ·exact absurd rfl h
def eU(P:Ac)(f:Nat):Bool:=match P.funcs[f]? with|Z fn=>!fn.name== "runtime.NumGoroutine"&&fn.body.isSome|J=>A5
theorem aCy:Ya.all (eU A4)=A0:=by kernel_rfl
theorem qo:aP wz=Z o3:=by kernel_rfl
theorem qn:aP wy=Z o4:=by kernel_rfl
theorem qp:aP x0=Z o5:=by kernel_rfl
theorem u':(Xh wz).isNone=A0:=by kernel_rfl
theorem tz:(Xh wy).isNone=A0:=by kernel_rfl
theorem u0:(Xh x0).isNone=A0:=by kernel_rfl
section
variable{P:Ac}{F:Nat->Prop}{so:Dr}{E:AN}
theorem NV{f:Nat}{fn:Func}(m:P.funcs[f]?=Z fn)(hn:(fn.name== "runtime.NumGoroutine")=A5)(e:fn.body.isNone=A0)(hx:(Xh fn).isNone=A0)(p:aP fn=Z row){a a':Array A1}(h:∀b,E.le b->AG P F so (Ci F) b (row a) (row a')):AG P F so (L6 P F so.own) E (Pw f a) (Pw f a'):=by
 have s:Xh fn=J:=by simpa using hx
 unfold Pw;refine .prog ?_;rw[m];simp only[hn,e,EU,↓reduceIte];refine .mark (.extern f) ?_;show AG P F so (L6 P F so.own) E _ _;simp only[Dy,s,p];exact Ga (h E (AN.le_refl _))
theorem SU(f:∀l:List A1,l.length≠2->∃m,row ⟨l⟩=Go.stuck m)(h2:∀{x x' y y':A1},AJ F E x x'->AJ F E y y'->AG P F so (Ci F) E (row #[x,y]) (row #[x',y'])){a a':Array A1}(h:Ab F E a.toList a'.toList):AG P F so (Ci F) E (row a) (row a'):=by
 obtain⟨l⟩:=a;obtain⟨p⟩:=a';by_cases b:l.length=2;·match l,p,b,h with|[x,y],[x',y'],_,.cons hx (.cons hy .nil)=>exact h2 hx hy
 ·obtain⟨m,e⟩:=f l b;rw[e];exact .stuck
end
theorem calm{el:HC}(D:el.own=SR)(z:Bool):Calm A4 reads (B4 el z):=by
 have y:(B4 el z).own=SR:=D;refine⟨λf AE=>?_,λf AE E C a I H h=>?_⟩
 ·rw[y];rcases AE with AE|rfl|rfl|rfl;·exact AE.2
  ·rfl
  ·rfl
  ·rfl
 have A:f∈Ya∨f=407∨f=351∨f=409:=by
  rcases AE with(AE|AE)|AE;·exact AA AE.1
  ·exact AF AE
  ·rw[y]at AE;exact AA (a4B AE.1)
 rcases A with s|rfl|rfl|rfl;·have hb:=List.all_eq_true.1 aCy f s;unfold eU at hb;cases e:A4.funcs[f]? with|none=>rw[e]at hb;cases hb|some K=>rw[e]at hb;simp only[IP,Bool.not_eq_true']at hb;exact uP AE e hb.1 (by rw[Option.isNone_eq_false_iff];exact hb.2) H h
 ·exact NV oU (by kernel_rfl) (by kernel_rfl) u' qo λx m=>SU (λl p=>match l,p with|[],_=>⟨_,rfl⟩|[_],_=>⟨_,rfl⟩|[_,_],h=>absurd rfl h|_::_::_::_,_=>⟨_,rfl⟩) (λhx hy=>uQ hx hy) (h.mono m)
 ·exact NV iU (by kernel_rfl) (by kernel_rfl) tz qn λx m=>SU (λl p=>match l,p with|[],_=>⟨_,rfl⟩|[_],_=>⟨_,rfl⟩|[_,_],h=>absurd rfl h|_::_::_::_,_=>⟨_,rfl⟩) (λhx hy=>uV (by kernel_rfl) (λb hb=>m _ _ (C b hb)) hx hy) (h.mono m)
 ·exact NV iV (by kernel_rfl) (by kernel_rfl) u0 qp λx m=>SU (λl p=>match l,p with|[],_=>⟨_,rfl⟩|[_],_=>⟨_,rfl⟩|[_,_],h=>absurd rfl h|_::_::_::_,_=>⟨_,rfl⟩) (λhx hy=>uU hx hy) (h.mono m)
end
variable{VB:A_->Option Mx}{p:Ac}{i:Mx}
def h8(f:Nat):Bool:=Ya.contains f&&(SR f).isEmpty||f==407||f==351||f==409
theorem aPq(f:Nat)(h:h8 f=A0):reads f:=by
 unfold h8 at h;simp only[Bool.or_eq_true,IP,beq_iff_eq,List.contains_iff_mem,List.isEmpty_iff]at h;rcases h with((h|h)|h)|h;·exact AA h
 ·exact AF (AA h)
 ·exact AF (AF (AA h))
 ·exact AF (AF (AF h))
def zt(P:Ac)(f:Nat):Bool:=match P.funcs[f]? with
 |Z fn=>match fn.body with
  |Z c=>F8 P h8 SR (SR f) 8 c
  |J=>A5
 |J=>A5
theorem aE6:Ya.all (zt A4)=A0:=by kernel_rfl
theorem laid{el:HC}(p:el.own=SR):Laid A4 reads h8 el 8:=by
 intro f s c AE e b;rw[p]at AE⊢;have m:f∈Ya∨f=407∨f=351∨f=409:=by
  rcases AE with(AE|AE)|AE;·exact AA AE.1
  ·exact AF AE
  ·exact AA (a4B AE.1)
 rcases m with AE|rfl|rfl|rfl
 ·have h:=List.all_eq_true.1 aE6 f AE;unfold zt at h;refine⟨by simpa only[e,b]using h,?_⟩;unfold SR;repeat' split
  all_goals rfl
 ·cases D3 (e.symm.trans oU);exact absurd b (by rw[show wz.body=J from by kernel_rfl];simp)
 ·cases D3 (e.symm.trans iU);exact absurd b (by rw[show wy.body=J from by kernel_rfl];simp)
 ·cases D3 (e.symm.trans iV);exact absurd b (by rw[show x0.body=J from by kernel_rfl];simp)
def a6e(i:Mx):Bool:=match i.zero with|Z z=>gv 20 z|J=>A0
theorem aTk:A4.types.toList.all a6e=A0:=by kernel_rfl
theorem aTi(F:Nat->Prop){t:Nat}{z:A1}(h:A4.types[t]?=Z i)(e:i.zero=Z z)(E:AN):AJ F E z z:=by
 have b:i∈A4.types.toList:=by obtain⟨hlt,rfl⟩:=Array.getElem?_eq_some_iff.1 h;simp
 have:=List.all_eq_true.1 aTk i b;unfold a6e at this;rw[e]at this;exact gw 20 this
section
variable{F:Nat->Prop}
def YS(F:Nat->Prop)(i:Mx):Prop:=∀z,i.zero=Z z->∀E,AJ F E z z
theorem a3x{d8 d:Type}{I:d->Prop}{f:d8->d->Option (ForInStep d)}(e:∀x b r,I b->f x b=Z r->I (match r with|.done b=>b|.yield b=>b)):∀(l:List d8){b b':d},I b->ForIn.forIn l b f=Z b'->I b'|[],b,b',hb,h=>by simp only[List.forIn_nil]at h;cases h;exact hb|x::l,b,b',hb,h=>by simp only[List.forIn_cons,Nu,IX]at h;obtain⟨r,m,h2⟩:=h;have:=e x b r hb m;cases r with|done c=>cases h2;exact this|yield c=>exact a3x e l this h2
theorem aRs(hi:∀t i,VB t=Z i->YS F i){fs:Array Field}(h:oE VB fs=Z i):YS F i:=by
 unfold oE at h;simp only[Nu,IX]at h;obtain⟨st,C,D⟩:=h;rw[<-Array.forIn_toList]at C;have H:=a3x (I:=λs:Array Field×Nat×Nat×Nat×Nat×Bool×Bool×Option (Array A1)×String=>∀a,s.2.2.2.2.2.2.2.1=Z a->∀E,Ab F E a.toList a.toList) (λf s r hs b=>by
  simp only[IX]at b;obtain⟨i,K,b⟩:=b;have m:∀(c:Prop)[Decidable c](a:Array A1),(if c then J else s.2.2.2.2.2.2.2.1.bind λx=>i.zero.bind λy=>Fi (x++y.cells))=Z a->∀E,Ab F E a.toList a.toList:=by
   intro c _ a p E;split at p;·cases p
   ·simp only[IX]at p;obtain⟨x,hx,y,hy,e⟩:=p;cases e;simpa using(hs x hx E).append (hi _ _ K y hy E).cells
  by_cases e1:i.str.isEmpty=A0;·simp[e1]at b
  ·by_cases e2:f.embedded=A0;·simp[e1,e2]at b
   ·simp only[e1,e2,EU,↓reduceIte]at b;split at b
    ·simp only[IX]at b;obtain⟨tag,_,b⟩:=b;split at b;·cases b;exact m _
     ·cases b;exact m _
    ·simp only[IX]at b;obtain⟨tag,_,b⟩:=b;split at b;·cases b;exact m _
     ·cases b;exact m _) fs.toList (by intro a p E;cases p;exact .nil) C;intro z M E;have A:st.2.2.2.2.2.2.2.1.map dd=Z z:=by split at D<;>(cases D;exact M)
 cases e:st.2.2.2.2.2.2.2.1 with|none=>rw[e]at A;cases A|some a=>rw[e]at A;cases A;exact .agg (H a e E)
end
section
variable{F:Nat->Prop}
theorem Ab.each{E:AN}{l:List A1}(h:Ab F E l l):∀v∈l,AJ F E v v:=by intro v hv;obtain⟨n,hn,rfl⟩:=List.getElem_of_mem hv;obtain⟨f,e,b⟩:=h.get n (Ld hn);rw[Ld hn]at e;cases e;exact b
theorem aPs(hi:∀t i,VB t=Z i->YS F i){d:TypeDesc}(h:oD VB d=Z i):YS F i:=by
 unfold oD at h;cases d with
 |pointer e=>
  simp only[Nu,IX]at h;obtain⟨j,m,h⟩:=h;split at h;·cases h
  ·split at h;·cases h
   ·simp only[IX]at h;obtain⟨s,_,h⟩:=h;cases h;intro z f E;cases f;exact .Gm
  ·simp only[IX]at h;obtain⟨s,_,h⟩:=h;cases h;intro z f E;cases f;exact .Gm
 |slice e=>simp only[Nu,IX]at h;obtain⟨j,_,s,_,h⟩:=h;cases h;intro z f E;cases f;exact .Gt _ _
 |map a b=>simp only[Nu,IX]at h;obtain⟨j,_,s,_,A,_,C,_,h⟩:=h;cases h;intro z f E;cases f;exact .Qg
 |chan a b=>simp only[Nu,IX]at h;obtain⟨j,_,s,_,h⟩:=h;cases h;intro z f E;cases f;exact .WN
 |func a b c=>simp only[Nu,IX]at h;obtain⟨s,_,h⟩:=h;cases h;intro z f E;cases f;exact .nilFunc
 |array n e=>
  simp only[Nu,IX]at h;obtain⟨j,m,s,_,h⟩:=h;cases h;intro z f E;simp only at f;split at f;·cases f
  ·split at f;·cases f;exact .agg .nil
   ·cases e2:j.zero with|none=>rw[e2]at f;cases f|some y=>rw[e2]at f;cases f;refine .agg (Ab.XD λv hv=>?_);have hc:=(hi _ _ m y e2 E).cells.each;refine hc v ?_;simp only[Array.mem_toList_iff,Array.mem_flatten,Array.mem_replicate]at hv⊢;obtain⟨x,⟨_,rfl⟩,hx⟩:=hv;exact hx
 |struct p=>exact aRs hi h
 |_=>cases h
theorem a1o{T:Tables}(e:∀(t:Nat)(i:Mx),T.types[t]?=Z i->YS F i):∀(b t:Nat)(i:Mx),oC T b t=Z i->YS F i
 |0,_,_,h=>by cases h
 |f+1,t,i,h=>by
  unfold oC at h;split at h;·exact e t i h
  ·simp only[IX]at h;obtain⟨d,_,h⟩:=h;exact aPs (λt i h=>a1o e f t i h) h
theorem aOM{t:Nat}{q:KY}(h:p.underlying t=Z (aYh q)):∀d b v,Vs p d t b=Z v->∃k n,v=IS k n
 |0,_,_,e=>by cases e
 |d+1,b,v,e=>by
  unfold Vs at e;rw[h]at e;simp only at e;split at e;·cases e;exact⟨_,_,rfl⟩
  ·cases e
def q3(p:Ac)(t:Nat):Bool:=match p.underlying t with|Z (.pointer _)|Z (aZR _)=>A0|_=>A5
theorem aON{t:Nat}(h:q3 p t=A0):∀d b,Vs p d t b=J|0,_=>rfl|d+1,b=>by unfold Vs;unfold q3 at h;cases e:p.underlying t with|none=>rfl|some u=>rw[e]at h;cases u<;>first|rfl|cases h
def yo(p:Ac)(t:Nat):Bool:=match p.underlying t with|Z (.struct fs)=>fs.toList.all λf=>q3 p f.type|_=>A5
theorem aOL{t:Nat}(h:yo p t=A0):∀d b,Vs p d t b=J|0,_=>rfl|d+1,b=>by unfold Vs;unfold yo at h;cases e:p.underlying t with|none=>rfl|some u=>rw[e]at h;cases u with|struct s=>simp only at h⊢;rw[Array.findSome?_eq_none_iff];intro f m;rw[aON (List.all_eq_true.1 h f (by simpa using m))];exact ite_self _|_=>cases h
theorem JD:Q4 A4:=by
 rintro t(rfl|rfl)b v e;·rw[aOL (by kernel_rfl)]at e;cases e
 ·exact aOM (q:=.u8) (by kernel_rfl) _ b v e
theorem fit(F:Nat->Prop):Fit A4 F:=by
 refine⟨λt i z h b E=>?_,JD⟩;have e:∀(t:Nat)(i:Mx),A4.types[t]?=Z i->YS F i:=λt i h z b E=>aTi F h b E;unfold Tables.info? at h;split at h;·exact e t i h z b E
 ·exact a1o e _ t i h z b E
end
def ow(RO:Nat->Prop):HC:=⟨SR,λb=>¬RO b,λh=>absurd rfl h,False,λh=>absurd rfl h⟩
theorem static(RO:Nat->Prop):Static A4 reads h8 (ow RO) 8:=⟨fit _,by kernel_rfl,calm rfl,aPq,laid rfl⟩
section
open Go.Conc(G solo stepG_region_draw stepG_oper)
variable{b:AY}{ops:Array Bf}{o:Bf}{a:Ja}{cs:List AY}{q:List Cw}
section
variable{P:Ac}{main:Bool}{Sh S:Nat->Prop}{Stop:(Nat->Prop)->AK->A'->Prop}{F:Nat->Prop}{fb:Nat->Bool}{el:HC}{k:Nat}{RO:Nat->Prop}
theorem GC.idle(Sh S:Nat->Prop)(w:A'):GC Sh S w w #[] S:=⟨AX _,λ_ _ _=>rfl,rfl,rfl,rfl,λb=>⟨AA,λx=>x.elim id λy=>by omega⟩,by simp⟩
theorem Way.ctl{g g':AK}{w:A'}(hs:g.status=aYF)(h:∀w,Be P main g w=aYE g' w #[])(q:Way P main Sh Stop S g' w):Way P main Sh Stop S g w:=.step hs λb e=>⟨g',b,#[],S,h b,GC.idle _ _ _,q.rely e⟩
theorem Way.mono{d:(Nat->Prop)->AK->A'->Prop}{g:AK}{w:A'}(h:Way P main Sh Stop S g w)(k:∀S g w,Stop S g w->d S g w):Way P main Sh d S g w:=by induction h with|stop h=>exact .stop λm b=>k _ _ _ (h m b)|go f hs h _ e=>exact .go f hs h e
structure Kept(Sh S:Nat->Prop)(w:A')(S':Nat->Prop)(w':A'):Prop where
 same:∀b,Sh b->w'.heap[b]?=w.heap[b]?
 apart:∀b,Sh b->¬S' b/\b<w'.heap.size
 grow:∀b,S b->S' b
theorem Way.keeps{g:AK}{w:A'}(h:Way P main Sh Stop S g w)(m:∀b,Sh b->¬S b/\b<w.heap.size):Way P main Sh (λz A w'=>Stop z A w'/\Kept Sh S w z w') S g w:=by
 induction h with
 |stop h=>exact .stop λp f=>⟨h p f,λb e=>f.same b (AF e),λb e=>⟨(m b e).1,K9 (m b e).2 f.size⟩,λ_ x=>x⟩
 |go D hs h _ C=>
  refine .go D hs h λp f=>?_;have s:=(h p f).2;have hlt:∀b,Sh b->b<p.heap.size:=λb e=>K9 (m b e).2 f.size;refine(C p f λb e=>⟨λx=>?_,K9 (hlt b e) s.size⟩).mono λz A w' Bp=>⟨Bp.1,λb e=>?_,Bp.2.apart,λb e=>Bp.2.grow b ((s.grow b).2 (AA e))⟩
  ·rcases(s.grow b).1 x with y|y;·exact(m b e).1 y
   ·have:=hlt b e;omega
  ·rw[Bp.2.same b e,s.same b (hlt b e) (m b e).1,f.same b (AF e)]
def Tq(b:a9o)(ops:Array Bf):Nat->Array Bool->List (List Nat)|0,_=>[[]]|n+1,listed=>if(St b ops listed).isEmpty then[[]]else(St b ops listed).flatMap λi=>(Tq b ops n (listed.setIfInBounds i A0)).map (i::·)
theorem uA(e:a9o)(ops:Array Bf):∀(n t:Nat)(b:Array Bool),o_ e ops n t b []∈Tq e ops n b
 |0,t,b=>by simp[o_,Tq]
 |n+1,t,b=>by
  simp only[o_,Tq];change(match(St e ops b)[t%(St e ops b).length]? with|Z i=>o_ e ops n (t/(St e ops b).length) (b.setIfInBounds i A0) [i]|J=>[].reverse)∈_;cases hi:(St e ops b)[t%(St e ops b).length]? with
  |none=>
   have s:St e ops b=[]:=by cases h:St e ops b with|nil=>rfl|cons x m=>rw[h]at hi;have hlt:t%(x::m).length<(x::m).length:=Nat.mod_lt _ (by simp);simp at hi;simp at hlt;omega
   simp[s]
  |some i=>
   have f:=List.mem_of_getElem? hi;have p:(St e ops b).isEmpty=A5:=by cases h:St e ops b with|nil=>rw[h]at f;cases f|cons x m=>rfl
   simp only[p,EU,↓reduceIte];rw[linearise_go_acc,List.reverse_singleton,List.singleton_append];refine List.mem_flatMap.2 ⟨i,f,List.mem_map.2 ⟨_,uA e ops n _ _,rfl⟩⟩
theorem Way.draw{id:Nat}{w:A'}(f:P.follows aZF=A0)(h:∀o∈Tq .any ops ops.size (Sf ops.size A5),Way P main Sh Stop S (G (b.at a (aY7 ops o::q)) cs) w):Way P main Sh Stop S (G (b.at a (aY9 (aYH id ops A0)::q)) cs) w:=.step rfl λe m=>by
 refine⟨_,_,#[],S,stepG_region_draw,⟨AX _,λ_ _ _=>rfl,rfl,rfl,rfl,λb=>⟨AA,λx=>x.elim (λz=>z) λy=>by have:=y.1;have:=y.2;simp only at*;omega⟩,by simp⟩,?_⟩;have hs:a9p (P.follows aZF) ops (e.tape e.drawn (.order b.fn id))∈Tq .any ops ops.size (Sf ops.size A5):=by unfold a9p;rw[f];exact uA _ _ _ _ _
 exact(h _ hs).rely (m.trans ⟨AX _,λ_ _=>rfl,rfl,rfl⟩)
def aC'(F:Nat->Prop)(so:Dr)(RO Sh:Nat->Prop)(E:AN)(b:AY)(a:Ja)(f:Option Tmp)(ops:Array Bf)(rest:List Nat)(q:List Cw)(cs:List AY)(Q:A1->A'->Prop)(S:Nat->Prop)(g:AK)(w':A'):Prop:=∃e v h m,g=G (b.at (a.put f h) (aY7 ops rest::q)) cs/\AJ F e v h/\Q v m/\E.le e/\Cg F so RO e m w'/\JZ RO Sh S e
theorem a6N(X:Static P F fb el k){i:Nat}{rest:List Nat}{ow:List Nat}{ρ:C2->A1}{E:AN}{wL w':A'}{Q:A1->A'->Prop}(I:ops[i]?=Z o)(d:EY o (Gu ops a.tmps)=A0)(Kq:b.kind≠aYR)(B8:PV P fb el.own ow k o.op=A0)(FN:Kz P o=A0)(LM:LX o.op=A5)(hc:∀v,ρ (aU7 v)=v)(U:∀f,ρ (aYM f)=aYK (aYI f) #[] #[])(BJ:∀x∈opsOf o.op,AJ F E (ρ x) (a.eval x))(bn:∀x,setOf o.op=Z x->∀b,M9 (ρ x)=Z b->el.J5 b)(AB:∀b,b<D4->E.rel b b)(y:Cg F (B4 el A0) RO E wL w')(D:JZ RO Sh S E)(H0:∀T,∃v h es,(AU ρ o).runT P (on wL T) #[]=(aY6 (aYD v) h,es)/\Q v h):Way P main Sh (aC' F (B4 el A0) RO Sh E b a o.dst ops rest q cs Q) S (G (b.at a (aY7 ops (i::rest)::q)) cs) w':=by
 obtain⟨C,y⟩:=y;refine .step rfl λs A2=>?_;have e:=y.rely D A2 C;obtain⟨v,h,es,Au,AD⟩:=H0 (join C wL.drawn s.tape s.drawn);have hs:AG P F (B4 el A5) (L6 P F el.own) E (AU ρ o) (AU a.eval o):=by have:=mS X.fit X.EF (X.calm (LX o.op)) AB hc U (ρ':=a.eval) (λf=>rfl) o k (mG X.sub B8) (mm FN) BJ bn;rw[LM]at this;exact this
 obtain⟨A,XB,z,es',r1,r2,m,K,Gp⟩:=AG.runs X.fit.JD (Pr:=RO) (λ_ x=>x) (λx=>by cases x) hs (⟨e.heap,e.tape,e.kept,e.low,e.even⟩:C3 F (B4 el A5) RO E _ s) (es:=#[]) (es':=#[]) .nil Au;cases r2 with
 |value hv=>
  rename_i p;obtain⟨M,BW,H⟩:=Yk (P:=P) (fn:=b.fn) D (λb N=>(e.kept b N).1) K Gp;have Dt:Be P main (G (b.at a (aY7 ops (i::rest)::q)) cs) s=aYE (G (b.at (a.put o.dst p) (aY7 ops rest::q)) cs) z (seen P b.fn es'):=by
   have FV:((b.at a (aY7 ops (i::rest)::q)).kind==aYR)=A5:=by simpa[Frame.at]using Kq
   have Dk:(b.at a (aY7 ops (i::rest)::q)).finish p=b.at (a.put o.dst p) (aY7 ops rest::q):=by rw[KX,I];rfl
   rw[Sk I d,It FV r1 rfl,Dk];rfl
  refine⟨_,z,_,M,Dt,BW,.stop λEp FW=>?_⟩;have D':Cg F (B4 el A0) RO A h z:=⟨h.tape,⟨m.heap,m.tape,m.kept,m.low,m.even⟩⟩;exact⟨A,v,p,h,rfl,hv,AD,K.le,D'.rely H FW,H⟩
theorem Qz{i:Nat}{rest:List Nat}{f:Xi}{fn:Func}{c:Cv}{az:Array C2}{ats:Array A_}{w:A'}(z:ops[i]?=Z o)(D:EY o (Gu ops a.tmps)=A0)(x:b.kind≠aYR)(A:o.op=a8E {callee:=aYa (aYM f),args:=az,argTypes:=ats})(p:P.funcs[f]?=Z fn)(y:(fn.name== "runtime.NumGoroutine")=A5)(m:fn.body=Z c):Be P main (G (b.at a (aY7 ops (i::rest)::q)) cs) w=aYE (G (GR P f (az.map a.eval) a73) (b.at a (aY7 ops (i::rest)::q)::cs)) w #[]:=by
 have e:a.eval (aYM f)=aYK (aYI f) #[] #[]:=rfl;have h:¬fn.name= "runtime.NumGoroutine":=by simpa using y
 have C:(AU a.eval o).runT P w #[]=(aY6 (.enter f (az.map a.eval)) w,#[]):=by unfold AU;rw[A];show(Dy _ _).runT P w #[]=_;simp[aO,e,Pw,p,h,m,resolve,invoke,Fi,Dy]
 have s:((b.at a (aY7 ops (i::rest)::q)).kind==aYR)=A5:=by simpa[Frame.at]using x
 rw[Sk z D,It s C rfl,ng];rfl
end
end
section
open Go.Proofs.YtcfhleenecfghaaGreatDoor
open Go.Conc Go.RowKit Go.Conc.Lib Go.ConcR.Gen Go.ConcN.Gen
open Go.ConcN(WgLive RW DWs AtR0 Has)
open Go.ConcR(KK wgBlock WgAt stA smA rd wr mk Payload DC0)
noncomputable def Q5:AY:={(Ag:AY)with fn:=A4.funcs.size,defers:=[],mode:=.panicking [x_]}
abbrev Af(b:Nat):A1:=aY4 (Z ⟨b,0,J⟩)
def call198(g s r m:Nat):Deferred:={target:=.fn (aYI 198) #[Af g,Af s,Af r,Af m],args:=#[]}
noncomputable def eV:Cv:=wv.body.getD .skip
noncomputable def OP:Array Bf:=match eV with|aYB _ (aYH _ ops _)=>ops|_=>#[]
noncomputable def gn:Array Bf:=match eV with|aYB (aYH _ ops _) _=>ops|_=>#[]
noncomputable def I6(j:Nat):Bf:=OP.getD j Ag
theorem aD0:eV=aYB (aYH 0 gn A5) (aYH 1 OP A0):=by kernel_rfl
theorem a5_:OP.size=5:=by kernel_rfl
theorem WV(j:Nat)(h:j<5):OP[j]?=Z (I6 j):=by unfold I6;rw[JX,ET (by rw[a5_];exact h)];rfl
theorem aNa:Tq .any OP 5 (Sf 5 A5)=[[0,1,2,3,4],[0,2,1,3,4],[1,0,2,3,4],[1,2,0,3,4],[1,2,3,0,4],[2,0,1,3,4],[2,1,0,3,4],[2,1,3,0,4]]:=by kernel_rfl
theorem aOa(T:Array A1):nX A4 2 0 (G {(Jc 198).at ⟨T,[]⟩ []with mode:=.returning} [Q5]):=by
 refine a7E (g':=G Q5 []) rfl (λw=>?_) ?_;·simp[G,Be,HL,doReturn,De,Frame.at,Jc,Q5,a8W,wv,seen,Nh,x_]
 refine a7E (g':={G Q5 []with status:=.finished}) rfl (λw=>?_) ⟨rfl,rfl⟩;simp[G,Be,HL,Q5,x_,Frame.catches];rfl
theorem aD1(g s r m:Nat)(main:Bool)(w:A'):Be A4 main (born A4 (call198 g s r m)) w=aYE (G ((Jc 198).at ⟨#[Af g,Af s,Af r,Af m,Y,Y,Y,Y],[]⟩ [aY9 eV]) [Q5]) w #[]:=by simp[born,call198,Be,HL,callDeferred,invoke,Pw,a8W,wv,seen,Nh,G,GR,Frame.at,Jc,Q5,eV]
section
variable[Ck]
theorem aS1{Wg C n:Nat}{val:A1}(T:Array A1)(w:A')(b:IQ Ik.tWg Wg w/\Has C 0 val w):Xc A4 A5 (RW Ik.tWg Wg C n 0 (1-1)) (DWs Wg Qk Qk C n 1) (AtR0 A4 Ik.tWg Wg C n 0 1 val) 26 (G ((Jc 198).at ⟨T,[Nf 199 #[Af Wg]]⟩ [aY7 OP []]) [Q5]) w:=by u_c stepG_region_end kn_rely b;u_c stepG_end kn_rely b;u_in kn_rely b;rw[stepG_unwind_enter rfl a8X (nm_done Ik) rfl];simp only[vv];refine⟨by u_nil,?_⟩;have e:=@doneN _ Ik A4 my Qk Qk Wg C n 0 1 val;simp only[body_done,doneFn,HB]at e;walk_nrmf Tryz.f199;exact e rfl (aOa _) _ b
end
end
section
open Go.Proofs.YtcfhleenecfghaaGreatDoor
open Go.Conc Go.RowKit
open Go.ConcN(WgLive RW DWs AtR0 Has)
open Go.ConcR(Payload)
variable{w:A'}{v:A1}{T:Array A1}{j:Nat}
theorem aL4{a:Ja}{AL Ch:Nat}{t:A_}{p:Nat×Nat}(b:a.eval (oM 1)=Af AL)(h:w.heap[AL]?=Z (BE #[aYC (Z Ch)] t p)):(AU a.eval (I6 0)).runT A4 w #[]=(aY6 (aYD (aYC (Z Ch))) w,#[⟨aYL ⟨AL,0,J⟩,A5,A5⟩]):=by
 have e:(I6 0).op=aYf 316 (oM 1):=by kernel_rfl
 unfold AU;rw[e];simp only[b];have hc:w.cell? ⟨AL,0,J⟩=Z (aYC (Z Ch)):=by simp[F3,h]
 simp[go_sem,hc]
def okO:List Nat->List Nat->Bool|_,[]=>A5|d,0::l=>okO (0::d) l|d,1::l=>!d.contains 3&&okO (1::d) l|d,2::l=>!d.contains 3&&okO (2::d) l|d,3::l=>!d.contains 3&&d.contains 1&&d.contains 2&&okO (3::d) l|d,4::l=>d.contains 0&&d.contains 3&&l.isEmpty|_,_=>A5
section
variable[Ck]
structure jT where
 X:Gw
 i:Nat
 RO:Nat->Prop
 Sh:Nat->Prop
 IA:Nat->Prop
 E:AN
 wL:A'
 AL:Nat
 br:Nat
 BB:Nat
 b7:Nat
 b5:Nat
 vr:A1
 ca:A1
 Q:A1->A'->Prop
 HU:Nat
 val:A1
structure jT.Ok(R:jT):Prop where
 prog:R.X.P=A4
 ty:R.X.ty=Ik.tWg
 EF:∀b,b<D4->R.E.rel b b
 cS:R.Sh R.AL
 aQE:R.E.rel R.b7 R.br
 a5F:R.E.rel R.b5 R.BB
 zg:R.IA R.BB
 ta:∀ρ:C2->A1,ρ (oM 2)=Af R.b7->∀T,∃es,(AU ρ (I6 1)).runT A4 (on R.wL T) #[]=(aY6 (aYD R.vr) (on R.wL T),es)
 lm:∀ρ:C2->A1,ρ (oM 3)=Af R.b5->∀T,∃es,(AU ρ (I6 2)).runT A4 (on R.wL T) #[]=(aY6 (aYD R.ca) (on R.wL T),es)
 call:∀T,Calls A4 200 #[R.vr,R.ca] (on R.wL T) λe w1=>∃v,e=hq v/\R.Q v w1
 msg:∀E v v' w1 w' S,R.E.le E->AJ reads E v v'->R.Q v w1->Cg reads (B4 (ow R.RO) A0) R.RO E w1 w'->JZ R.RO R.Sh S E->(∀b,R.IA b->S b)->w'.cell? ⟨R.BB,0,J⟩=Z R.val/\∃M,(∀b,M b->S b/\b≠R.BB)/\R.X.MM R.i v' M w'
structure aCB(R:jT)(d:List Nat)(T:Array A1)(E:AN)(wL:A')(S:Nat->Prop)(w:A'):Prop where
 size:T.size=8
 t1:T.getD 1 Y=Af R.AL
 t2:T.getD 2 Y=Af R.br
 t3:T.getD 3 Y=Af R.BB
 d4:0∈d->T.getD 4 Y=aYC (Z R.X.Ch)
 d5:1∈d->AJ reads E R.vr (T.getD 5 Y)
 d6:2∈d->AJ reads E R.ca (T.getD 6 Y)
 d7:3∈d->∃v,AJ reads E v (T.getD 7 Y)/\R.Q v wL
 first:3∉d->wL=R.wL
 le:R.E.le E
 A2:Cg reads (B4 (ow R.RO) A0) R.RO E wL w
 cls:JZ R.RO R.Sh S E
 eZ:∃t p,w.heap[R.AL]?=Z (BE #[aYC (Z R.X.Ch)] t p)
 apart:∀b,R.Sh b->¬S b/\b<w.heap.size
 own:∀b,R.IA b->S b
omit[Ck]in theorem Bo{t:Nat}(h:j≠t):(T.setIfInBounds j v).getD t Y=T.getD t Y:=by simp only[JX,H5,if_neg h]
omit[Ck]in theorem FK(h:j<T.size):(T.setIfInBounds j v).getD j Y=v:=by simp only[JX,H5,↓reduceIte,h,HB]
omit[Ck]in theorem Cg.on{F:Nat->Prop}{so:Dr}{RO:Nat->Prop}{E:AN}{w w':A'}{T:Tape}(h:Cg F so RO E (Twin.on w T) w'):Cg F so RO E w w':=by obtain⟨b,h⟩:=h;exact⟨b,h⟩
variable{R:jT}
theorem aTW(K:R.Ok):∀(l d:List Nat)(T:Array A1)(E:AN)(wL:A')(S:Nat->Prop)(w:A'),okO d l=A0->aCB R d T E wL S w->Way A4 A5 R.Sh (AtSend R.X R.i R.BB R.HU R.val R.Sh) S (G ((Jc 198).at ⟨T,[Nf 199 #[Af R.X.Wg]]⟩ [aY7 OP l]) [Q5]) w:=by
 intro l;induction l with
 |nil=>intro d T E wL S w h;cases h
 |cons j l ih=>
  intro d T E wL S w s I;have s6:∀b,b<D4->E.rel b b:=λb H=>I.le _ _ (K.EF b H);have aIp:∀b,¬R.RO b↔(ow R.RO).J5 b:=λb=>UR;match j with
  |0=>
   have AT:(I6 0).dst=Z 4:=by kernel_rfl
   refine Way.bind (Stop:=λN g' w'=>N=S/\g'=G ((Jc 198).at ⟨T.setIfInBounds 4 (aYC (Z R.X.Ch)),[Nf 199 #[Af R.X.Wg]]⟩ [aY7 OP l]) [Q5]/\Bx R.Sh S w w') ?_ ?_
   ·refine .step rfl λf3 A2=>?_;obtain⟨t,p,U⟩:=I.eZ;have Au:=aL4 (a:=⟨T,[Nf 199 #[Af R.X.Wg]]⟩) (Ch:=R.X.Ch) (w:=f3) I.t1 (by rw[A2.same _ (AF K.cS)];exact U);have Dk:((Jc 198).at ⟨T,[Nf 199 #[Af R.X.Wg]]⟩ [aY7 OP (0::l)]:AY).finish (aYC (Z R.X.Ch))=(Jc 198).at ⟨T.setIfInBounds 4 (aYC (Z R.X.Ch)),[Nf 199 #[Af R.X.Wg]]⟩ [aY7 OP l]:=by rw[KX,WV 0 (by omega)];show(Jc 198).at (aJ _ (I6 0).dst _) _=_;rw[AT];rfl
    refine⟨_,f3,_,S,by rw[Sk (WV 0 (by omega)) (by kernel_rfl),It rfl Au rfl,Dk];rfl,?_,.stop λEp FW=>⟨rfl,rfl,A2.trans FW⟩⟩;refine⟨AX _,λ_ _ _=>rfl,rfl,rfl,rfl,λb=>⟨AA,λx=>x.elim (λz=>z) λy=>by omega⟩,λe he=>?_⟩;have:=aN he;simp only[vX]at this;subst this;exact .cell _ _ (AF ⟨K.cS,rfl⟩)
   ·rintro N g' w'⟨rfl,rfl,A2⟩;refine ih (0::d) _ E wL N w' s ?_;refine⟨by simpa using I.size,by rw[Bo (by omega)];exact I.t1,by rw[Bo (by omega)];exact I.t2,by rw[Bo (by omega)];exact I.t3,λ_=>FK (by rw[I.size];omega),λh=>by rw[Bo (by omega)];exact I.d5 (by simpa using h),λh=>by rw[Bo (by omega)];exact I.d6 (by simpa using h),λh=>by rw[Bo (by omega)];exact I.d7 (by simpa using h),λh=>I.first (by simpa using h),I.le,I.A2.rely I.cls A2,I.cls,?_,λb H=>⟨(I.apart b H).1,K9 (I.apart b H).2 A2.size⟩,I.own⟩;obtain⟨t,p,U⟩:=I.eZ;exact⟨t,p,by rw[A2.same _ (AF K.cS)];exact U⟩
  |1=>
   have AT:(I6 1).dst=Z 5:=by kernel_rfl
   have m:(I6 1).op=aYf 138 (oM 2):=by kernel_rfl
   obtain⟨D,s⟩:=Bool.and_eq_true_iff.1 s;have D:3∉d:=by simpa using D
   obtain rfl:=I.first D;refine((a6N (Sh:=R.Sh) (S:=S) (main:=A5) (static R.RO) (ow:=[]) (ρ:=λx=>match x with|oM _=>Af R.b7|aU7 v=>v|aYM f=>aYK (aYI f) #[] #[]|aZM _=>Y) (E:=E) (wL:=R.wL) (Q:=λv w1=>v=R.vr/\∃T,w1=on R.wL T) (WV 1 (by omega)) (by kernel_rfl) (by simp[Jc]) (by rw[m];rfl) (by unfold Kz;rw[m]) (by rw[m];rfl) (λv=>rfl) (λf=>rfl) ?_ ?_ s6 I.A2 I.cls ?_).keeps I.apart).bind ?_;·intro x hx;rw[m]at hx;simp only[opsOf,Dn,ak]at hx;subst hx;show AJ reads E (Af R.b7) (T.getD 2 Y);rw[I.t2];exact .ptr ⟨I.le _ _ K.aQE,rfl,rfl⟩
   ·intro x hx;rw[m]at hx;cases hx
   ·intro C7;obtain⟨es,h⟩:=K.ta (λx=>match x with|oM _=>Af R.b7|aU7 v=>v|aYM f=>aYK (aYI f) #[] #[]|aZM _=>Y) rfl C7;exact⟨_,_,es,h,rfl,C7,rfl⟩
   ·rintro N g' w'⟨⟨v2,v,v',w1,rfl,hv,⟨rfl,C7,rfl⟩,y,fT,Gi⟩,A⟩;rw[AT];refine ih (1::d) _ v2 R.wL N w' s ?_;refine⟨by simpa using I.size,by rw[Bo (by omega)];exact I.t1,by rw[Bo (by omega)];exact I.t2,by rw[Bo (by omega)];exact I.t3,λh=>by rw[Bo (by omega)];exact I.d4 (by simpa using h),λ_=>by rw[FK (by rw[I.size];omega)];exact hv,λh=>by rw[Bo (by omega)];exact(I.d6 (by simpa using h)).mono y,λh=>absurd (by simpa using h) D,λ_=>rfl,AN.le_trans I.le y,fT.on,Gi,?_,A.apart,λb H=>A.grow b (I.own b H)⟩;obtain⟨t,p,U⟩:=I.eZ;exact⟨t,p,by rw[A.same _ K.cS];exact U⟩
  |2=>
   have AT:(I6 2).dst=Z 6:=by kernel_rfl
   have m:(I6 2).op=aYf 85 (oM 3):=by kernel_rfl
   obtain⟨D,s⟩:=Bool.and_eq_true_iff.1 s;have D:3∉d:=by simpa using D
   obtain rfl:=I.first D;refine((a6N (Sh:=R.Sh) (S:=S) (main:=A5) (static R.RO) (ow:=[]) (ρ:=λx=>match x with|oM _=>Af R.b5|aU7 v=>v|aYM f=>aYK (aYI f) #[] #[]|aZM _=>Y) (E:=E) (wL:=R.wL) (Q:=λv w1=>v=R.ca/\∃T,w1=on R.wL T) (WV 2 (by omega)) (by kernel_rfl) (by simp[Jc]) (by rw[m];rfl) (by unfold Kz;rw[m]) (by rw[m];rfl) (λv=>rfl) (λf=>rfl) ?_ ?_ s6 I.A2 I.cls ?_).keeps I.apart).bind ?_;·intro x hx;rw[m]at hx;simp only[opsOf,Dn,ak]at hx;subst hx;show AJ reads E (Af R.b5) (T.getD 3 Y);rw[I.t3];exact .ptr ⟨I.le _ _ K.a5F,rfl,rfl⟩
   ·intro x hx;rw[m]at hx;cases hx
   ·intro C7;obtain⟨es,h⟩:=K.lm (λx=>match x with|oM _=>Af R.b5|aU7 v=>v|aYM f=>aYK (aYI f) #[] #[]|aZM _=>Y) rfl C7;exact⟨_,_,es,h,rfl,C7,rfl⟩
   ·rintro N g' w'⟨⟨v2,v,v',w1,rfl,hv,⟨rfl,C7,rfl⟩,y,fT,Gi⟩,A⟩;rw[AT];refine ih (2::d) _ v2 R.wL N w' s ?_;refine⟨by simpa using I.size,by rw[Bo (by omega)];exact I.t1,by rw[Bo (by omega)];exact I.t2,by rw[Bo (by omega)];exact I.t3,λh=>by rw[Bo (by omega)];exact I.d4 (by simpa using h),λh=>by rw[Bo (by omega)];exact(I.d5 (by simpa using h)).mono y,λ_=>by rw[FK (by rw[I.size];omega)];exact hv,λh=>absurd (by simpa using h) D,λ_=>rfl,AN.le_trans I.le y,fT.on,Gi,?_,A.apart,λb H=>A.grow b (I.own b H)⟩;obtain⟨t,p,U⟩:=I.eZ;exact⟨t,p,by rw[A.same _ K.cS];exact U⟩
  |3=>
   have AT:(I6 3).dst=Z 7:=by kernel_rfl
   have m:(I6 3).op=a8E {callee:=aYa (aYM 200),args:=#[oM 5,oM 6],argTypes:=#[138,85]}:=by kernel_rfl
   obtain⟨Yl,s⟩:=Bool.and_eq_true_iff.1 s;obtain⟨rA,h2⟩:=Bool.and_eq_true_iff.1 Yl;obtain⟨h3,h1⟩:=Bool.and_eq_true_iff.1 rA;have D:3∉d:=by simpa using h3
   have h1:1∈d:=by simpa using h1
   have h2:2∈d:=by simpa using h2
   obtain rfl:=I.first D;obtain⟨c,Jr⟩:∃c,Tryz.f200.body=Z c:=⟨_,rfl⟩;refine Way.ctl rfl (λw=>Qz (WV 3 (by omega)) (by kernel_rfl) (by simp[Jc]) m oS (by kernel_rfl) Jr) ?_;refine((aTM (static R.RO) aIp A5 (args:=#[R.vr,R.ca]) (wL:=R.wL) oS Jr ((static R.RO).laid 200 _ _ (AA (AA ⟨by decide,rfl⟩)) oS Jr).1 ((static R.RO).laid 200 _ _ (AA (AA ⟨by decide,rfl⟩)) oS Jr).2 (λt AH=>by cases AH) ?_ s6 I.A2 I.cls K.call).keeps I.apart).bind ?_;·simp only[Le,GU,K8];exact .cons (I.d5 h1) (.cons (I.d6 h2) .nil)
   ·rintro N g' w'⟨⟨v2,v,v',w1,rfl,hv,AD,y,fT,Gi⟩,A⟩;have Dk:((Jc 198).at ⟨T,[Nf 199 #[Af R.X.Wg]]⟩ [aY7 OP (3::l)]:AY).finish v'=(Jc 198).at ⟨T.setIfInBounds 7 v',[Nf 199 #[Af R.X.Wg]]⟩ [aY7 OP l]:=by rw[KX,WV 3 (by omega)];show(Jc 198).at (aJ _ (I6 3).dst _) _=_;rw[AT];rfl
    rw[Dk];refine ih (3::d) _ v2 w1 N w' s ?_;refine⟨by simpa using I.size,by rw[Bo (by omega)];exact I.t1,by rw[Bo (by omega)];exact I.t2,by rw[Bo (by omega)];exact I.t3,λh=>by rw[Bo (by omega)];exact I.d4 (by simpa using h),λh=>by rw[Bo (by omega)];exact(I.d5 (by simpa using h)).mono y,λh=>by rw[Bo (by omega)];exact(I.d6 (by simpa using h)).mono y,λ_=>⟨v,by rw[FK (by rw[I.size];omega)];exact hv,AD⟩,λh=>absurd (by simp) h,AN.le_trans I.le y,fT,Gi,?_,A.apart,λb H=>A.grow b (I.own b H)⟩;obtain⟨t,p,U⟩:=I.eZ;exact⟨t,p,by rw[A.same _ K.cS];exact U⟩
  |4=>
   have m:(I6 4).op=.send (oM 4) (oM 7):=by kernel_rfl
   have JP:(I6 4).dst=J:=by kernel_rfl
   obtain⟨aG3,A9⟩:=Bool.and_eq_true_iff.1 s;obtain⟨AV,h3⟩:=Bool.and_eq_true_iff.1 aG3;have AV:0∈d:=by simpa using AV
   have h3:3∈d:=by simpa using h3
   obtain rfl:l=[]:=by simpa using A9
   refine .stop λf3 A2=>?_;obtain⟨v,hv,AD⟩:=I.d7 h3;obtain⟨SB,M,Ai,Mb⟩:=K.msg E v _ wL f3 S I.le hv AD (I.A2.rely I.cls A2) I.cls I.own;have hx:(AU (Cu ⟨T,[Nf 199 #[Af R.X.Wg]]⟩) (I6 4)).run A4 f3=aY6 (a_' #[nf R.X.Ch (T.getD 7 Y) (aY8 #[])] A0 aZ2) f3:=by unfold AU;rw[m];have EX:Cu ⟨T,[Nf 199 #[Af R.X.Wg]]⟩ (oM 4)=aYC (Z R.X.Ch):=I.d4 AV;show aY6 (a_' #[{chan:=Cu ⟨T,[Nf 199 #[Af R.X.Wg]]⟩ (oM 4),send:=Z (T.getD 7 Y),zero:=aY8 #[]}] A0 aZ2) f3=_;rw[EX];rfl
   have PD:(AU (Cu ⟨T,[Nf 199 #[Af R.X.Wg]]⟩) (I6 4)).events A4 f3 #[]=#[]:=by unfold AU;rw[m];rfl
   refine⟨rfl,I.own _ K.zg,T.getD 7 Y,aY8 #[],#[],M,?_,by simp,Ai,Mb,λw' hs S2=>⟨26,?_⟩⟩
   ·rw[K.prog,stepG_comm (WV 4 (by omega)) (by kernel_rfl) (by simp[Jc]) hx];have:na A4 (Jc 198).fn ⟨T,[Nf 199 #[Af R.X.Wg]]⟩ (I6 4) f3=#[]:=by unfold na;rw[PD];exact ng _ _
    rw[this]
   ·have hc:w'.cell? ⟨R.BB,0,J⟩=Z R.val:=by rw[<-SB];unfold F3;rw[hs _ (I.own _ K.zg)]
    have AH:=aS1 (Wg:=R.X.Wg) (C:=R.BB) (n:=R.HU) (val:=R.val) T w' ⟨by rw[K.ty]at S2;exact S2,hc⟩;rw[K.prog,K.ty];have Dk:(G ((Jc 198).at ⟨T,[Nf 199 #[Af R.X.Wg]]⟩ [aY7 OP [4]]) [Q5]).finishComm A4 #[nf R.X.Ch (T.getD 7 Y) (aY8 #[])] aZ2 0 Y A5=G ((Jc 198).at ⟨T,[Nf 199 #[Af R.X.Wg]]⟩ [aY7 OP []]) [Q5]:=by unfold a7t;show({G _ _ with frame:=Frame.finish _ _,status:=aYF,offers:=J}:AK)=_;simp only[G];rw[KX,WV 4 (by omega)];show({frame:=(Jc 198).at (aJ _ (I6 4).dst _) _,..}:AK)=_;rw[JP];rfl
    rw[Dk];exact AH
  |_+5=>cases s
theorem aTc(K:R.Ok)(D:Cg reads (B4 (ow R.RO) A0) R.RO R.E R.wL w)(y:JZ R.RO R.Sh R.IA R.E)(x:∃t p,w.heap[R.AL]?=Z (BE #[aYC (Z R.X.Ch)] t p))(f:∀b,R.Sh b->¬R.IA b/\b<w.heap.size):Way R.X.P A5 R.Sh (AtSend R.X R.i R.BB R.HU R.val R.Sh) R.IA (born R.X.P (call198 R.X.Wg R.AL R.br R.BB)) w:=by
 rw[K.prog];refine Way.ctl rfl (aD1 _ _ _ _ _) ?_;rw[aD0];refine Way.ctl rfl (λ_=>GB) ?_;refine Way.ctl rfl (λ_=>Hu) ?_;have s:H9 gn.size=[0]:=by kernel_rfl
 rw[s];have C:(gn.getD 0 Ag).op=.defer {callee:=aYa (aYM 199),args:=#[oM 0],argTypes:=#[325]}:=by kernel_rfl
 have z:(gn.getD 0 Ag).dst=J:=by kernel_rfl
 refine Way.ctl rfl (λ_=>stepG_defer (o:=gn.getD 0 Ag) (by kernel_rfl) (by kernel_rfl) (by simp[Jc]) C) ?_;rw[z];have e:#[oM 0].map (Cu ⟨#[Af R.X.Wg,Af R.AL,Af R.br,Af R.BB,Y,Y,Y,Y],[]⟩)=#[Af R.X.Wg]:=by simp[Cu]
 rw[e];refine Way.ctl rfl (λ_=>Hf) ?_;refine Way.draw (by kernel_rfl) λo m=>?_;rw[a5_,aNa]at m;have A:okO [] o=A0:=by simp only[Hw,H8,or_false]at m;rcases m with rfl|rfl|rfl|rfl|rfl|rfl|rfl|rfl<;>rfl
 refine aTW K o [] #[Af R.X.Wg,Af R.AL,Af R.br,Af R.BB,Y,Y,Y,Y] R.E R.wL R.IA w A ?_;exact⟨rfl,rfl,rfl,rfl,λh=>(by cases h),λh=>(by cases h),λh=>(by cases h),λh=>(by cases h),λ_=>rfl,AN.le_refl _,D,y,x,f,λ_ h=>h⟩
end
end
section
open Go.Proofs.YtcfhleenecfghaaGreatDoor
open Go.Conc Go.RowKit
variable{w:A'}{x:A1}{b:AY}{ops:Array Bf}{o:Bf}{ρ:C2->A1}{a:Ja}{cs:List AY}{q:List Cw}{BB i j:Nat}
section
variable{P:Ac}{main:Bool}{Sh S:Nat->Prop}{Stop:(Nat->Prop)->AK->A'->Prop}
theorem Way.oper{i:Nat}{rest:List Nat}{w:A'}(y:ops[i]?=Z o)(K:EY o (Gu ops a.tmps)=A0)(D:b.kind≠aYR)(h:∀p,Bx Sh S w p->∃v m x s,(AU a.eval o).runT P p #[]=(aY6 (aYD v) m,x)/\GC Sh S p m x s/\Way P main Sh Stop s (G (b.at (a.put o.dst v) (aY7 ops rest::q)) cs) m):Way P main Sh Stop S (G (b.at a (aY7 ops (i::rest)::q)) cs) w:=by
 refine .step rfl λp H=>?_;obtain⟨v,m,x,s,I,f,A⟩:=h p H;have C:((b.at a (aY7 ops (i::rest)::q)).kind==aYR)=A5:=by simpa[Frame.at]using D
 have z:(b.at a (aY7 ops (i::rest)::q)).finish v=b.at (a.put o.dst v) (aY7 ops rest::q):=by rw[KX,y];rfl
 refine⟨_,m,_,s,by rw[Sk y K,It C I rfl,z];rfl,⟨f.size,f.same,f.os,f.output,f.tape,f.grow,λe he=>f.evs e (aN he)⟩,A⟩
theorem Way.pure{i:Nat}{rest:List Nat}{w:A'}(v:A1)(p:ops[i]?=Z o)(x:EY o (Gu ops a.tmps)=A0)(m:b.kind≠aYR)(h:∀w,(AU a.eval o).runT P w #[]=(aY6 (aYD v) w,#[]))(f:Way P main Sh Stop S (G (b.at (a.put o.dst v) (aY7 ops rest::q)) cs) w):Way P main Sh Stop S (G (b.at a (aY7 ops (i::rest)::q)) cs) w:=Way.oper p x m λe s=>⟨v,e,#[],S,h e,GC.idle _ _ _,f.rely s⟩
theorem Way.aNU{i:Nat}{rest:List Nat}{w:A'}(y:ops[i]?=Z o)(K:EY o (Gu ops a.tmps)=A0)(D:b.kind≠aYR)(h:∀p,Bx Sh S w p->∃m x s,(AU a.eval o).runT P p #[]=(aY6 aYU m,x)/\GC Sh S p m x s/\Way P main Sh Stop s (G (b.at (a.put o.dst Y) (aY7 ops rest::q)) cs) m):Way P main Sh Stop S (G (b.at a (aY7 ops (i::rest)::q)) cs) w:=by
 refine .step rfl λp H=>?_;obtain⟨m,x,s,I,f,A⟩:=h p H;have C:((b.at a (aY7 ops (i::rest)::q)).kind==aYR)=A5:=by simpa[Frame.at]using D
 have z:(b.at a (aY7 ops (i::rest)::q)).finish Y=b.at (a.put o.dst Y) (aY7 ops rest::q):=by rw[KX,y];rfl
 refine⟨_,m,_,s,by rw[Sk y K,It C I rfl,z];rfl,⟨f.size,f.same,f.os,f.output,f.tape,f.grow,λe he=>f.evs e (aN he)⟩,A⟩
end
noncomputable def WI:Cv:=Tryz.f126.body.getD .skip
def fstC:Cv->Cv|aYB x _=>x|c=>c
def sndC:Cv->Cv|aYB _ y=>y|c=>c
def Ly:Cv->Cv|aYi _ c|.loop c=>c|c=>c
def LR:Cv->Array Bf|aYH _ ops _=>ops|_=>#[]
noncomputable def c3:Cv:=sndC (sndC (sndC WI))
noncomputable def o2:Array Bf:=LR (fstC (sndC (sndC WI)))
noncomputable def LQ:Array Bf:=LR (fstC (fstC c3))
noncomputable def YH:Cv:=Ly (Ly (sndC (fstC c3)))
noncomputable def OO:Array Bf:=LR (fstC YH)
noncomputable def e0:Cv:=Ly (fstC (sndC (sndC YH)))
noncomputable def NS:Array Bf:=LR (fstC e0)
noncomputable def VN:Array Bf:=LR (fstC (sndC e0))
noncomputable def M6:Array Bf:=LR (sndC (sndC e0))
noncomputable def SN:Array Bf:=LR (sndC (sndC (sndC YH)))
noncomputable def SO:Array Bf:=LR (fstC (sndC c3))
noncomputable def Q6:Cv:=sndC (sndC c3)
theorem aDD:c3=aYB (aYB (aYH 3 LQ A5) (aYi 0 (.loop YH))) (aYB (aYH 9 SO A5) Q6):=by kernel_rfl
theorem yM:YH=aYB (aYH 4 OO A5) (aYB (.cond (oM 17) .skip (.exit 0)) (aYB (aYi 1 e0) (aYH 8 SN A5))):=by kernel_rfl
theorem aBD:e0=aYB (aYH 5 NS A5) (aYB (aYH 6 VN A5) (aYH 7 M6 A5)):=by kernel_rfl
theorem Eh(h:i<ops.size):ops[i]?=Z (ops.getD i Ag):=by rw[JX,ET h];rfl
theorem a5M{n:Nat}(e:ρ (oM 16)=IS Po j)(b:ρ (oM 15)=IS Po n)(w:A'):(AU ρ (OO.getD 0 Ag)).runT A4 w #[]=(aY6 (aYD (aY5 (Bn (j<n)))) w,#[]):=by
 have f:(OO.getD 0 Ag).op=aZ_ aZ1 3 (oM 16) (oM 15) 3:=by kernel_rfl
 unfold AU;rw[f];simp[e,b,go_sem]
theorem aQY{bl off cap n:Nat}(b:ρ (oM 14)=As (Z ⟨bl,off,J⟩) n cap)(e:ρ (oM 16)=IS Po j)(f:j<n)(w:A'):(AU ρ (NS.getD 0 Ag)).runT A4 w #[]=(aY6 (aYD (aY4 (Z ⟨bl,off+j*2,J⟩))) w,#[]):=by
 have h:(NS.getD 0 Ag).op=aZ3 57 (oM 14) (oM 16):=by kernel_rfl
 unfold AU;rw[h];simp[b,e,go_sem,f]
theorem run_load{bl off:Nat}{p v:ByteArray}(b:ρ (oM 18)=aY4 (Z ⟨bl,off,J⟩))(f:w.cell? ⟨bl,off,J⟩=Z (AI p))(hv:w.cell? ⟨bl,off+1,J⟩=Z (AI v)):(AU ρ (NS.getD 1 Ag)).runT A4 w #[]=(aY6 (aYD (dd #[AI p,AI v])) w,#[⟨aYL ⟨bl,off,J⟩,A5,A5⟩,⟨aYL ⟨bl,off+1,J⟩,A5,A5⟩]):=by
 have e:(NS.getD 1 Ag).op=aYf 85 (oM 18):=by kernel_rfl
 unfold AU;rw[e];simp[b,go_sem,f,hv]
theorem aQI(w:A'):(AU ρ (NS.getD 2 Ag)).runT A4 w #[]=(aY6 (aYD (Af w.heap.size)) {w with heap:=w.heap.push (BE #[AI BS,AI BS] 85)},#[]):=by
 have b:(NS.getD 2 Ag).op=.alloc 85:=by kernel_rfl
 unfold AU;rw[b];simp[go_sem];rfl
theorem ma{b:Nat}{c:Array A1}{t:A_}{z:Nat×Nat}{v:A1}(h:w.heap[b]?=Z (BE c t z)):(w.setCell ⟨b,i,J⟩ v).heap[b]?=Z (BE (c.setIfInBounds i v) t z):=by unfold La;rw[VK _ _ _ h];rfl
def Qo(w:A')(b:Nat)(p v:ByteArray):A':=(w.setCell ⟨b,0,J⟩ (AI p)).setCell ⟨b,1,J⟩ (AI v)
theorem aOR{p v:ByteArray}{y:A1}(b:w.heap[BB]?=Z (BE #[x,y] 85)):(Qo w BB p v).heap[BB]?=Z (BE #[AI p,AI v] 85):=by unfold Qo;rw[ma (ma b)];simp
theorem a4P{b:Nat}{p v:ByteArray}(h:b≠BB):(Qo w BB p v).heap[b]?=w.heap[b]?:=by unfold Qo La;rw[Mf _ _ _ h,Mf _ _ _ h]
theorem uN(w:A')(b:Nat)(p v:ByteArray):(Qo w b p v).heap.size=w.heap.size:=by unfold Qo La;simp
theorem run_store{p v:ByteArray}{y:A1}(C:ρ (oM 8)=Af BB)(A:ρ (oM 19)=dd #[AI p,AI v])(e:w.heap[BB]?=Z (BE #[x,y] 85)):(AU ρ (NS.getD 3 Ag)).runT A4 w #[]=(aY6 aYU (Qo w BB p v),#[⟨aYL ⟨BB,0,J⟩,A0,A5⟩,⟨aYL ⟨BB,1,J⟩,A0,A5⟩]):=by
 have D:(NS.getD 3 Ag).op=.store 85 (oM 8) (oM 19):=by kernel_rfl
 have c0:w.cell? ⟨BB,0,J⟩=Z x:=by simp[F3,e]
 have m:w.frozen? ⟨BB,0,J⟩=A5:=by simp[ic,e]
 have h:=ma (i:=0) (v:=AI p) e;have c1:(w.setCell ⟨BB,0,J⟩ (AI p)).cell? ⟨BB,1,J⟩=Z y:=by simp[F3,h]
 have z:(w.setCell ⟨BB,0,J⟩ (AI p)).frozen? ⟨BB,1,J⟩=A5:=by simp[ic,h]
 unfold AU Qo;rw[D];have f:∀(w:A')(b i:Nat)(x:A1)(s:ByteArray)(es:Array By),w.cell? ⟨b,i,J⟩=Z x->w.frozen? ⟨b,i,J⟩=A5->(aZU ⟨b,i,J⟩ (AI s)).events A4 w es=es.push ⟨aYL ⟨b,i,J⟩,A0,A5⟩:=by intro w b i x s es hc H;unfold oc aZU;rw[Za (by simp) (by simp),hc];simp only[H];rfl
 simp[C,A,go_sem,c0,m,c1,z];rw[f _ _ _ _ _ _ c0 m,f _ _ _ _ _ _ c1 z];rfl
theorem aQV{d m s y:A1}(e:ρ (oM 6)=d)(b:ρ (oM 5)=m)(h2:ρ (oM 2)=s)(f:ρ (oM 8)=y)(w:A'):(AU ρ (M6.getD 0 Ag)).runT A4 w #[]=(aY6 (aYD (aYK (aYI 198) #[] #[d,m,s,y])) w,#[]):=by
 have h:(M6.getD 0 Ag).op=.makeFunc (aYI 198) #[] #[oM 6,oM 5,oM 2,oM 8]:=by kernel_rfl
 unfold AU;rw[h];simp[e,b,h2,f,go_sem,Instr.makeFunc]
theorem aQW{d f m s:A1}(b:ρ (oM 21)=aYK (aYI 198) #[] #[d,f,m,s])(w:A'):(AU ρ (M6.getD 1 Ag)).runT A4 w #[]=(aY6 (aZZ {target:=.fn (aYI 198) #[d,f,m,s],args:=#[]}) w,#[]):=by
 have e:(M6.getD 1 Ag).op=.go {callee:=aYa (oM 21),args:=#[],argTypes:=#[]}:=by kernel_rfl
 unfold AU;rw[e];simp[b,go_sem,aO]
theorem aQH(hc:ρ (aU7 (IS Po 1))=IS Po 1)(b:ρ (oM 16)=IS Po j)(f:j<9223372036854775807)(w:A'):(AU ρ (SN.getD 0 Ag)).runT A4 w #[]=(aY6 (aYD (IS Po (j+1:Nat))) w,#[]):=by
 have e:(SN.getD 0 Ag).op=aZ_ aZ0 3 (oM 16) (aU7 (IS Po 1)) 3:=by kernel_rfl
 unfold AU;rw[e];simp[b,hc,go_sem];rw[dM];omega
theorem run_move(h:ρ (oM 22)=x)(w:A'):(AU ρ (SN.getD 1 Ag)).runT A4 w #[]=(aY6 (aYD x) w,#[]):=by
 have b:(SN.getD 1 Ag).op=.move (oM 22):=by kernel_rfl
 unfold AU;rw[b];simp[h]
end
section
open Go.Proofs.YtcfhleenecfghaaGreatDoor
open Go.Conc Go.RowKit Go.Conc.Lib Go.ConcR.Gen Go.ConcN.Gen
open Go.ConcN(WgLive)
open Go.ConcR(Payload)
variable{w:A'}{T:Array A1}
theorem aTJ(x:A1):#[x]++Sf (oP.ntmps-(#[x]:Array A1).size) Y=#[x,Y,Y,Y,Y,Y,Y,Y,Y,Y,Y,Y,Y,Y,Y,Y,Y,Y,Y,Y,Y,Y,Y,Y,Y,Y,Y,Y,Y,Y,Y,Y,Y,Y,Y,Y,Y,Y,Y,Y,Y,Y,Y,Y,Y,Y,Y,Y,Y,Y,Y,Y,Y,Y,Y,Y,Y,Y,Y,Y,Y,Y,Y,Y,Y,Y,Y,Y,Y,Y,Y,Y,Y,Y,Y,Y,Y,Y,Y,Y,Y,Y,Y,Y]:=by rw[show oP.ntmps=84 by kernel_rfl];simp only[Kd,Jg,pb,Nat.reduceAdd,Nat.reduceSub,a6k,a6l,aBi,aBL,YL,ML]
theorem aCH(x y:A1):#[x,y]++Sf (oO.ntmps-(#[x,y]:Array A1).size) Y=#[x,y,Y,Y,Y,Y,Y,Y,Y,Y,Y,Y,Y,Y,Y,Y,Y,Y,Y,Y,Y,Y,Y,Y,Y,Y,Y,Y,Y,Y,Y,Y,Y,Y,Y,Y,Y,Y,Y,Y,Y,Y,Y,Y,Y,Y,Y,Y,Y,Y,Y,Y,Y,Y,Y,Y,Y,Y,Y,Y,Y,Y,Y,Y,Y,Y,Y,Y,Y,Y,Y,Y,Y,Y,Y,Y,Y,Y,Y,Y,Y,Y,Y,Y,Y,Y,Y,Y,Y,Y,Y,Y,Y,Y,Y,Y,Y,Y,Y,Y,Y,Y,Y,Y,Y,Y,Y,Y,Y,Y,Y,Y,Y,Y,Y,Y,Y]:=by rw[show oO.ntmps=117 by kernel_rfl];simp only[Kd,Jg,pb,Nat.reduceAdd,Nat.reduceSub,a6k,a6l,aBi,aBL,YL,ML]
theorem z4:OO.size=1:=by kernel_rfl
theorem z5:NS.size=4:=by kernel_rfl
theorem U0:VN.size=1:=by kernel_rfl
theorem Sd:M6.size=2:=by kernel_rfl
theorem a6c:SN.size=2:=by kernel_rfl
theorem z9:SO.size=1:=by kernel_rfl
section
variable[Ck]
structure IY where
 X:Gw
 cs:List AY
 bl:Nat
 off:Nat
 cap:Nat
 ms:List (ByteArray×ByteArray)
 br:Nat
 AL:Nat
 old:Nat->Prop
 w0:A'
variable{R:IY}
structure Cm(R:IY)(j:Nat)(T:Array A1):Prop where
 size:T.size=39
 t1:T.getD 1 Y=As (Z ⟨R.bl,R.off,J⟩) R.ms.length R.cap
 t2:T.getD 2 Y=Af R.br
 t5:T.getD 5 Y=Af R.AL
 t6:T.getD 6 Y=Af R.X.Wg
 t14:T.getD 14 Y=As (Z ⟨R.bl,R.off,J⟩) R.ms.length R.cap
 t15:T.getD 15 Y=IS Po R.ms.length
 t16:T.getD 16 Y=IS Po j
structure MS(R:IY)(Sh S:Nat->Prop)(w:A'):Prop where
 Uf:∀b,R.old b->S b∨Sh b
 NY:∀b,Sh b->R.old b
 s:∀b,S b->R.old b
 same:∀b,R.old b->w.heap[b]?=R.w0.heap[b]?
 size:R.w0.heap.size<=w.heap.size
 out:w.os=R.w0.os/\w.output=R.w0.output
omit[Ck]in theorem MS.rely{Sh S:Nat->Prop}{f3:A'}(h:MS R Sh S w)(e:Bx Sh S w f3):MS R Sh S f3:=⟨h.Uf,h.NY,h.s,λb f=>(e.same b (h.Uf b f)).trans (h.same b f),HA h.size e.size,e.os.trans h.out.1,e.output.trans h.out.2⟩
noncomputable def US:List Cw:=[.inLoop YH,aYk 0,aY9 (aYB (aYH 9 SO A5) Q6)]
noncomputable def head(R:IY)(T:Array A1):AK:=G ((B6 126).at ⟨T,[]⟩ (aY9 YH::US)) R.cs
noncomputable def waited(R:IY)(T:Array A1):AK:=G ((B6 126).at ⟨T,[]⟩ [aY7 SO [],aY9 Q6]) R.cs
structure IY.Ok(R:IY):Prop where
 prog:R.X.P=A4
 ty:R.X.ty=Ik.tWg
 n:R.X.n=R.ms.length
 small:R.ms.length<2147483648
 aMk:∀j p v,R.ms[j]?=Z (p,v)->R.w0.cell? ⟨R.bl,R.off+j*2,J⟩=Z (AI p)/\R.w0.cell? ⟨R.bl,R.off+j*2+1,J⟩=Z (AI v)
 a3k:R.old R.bl
 lt:∀b,R.old b->b<R.w0.heap.size
 child:∀j p v w BB,R.ms[j]?=Z (p,v)->(∀b,R.old b->w.heap[b]?=R.w0.heap[b]?)->R.w0.heap.size<=BB->w.heap[BB]?=Z (BE #[AI p,AI v] 85)->∃HU val,Way R.X.P A5 R.old (AtSend R.X j BB HU val R.old) (λb=>b=BB) (born R.X.P (call198 R.X.Wg R.AL R.br BB)) w
 goal:∀T Sh S g' w',Cm R R.ms.length T->MS R Sh S w'->nJ R.X (waited R T) g'->R.X.Goal Sh S g' w'
omit[Ck]in theorem Cm.set{j d:Nat}(h:Cm R j T)(v:A1)(x:d≠1/\d≠2/\d≠5/\d≠6/\d≠14/\d≠15/\d≠16):Cm R j (T.setIfInBounds d v):=by obtain⟨b,h2,p,s,e,f,m⟩:=x;exact⟨by simpa using h.size,by rw[Bo b];exact h.t1,by rw[Bo h2];exact h.t2,by rw[Bo p];exact h.t5,by rw[Bo s];exact h.t6,by rw[Bo e];exact h.t14,by rw[Bo f];exact h.t15,by rw[Bo m];exact h.t16⟩
variable{R:IY}
theorem ED.ctl{r:Nat}{Sh S:Nat->Prop}{g g':AK}{w:A'}(hs:g.status=aYF)(h:∀w,Be R.X.P A0 g w=aYE g' w #[])(k:ED R.X r Sh S g' w):ED R.X r Sh S g w:=by cases r with|zero=>exact Way.ctl hs h k|succ r=>exact Way.ctl hs h k
theorem aSV(K:R.Ok){Sh S:Nat->Prop}(f:Cm R R.ms.length T)(y:MS R Sh S w):ED R.X 0 Sh S (head R T) w:=by
 show Way R.X.P A0 Sh (jU R.X Sh) S (head R T) w;unfold head;rw[yM];refine Way.ctl rfl (λ_=>GB) ?_;refine Way.ctl rfl (λ_=>Hu) ?_;rw[show H9 OO.size=[0]by kernel_rfl];refine Way.pure (aY5 A5) (Eh (by rw[z4];omega)) (by kernel_rfl) (by simp[B6]) (λw=>?_) ?_;·rw[K.prog,a5M (ρ:=Cu ⟨T,[]⟩) f.t16 f.t15];simp
 rw[show(OO.getD 0 Ag).dst=Z 17 by kernel_rfl];show Way R.X.P A0 Sh (jU R.X Sh) S (G ((B6 126).at ⟨T.setIfInBounds 17 (aY5 A5),[]⟩ _) R.cs) w;have m:=f.set (d:=17) (aY5 A5) (by omega);have p:(T.setIfInBounds 17 (aY5 A5)).getD 17 Y=aY5 A5:=FK (by rw[f.size];omega);generalize T.setIfInBounds 17 (aY5 A5)=b at m p;refine Way.ctl rfl (λ_=>Hf) ?_;refine Way.ctl rfl (λ_=>GB) ?_;refine Way.ctl rfl (λ_=>hl (t:=A5) p) ?_;refine Way.ctl rfl (λ_=>stepG_exit (k':=[aY9 (aYB (aYH 9 SO A5) Q6)]) rfl) ?_;refine Way.ctl rfl (λ_=>GB) ?_;refine Way.ctl rfl (λ_=>Hu) ?_;rw[show H9 SO.size=[0]by kernel_rfl];have H:(SO.getD 0 Ag).op=a8E {callee:=aYa (aYM 201),args:=#[oM 6],argTypes:=#[325]}:=by kernel_rfl
 obtain⟨c,z⟩:∃c,oP.body=Z c:=⟨_,rfl⟩;refine Way.ctl rfl (λw=>Qz (Eh (by rw[z9];omega)) (by kernel_rfl) (by simp[B6]) H (by rw[K.prog];exact x3) (by kernel_rfl) z) ?_;refine .stop λQ I=>⟨rfl,λD=>?_⟩;have N:=aTI (X:=R.X) (L:=Ik) (b₀:=B6 126) (a₀:=⟨b,[]⟩) (ops₀:=SO) (i₀:=0) (rest₀:=[]) (k₀:=[aY9 Q6]) (cs:=R.cs) (by rw[K.prog];exact my) Q D;have C:=aTH (X:=R.X) (L:=Ik) (b₀:=B6 126) (a₀:=⟨b,[]⟩) (ops₀:=SO) (i₀:=0) (rest₀:=[]) (k₀:=[aY9 Q6]) (cs:=R.cs) (by rw[K.prog];exact my) K.ty;refine⟨_,_,3,C,?_,λx s w' M=>?_⟩
 ·have e:#[oM 6].map (Cu ⟨b,[]⟩)=#[Af R.X.Wg]:=by simp only[Le,GU,K8];rw[show Cu ⟨b,[]⟩ (oM 6)=Af R.X.Wg from m.t6]
  have A:R.X.P.funcs[201]?=Z oP:=by rw[K.prog];exact x3
  rw[e,enter_at (c:=nu Ik) _ A rfl,aTJ];exact N
 ·have h:SO[0]?.bind (·.dst)=Z 23:=by kernel_rfl
  rw[h]at s;exact K.goal (b.setIfInBounds 23 (aY8 #[])) Sh S x w' (m.set _ (by omega)) ((y.rely I).rely M) s
noncomputable def e4:List Cw:=aY9 (aYH 7 M6 A5)::aYk 1::aY9 (aYH 8 SN A5)::US
noncomputable def jD:List Cw:=aYk 1::aY9 (aYH 8 SN A5)::US
theorem aSR(K:R.Ok){r j:Nat}{Sh S:Nat->Prop}(m:Cm R j T)(z:j<R.ms.length)(h:∀T,Cm R (j+1) T->ED R.X r Sh S (head R T) w):ED R.X r Sh S (G ((B6 126).at ⟨T,[]⟩ (aY7 M6 []::jD)) R.cs) w:=by
 have A:=K.small;refine ED.ctl rfl (λ_=>Hf) ?_;unfold jD;refine ED.ctl rfl (λ_=>stepG_inBlock) ?_;refine ED.ctl rfl (λ_=>Hu) ?_;rw[show H9 SN.size=[0,1]by kernel_rfl];have f:∀{ops:Array Bf}{i:Nat}{rest:List Nat}{q:List Cw}{o:Bf}{a:Ja}(v:A1)(p:ops[i]?=Z o)(s:EY o (Gu ops a.tmps)=A0)(h:∀w,(AU a.eval o).runT A4 w #[]=(aY6 (aYD v) w,#[])),ED R.X r Sh S (G ((B6 126).at (a.put o.dst v) (aY7 ops rest::q)) R.cs) w->ED R.X r Sh S (G ((B6 126).at a (aY7 ops (i::rest)::q)) R.cs) w:=by intro ops i rest q o a v p s hx y;cases r with|zero=>exact Way.pure v p s (by simp[B6]) (by rw[K.prog];exact hx) y|succ r=>exact Way.pure v p s (by simp[B6]) (by rw[K.prog];exact hx) y
 refine f (IS Po (j+1:Nat)) (Eh (by rw[a6c];omega)) (by kernel_rfl) (aQH (ρ:=Cu ⟨T,[]⟩) rfl m.t16 (by omega)) ?_;rw[show(SN.getD 0 Ag).dst=Z 22 by kernel_rfl];show ED R.X r Sh S (G ((B6 126).at ⟨T.setIfInBounds 22 (IS Po (j+1:Nat)),[]⟩ _) R.cs) w;have b:=m.set (d:=22) (IS Po (j+1:Nat)) (by omega);have e:(T.setIfInBounds 22 (IS Po (j+1:Nat))).getD 22 Y=IS Po (j+1:Nat):=FK (by rw[m.size];omega);generalize T.setIfInBounds 22 (IS Po (j+1:Nat))=x at b e;refine f (IS Po (j+1:Nat)) (Eh (by rw[a6c];omega)) (by kernel_rfl) (run_move (ρ:=Cu ⟨x,[]⟩) e) ?_;rw[show(SN.getD 1 Ag).dst=Z 16 by kernel_rfl];show ED R.X r Sh S (G ((B6 126).at ⟨x.setIfInBounds 16 (IS Po (j+1:Nat)),[]⟩ _) R.cs) w;refine ED.ctl rfl (λ_=>Hf) ?_;unfold US;refine ED.ctl rfl (λ_=>stepG_inLoop) ?_;refine h _ ⟨by simpa using b.size,by rw[Bo (by omega)];exact b.t1,by rw[Bo (by omega)];exact b.t2,by rw[Bo (by omega)];exact b.t5,by rw[Bo (by omega)];exact b.t6,by rw[Bo (by omega)];exact b.t14,by rw[Bo (by omega)];exact b.t15,FK (by rw[b.size];omega)⟩
theorem aSQ(K:R.Ok){r j BB:Nat}{Sh S:Nat->Prop}{p v:ByteArray}(H1:R.X.n-(r+1)=j)(A2:r<R.X.n)(M:R.ms[j]?=Z (p,v))(s:Cm R j T)(Ia:T.getD 8 Y=Af BB)(I2:MS R Sh (λb=>S b) w)(Uy:R.w0.heap.size<=BB)(Fo:w.heap[BB]?=Z (BE #[AI p,AI v] 85))(ih:∀Sh S T w,Cm R (j+1) T->MS R Sh S w->ED R.X r Sh S (head R T) w):Way R.X.P A0 Sh (AtGo R.X j (ED R.X r) Sh) (λb=>S b∨b=BB) (G ((B6 126).at ⟨T,[]⟩ (aY7 VN []::e4)) R.cs) w:=by
 refine Way.ctl rfl (λ_=>Hf) ?_;unfold e4;refine Way.ctl rfl (λ_=>Hu) ?_;rw[show H9 M6.size=[0,1]by kernel_rfl];refine Way.pure (aYK (aYI 198) #[] #[Af R.X.Wg,Af R.AL,Af R.br,Af BB]) (Eh (by rw[Sd];omega)) (by kernel_rfl) (by simp[B6]) (by rw[K.prog];exact aQV (ρ:=Cu ⟨T,[]⟩) s.t6 s.t5 s.t2 Ia) ?_;rw[show(M6.getD 0 Ag).dst=Z 21 by kernel_rfl];show Way R.X.P A0 Sh (AtGo R.X j (ED R.X r) Sh) (λb=>S b∨b=BB) (G ((B6 126).at ⟨T.setIfInBounds 21 (aYK (aYI 198) #[] #[Af R.X.Wg,Af R.AL,Af R.br,Af BB]),[]⟩ _) R.cs) w;have I:=s.set (d:=21) (aYK (aYI 198) #[] #[Af R.X.Wg,Af R.AL,Af R.br,Af BB]) (by omega);have H:(T.setIfInBounds 21 (aYK (aYI 198) #[] #[Af R.X.Wg,Af R.AL,Af R.br,Af BB])).getD 21 Y=aYK (aYI 198) #[] #[Af R.X.Wg,Af R.AL,Af R.br,Af BB]:=FK (by rw[s.size];omega);generalize T.setIfInBounds 21 (aYK (aYI 198) #[] #[Af R.X.Wg,Af R.AL,Af R.br,Af BB])=h at I H;refine .stop λf y=>?_;have m:MS R Sh S f:=I2.rely ⟨y.size,λb e=>y.same b (e.imp AA id),y.os,y.output⟩;have A:f.heap[BB]?=Z (BE #[AI p,AI v] 85):=by rw[y.same _ (AA (AF rfl))];exact Fo
 obtain⟨HU,D,FU⟩:=K.child j p v f BB M m.same Uy A;have N:¬R.old BB:=λx=>by have:=K.lt _ x;omega
 have Q:(AU (Cu ⟨h,[]⟩) (M6.getD 1 Ag)).runT R.X.P f #[]=(aY6 (aZZ (call198 R.X.Wg R.AL R.br BB)) f,#[]):=by rw[K.prog];exact aQW (ρ:=Cu ⟨h,[]⟩) H f
 have C:(AU (Cu ⟨h,[]⟩) (M6.getD 1 Ag)).run R.X.P f=aY6 (aZZ (call198 R.X.Wg R.AL R.br BB)) f:=by have:=PZ (P:=R.X.P) (AU (Cu ⟨h,[]⟩) (M6.getD 1 Ag)) f #[];rw[Q]at this;exact this.symm
 have z:na R.X.P (B6 126).fn ⟨h,[]⟩ (M6.getD 1 Ag) f=#[]:=by unfold na oc;rw[Q];exact ng _ _
 refine⟨rfl,G ((B6 126).at ⟨h,[]⟩ (aY7 M6 []::jD)) R.cs,_,λb=>Sh b∨R.old b,λ_=>False,R.old,λb=>b=BB,BB,HU,D,?_,rfl,?_,rfl,FU,?_⟩;·have:=stepG_spawn (P:=R.X.P) (main:=A0) (b:=B6 126) (a:=⟨h,[]⟩) (k:=jD) (cs:=R.cs) (rest:=[]) (Eh (ops:=M6) (i:=1) (by rw[Sd];omega)) (by kernel_rfl) (by simp[B6]) C rfl;rw[z,show(M6.getD 1 Ag).dst=J by kernel_rfl]at this;exact this
 ·refine⟨λb e=>e.elim,λb e=>AF e,λb=>UR,λb e=>(m.Uf b e).imp AA id,λb e=>e.elim,λb e=>e.elim,λb e=>?_⟩;subst e;exact⟨N,λx=>N (m.NY _ x)⟩
 ·have hlt:j<R.ms.length:=(List.getElem?_eq_some_iff.1 M).1;exact aSR K I hlt λU FR=>ih _ _ U f FR ⟨λb e=>AF (AF e),λb e=>e.elim (m.NY b) id,λb e=>e.elim,m.same,m.size,m.out⟩
theorem aSP(K:R.Ok){r j:Nat}{Sh S:Nat->Prop}(H1:R.X.n-(r+1)=j)(A2:r<R.X.n)(i1:Cm R j T)(I2:MS R Sh S w)(ih:∀Sh S T w,Cm R (j+1) T->MS R Sh S w->ED R.X r Sh S (head R T) w):ED R.X (r+1) Sh S (head R T) w:=by
 show Way R.X.P A0 Sh (StopA R.X r (ED R.X r) Sh) S (head R T) w;have hn:=K.n;have hlt:j<R.ms.length:=by omega
 obtain⟨⟨p,v⟩,hm⟩:∃x,R.ms[j]?=Z x:=⟨_,Ld hlt⟩;unfold head;rw[yM];refine Way.ctl rfl (λ_=>GB) ?_;refine Way.ctl rfl (λ_=>Hu) ?_;rw[show H9 OO.size=[0]by kernel_rfl];refine Way.pure (aY5 A0) (Eh (by rw[z4];omega)) (by kernel_rfl) (by simp[B6]) (λw=>?_) ?_;·rw[K.prog,a5M (ρ:=Cu ⟨T,[]⟩) i1.t16 i1.t15];simp[hlt]
 rw[show(OO.getD 0 Ag).dst=Z 17 by kernel_rfl];show Way R.X.P A0 Sh (StopA R.X r (ED R.X r) Sh) S (G ((B6 126).at ⟨T.setIfInBounds 17 (aY5 A0),[]⟩ _) R.cs) w;have U:=i1.set (d:=17) (aY5 A0) (by omega);have bH:(T.setIfInBounds 17 (aY5 A0)).getD 17 Y=aY5 A0:=FK (by rw[i1.size];omega);generalize T.setIfInBounds 17 (aY5 A0)=C7 at U bH;refine Way.ctl rfl (λ_=>Hf) ?_;refine Way.ctl rfl (λ_=>GB) ?_;refine Way.ctl rfl (λ_=>hl (t:=A0) bH) ?_;refine Way.ctl rfl (λ_=>stepG_skip) ?_;refine Way.ctl rfl (λ_=>GB) ?_;refine Way.ctl rfl (λ_=>stepG_block) ?_;rw[aBD];refine Way.ctl rfl (λ_=>GB) ?_;refine Way.ctl rfl (λ_=>Hu) ?_;rw[show H9 NS.size=[0,1,2,3]by kernel_rfl];refine Way.pure (aY4 (Z ⟨R.bl,R.off+j*2,J⟩)) (Eh (by rw[z5];omega)) (by kernel_rfl) (by simp[B6]) (λw=>by rw[K.prog];exact aQY (ρ:=Cu ⟨C7,[]⟩) U.t14 U.t16 hlt w) ?_;rw[show(NS.getD 0 Ag).dst=Z 18 by kernel_rfl];show Way R.X.P A0 Sh (StopA R.X r (ED R.X r) Sh) S (G ((B6 126).at ⟨C7.setIfInBounds 18 (aY4 (Z ⟨R.bl,R.off+j*2,J⟩)),[]⟩ _) R.cs) w;have FR:=U.set (d:=18) (aY4 (Z ⟨R.bl,R.off+j*2,J⟩)) (by omega);have eu:(C7.setIfInBounds 18 (aY4 (Z ⟨R.bl,R.off+j*2,J⟩))).getD 18 Y=aY4 (Z ⟨R.bl,R.off+j*2,J⟩):=FK (by rw[U.size];omega);generalize C7.setIfInBounds 18 (aY4 (Z ⟨R.bl,R.off+j*2,J⟩))=FJ at FR eu;refine Way.oper (Eh (by rw[z5];omega)) (by kernel_rfl) (by simp[B6]) λf3 Fb=>?_;have Rn:=I2.rely Fb;have Dq:∀i,f3.cell? ⟨R.bl,i,J⟩=R.w0.cell? ⟨R.bl,i,J⟩:=λi=>by unfold F3;rw[Rn.same _ K.a3k]
 obtain⟨c1,c2⟩:=K.aMk j p v hm;refine⟨dd #[AI p,AI v],f3,#[⟨aYL ⟨R.bl,R.off+j*2,J⟩,A5,A5⟩,⟨aYL ⟨R.bl,R.off+j*2+1,J⟩,A5,A5⟩],S,by rw[K.prog];exact run_load (ρ:=Cu ⟨FJ,[]⟩) eu (by rw[Dq];exact c1) (by rw[Dq];exact c2),?_,?_⟩;·refine⟨AX _,λ_ _ _=>rfl,rfl,rfl,rfl,λb=>⟨AA,λx=>x.elim (λz=>z) λy=>by omega⟩,λe he=>?_⟩;have AQ:S R.bl∨Sh R.bl/\A5=A5:=(I2.Uf _ K.a3k).imp id λx=>⟨x,rfl⟩;simp only[UT,Hw,H8,or_false]at he;rcases he with rfl|rfl<;>exact .cell _ _ AQ
 rw[show(NS.getD 1 Ag).dst=Z 19 by kernel_rfl];show Way R.X.P A0 Sh (StopA R.X r (ED R.X r) Sh) S (G ((B6 126).at ⟨FJ.setIfInBounds 19 (dd #[AI p,AI v]),[]⟩ _) R.cs) f3;have Ln:=FR.set (d:=19) (dd #[AI p,AI v]) (by omega);have H:(FJ.setIfInBounds 19 (dd #[AI p,AI v])).getD 19 Y=dd #[AI p,AI v]:=FK (by rw[FR.size];omega);generalize FJ.setIfInBounds 19 (dd #[AI p,AI v])=N at Ln H;clear Dq c1 c2 Fb I2 bH eu;refine Way.oper (Eh (by rw[z5];omega)) (by kernel_rfl) (by simp[B6]) λm FW=>?_;have C:=Rn.rely FW;refine⟨Af m.heap.size,{m with heap:=m.heap.push (BE #[AI BS,AI BS] 85)},#[],λb=>S b∨b=m.heap.size,by rw[K.prog];exact aQI (ρ:=Cu ⟨N,[]⟩) m,?_,?_⟩;·refine⟨by simp,λb h _=>?_,rfl,rfl,rfl,λb=>⟨λx=>x.imp id λy=>by simp only[aB];omega,λx=>x.imp id λy=>by simp only[aB]at y;omega⟩,by simp⟩;show(m.heap.push _)[b]?=_;rw[H4 h,ET h]
 rw[show(NS.getD 2 Ag).dst=Z 8 by kernel_rfl];have B3:=C.size;generalize Uy:m.heap.size=f at B3;show Way R.X.P A0 Sh (StopA R.X r (ED R.X r) Sh) (λb=>S b∨b=f) (G ((B6 126).at ⟨N.setIfInBounds 8 (Af f),[]⟩ _) R.cs) _;have P7:=Ln.set (d:=8) (Af f) (by omega);have Ia:(N.setIfInBounds 8 (Af f)).getD 8 Y=Af f:=FK (by rw[Ln.size];omega);have H:(N.setIfInBounds 8 (Af f)).getD 19 Y=dd #[AI p,AI v]:=by rw[Bo (by omega)];exact H
 generalize N.setIfInBounds 8 (Af f)=A at P7 Ia H;have kk:∀b,R.old b->b≠f:=λb h x=>by have:=K.lt _ h;omega
 have rO:MS R Sh S {m with heap:=m.heap.push (BE #[AI BS,AI BS] 85)}:=by refine⟨C.Uf,C.NY,C.s,λb h=>?_,by simp only[aB];omega,C.out⟩;have a0h:b<m.heap.size:=K9 (K.lt b h) (by omega);show(m.heap.push _)[b]?=_;rw[H4 a0h,<-ET a0h];exact C.same b h
 have Fo:({m with heap:=m.heap.push (BE #[AI BS,AI BS] 85)}:A').heap[f]?=Z (BE #[AI BS,AI BS] 85):=by show(m.heap.push _)[f]?=_;rw[<-Uy,vW]
 generalize({m with heap:=m.heap.push (BE #[AI BS,AI BS] 85)}:A')=n1 at rO Fo;clear C Rn FW Uy;refine Way.aNU (Eh (by rw[z5];omega)) (by kernel_rfl) (by simp[B6]) λM I=>?_;have D:MS R Sh S M:=rO.rely ⟨I.size,λb h=>I.same b (h.imp AA id),I.os,I.output⟩;have sc:M.heap[f]?=Z (BE #[AI BS,AI BS] 85):=by rw[I.same _ (AA (AF rfl))];exact Fo
 refine⟨Qo M f p v,#[⟨aYL ⟨f,0,J⟩,A0,A5⟩,⟨aYL ⟨f,1,J⟩,A0,A5⟩],λb=>S b∨b=f,by rw[K.prog];exact run_store (ρ:=Cu ⟨A,[]⟩) Ia H sc,?_,?_⟩;·refine⟨by rw[uN];exact AX _,λb _ h=>a4P λx=>h (AF x),rfl,rfl,rfl,λb=>⟨AA,λx=>x.elim (λz=>z) λy=>by rw[uN]at y;omega⟩,λe he=>?_⟩;simp only[UT,Hw,H8,or_false]at he;rcases he with rfl|rfl<;>exact .cell _ _ (AA (AF rfl))
 rw[show(NS.getD 3 Ag).dst=J by kernel_rfl];show Way R.X.P A0 Sh (StopA R.X r (ED R.X r) Sh) (λb=>S b∨b=f) (G ((B6 126).at ⟨A,[]⟩ _) R.cs) _;have Q:MS R Sh S (Qo M f p v):=⟨D.Uf,D.NY,D.s,λb h=>by rw[a4P (kk b h)];exact D.same b h,by rw[uN];exact D.size,D.out⟩;have a1C:(Qo M f p v).heap[f]?=Z (BE #[AI p,AI v] 85):=aOR sc;generalize Qo M f p v=hN at Q a1C;clear D sc I rO Fo H;refine Way.ctl rfl (λ_=>Hf) ?_;refine Way.ctl rfl (λ_=>GB) ?_;refine Way.ctl rfl (λ_=>Hu) ?_;rw[show H9 VN.size=[0]by kernel_rfl];have f1:(VN.getD 0 Ag).op=a8E {callee:=aYa (aYM 197),args:=#[oM 6,aU7 (IS Po 1)],argTypes:=#[325,3]}:=by kernel_rfl
 obtain⟨c,Jr⟩:∃c,oO.body=Z c:=⟨_,rfl⟩;refine Way.ctl rfl (λw=>Qz (Eh (by rw[U0];omega)) (by kernel_rfl) (by simp[B6]) f1 (by rw[K.prog];exact x2) (by kernel_rfl) Jr) ?_;refine .stop λvS aIe=>⟨rfl,λS2=>?_⟩;have aES:VN[0]?.bind (·.dst)=Z 20:=by kernel_rfl
 have A6:=aCF (X:=R.X) (L:=Ik) (Nx:=λg=>g=G ((B6 126).at ⟨A.setIfInBounds 20 (aY8 #[]),[]⟩ (aY7 VN []::e4)) R.cs) (b₀:=B6 126) (a₀:=⟨A,[]⟩) (ops₀:=VN) (i₀:=0) (rest₀:=[]) (k₀:=e4) (cs:=R.cs) (by rw[K.prog];exact my) K.ty (by rw[aES];rfl) vS S2;refine⟨λg=>g=G ((B6 126).at ⟨A.setIfInBounds 20 (aY8 #[]),[]⟩ (aY7 VN []::e4)) R.cs,12,?_,λg' EP w' OC=>?_⟩
 ·have e:#[oM 6,aU7 (IS Po 1)].map (Cu ⟨A,[]⟩)=#[Af R.X.Wg,IS Po 1]:=by simp only[Le,GU,K8];rw[show Cu ⟨A,[]⟩ (oM 6)=Af R.X.Wg from P7.t6];rfl
  have AE:R.X.P.funcs[197]?=Z oO:=by rw[K.prog];exact x2
  rw[e,enter_at (c:=w9 Ik) _ AE rfl,aCH];exact A6
 ·subst EP;have fy:Bx Sh (λb=>S b∨b=f) hN w':=aIe.trans OC;rw[H1];refine aSQ K H1 A2 hm (P7.set (d:=20) _ (by omega)) (by rw[Bo (by omega)];exact Ia) (Q.rely ⟨fy.size,λb h=>fy.same b (h.imp AA id),fy.os,fy.output⟩) B3 (by rw[fy.same _ (AA (AF rfl))];exact a1C) ih
theorem a5Q(K:R.Ok):∀(r:Nat)(Sh S:Nat->Prop)(T:Array A1)(w:A'),r<=R.X.n->Cm R (R.X.n-r) T->MS R Sh S w->ED R.X r Sh S (head R T) w|0,Sh,S,T,w,_,d,f=>aSV K (by rw[<-K.n];exact d) f|r+1,Sh,S,T,w,A2,d,f=>aSP K rfl (by omega) d f λSh S T w b h2=>a5Q K r Sh S T w (by omega) (by rw[show R.X.n-r=R.X.n-(r+1)+1 by omega];exact b) h2
end
end
end Go.Proofs.YtcfhleenecfghaaGreatDoor.Twin
