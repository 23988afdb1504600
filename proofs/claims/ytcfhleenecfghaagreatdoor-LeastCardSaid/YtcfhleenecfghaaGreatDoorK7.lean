import Derived.Laws.Tables
import Derived.Test.YtcfhleenecfghaaGreatDoorK4
import Derived.Test.YtcfhleenecfghaaGreatDoorK6
set_option linter.all false
set_option maxHeartbeats 4000000
set_option maxRecDepth 100000
open Array renaming append_empty->U2,getD_eq_getD_getElem?->JX,getElem?_eq_getElem->ET,getElem?_push->OX,getElem?_push_lt->H4,replicate->Sf
open Bool renaming and_eq_true->IP,false->A5,false_eq_true->EU,not_eq_true'->aC,not_false->U4,not_true->Sg,true->A0
open Classical renaming choose->aD,choose_spec->U5
open Decidable renaming decide->Bn
open False renaming elim->a6z
open Go renaming Addr->Aa,Calls->AZ,Code->Cv,Event->By,Frame->AY,Func->JG,Goroutine->AK,Item->Cw,Machine->UI,Oper->Bf,Operand->C2,Program->Ac,Trace->DX,TypeId->A_,Value->A1,World->A',callFunc->Pw,choose->Sy,execOp->AU,exitTo->Px,maxLen->BK,resolve->Y',results->De,runN->Ek,runNT->Eg,seen->IU,stepG->Be,stepT->oq,stuck->Vt,typeInfo->RL,undef->Y,underlying->Iq,unwind->HL,yielded->Gu,zeroValue->RM
open Go.Act renaming eval->Cu,put->aJ
open Go.Builtin renaming append_->U9,close_->vo
open Go.CallKind renaming early->aYR,normal->a73
open Go.Callee renaming builtin->aYV,value->aYa
open Go.Code renaming block->aYi,cond->aZB,exit->aZC,region->aYH,ret->aYT,seq->aYB,skip->aZD,wp_mono->ME
open Go.CommShape renaming recv->aZE
open Go.Conc renaming Deaf_other->Nd,Goes->Xc,base->B6,crowd->Ea,crowd_pick->Vh,heap_setChan->a7I,mem_seen->aN,ofEvents_eq->dB,rcase->Xd,runT_crowd_go->Pm,runT_solo_go->vw,seen_none->ng,solo->EB,stepG_block->dC,stepG_cond->hl,stepG_exit->a7N,stepG_inBlock->aZw,stepG_inLoop->aZx,stepG_loop->a7O,stepG_oper->Sk,stepG_region->Hu,stepG_region_end->Hf,stepG_ret'->aZy,stepG_seq->GB,stepG_skip->a7P,stepT_solo->nj,woken->Pn
open Go.ConcN renaming Deaf_still->Vi,le_sumTo->dF,sumTo->Io,sumTo_upd->Vj
open Go.ConcR renaming Payload->Ck,wgBlock->Ms
open Go.Deferred renaming ofValue->aO
open Go.Ending renaming returned->hq
open Go.Exit renaming normal->aYP
open Go.Extern renaming find->aP,findNext->Xh
open Go.Extern.AbiNoEscape renaming same->hr
open Go.Extern.BytealgCompare renaming compare->o0
open Go.Extern.BytealgMakeNoZero renaming makeNoZero->o6
open Go.Fn renaming func->aYI
open Go.Frame renaming enter->GR,finish->dG,finish_at->KX
open Go.FrameMode renaming returning->aYX,run->aYY
open Go.GStep renaming after->Nh,ended->aYs,go->aYE
open Go.GoStatus renaming running->aYF
open Go.Goroutine renaming finishComm->a7t
open Go.Goroutine.mk renaming injEq->UC
open Go.Instr renaming fill->UD,makeChan->wU,sureAddr->dL
open Go.IntKind renaming i64->Po
open Go.Item renaming code->aY9,inBlock->aYk,inLoop->aYn,inRegion->aY7
open Go.Lib renaming cell_of_heap->Ad,frozen_of_heap->Dv
open Go.Loc renaming cell->aYM,obj->aYb
open Go.MemAct renaming low_mono->a88
open Go.MemOp renaming ofEvents->K6
open Go.Next renaming skip->aYU,value->aYD
open Go.Obj renaming cells->BE,chan->aYQ,map->oF
open Go.Op renaming alloc->aZK,assign->aYt,buildSlice->aZL,call->a8E,load->aYf,makeSlice->aZ4,move->aYg,operands->Dn,store->aZg
open Go.Operand renaming const->aU7,func->aYN,tmp->oM
open Go.Proofs.Tryz renaming f126->UJ,f267->a8P,f328->a8Q,f422->oQ,f61->Od,func126->x1,func128->iT,func267->a_6,func328->a_7,func351->iU,func407->oU,func409->iV,func422->a_8,func61->Pq,prog->A4
open Go.Question renaming order->aYq
open Go.Region renaming wanted->EY
open Go.Result renaming ok->aY6
open Go.ResultVar renaming tmp->aUQ
open Go.RowKit renaming Below->AS
open Go.RowKit.Below renaming refl->B9
open Go.Sem renaming bind->Dy,events->oc,pure->Mu,runT->DV
open Go.Stepped renaming next->aYG
open Go.Stepped.next renaming inj->Xy,injEq->RH
open Go.Steps renaming trans->a_F
open Go.Trace renaming act?->od,g?->dc
open Go.TypeDesc renaming chan->aZQ,struct->aYu
open Go.Value renaming agg->dd,bool->aY5,cells->de,chan->aYC,func->aYK,int->IS,map->E3,pointer->aY4,slice->As,string->AI,tuple->aY8
open Go.World renaming block_lt_of_cell?->Ff,cell?->F3,cell?_of_block->F4,setChan->df,setRow->aA4
open Go.stepG renaming apply->MI,exec->C6
open Iff renaming rfl->UR
open Inhabited renaming default->Ag
open List renaming cons_append->ML,getElem?_map->W',getElem_mem->EC,length_append->HN,length_map->Mz,map_cons->GU,map_nil->K8,map_toArray->Le,mem_cons->Hw,mem_cons_of_mem->I8,mem_cons_self->N',mem_singleton->ak,mem_toArray->UT,nil_append->YL,not_mem_nil->H8,range->H9,take_length->On
open List.cons renaming inj->Om
open Nat renaming eq_zero_or_pos->UX,exists_eq_add_of_le->pn,le_of_not_lt->e8,le_refl->AX,le_trans->HA,lt_of_lt_of_le->K9,lt_or_ge->IW,lt_succ_self->Pz,mul_le_mul_right->yX,zero_add->Oq
open Option renaming bind_some->RR,getD_some->HB,isNone_eq_false_iff->a_O,none->J,some->Z
open Option.some renaming inj->D3
open Or renaming inl->AA,inr->AF
open Prod renaming ext->RS
open Prod.mk renaming injEq->Ot
namespace Go.Proofs.YtcfhleenecfghaaGreatDoor.Twin
section
open Go.Proofs.YtcfhleenecfghaaGreatDoor
open Go.Conc Go.RowKit Go.Conc.Lib
open Go.ConcN(WgLive)
open Go.ConcR(Payload wgBlock)
variable{w:A'}{T:Array A1}{ρ:C2->A1}
theorem z2:o2.size=1:=by kernel_rfl
theorem z3:LQ.size=3:=by kernel_rfl
theorem aQX(w:A'):(AU ρ (o2.getD 0 Ag)).runT A4 w #[]=(aY6 (aYD (Af w.heap.size)) {w with heap:=w.heap.push (BE #[IS .u64 0,IS .u32 0] 325)},#[]):=by
 have b:(o2.getD 0 Ag).op=aZK 325:=by kernel_rfl
 unfold AU;rw[b];simp[go_sem]
theorem aQi{x:A1}(h:ρ (oM 1)=x)(w:A'):(AU ρ (LQ.getD 0 Ag)).runT A4 w #[]=(aY6 (aYD x) w,#[]):=by
 have b:(LQ.getD 0 Ag).op=aYg (oM 1):=by kernel_rfl
 unfold AU;rw[b];simp[h]
theorem aQZ{a:Aa}{n cap:Nat}(h:ρ (oM 14)=As (Z a) n cap)(w:A'):(AU ρ (LQ.getD 1 Ag)).runT A4 w #[]=(aY6 (aYD (IS Po n)) w,#[]):=by
 have b:(LQ.getD 1 Ag).op=a8E {callee:=aYV .len,args:=#[oM 14],argTypes:=#[57]}:=by kernel_rfl
 unfold AU;rw[b];simp[h,go_sem]
theorem aQm(hc:ρ (aU7 (IS Po 0))=IS Po 0)(w:A'):(AU ρ (LQ.getD 2 Ag)).runT A4 w #[]=(aY6 (aYD (IS Po 0)) w,#[]):=by
 have b:(LQ.getD 2 Ag).op=aYg (aU7 (IS Po 0)):=by kernel_rfl
 unfold AU;rw[b];simp[hc]
section
variable[Ck]{R:IY}
theorem ED.pure(K:R.Ok){r:Nat}{Sh S:Nat->Prop}{w:A'}{ops:Array Bf}{i:Nat}{rest:List Nat}{q:List Cw}{o:Bf}{a:Act}(v:A1)(e:ops[i]?=Z o)(f:EY o (Gu ops a.tmps)=A0)(hx:∀w,(AU a.eval o).runT A4 w #[]=(aY6 (aYD v) w,#[]))(b:ED R.X r Sh S (G ((B6 126).at (a.put o.dst v) (aY7 ops rest::q)) R.cs) w):ED R.X r Sh S (G ((B6 126).at a (aY7 ops (i::rest)::q)) R.cs) w:=by cases r with|zero=>exact Way.pure v e f (by simp[B6]) (by rw[K.prog];exact hx) b|succ r=>exact Way.pure v e f (by simp[B6]) (by rw[K.prog];exact hx) b
theorem aSS(K:R.Ok){Sh S:Nat->Prop}(hs:T.size=39)(b:T.getD 1 Y=As (Z ⟨R.bl,R.off,J⟩) R.ms.length R.cap)(h2:T.getD 2 Y=Af R.br)(f:T.getD 5 Y=Af R.AL)(h:T.getD 6 Y=Af R.X.Wg)(m:MS R Sh S w):ED R.X R.X.n Sh S (G ((B6 126).at ⟨T,[]⟩ [aY7 o2 [],aY9 c3]) R.cs) w:=by
 refine ED.ctl rfl (λ_=>Hf) ?_;rw[aDD];refine ED.ctl rfl (λ_=>GB) ?_;refine ED.ctl rfl (λ_=>GB) ?_;refine ED.ctl rfl (λ_=>Hu) ?_;rw[show H9 LQ.size=[0,1,2]by kernel_rfl];refine ED.pure K (As (Z ⟨R.bl,R.off,J⟩) R.ms.length R.cap) (Eh (by rw[z3];omega)) (by kernel_rfl) (aQi (ρ:=Cu ⟨T,[]⟩) b) ?_;rw[show(LQ.getD 0 Ag).dst=Z 14 by kernel_rfl];show ED R.X R.X.n Sh S (G ((B6 126).at ⟨T.setIfInBounds 14 (As (Z ⟨R.bl,R.off,J⟩) R.ms.length R.cap),[]⟩ _) R.cs) w;have e:(T.setIfInBounds 14 (As (Z ⟨R.bl,R.off,J⟩) R.ms.length R.cap)).getD 14 Y=As (Z ⟨R.bl,R.off,J⟩) R.ms.length R.cap:=FK (by omega);refine ED.pure K (IS Po R.ms.length) (Eh (by rw[z3];omega)) (by kernel_rfl) (aQZ (ρ:=Cu ⟨T.setIfInBounds 14 (As (Z ⟨R.bl,R.off,J⟩) R.ms.length R.cap),[]⟩) e) ?_;rw[show(LQ.getD 1 Ag).dst=Z 15 by kernel_rfl];refine ED.pure K (IS Po 0) (Eh (by rw[z3];omega)) (by kernel_rfl) (aQm rfl) ?_;rw[show(LQ.getD 2 Ag).dst=Z 16 by kernel_rfl];show ED R.X R.X.n Sh S (G ((B6 126).at ⟨((T.setIfInBounds 14 (As (Z ⟨R.bl,R.off,J⟩) R.ms.length R.cap)).setIfInBounds 15 (IS Po R.ms.length)).setIfInBounds 16 (IS Po 0),[]⟩ _) R.cs) w;refine ED.ctl rfl (λ_=>Hf) ?_;refine ED.ctl rfl (λ_=>dC) ?_;refine ED.ctl rfl (λ_=>a7O) ?_;refine a5Q K R.X.n Sh S _ w (AX _) ?_ m;rw[Nat.sub_self];refine⟨by simpa using hs,?_,?_,?_,?_,?_,?_,?_⟩;·rw[Bo (by omega),Bo (by omega),Bo (by omega)];exact b
 ·rw[Bo (by omega),Bo (by omega),Bo (by omega)];exact h2
 ·rw[Bo (by omega),Bo (by omega),Bo (by omega)];exact f
 ·rw[Bo (by omega),Bo (by omega),Bo (by omega)];exact h
 ·rw[Bo (by omega),Bo (by omega)];exact e
 ·rw[Bo (by omega)];exact FK (by simp[hs])
 ·exact FK (by simp[hs])
theorem aC_(K:R.Ok)(s:R.X.Wg=w.heap.size)(f:R.old=W3 R.X.Wb R.X.Wg R.X.Ch (w.heap.size+1))(p:R.w0={w with heap:=w.heap.push (Ms R.X.ty 0 0)})(hs:T.size=39)(x:T.getD 1 Y=As (Z ⟨R.bl,R.off,J⟩) R.ms.length R.cap)(h2:T.getD 2 Y=Af R.br)(y:T.getD 5 Y=Af R.AL)(z:∃I,w.heap[R.X.Ch]?=Z (aYQ R.X.n #[] A5 0 0 I))(A:EM R.X.Wb w.heap.size R.X.Ch):XX R.X (G ((B6 126).at ⟨T,[]⟩ [aY7 o2 [0],aY9 c3]) R.cs) w:=by
 refine⟨rfl,s,λe h m=>?_,z,A⟩;have hx:=aQX (ρ:=Cu ⟨T,[]⟩) e;have D:(((B6 126).at ⟨T,[]⟩ [aY7 o2 [0],aY9 c3]).kind==aYR)=A5:=rfl;have C:((B6 126).at ⟨T,[]⟩ [aY7 o2 [0],aY9 c3]).finish (Af e.heap.size)=(B6 126).at ⟨T.setIfInBounds 6 (Af e.heap.size),[]⟩ [aY7 o2 [],aY9 c3]:=by rw[KX,Eh (by rw[z2];omega)];show(B6 126).at (aJ _ (o2.getD 0 Ag).dst _) _=_;rw[show(o2.getD 0 Ag).dst=Z 6 by kernel_rfl];rfl
 have H:Ms R.X.ty 0 0=BE #[IS .u64 0,IS .u32 0] 325:=by rw[K.ty];rfl
 refine⟨G ((B6 126).at ⟨T.setIfInBounds 6 (Af e.heap.size),[]⟩ [aY7 o2 [],aY9 c3]) R.cs,?_,?_⟩;·rw[K.prog,Sk (Eh (by rw[z2];omega)) (by kernel_rfl),It D hx rfl,C,ng,H];rfl
 ·refine aSS K (by simpa using hs) (by rw[Bo (by omega)];exact x) (by rw[Bo (by omega)];exact h2) (by rw[Bo (by omega)];exact y) ?_ ?_;·rw[FK (by omega),m,s]
  ·rw[m];refine⟨λb hb=>AA (by rw[<-f];exact hb),λb hb=>hb.elim,λb hb=>by rw[f];exact hb,λb hb=>?_,?_,by rw[p];exact⟨h.os,h.output⟩⟩
   ·rw[f]at hb;have hlt:b<w.heap.size:=by have:=hb.1;have:=hb.2.2.1;omega
    rw[p];show(e.heap.push _)[b]?=(w.heap.push _)[b]?;rw[H4 (by omega),H4 hlt,<-ET,<-ET];exact h.same b (AA ⟨hlt,hb.2.1⟩)
   ·rw[p];simp[m]
end
end
section
open Go.Conc(G solo Deaf QuitsD Goes crowd crowd_pick woken awake awake_of runT_crowd_go woken_quitsD)
open Go.ConcN(upd upd_same upd_ne sumTo)
open Go.ConcR(DC0)
section
variable{P:Ac}{Wb:Nat->Prop}{R:A'->A'->Prop}{Stop:AK->A'->Prop}
theorem GC.none{w:A'}{S:Nat->Prop}:GC (λ_=>False) S w w #[] S:=GC.idle _ _ _
theorem aCt(U:∀w d,R w (w.at d)):∀(m:Nat)(a:AK)(w:A'),Xc P A0 R DC0 Stop m a w->∀(gs:Array AK)(sl:Option (Nat×Nat))(t:DX)(q:Nat->Nat),Dm P Wb gs w t q a->∃(N:Nat)(e:Array AK)(a':AK)(d:Nat)(p:Option (Nat×Nat))(s:DX)(z:Nat->Nat),Eg P N (Ea gs w sl) t=(aYG (Ea e (w.at d) p),s)/\e.size=gs.size/\Dm P Wb e (w.at d) s z a'/\Stop a' (w.at d):=by
 intro m;induction m with
 |zero=>intro a w h gs sl t q hc;exact⟨0,gs,a,w.drawn,sl,t,q,rfl,rfl,hc,h _ (U w w.drawn)⟩
 |succ m ih=>
  intro a w h gs sl t q hc;rcases h with h|⟨D,h⟩;·exact⟨0,gs,a,w.drawn,sl,t,q,rfl,rfl,hc,h _ (U w w.drawn)⟩
  have Dt:∀d,∃f,Be P A0 a (w.at d)=aYE f (w.at d) #[]/\Xc P A0 R DC0 Stop m f (w.at d):=by intro d;have x:=h (w.at d) (U w d);cases hs:Be P A0 a (w.at d)with|go f w' es=>rw[hs]at x;obtain⟨⟨rfl,rfl⟩,h2⟩:=x;exact⟨f,rfl,h2⟩|_=>rw[hs]at x;exact x.elim
  have S:∀(M d:Nat)(gs:Array AK)(sl:Option (Nat×Nat))(t:DX)(q:Nat->Nat),Io gs.size q<=M->Dm P Wb gs (w.at d) t q a->∃(N:Nat)(e:Array AK)(a':AK)(y:Nat)(p:Option (Nat×Nat))(s:DX)(z:Nat->Nat),Eg P N (Ea gs (w.at d) sl) t=(aYG (Ea e (w.at y) p),s)/\e.size=gs.size/\Dm P Wb e (w.at y) s z a'/\Stop a' (w.at y):=by
   intro M;induction M with
   |zero=>
    intro d gs sl t q Ai hc;obtain⟨i,g,b,p,hi,A,Q⟩:=Vh (P:=P) (w:=w.at d) (sl:=sl) (hc.awake D) ⟨0,a,hc.zero,D⟩;rcases UX i with rfl|K
    ·obtain rfl:g=a:=by rw[hc.zero]at hi;exact(D3 hi).symm
     obtain⟨f,u,hk⟩:=Dt b;have H:=Pm (P:=P) (sl:=p) (i:=0) hi (show Be P (0==0) g ((w.at d).at b)=_ from u);obtain⟨_,C⟩:=(hc.at b).own (a':=f) (AF trivial) (GC.none (w:=(w.at d).at b)) g.frame.fn g.frame.place;obtain⟨N,e,a',y,I,s,z,x,h2,h3,h4⟩:=ih f (w.at b) hk _ p _ q C;exact⟨N+1,e,a',y,I,s,z,by simp only[Eg,Q,H];exact x,h2.trans (by simp),h3,h4⟩
    ·have AD:=hc.leave.old i g K hi;have hlt:i<gs.size:=(Array.getElem?_eq_some_iff.1 hi).1;have:q i<=Io gs.size q:=dF hlt;have W:q i=0:=by omega
     rw[W]at AD;rw[AD.1]at A;cases A
   |succ M X=>
    intro d gs sl t q Ai hc;obtain⟨i,g,b,p,hi,A,Q⟩:=Vh (P:=P) (w:=w.at d) (sl:=sl) (hc.awake D) ⟨0,a,hc.zero,D⟩;rcases UX i with rfl|K
    ·obtain rfl:g=a:=by rw[hc.zero]at hi;exact(D3 hi).symm
     obtain⟨f,u,hk⟩:=Dt b;have H:=Pm (P:=P) (sl:=p) (i:=0) hi (show Be P (0==0) g ((w.at d).at b)=_ from u);obtain⟨_,C⟩:=(hc.at b).own (a':=f) (AF trivial) (GC.none (w:=(w.at d).at b)) g.frame.fn g.frame.place;obtain⟨N,e,a',y,I,s,z,x,h2,h3,h4⟩:=ih f (w.at b) hk _ p _ q C;exact⟨N+1,e,a',y,I,s,z,by simp only[Eg,Q,H];exact x,h2.trans (by simp),h3,h4⟩
    ·have AD:=hc.leave.old i g K hi;have LH:(i==0)=A5:=by simp;omega
     have hlt:i<gs.size:=(Array.getElem?_eq_some_iff.1 hi).1;cases B:q i with
     |zero=>rw[B]at AD;rw[AD.1]at A;cases A
     |succ k=>
      rw[B]at AD;rcases AD with⟨AE,_⟩|⟨_,f,es,hm,VA,LI⟩;·rw[AE]at A;cases A
      have H:=Pm (P:=P) (sl:=p) (i:=i) hi (by rw[LH];exact VA ((w.at d).at b));have QS:Io gs.size (upd q i k)+(k+1)=Io gs.size q+k:=by have:=Vj q k id hlt;simpa[B]using this
      have C:=(hc.at b).slip D K hi hm LI g.frame.fn g.frame.place;obtain⟨N,e,a',y,I,s,z,x,h2,h3,h4⟩:=X b _ p _ (upd q i k) (by simp;omega) C;exact⟨N+1,e,a',y,I,s,z,by simp only[Eg,Q,H];exact x,h2.trans (by simp),h3,h4⟩
  exact S _ w.drawn gs sl t q (AX _) hc
end
end
section
open Go.Conc(G solo Deaf QuitsD crowd crowd_pick woken awake awake_of runT_crowd_go woken_quitsD rcase crowd_recv_buf crowd_recv_closed partners_nil offersAt_of_not_blocked getElem?_stand ph Deaf_other)
open Go.ConcN(upd upd_same upd_ne sumTo)
variable{z:A1}{tm:Bool}
section
variable{P:Ac}{Wb:Nat->Prop}{gs:Array AK}{w w':A'}{t:DX}{q:Nat->Nat}{a:AK}
theorem Dm.comm(h:Dm P Wb gs w t q a){a':AK}(s:w'.heap.size=w.heap.size){u:DX}(hu:∀e∈u,e.g=0/\e.act.touch?=J)(z:Deaf (t++u) 0=0):Dm P Wb (gs.setIfInBounds 0 a') w' (t++u) q a':=by
 have p:0<gs.size:=(Array.getElem?_eq_some_iff.1 h.zero).1;refine⟨by simp[p],⟨λj x m hx=>?_,λj m=>?_⟩,?_,?_,z,λb y=>by rw[s];exact h.OW b y⟩;·rw[Array.getElem?_setIfInBounds_ne (by omega)]at hx;rw[Nd t (g':=0) (by omega) _ λe f=>(hu e f).1];exact h.leave.old j x m hx
 ·rw[Nd t (g':=0) (by simp at m;omega) _ λe f=>(hu e f).1];exact h.leave.above j (by simpa using m)
 ·rw[s];have:=h.JB.NP h.ro p (u:=u) λe f=>⟨(hu e f).1,λx hx=>by rw[(hu e f).2]at hx;cases hx⟩;simpa using this
 ·have:=h.NN.app (u:=u) (g:=0) (λe f=>(hu e f).1) (AA rfl);simpa using this
theorem zD{a':AK}{w':A'}(s:a.status=aYF)(B:w'.heap.size=w.heap.size)(S:∀(d:Nat)(gs:Array AK)(sl:Option (Nat×Nat)),gs[0]?=Z a->(∀k x,0<k->gs[k]?=Z x->x.status≠.blocked)->∃u,runT P (Ea gs (w.at d) sl) 0=(aYG (Ea (gs.setIfInBounds 0 a') (w'.at d) sl),u)/\(∀I∈u,I.g=0/\I.act.touch?=J)/\∀t,Deaf (t++u) 0=Deaf t 0):∀(M d:Nat)(gs:Array AK)(sl:Option (Nat×Nat))(t:DX)(q:Nat->Nat),Io gs.size q<=M->Dm P Wb gs (w.at d) t q a->∃(N:Nat)(p:Array AK)(y:Nat)(e:Option (Nat×Nat))(C:DX)(H:Nat->Nat),Eg P N (Ea gs (w.at d) sl) t=(aYG (Ea p (w'.at y) e),C)/\p.size=gs.size/\Dm P Wb p (w'.at y) C H a':=by
 have own:∀(d:Nat)(gs:Array AK)(sl:Option (Nat×Nat))(t:DX)(q:Nat->Nat),Dm P Wb gs (w.at d) t q a->∃u,runT P (Ea gs (w.at d) sl) 0=(aYG (Ea (gs.setIfInBounds 0 a') (w'.at d) sl),u)/\Dm P Wb (gs.setIfInBounds 0 a') (w'.at d) (t++u) q a':=by
  intro d gs sl t q hc;obtain⟨u,f,h2,h3⟩:=S d gs sl hc.zero λk x hk hx=>by rcases(hc.leave.old k x hk hx).status with h|h<;>rw[h]<;>simp
  exact⟨u,f,hc.comm (w':=w'.at d) B h2 (by rw[h3];exact hc.hears)⟩
 intro M;induction M with
 |zero=>
  intro d gs sl t q K hc;obtain⟨i,g,b,e,hi,m,A⟩:=Vh (P:=P) (w:=w.at d) (sl:=sl) (hc.awake s) ⟨0,a,hc.zero,s⟩;rcases UX i with rfl|z;·obtain⟨u,f,h2⟩:=own b gs e t q (hc.at b);exact⟨1,_,b,e,_,q,by simp only[Eg,A];rw[show(w.at d).at b=w.at b from rfl,f],by simp,h2⟩
  ·have AD:=hc.leave.old i g z hi;have hlt:i<gs.size:=(Array.getElem?_eq_some_iff.1 hi).1;have:q i<=Io gs.size q:=dF hlt;have W:q i=0:=by omega
   rw[W]at AD;rw[AD.1]at m;cases m
 |succ M X=>
  intro d gs sl t q K hc;obtain⟨i,g,b,e,hi,m,A⟩:=Vh (P:=P) (w:=w.at d) (sl:=sl) (hc.awake s) ⟨0,a,hc.zero,s⟩;rcases UX i with rfl|z;·obtain⟨u,f,h2⟩:=own b gs e t q (hc.at b);exact⟨1,_,b,e,_,q,by simp only[Eg,A];rw[show(w.at d).at b=w.at b from rfl,f],by simp,h2⟩
  ·have AD:=hc.leave.old i g z hi;have LH:(i==0)=A5:=by simp;omega
   have hlt:i<gs.size:=(Array.getElem?_eq_some_iff.1 hi).1;cases D:q i with
   |zero=>rw[D]at AD;rw[AD.1]at m;cases m
   |succ k=>
    rw[D]at AD;rcases AD with⟨U,_⟩|⟨_,g',es,hm,VA,LI⟩;·rw[U]at m;cases m
    have Gj:=Pm (P:=P) (sl:=e) (i:=i) hi (by rw[LH];exact VA ((w.at d).at b));have QS:Io gs.size (upd q i k)+(k+1)=Io gs.size q+k:=by have:=Vj q k id hlt;simpa[D]using this
    have Q:=(hc.at b).slip s z hi hm LI g.frame.fn g.frame.place;obtain⟨N,p,y,SX,C,H,f,h2,h3⟩:=X b _ e _ (upd q i k) (by simp;omega) Q;exact⟨N+1,p,y,SX,C,H,by simp only[Eg,A,Gj];exact f,h2.trans (by simp),h3⟩
theorem a3e{c:Nat}{b:Bool}{gs:Array AK}(h:∀k x,0<k->gs[k]?=Z x->x.status≠.blocked):partners (gs.setIfInBounds 0 ph) c b=[]:=by
 refine partners_nil λk x hx=>?_;rcases getElem?_stand gs 0 k x hx with⟨_,rfl⟩|⟨e,hx⟩;·rfl
 ·exact offersAt_of_not_blocked (h k x (by omega) hx) _ _
theorem aCu{c cap s r:Nat}{buf:Array A1}{closed:Bool}{shape:CommShape}(A:a.status=aYF)(x:∀d,Be P A0 a (w.at d)=.comm a #[Xd c z] A0 shape (w.at d) #[])(hc:w.heap[c]?=Z (aYQ cap buf closed s r tm))(D:0<buf.size)(sl:Option (Nat×Nat))(p:Dm P Wb gs w t q a):∃(N:Nat)(e:Array AK)(f:Nat)(K:Option (Nat×Nat))(h:DX)(I:Nat->Nat),Eg P N (Ea gs w sl) t=(aYG (Ea e ((w.setChan c cap (buf.extract 1 buf.size) closed s (r+1) tm).at f) K),h)/\e.size=gs.size/\Dm P Wb e ((w.setChan c cap (buf.extract 1 buf.size) closed s (r+1) tm).at f) h I (a.finishComm P #[Xd c z] shape 0 (buf.getD 0 Y) A0):=by
 refine zD (w:=w) A (by simp[df]) (λd gs sl m y=>?_) _ w.drawn gs sl t q (AX _) p;have C:=crowd_recv_buf (P:=P) (sl:=sl) (i:=0) (w:=w.at d) m (x d) (c:=c) (cap:=cap) (buf:=buf) (closed:=closed) (s:=s) (r:=r) (tm:=tm) hc D (a3e y);refine⟨_,C,λH b=>?_,λt=>?_⟩;·rw[dB]at b;simp at b;rcases b with rfl|rfl<;>exact⟨rfl,rfl⟩
 ·rw[Vi];intro H b;rw[dB]at b;simp at b;rcases b with rfl|rfl<;>exact⟨by simp,by simp⟩
theorem aCs{c cap s r:Nat}{shape:CommShape}(A:a.status=aYF)(x:∀d,Be P A0 a (w.at d)=.comm a #[Xd c z] A0 shape (w.at d) #[])(hc:w.heap[c]?=Z (aYQ cap #[] A0 s r tm))(sl:Option (Nat×Nat))(p:Dm P Wb gs w t q a):∃(N:Nat)(e:Array AK)(f:Nat)(I:Option (Nat×Nat))(h:DX)(H:Nat->Nat),Eg P N (Ea gs w sl) t=(aYG (Ea e (w.at f) I),h)/\e.size=gs.size/\Dm P Wb e (w.at f) h H (a.finishComm P #[Xd c z] shape 0 z A5):=by
 refine zD (w:=w) (w':=w) A rfl (λd gs sl m y=>?_) _ w.drawn gs sl t q (AX _) p;have C:=crowd_recv_closed (P:=P) (sl:=sl) (i:=0) (w:=w.at d) m (x d) (c:=c) (cap:=cap) (s:=s) (r:=r) (tm:=tm) hc (a3e y);refine⟨_,C,λD b=>?_,λt=>?_⟩;·rw[dB]at b;simp at b;subst b;exact⟨rfl,rfl⟩
 ·rw[Vi];intro D b;rw[dB]at b;simp at b;subst b;exact⟨by simp,by simp⟩
end
end
section
open Go.Proofs.YtcfhleenecfghaaGreatDoor
open Go.Conc(crowd)
open Go.ConcN(WgLive sumTo)
open Go.ConcR(Payload)
section
variable[Ck]
def IY.Goal(R:IY)(Sh S:Nat->Prop)(g:AK)(w:A'):Prop:=∃T,Cm R R.ms.length T/\MS R Sh S w/\nJ R.X (waited R T) g
structure q'(R:IY)(m:UI)(t:DX):Prop where
 at_:∃(gs:Array AK)(w:A')(sl:Option (Nat×Nat))(T:Array A1)(q:Nat->Nat)(BA:List (Nat×A1)),m=Ea gs w sl/\gs.size=R.X.c0+R.X.n/\Dm R.X.P R.X.B7 gs w t q (waited R T)/\Cm R R.ms.length T/\(∀b,R.old b->w.heap[b]?=R.w0.heap[b]?)/\R.w0.heap.size<=w.heap.size/\(w.os=R.w0.os/\w.output=R.w0.output)/\R.X.Ch≠R.X.Wg/\(∃tm,w.heap[R.X.Ch]?=Z (aYQ R.X.n (BA.map (·.2)).toArray A5 BA.length 0 tm))/\(∀i,(∃v,(i,v)∈BA)↔i<R.X.n)/\(BA.map (·.1)).Nodup/\∀i v,(i,v)∈BA->∃M,(∀b,M b->b<w.heap.size/\¬R.X.B7 b/\b≠R.X.Ch/\¬R.old b)/\R.X.MM i v M w
variable{R:IY}
omit[Ck]in theorem aCi(Bp:R.X.L8)(Q:R.X.Goal=R.Goal){m:UI}{t:DX}(h:ah R.X m t):∃N y s,Eg R.X.P N m t=(aYG y,s)/\q' R y s:=by obtain⟨gs,w,sl,a,q,Sh,S,BA,rfl,B3,H,x,S2,K,I,D,EH,Mb⟩:=h;rw[Q]at x;obtain⟨T,C,p,e⟩:=x;obtain⟨k,U⟩:=e w S2;obtain⟨N,z,a',d,Dd,s,EA,A,h2,h3,rfl⟩:=aCt (R:=Dh R.X) (λw d A9=>A9) k a w U gs sl t q H;refine⟨N,_,s,A,z,w.at d,Dd,T,EA,BA,rfl,h2.trans B3,h3,C,p.same,p.size,p.out,K,I,D,EH,λi v hv=>?_⟩;obtain⟨M,f,hm⟩:=Mb i v hv;exact⟨M,λb e=>⟨(f b e).1,(f b e).2.1,(f b e).2.2.1,λh=>(p.Uf b h).elim (f b e).2.2.2.1 (f b e).2.2.2.2⟩,Bp i v M w (w.at d) (λ_ _=>rfl) hm⟩
def IY.from(R:IY)(N0:Nat):IY:={R with X:={R.X with N0:=N0}}
omit[Ck]in theorem Tw{P:Ac}:∀{N an:Nat}{m Ec IH:UI}{t mn mo:DX},Eg P N m t=(aYG Ec,mn)->Eg P an Ec mn=(aYG IH,mo)->Eg P (N+an) m t=(aYG IH,mo)|0,an,m,Ec,IH,t,mn,mo,h,k=>by simp only[Eg,Ot]at h;obtain⟨b,rfl⟩:=h;cases b;rw[Oq];exact k|N+1,an,m,Ec,IH,t,mn,mo,h,k=>by rw[Nat.add_right_comm];simp only[Eg]at h⊢;cases hs:oq P m with|mk e ops=>rw[hs]at h;cases e with|next f=>exact Tw h k|_=>cases h
theorem aCa(e:∀N0,(R.from N0).Ok)(I:∀N0,(R.from N0).X.Goal=(R.from N0).Goal)(x:∀N0,(R.from N0).X.L8){T:Array A1}{w:A'}(u:R.X.Wg=w.heap.size)(M:R.old=W3 R.X.Wb R.X.Wg R.X.Ch (w.heap.size+1))(B:R.w0={w with heap:=w.heap.push (Ms R.X.ty 0 0)})(hs:T.size=39)(b:T.getD 1 Y=As (Z ⟨R.bl,R.off,J⟩) R.ms.length R.cap)(h2:T.getD 2 Y=Af R.br)(z:T.getD 5 Y=Af R.AL)(D:∃tm,w.heap[R.X.Ch]?=Z (aYQ R.X.n #[] A5 0 0 tm))(H:EM R.X.Wb w.heap.size R.X.Ch)(gs:Array AK)(sl:Option (Nat×Nat))(t:DX)(q:Nat->Nat)(A:R.X.c0=gs.size)(C:Dm R.X.P R.X.Wb gs w t q (Go.Conc.G ((B6 126).at ⟨T,[]⟩ [aY7 o2 [0],aY9 c3]) R.cs)):∃N f m N0,Eg R.X.P N (Ea gs w sl) t=(aYG f,m)/\q' (R.from N0) f m:=by
 have s:∀N0,XX {R.X with N0:=N0} (Go.Conc.G ((B6 126).at ⟨T,[]⟩ [aY7 o2 [0],aY9 c3]) R.cs) w:=λN0=>aC_ (R:=R.from N0) (e N0) u M B hs b h2 z D H;have hn:R.X.n<2147483648:=by have b:=(e 0).n;have h2:=(e 0).small;rw[<-b]at h2;exact h2
 obtain⟨N,f,m,N0,Q,K⟩:=phase (X:=R.X) x hn s _ w gs sl t q A (Bx.refl _ _ _) rfl s (AX _) C;obtain⟨y,h,p,U,S⟩:=aCi (R:=R.from N0) (x N0) (I N0) K;exact⟨N+y,h,p,N0,Tw Q U,S⟩
end
end
section
open Go.Proofs.YtcfhleenecfghaaGreatDoor
open Go.Conc Go.RowKit
variable{v x:A1}{b:Bool}{ρ:C2->A1}
noncomputable def Tm:Array Bf:=LR (fstC Q6)
noncomputable def Mg:Array Bf:=LR (fstC (sndC Q6))
noncomputable def zS:Cv:=fstC (sndC (sndC Q6))
noncomputable def gk:Array Bf:=LR (fstC zS)
noncomputable def UW:Cv:=Ly (Ly (sndC zS))
noncomputable def Kx:Array Bf:=LR (fstC UW)
noncomputable def e3:Cv:=Ly (sndC (sndC UW))
noncomputable def Mh:Array Bf:=LR (fstC e3)
noncomputable def II:Array Bf:=LR (sndC e3)
noncomputable def Yb:Cv:=sndC (sndC (sndC Q6))
theorem aD9:Q6=aYB (aYH 10 Tm A5) (aYB (aYH 11 Mg A5) (aYB (aYB (aYH 12 gk A5) (aYi 2 (.loop UW))) Yb)):=by kernel_rfl
theorem aBp:UW=aYB (aYH 13 Kx A5) (aYB (aZB (oM 30) aZD (aZC 2)) (aYi 3 e3)):=by kernel_rfl
theorem aBG:e3=aYB (aYH 14 Mh A5) (aYH 15 II A5):=by kernel_rfl
theorem a6b:Tm.size=2:=by kernel_rfl
theorem hQ:Mg.size=4:=by kernel_rfl
theorem z12:gk.size=1:=by kernel_rfl
theorem hR:Kx.size=2:=by kernel_rfl
theorem n9:Mh.size=3:=by kernel_rfl
theorem cj:II.size=5:=by kernel_rfl
theorem a5N{o:Bf}(e:o.op=aYf 316 (oM 5)){AL Ch:Nat}{w:A'}{t:A_}{p:Nat×Nat}(b:ρ (oM 5)=Af AL)(h:w.heap[AL]?=Z (BE #[aYC (Z Ch)] t p)):(AU ρ o).runT A4 w #[]=(aY6 (aYD (aYC (Z Ch))) w,#[⟨aYM ⟨AL,0,J⟩,A5,A5⟩]):=by
 unfold AU;rw[e];simp only[b];have hc:w.cell? ⟨AL,0,J⟩=Z (aYC (Z Ch)):=by simp[F3,h]
 simp[go_sem,hc]
theorem aNO:(Tm.getD 0 Ag).op=aYf 316 (oM 5):=by kernel_rfl
theorem aNP:(gk.getD 0 Ag).op=aYf 316 (oM 5):=by kernel_rfl
theorem aNQ:(Tm.getD 1 Ag).op=a8E {callee:=aYV .close,args:=#[oM 24],argTypes:=#[316]}:=by kernel_rfl
theorem aNR:(Kx.getD 0 Ag).op=.recv 316 (oM 28) A0:=by kernel_rfl
theorem a5L(h:ρ (oM 29)=aY8 #[v,aY5 b])(w:A'):(AU ρ (Kx.getD 1 Ag)).runT A4 w #[]=(aY6 (aYD (aY5 b)) w,#[]):=by
 have e:(Kx.getD 1 Ag).op=.extract (oM 29) 1:=by kernel_rfl
 unfold AU;rw[e];simp[h,go_sem]
theorem aQU(h:ρ (oM 29)=aY8 #[v,aY5 b])(w:A'):(AU ρ (Mh.getD 0 Ag)).runT A4 w #[]=(aY6 (aYD v) w,#[]):=by
 have e:(Mh.getD 0 Ag).op=.extract (oM 29) 0:=by kernel_rfl
 unfold AU;rw[e];simp[h,go_sem]
theorem aQe(h:ρ (oM 1)=x)(w:A'):(AU ρ (Mg.getD 0 Ag)).runT A4 w #[]=(aY6 (aYD x) w,#[]):=by
 have b:(Mg.getD 0 Ag).op=aYg (oM 1):=by kernel_rfl
 unfold AU;rw[b];simp[h]
theorem aQa{a:Aa}{n cap:Nat}(h:ρ (oM 25)=As (Z a) n cap)(w:A'):(AU ρ (Mg.getD 1 Ag)).runT A4 w #[]=(aY6 (aYD (IS Po n)) w,#[]):=by
 have b:(Mg.getD 1 Ag).op=a8E {callee:=aYV .len,args:=#[oM 25],argTypes:=#[57]}:=by kernel_rfl
 unfold AU;rw[b];simp[h,go_sem]
theorem aQN(h:ρ (oM 27)=x)(w:A'):(AU ρ (Mg.getD 3 Ag)).runT A4 w #[]=(aY6 (aYD x) w,#[]):=by
 have b:(Mg.getD 3 Ag).op=aYt (oM 27):=by kernel_rfl
 unfold AU;rw[b];simp[h]
end
section
open Go.Conc(G solo Deaf Leavers QuitsD crowd crowd_pick runT_crowd_go)
open Go.ConcN(sumTo upd sumTo_upd)
inductive Ct(P:Ac)(Wb:Nat->Prop)(Stop:AK->A'->Prop):AK->A'->Prop|stop{g:AK}{w:A'}:(∀d,Stop g (w.at d))->Ct P Wb Stop g w|go{g:AK}{w:A'}(Bm:Nat->Leaves):g.status=aYF->(∀d,Be P A0 g (w.at d)=aYE (Bm d).g (Bm d).w (Bm d).es/\GC (λ_=>False) (EM Wb w.heap.size) (w.at d) (Bm d).w (Bm d).es (Bm d).S)->(∀d,Ct P Wb Stop (Bm d).g (Bm d).w)->Ct P Wb Stop g w
section
variable{P:Ac}{Wb:Nat->Prop}{Stop TA:AK->A'->Prop}{gs:Array AK}{g:AK}{w:A'}{t:DX}{q:Nat->Nat}{a:AK}
theorem Ct.step(hs:g.status=aYF)(h:∀d,∃b w' es e,Be P A0 g (w.at d)=aYE b w' es/\GC (λ_=>False) (EM Wb w.heap.size) (w.at d) w' es e/\Ct P Wb Stop b w'):Ct P Wb Stop g w:=by
 have h2:∀d,∃l:Leaves,Be P A0 g (w.at d)=aYE l.g l.w l.es/\GC (λ_=>False) (EM Wb w.heap.size) (w.at d) l.w l.es l.S/\Ct P Wb Stop l.g l.w:=by intro d;obtain⟨b,w',es,e,x,y,z⟩:=h d;exact⟨⟨b,w',es,e⟩,x,y,z⟩
 exact .go (λd=>aD (h2 d)) hs (λd=>⟨(U5 (h2 d)).1,(U5 (h2 d)).2.1⟩) λd=>(U5 (h2 d)).2.2
theorem Ct.at(h:Ct P Wb Stop g w)(d:Nat):Ct P Wb Stop g (w.at d):=by cases h with|stop h=>exact .stop λb=>h b|go e hs h k=>exact .go e hs (λb=>h b) k
theorem Ct.bind(h:Ct P Wb Stop g w)(k:∀g w,Stop g w->Ct P Wb TA g w):Ct P Wb TA g w:=by induction h with|stop h=>rename_i g w;exact k g w (h w.drawn)|go e hs h _ b=>exact .go e hs h b
theorem Ct.mono(h:Ct P Wb Stop g w)(k:∀g w,Stop g w->TA g w):Ct P Wb TA g w:=by induction h with|stop h=>exact .stop λd=>k _ _ (h d)|go e hs h _ b=>exact .go e hs h b
theorem gY{w w':A'}{es:Array By}{S':Nat->Prop}(h:∀b,Wb b->b<w.heap.size)(e:GC (λ_=>False) (EM Wb w.heap.size) w w' es S'):S'=EM Wb w'.heap.size:=by
 funext b;refine propext ((e.grow b).trans ⟨λx=>?_,λx=>?_⟩)
 ·rcases x with x|x;·exact⟨by have:=x.1;have:=e.size;omega,x.2⟩
  ·exact⟨x.2,λy=>by have:=h b y;omega⟩
 ·by_cases f:b<w.heap.size;·exact AA ⟨f,x.2⟩
  ·exact AF ⟨by omega,x.1⟩
theorem Way.calm{Stop:(Nat->Prop)->AK->A'->Prop}{S:Nat->Prop}(h:Way P A0 (λ_=>False) Stop S g w):(∀b,Wb b->b<w.heap.size)->S=EM Wb w.heap.size->Ct P Wb (λg w=>Stop (EM Wb w.heap.size) g w) g w:=by induction h with|stop h=>intro m f;subst f;exact .stop λd=>h _ (Bx.at _ _ _ d)|go e hs h _ y=>rename_i S g w _;intro m f;subst f;refine .go (λd=>e (w.at d)) hs (λd=>h _ (Bx.at _ _ _ d)) λd=>?_;obtain⟨_,p⟩:=h _ (Bx.at _ _ w d);have x:GC (λ_=>False) (EM Wb (w.at d).heap.size) (w.at d) (e (w.at d)).w (e (w.at d)).es (e (w.at d)).S:=p;refine y _ (Bx.at _ _ w d) (λb s=>?_) (gY (w:=w.at d) m x);have:=m b s;have h2:w.heap.size<=(e (w.at d)).w.heap.size:=p.size;omega
structure JI(Wb:Nat->Prop)(w w':A'):Prop where
 os:w'.os=w.os
 output:w'.output=w.output
 size:w.heap.size<=w'.heap.size
 same:∀b,Wb b->b<w.heap.size->w'.heap[b]?=w.heap[b]?
theorem JI.refl(Wb:Nat->Prop)(w:A'):JI Wb w w:=⟨rfl,rfl,AX _,λ_ _ _=>rfl⟩
theorem JI.trans{Wb:Nat->Prop}{w w' m:A'}(h:JI Wb w w')(k:JI Wb w' m):JI Wb w m:=⟨k.os.trans h.os,k.output.trans h.output,HA h.size k.size,λb e f=>(k.same b e (K9 f h.size)).trans (h.same b e f)⟩
theorem JI.at{Wb:Nat->Prop}{w w':A'}(h:JI Wb w w')(d:Nat):JI Wb w (w'.at d):=⟨h.os,h.output,h.size,h.same⟩
theorem Ct.Aw(h:Ct P Wb Stop g w):Ct P Wb (λf w'=>Stop f w'/\JI Wb w w') g w:=by induction h with|stop h=>exact .stop λd=>⟨h d,(JI.refl _ _).at d⟩|go y hs h _ s=>rename_i g w _;refine .go y hs h λd=>(s d).mono λf w'⟨a,b⟩=>⟨a,JI.trans ?_ b⟩;obtain⟨_,e⟩:=h d;exact⟨e.os,e.output,e.size,λb m p=>e.same b p λx=>x.2 m⟩
theorem KU.wide{Sh S S':Nat->Prop}{e:By}(h:KU Sh S e)(k:∀b,S b->S' b):KU Sh S' e:=by cases h<;>first|(constructor;done)|(constructor;first|assumption|exact k _ (by assumption)|exact Or.imp (k _) id (by assumption))
theorem Ct.wide{Wc:Nat->Prop}(h:Ct P Wb Stop g w)(p:∀b,Wc b->Wb b):Ct P Wc Stop g w:=by
 induction h with
 |stop h=>exact .stop h
 |go s hs h _ z=>
  rename_i g w _;refine .go (λd=>{s d with S:=λb=>EM Wc w.heap.size b∨w.heap.size<=b/\b<(s d).w.heap.size}) hs (λd=>⟨(h d).1,?_⟩) z;obtain⟨_,f⟩:=h d;refine⟨f.size,λb m hn=>f.same b m λx=>hn ⟨x.1,λy=>x.2 (p b y)⟩,f.os,f.output,f.tape,λb=>UR,λe he=>(f.evs e he).wide λb m=>?_⟩;rcases(f.grow b).1 m with x|x;·exact AA ⟨x.1,λy=>x.2 (p b y)⟩
  ·exact AF x
theorem Ct.beside(h:Ct P Wb Stop a w):∀(gs:Array AK)(sl:Option (Nat×Nat))(t:DX)(q:Nat->Nat),Dm P Wb gs w t q a->∃(N:Nat)(e:Array AK)(a':AK)(w':A')(b:Option (Nat×Nat))(f:DX)(m:Nat->Nat),Eg P N (Ea gs w sl) t=(aYG (Ea e w' b),f)/\e.size=gs.size/\Dm P Wb e w' f m a'/\Stop a' w':=by
 induction h with
 |stop h=>rename_i a w;intro gs sl t q hc;exact⟨0,gs,a,w,sl,t,q,rfl,rfl,hc,h w.drawn⟩
 |go B x h hk ih=>
  rename_i a w;intro gs sl t q hc;have S:∀(M:Nat)(u:Nat)(gs:Array AK)(sl:Option (Nat×Nat))(t:DX)(q:Nat->Nat),Io gs.size q<=M->Dm P Wb gs (w.at u) t q a->∃(N:Nat)(e:Array AK)(a':AK)(w':A')(b:Option (Nat×Nat))(f:DX)(m:Nat->Nat),Eg P N (Ea gs (w.at u) sl) t=(aYG (Ea e w' b),f)/\e.size=gs.size/\Dm P Wb e w' f m a'/\Stop a' w':=by
   intro M;have own:∀(u d:Nat)(gs:Array AK)(sl b:Option (Nat×Nat))(t:DX)(q:Nat->Nat),Dm P Wb gs (w.at u) t q a->oq P (Ea gs (w.at u) sl)=runT P (Ea gs (w.at d) b) 0->∃(N:Nat)(e:Array AK)(a':AK)(w':A')(b:Option (Nat×Nat))(f:DX)(m:Nat->Nat),Eg P N (Ea gs (w.at u) sl) t=(aYG (Ea e w' b),f)/\e.size=gs.size/\Dm P Wb e w' f m a'/\Stop a' w':=by intro u d gs sl b t q hc s;obtain⟨U,W⟩:=h d;have D:=Pm (P:=P) (sl:=b) (i:=0) hc.zero (show Be P (0==0) a (w.at d)=_ from U);obtain⟨K,A⟩:=Dm.own (w:=w.at d) (hc.at d) (a':=(B d).g) (AF trivial) W a.frame.fn a.frame.place;obtain⟨N,e,a',w',H,f,m,z,h2,h3,h4⟩:=ih d _ b _ q A;exact⟨N+1,e,a',w',H,f,m,by simp only[Eg,s,D];exact z,h2.trans (by simp),h3,h4⟩
   induction M with
   |zero=>
    intro u gs sl t q I hc;obtain⟨i,g,d,b,hi,p,s⟩:=Vh (P:=P) (w:=w.at u) (sl:=sl) (hc.awake x) ⟨0,a,hc.zero,x⟩;rcases UX i with rfl|y;·exact own u d gs sl b t q hc s
    ·have AD:=hc.leave.old i g y hi;have hlt:i<gs.size:=(Array.getElem?_eq_some_iff.1 hi).1;have:q i<=Io gs.size q:=dF hlt;have X:q i=0:=by omega
     rw[X]at AD;rw[AD.1]at p;cases p
   |succ M gN=>
    intro u gs sl t q I hc;obtain⟨i,g,d,b,hi,p,s⟩:=Vh (P:=P) (w:=w.at u) (sl:=sl) (hc.awake x) ⟨0,a,hc.zero,x⟩;rcases UX i with rfl|y;·exact own u d gs sl b t q hc s
    ·have AD:=hc.leave.old i g y hi;have LH:(i==0)=A5:=by simp;omega
     have hlt:i<gs.size:=(Array.getElem?_eq_some_iff.1 hi).1;cases C:q i with
     |zero=>rw[C]at AD;rw[AD.1]at p;cases p
     |succ k=>
      rw[C]at AD;rcases AD with⟨Q,_⟩|⟨_,g',es,hm,VA,LI⟩;·rw[Q]at p;cases p
      have D:=Pm (P:=P) (sl:=b) (i:=i) hi (by rw[LH];exact VA (w.at d));have gF:oq P (Ea gs (w.at u) sl)=_:=s.trans D;have QS:Io gs.size (upd q i k)+(k+1)=Io gs.size q+k:=by have:=Vj q k id hlt;simpa[C]using this
      have A:=Dm.slip (w:=w.at d) (hc.at d) x y hi hm LI g.frame.fn g.frame.place;obtain⟨N,e,a',w',H,f,m,z,h2,h3,h4⟩:=gN d _ b _ (upd q i k) (by simp;omega) A;exact⟨N+1,e,a',w',H,f,m,by simp only[Eg,gF];exact z,h2.trans (by simp),h3,h4⟩
  exact S _ w.drawn gs sl t q (AX _) hc
end
end
section
open Go.Conc(G solo)
variable{w w':A'}{fr fr0:AY}{es:Array By}
section
variable{P:Ac}{F:Nat->Prop}{fb:Nat->Bool}{el:HC}{k:Nat}{so:Dr}{r:List Cw}
def YR(Wb:Nat->Prop)(E:AN):Prop:=∀b e,E.rel b e->¬Wb e
def nM(P:Ac)(F:Nat->Prop)(fb:Nat->Bool)(el:HC)(k:Nat)(so:Dr)(Wb:Nat->Prop)(s:Nat)(m:AN)(r:List Cw)(base':List AY)(ret:Bool)(Q:AY->A'->Prop)(g:AK)(w':A'):Prop:=∃E f e h,g=G e base'/\Ej P F fb el k E r f e/\Fin ret f/\Q f h/\m.le E/\C3 F so (λ_=>False) E h w'/\ag E h w'/\YR Wb E/\(∀b,Wb b->b<w'.heap.size)/\∀b p,E.rel b p->m.rel b p∨s<=b
theorem aSl(W:Fit P F)(D5:P.globals.size=D4)(hC:∀z,Calm P F (B4 el z))(LL:so=B4 el A0/\∀b,¬(λ_:Nat=>False) b↔el.J5 b)(a2:∀f,fb f=A0->F f)(BI:Laid P F fb el k){Wb:Nat->Prop}{Ho:Nat}{w0:A'}{ret:Bool}(SA:ret=A0->r=[]){base':List AY}{OZ:AN}{Q:AY->A'->Prop}(H0:∀T,∃N B w1,At P fr0 w0 T N (EB (G B [bot]) w1)/\Fin ret B/\Q B w1):∀(p:YT),Acc (Nx P fr0 w0 ret) p->∀{E:AN}{fr fr':AY}{cs cs':List AY}{wL w':A'}{T0:Tape},(∀T,Na w0.drawn p.d T p.τ->At P fr0 w0 T p.n (EB (G fr cs) (on wL T)))->p.ok P fr0 w0 ret->p.d=wL.drawn->w0.drawn<=p.d->Ej P F fb el k E (NX cs r) fr fr'->fr.mode=aYY∨fr.mode=.returning->L1 P F fb el k E r base' cs cs'->(∀b,b<D4->E.rel b b)->OZ.le E->C3 F so (λ_=>False) E (on wL T0) w'->ag E wL w'->YR Wb E->(∀b,Wb b->b<w'.heap.size)->(∀b I,E.rel b I->OZ.rel b I∨Ho<=b)->Ho<=wL.heap.size->Ct P Wb (nM P F fb el k so Wb Ho OZ r base' ret Q) (G fr' cs') w':=by
 intro p hp;induction hp with
 |intro p _ ih=>
  intro E fr fr' cs cs' wL w' T0 Au B8 AT O8 BM Cs hc Fl ew Ey hid OA E8 D_ J1;have Gi:JZ (λ_=>False) (λ_=>False) (EM Wb w'.heap.size) E:=λb I x=>AF ⟨λy=>y,(Ey.lt x).2,OA b I x⟩;by_cases Dk:cs=[bot]/\Fin ret fr
  ·obtain⟨rfl,Dk⟩:=Dk;have Jq:cs'=base':=by
    cases hc with
    |base=>rfl
    |cons _ _ _ t=>cases t
   subst Jq;refine .stop λd=>?_;have A2:=Bx.at (λ_=>False) (EM Wb w'.heap.size) w' d;generalize C4:w'.at d=m at A2;have u:Na w0.drawn p.d (join p.τ wL.drawn m.tape m.drawn) p.τ:=by intro i q _ h2;unfold join;rw[if_pos (by omega)]
   have M:=Ey.rely Gi A2 p.τ;obtain⟨N,B,w1,H',Fj,AD⟩:=H0 (join p.τ wL.drawn m.tape m.drawn);have Ev:=Au _ u;have Yq:p.n<=N:=by refine e8 λhlt=>?_;exact B8 _ u N hlt B w1 H' Fj
   obtain⟨j,rfl⟩:=pn Yq;obtain⟨m1,h1,h2⟩:=mc H';have:m1=EB (G fr [bot]) (on wL (join p.τ wL.drawn m.tape m.drawn)):=by unfold At at Ev;rw[Ev]at h1;exact(Xy h1).symm
   subst this;have H1:=a2H W.JD BM Dk Fj M h2;subst H1;simp only[Ek,RH]at h2;obtain⟨h3,h4⟩:=Qx h2;simp only[G,UC]at h3;obtain⟨rfl,_⟩:=h3;subst h4;refine⟨E,fr,fr',_,rfl,BM,Dk,AD,ew,M,⟨hid.1,?_⟩,OA,?_,D_⟩;·rw[<-C4];exact hid.2
   ·rw[<-C4];exact E8
  ·refine .step rfl λd=>?_;have A2:=Bx.at (λ_=>False) (EM Wb w'.heap.size) w' d;have I4:(w'.at d).heap=w'.heap:=rfl;generalize C4:w'.at d=m at A2 I4;have u:Na w0.drawn p.d (join p.τ wL.drawn m.tape m.drawn) p.τ:=by intro i q _ h2;unfold join;rw[if_pos (by omega)]
   have M:=Ey.rely Gi A2 p.τ;generalize i1:join p.τ wL.drawn m.tape m.drawn=T at u M;obtain⟨N,B,w1,H',Fj,AD⟩:=H0 T;have Ev:=Au _ u;have Yq:p.n<=N:=by refine e8 λhlt=>?_;exact B8 _ u N hlt B w1 H' Fj
   obtain⟨j,rfl⟩:=pn Yq;obtain⟨m1,h1,h2⟩:=mc H';have:m1=EB (G fr cs) (on wL T):=by unfold At at Ev;rw[Ev]at h1;exact(Xy h1).symm
   subst this;obtain⟨j,rfl⟩:∃i,j=i+1:=by
    cases j with
    |succ j=>exact⟨j,rfl⟩
    |zero=>simp only[Ek,RH]at h2;obtain⟨h3,_⟩:=Qx h2;simp only[G,UC]at h3;obtain⟨rfl,rfl,_⟩:=h3;exact absurd ⟨rfl,Fj⟩ Dk
   have Yz:∀b,(λ_:Nat=>False) b->b<(on wL T).heap.size:=λb hb=>hb.elim;have ZO:∀{D9:GStep}{fn:Nat},(∀v,Be P A0 (G fr cs) v=Be P A0 (G fr cs) v)->YD (λw=>Be P A0 (G fr cs) w) (on wL T)->JY P F fb el k so (λ_=>False) E r base' fn (on wL T) m (Be P A0 (G fr cs) (on wL T)) D9->Be P A0 (G fr' cs') m=D9->∃g' s es S',Be P A0 (G fr' cs') m=aYE g' s es/\GC (λ_=>False) (EM Wb w'.heap.size) m s es S'/\Ct P Wb (nM P F fb el k so Wb Ho OZ r base' ret Q) g' s:=by
    intro D9 fn _ X Rq Mc;obtain⟨g1,s,U,lc,sk,rz,sj⟩:=X;obtain⟨v2,qu,aFj,qK,aE7,A,mw,es,es',DQ,Dg,FG,Gn,J9,K',JA,ZT⟩:=Rq.both;have fR:Be P A0 (G fr cs) (on wL T)=aYE g1 s U:=lc;rw[DQ]at fR;injection fR with fk g0 g2;subst fk g0;obtain⟨S',BW,rv⟩:=Yk (P:=P) (fn:=fn) Gi Yz JA ZT;refine⟨_,mw,_,S',Mc.trans Dg,BW,?_⟩;have aHJ:wL.drawn<=A.drawn:=rz;have Ux:∀e,Na w0.drawn A.drawn e T->Na w0.drawn p.d e p.τ:=λe h i q h3 h4=>(h i q h3 (by omega)).trans (u i q h3 h4);have sn:A.tape=T:=sk;refine ih ⟨T,p.n+1,A.drawn⟩ ⟨rfl,by show p.d<=A.drawn;omega,u,?_⟩ (wL:=A) (T0:=T) ?_ ?_ rfl (by show w0.drawn<=A.drawn;omega) FG Gn J9 (λb hb=>JA.le _ _ (Fl b hb)) (AN.le_trans ew JA.le) ?_ (JA.X5 ⟨hid.1,I4.trans hid.2⟩) (λb I x=>?_) (λb hb=>?_) (λb I x=>?_) ?_
    ·intro e C;intro i hi Yi w4 K Rw;have S:=Ux e C;rcases IW i p.n with hlt|MZ;·exact B8 e S i hlt Yi w4 K Rw
     ·obtain rfl:i=p.n:=by simp only at hi;omega
      have:=Au e S;unfold At at this K;rw[this]at K;obtain⟨h3,_⟩:=Qx (Xy K);simp only[G,UC]at h3;obtain⟨rfl,rfl,_⟩:=h3;exact Dk ⟨rfl,Rw⟩
    ·intro e C;have S:=Ux e C;have Bp:=sj e λi q h3 h4=>C i q (by have:wL.drawn<=i:=h3;omega) h4;have gF:Be P A0 (G fr cs) (on wL e)=aYE {frame:=qu,callers:=qK,status:=aYF,dying:=J} (on A e) U:=Bp;have:=Au e S;unfold At at this⊢;rw[ub,this];simp only[Ek,Pb rfl gF];rfl
    ·intro e C;intro i hi Yi w4 K Rw;have S:=Ux e C;rcases IW i p.n with hlt|MZ;·exact B8 e S i hlt Yi w4 K Rw
     ·obtain rfl:i=p.n:=by simp only at hi;omega
      have:=Au e S;unfold At at this K;rw[this]at K;obtain⟨h3,_⟩:=Qx (Xy K);simp only[G,UC]at h3;obtain⟨rfl,rfl,_⟩:=h3;exact Dk ⟨rfl,Rw⟩
    ·have:on A T=A:=by rw[<-sn];rfl
     rw[this];exact K'
    ·have V1:GC (λ_=>False) (EM Wb m.heap.size) m mw (IU P fn es') S':=by rw[I4];exact BW
     have B_:=gY (λb hb=>by rw[I4];exact E8 b hb) V1;rcases rv b I x with⟨y,_⟩|⟨_,y⟩;·exact y.elim
     ·rw[B_]at y;exact y.2
    ·have:=E8 b hb;have BH:=BW.size;rw[I4]at BH;omega
    ·rcases JA.fresh b I x with y|⟨y,_⟩;·exact D_ b I y
     ·have y':wL.heap.size<=b:=y;exact AF (by omega)
    ·have y:wL.heap.size<=A.heap.size:=JA.size;omega
   rcases Cs with H|H
   ·have D:∀v,Be P A0 (G fr cs) v=C6 P A0 A0 fr cs J v:=λv=>cU rfl H;have EP:Be P A0 (G fr' cs') m=C6 P A0 A0 fr' cs' J m:=cU rfl (BM.mode.trans H);have QF:fr.todo=[]->NX cs r=[]:=by
     intro AH;cases hc with
     |base=>
      cases ret with
      |true=>exact SA rfl
      |false=>exact absurd ⟨rfl,by unfold Fin;exact⟨H,AH⟩⟩ Dk
     |cons _ _ _ t=>obtain⟨c,l,rfl⟩:=t.ne;rfl
    rcases a'9 (cs:=cs) W D5 hC LL a2 Fl A0 BM M with⟨X,f1⟩|⟨he⟩|⟨he⟩;·have lc:=X;obtain⟨g1,s,U,lc,_⟩:=lc;have Rq:=a'A W D5 hC LL a2 BI Fl A0 A0 BM H QF hc M ⟨g1,s,U,lc⟩ f1;refine ZO (λ_=>rfl) ?_ (by rw[D];exact Rq) EP;obtain⟨g1,s,U,a,b,c,d⟩:=X;exact⟨g1,s,U,(D _).trans a,b,c,λe C=>(D _).trans (d e C)⟩
    ·rename_i s es ch;unfold Ek at h2;rw[Pb rfl ((D _).trans he)]at h2;simp only at h2;obtain⟨Yd,h3,h4⟩:=raised fr ch;obtain⟨za,BH⟩:=qR hc.uF h3 (h4.trans BM.defers.1) h2;exfalso;unfold Fin at Fj;simp only[G]at BH;split at Fj;·rw[BH]at Fj;cases Fj
     ·rw[BH]at Fj;cases Fj.1
    ·unfold Ek at h2;rw[SZ rfl ((D _).trans he)]at h2;cases h2
   ·have D:∀v,Be P A0 (G fr cs) v=HL P A0 fr cs J v:=λv=>Qy rfl H;have EP:Be P A0 (G fr' cs') m=HL P A0 fr' cs' J m:=Qy rfl (BM.mode.trans H);cases hc with
    |base=>have:=lW W.JD BM H M h2;omega
    |cons rn Lq bT t=>
     rename_i c c' l g6;rcases vH W.JD A0 (c:=c) (cs:=l) BM H M with⟨fn,v,s,es,Ba,GG,X⟩|⟨o,s,es,he⟩;·have Rq:=a5D W.JD A0 A0 BM H rn Lq bT t M Ba GG;refine ZO (λ_=>rfl) ?_ (by rw[D];exact Rq) EP;obtain⟨g1,s,U,a,b,c,d⟩:=X;exact⟨g1,s,U,(D _).trans a,b,c,λe C=>(D _).trans (d e C)⟩
     ·unfold Ek at h2;rw[SZ rfl ((D _).trans he)]at h2;cases h2
def D6(R:Nat->Prop):AN where
 rel:=λb e=>e=b/\R b
 one:=λb c f h k=>by rw[h.1,k.1]
 other:=λb e c h k=>by rw[<-h.1,<-k.1]
 low:=λb c h=>by rw[h.1]
theorem a1i(R:Nat->Prop):(D6 R).Self:=λ_ _ h=>h.1
theorem OK{R R':Nat->Prop}(h:∀b,R b->R' b):(D6 R).le (D6 R'):=λb e x=>⟨x.1,h b x.2⟩
structure Closed(F:Nat->Prop)(Wb R:Nat->Prop)(w:A'):Prop where
 heap:∀b,R b->∃o,w.heap[b]?=Z o/\GI F (D6 R) o o
 off:∀b,R b->¬Wb b
 EF:∀b,b<D4->R b
theorem Closed.lt{Wb R:Nat->Prop}(h:Closed F Wb R w){b:Nat}(f:R b):b<w.heap.size:=by obtain⟨o,e,_⟩:=h.heap b f;exact(Array.getElem?_eq_some_iff.1 e).1
theorem Closed.low{Wb R:Nat->Prop}(h:Closed F Wb R w):D4<=w.heap.size:=by
 have:D4-1<D4:=by decide
 have:=h.lt (h.EF _ this);have:D4=6:=rfl;omega
theorem Closed.same{Wb R:Nat->Prop}(h:Closed F Wb R w)(e:∀b,R b->w'.heap[b]?=w.heap[b]?):Closed F Wb R w':=⟨λb f=>by rw[e b f];exact h.heap b f,h.off,h.EF⟩
theorem Closed.wr{Wb R:Nat->Prop}(h:Closed F Wb R w)(so:Dr)(T:Tape):C3 F so (λ_=>False) (D6 R) (on w (join T w.drawn w.tape w.drawn)) w:=by
 refine⟨λb f x=>?_,λi q=>?_,λ_ x=>x.elim,⟨h.low,h.low⟩,λ_ b f x o z e m=>?_⟩;·obtain⟨rfl,s⟩:=x;obtain⟨o,e,k⟩:=h.heap f s;exact⟨o,o,e,e,k⟩
 ·show w.tape (w.drawn+i) q=join T w.drawn w.tape w.drawn (w.drawn+i) q;unfold join;rw[if_neg (by omega)];congr 2;omega
 ·obtain⟨rfl,_⟩:=x;have e1:w.heap[f]?=Z o:=e;rw[e1]at m;obtain rfl:=D3 m;intro _ _ _ _ _ _ y p;rw[y]at p;injection p with _ _ u;exact u.symm
theorem jg{E:AN}{Wb:Nat->Prop}{wL:A'}(h:C3 F so (λ_=>False) E wL w)(hi:ag E wL w)(y:YR Wb E)(s:∀b,b<D4->E.rel b b):∃R,E=D6 R/\Closed F Wb R w:=by
 have he:E=D6 λb=>E.rel b b:=by
  obtain⟨rel,a,b,c⟩:=E;have:rel=λb f=>f=b/\rel b b:=by
   funext b f;refine propext ⟨λx=>?_,λx=>?_⟩;·have e:=hi.1 b f x;subst e;exact⟨rfl,x⟩
   ·rw[x.1];exact x.2
  unfold D6;congr
 refine⟨_,he,λb m=>?_,λb m=>y b b m,s⟩;obtain⟨o,z,e,p,k⟩:=h.heap b b m;rw[hi.2,e]at p;obtain rfl:=D3 p;refine⟨o,by rw[hi.2];exact e,?_⟩;rw[<-he];exact k
theorem mb(X:Static P F fb el k)(H:∀b,el.J5 b){Wb R:Nat->Prop}(ret:Bool)(I:ret=A0->r=[]){u:AY}{base':List AY}{Q:AY->A'->Prop}(z:Ej P F fb el k (D6 R) r fr0 u)(D:fr0.mode=aYY)(h:Closed F Wb R w)(C:∀b,Wb b->b<w.heap.size)(m:∀T,∃N e f,Ek P N (EB (G fr0 [bot]) (on w T))=aYG (EB (G e [bot]) f)/\Fin ret e/\Q e f):Ct P Wb (nM P F fb el k (B4 el A0) Wb w.heap.size (D6 R) r base' ret Q) (G u base') w:=by have s:=a4N (P:=P) (fr0:=fr0) (w0:=w) (ret:=ret) (λT=>let⟨N,e,f,a,b,_⟩:=m T;⟨N,e,f,a,b⟩) ⟨w.tape,0,w.drawn⟩;exact aSl X.fit X.EF X.calm ⟨rfl,λb=>⟨λ_=>H b,λ_ x=>x⟩⟩ X.sub X.laid I m _ s (λT _=>rfl) (λT _ j A=>by cases A) rfl (AX _) z (AA D) .base (λb y=>⟨rfl,h.EF b y⟩) (AN.le_refl _) (h.wr _ w.tape) ⟨a1i R,rfl⟩ (λb p x=>by rw[x.1];exact h.off b x.2) C (λb p x=>AA x) (AX _)
def vb(F:Nat->Prop)(Wb R:Nat->Prop)(h:Nat)(c':AY)(cs':List AY)(Q:A1->A'->Prop)(g:AK)(w':A'):Prop:=∃e v f,g=G (c'.finish v) cs'/\AJ F (D6 e) v v/\Q v f/\(∀b,R b->e b)/\w'.heap=f.heap/\Closed F Wb e w'/\(∀b,Wb b->b<w'.heap.size)/\∀b,e b->R b∨h<=b
theorem qC(X:Static P F fb el k)(S5:∀b,el.J5 b){Wb R:Nat->Prop}{f:Nat}{fn:JG}{code:Cv}{args:Array A1}{c':AY}{cs':List AY}{Q:A1->A'->Prop}(Ba:P.funcs[f]?=Z fn)(p:fn.body=Z code)(hc:F8 P fb el.own (el.own f) k code=A0)(Yv:Hi (el.own f)=[])(B3:∀t∈el.own f,args.size<=t)(JN:Ab F (D6 R) args.toList args.toList)(W:Closed F Wb R w)(E8:∀b,Wb b->b<w.heap.size)(TP:∀T,AZ P f args (on w T) λe h=>∃v,e=hq v/\Q v h):Ct P Wb (vb F Wb R w.heap.size c' cs' Q) (G (GR P f args a73) (c'::cs')) w:=by
 have H0:∀T,∃N A h,Ek P N (EB (G (GR P f args a73) [bot]) (on w T))=aYG (EB (G A [bot]) h)/\Fin A0 A/\∃v,Q v h/\A.fn=f/\A.leaving P h (hq v):=by intro T;obtain⟨e,h,A,⟨v,rfl,AD⟩,Bp,AE,A9⟩:=TP T [bot];obtain⟨N,H'⟩:=Bp;exact⟨N,A,h,H',A9.1,v,AD,AE,A9⟩
 refine(mb X S5 A0 (λ_=>rfl) (r:=[]) (Ej.enter Ba p hc Yv B3 JN) rfl W E8 H0).bind ?_;rintro g z⟨D,U,m,h,rfl,BM,Dk,⟨v,AD,Wm,hm,AT,hk,H,PE,GG⟩,fd,C,hid,OA,ba,D_⟩;refine .step rfl λd=>?_;have Gi:JZ (λ_=>False) (λ_=>False) (EM Wb z.heap.size) D:=λb b' x=>AF ⟨λy=>y,(C.lt x).2,OA b b' x⟩;have A2:=Bx.at (λ_=>False) (EM Wb z.heap.size) z d;have I:(z.at d).heap=z.heap:=rfl;generalize a1X:z.at d=s at A2 I;have K:C3 F (B4 el A0) (λ_=>False) D (on h (join h.tape h.drawn s.tape s.drawn)) s:=(C:C3 F (B4 el A0) (λ_=>False) D (on h h.tape) z).rely Gi A2 _;have hs:AG P F ⟨el.J5,False,el.own,el.HP⟩ (Ci F) D (De H U.tmps) (De H m.tmps):=BM.results PE;have B:∃es,(De H U.tmps).runT P h #[]=(aY6 v h,es):=by have:=PZ (P:=P) (De H U.tmps) h #[];rw[GG]at this;exact⟨((De H U.tmps).runT P h #[]).2,by rw[<-this]⟩
 obtain⟨es,B⟩:=B;have gC:=(AG.tape X.fit.JD hs (w':=z) ⟨C.heap,C.tape,λ_ x=>x.elim,C.low,C.even⟩ B).2 (join h.tape h.drawn s.tape s.drawn) (λi q h1 h2=>by omega);obtain⟨C1,v',u,es',r1,r2,EI,M,Gp⟩:=AG.runs X.fit.JD (Pr:=λ_=>False) (RO:=λ_=>False) (λ_ x=>x) (λx=>a6z x) hs (⟨K.heap,K.tape,K.kept,K.low,K.even⟩:C3 F ⟨el.J5,False,el.own,el.HP⟩ (λ_=>False) D _ s) (es:=#[]) (es':=#[]) .nil gC;have lc:Be P A0 (G m (c'::cs')) s=aYE (G (c'.finish v') cs') u (IU P m.fn es'):=by rw[Qy rfl (BM.mode.trans hm)];exact R0 BM.defers.2 (BM.mode.trans hm) BM.kind.2 (by show P.funcs[m.fn]?=_;rw[BM.fn];exact PE) r1
 obtain⟨Ov,S,Rt⟩:=Yk (P:=P) (fn:=m.fn) Gi (λb p=>p.elim) M Gp;have QI:=M.X5 ⟨hid.1,I.trans hid.2⟩;have TU:∀b,Wb b->b<u.heap.size:=λb p=>by have:=ba b p;have BH:=S.size;rw[I]at BH;omega
 have fq:YR Wb C1:=λb b' x=>by
  have V1:GC (λ_=>False) (EM Wb s.heap.size) s u (IU P m.fn es') Ov:=by rw[I];exact S
  have B_:=gY (λb p=>by rw[I];exact ba b p) V1;rcases Rt b b' x with⟨y,_⟩|⟨_,y⟩;·exact y.elim
  ·rw[B_]at y;exact y.2
 refine⟨_,u,_,Ov,lc,S,.stop λd2=>?_⟩;have MY:∀b,b<D4->C1.rel b b:=λb p=>M.le _ _ (fd _ _ ⟨rfl,W.EF b p⟩);obtain⟨Bs,rfl,F'⟩:=jg EI QI fq MY;obtain rfl:=r2.same QI.1;refine⟨Bs,v',h,rfl,r2,AD,λb p=>(M.le _ _ (fd b b ⟨rfl,p⟩)).2,?_,F'.same λ_ _=>rfl,TU,λb p=>?_⟩;·exact QI.2
 ·rcases M.fresh b b ⟨rfl,p⟩with y|⟨y,_⟩;·exact(D_ b b y).imp (·.2) id
  ·right;have y':h.heap.size<=b:=y;omega
end
section
variable{P:Ac}{tb:Nat->Bool}
def mJ(P:Ac)(tb:Nat->Bool)(o:Bf):Bool:=a3m P o.op||match o.op with|a8E {callee:=aYa (aYN f),..}=>tb f|_=>A5
def eb(P:Ac)(tb:Nat->Bool):Cv->Bool|aZD|aZC _|.label _|aYT|.refuse _=>A0|aYH _ ops _=>ops.toList.all (mJ P tb)|aYB a b|aZB _ a b=>eb P tb a&&eb P tb b|aYi _ b|.loop b|.scope b=>eb P tb b|_=>A5
def VD(P:Ac)(tb:Nat->Bool):Cw->Bool|aY9 c|aYn c|.inScope c=>eb P tb c|aYk _=>A0|aY7 ops _=>ops.toList.all (mJ P tb)|_=>A5
def jE(P:Ac)(tb:Nat->Bool):Prop:=∀f,tb f=A0->∃b c,P.funcs[f]?=Z b/\(b.name== "runtime.NumGoroutine")=A5/\b.body=Z c/\eb P tb c=A0
structure MT(P:Ac)(tb:Nat->Bool)(fr:AY):Prop where
 ok:∀i∈fr.todo,VD P tb i=A0
 defers:fr.defers=[]
 kind:fr.kind=a73
 round:fr.roundOf=J
 has:∃fn,P.funcs[fr.fn]?=Z fn
theorem MT.to(h:MT P tb fr){l:List Cw}(b:∀i∈l,VD P tb i=A0):MT P tb {fr with todo:=l}:=⟨b,h.defers,h.kind,h.round,h.has⟩
theorem MT.finish{fr:AY}(h:MT P tb fr)(v:A1):MT P tb (fr.finish v):=by
 unfold dG;split
 ·rename_i ops j rest l e;refine⟨λi hi=>?_,h.defers,h.kind,h.round,h.has⟩;have b:=h.ok;rw[e]at b;rcases List.mem_cons.1 hi with rfl|hi;·exact(b (aY7 ops (j::rest)) (N' ..):ops.toList.all (mJ P tb)=A0)
  ·exact b i (I8 _ hi)
 all_goals first|exact h|(rename_i e;have b:=h.ok;rw[e]at b;exact absurd (b _ (N' ..)) (by simp[VD]))
theorem k4(fr:AY)(v:A1):(fr.finish v).mode=fr.mode:=by unfold dG;split<;>rfl
theorem MT.enter(h:jE P tb){f:Nat}(m:tb f=A0)(args:Array A1):MT P tb (GR P f args a73):=by obtain⟨e,c,b,_,h2,h3⟩:=h f m;unfold GR;refine⟨λi hi=>?_,rfl,rfl,rfl,⟨e,b⟩⟩;simp only[b,h2,RR,HB,ak]at hi;subst hi;exact h3
theorem qh{id:Nat}:∀{l m:List Cw},Px id l=Z m->∀i∈m,i∈l
 |[],_,h=>by simp[Px]at h
 |i::l,m,h=>by
  unfold Px at h;split at h
  ·rename_i e;obtain⟨rfl,rfl⟩:=Om e;split at h;·cases h;exact λj b=>I8 _ b
   ·exact λj b=>I8 _ (qh h j b)
  ·rename_i e;obtain⟨rfl,rfl⟩:=Om e;exact λj b=>I8 _ (qh h j b)
  ·cases h
inductive WC(P:Ac)(tb:Nat->Bool)(fr:AY)(w:A')(s:List AY->GStep):Prop|here{fr':AY}{w':A'}{es:Array By}:(∀cs,s cs=aYE (G fr' cs) w' es)->MT P tb fr'->fr'.mode=aYY∨fr'.mode=.returning->EN w w' #[] es->WC P tb fr w s|call{f:Nat}{args:Array A1}{es:Array By}:(∀cs,s cs=aYE (G (GR P f args a73) (fr::cs)) w es)->MT P tb (GR P f args a73)->EN w w #[] es->WC P tb fr w s|raise{ch:List PanicEntry}{w':A'}{es:Array By}:(∀cs,s cs=aYE (G (fr.raise ch) cs) w' es)->WC P tb fr w s|ends:(∀cs,∃o w' es,s cs=aYs o w' es)->WC P tb fr w s
theorem EN.seen{w w':A'}{es:Array By}(h:EN w w' #[] es)(fn:FuncId):EN w w' #[] (seen P fn es):=⟨h.size,h.os,h.output,h.tape,λe he=>h.evs e (aN he)⟩
theorem aCS(D:∀g,P.stepOf g=J)(h:MT P tb fr)(z:fr.mode=aYY){s:Sem Next}(hs:AO P cI s)(w:A'):WC P tb fr w λcs=>MI P A0 fr cs J s w:=by
 have y:(fr.kind==aYR)=A5:=by rw[h.kind];rfl
 have b:=hs.runs w #[];have he:=hs.ends w #[];cases p:s.runT P w #[]with
 |mk r es=>
  rw[p]at b he;cases r with
  |ok C f=>
   have b:EN w f #[] es:=b;have he:cI C:=he;cases C with
   |value v=>exact .here (λcs=>It y p rfl) (h.finish v) (by rw[k4];exact AA z) (b.seen _)
   |skip=>exact .here (λcs=>It y p rfl) (h.finish Y) (by rw[k4];exact AA z) (b.seen _)
   |_=>exact he.elim
  |halt x f=>
   have b:EN w f #[] es:=b;have he:cn f x:=he;rcases he with he|⟨g,c,t,rfl,H⟩
   ·cases x with
    |panic v=>refine .raise (ch:=[{v,recovered:=A5}]) (w':=f) (es:=IU P fr.fn es) λcs=>?_;unfold MI;simp only[↓reduceIte,p,y,EU,Nh,U2,G]
    |stuck m=>refine .ends λcs=>?_;unfold MI;simp only[↓reduceIte,p,y,EU,Nh];exact⟨_,_,_,rfl⟩
    |unsupported u=>
     refine .ends λcs=>?_;unfold MI;cases u with
     |initOrder g=>exact absurd rfl (he g)
     |_=>simp only[↓reduceIte,p,y,EU,Nh];exact⟨_,_,_,rfl⟩
    |_=>exact he.elim
   ·by_cases A:P.follows .staticDataAhead=A0;·refine .ends λcs=>?_;unfold MI;simp only[↓reduceIte,p,y,EU];unfold early;simp only[A,D,Sg,EU,↓reduceIte,Nh];exact⟨_,_,_,rfl⟩
    ·refine .here (fr':=fr) (w':={f with heap:=f.heap.setIfInBounds g (BE c t)}) (es:=IU P fr.fn #[]) (λcs=>?_) h (AA z) ?_;·unfold MI;simp only[↓reduceIte,p,y,EU];unfold early;simp only[A,H,U4,↓reduceIte,Nh,U2,G]
     ·have I:EN w {f with heap:=f.heap.setIfInBounds g (BE c t)} #[] #[]:=⟨by have:=b.size;simpa[mZ]using this,b.os,b.output,b.tape,λe he=>AA he⟩;exact I.seen _
theorem aF7(S:∀g,P.stepOf g=J)(u:jE P tb)(h:MT P tb fr)(I:fr.mode=aYY)(w:A'):WC P tb fr w λcs=>C6 P A0 A0 fr cs J w:=by
 have N:=h.ok;have K:=h.round;have z:∀(l:List Cw),(∀i∈l,VD P tb i=A0)->(∀cs,C6 P A0 A0 fr cs J w=aYE (G {fr with todo:=l} cs) w #[])->WC P tb fr w λcs=>C6 P A0 A0 fr cs J w:=λl A e=>.here e (h.to A) (AA I) (EN.refl w #[]);have B:(∀cs,C6 P A0 A0 fr cs J w=aYE (G {fr with mode:=aYX} cs) w #[])->WC P tb fr w λcs=>C6 P A0 A0 fr cs J w:=λe=>.here e ⟨h.ok,h.defers,h.kind,h.round,h.has⟩ (AF rfl) (EN.refl w #[]);cases m:fr.todo with
 |nil=>refine B λcs=>?_;unfold C6;simp only[m,K,↓reduceIte,G]
 |cons i l=>
  rw[m]at N;have hi:=N i (by simp);have A:∀j∈l,VD P tb j=A0:=λj p=>N j (by simp[p]);have two:∀(a b:Cw),VD P tb a=A0->VD P tb b=A0->∀j∈a::b::l,VD P tb j=A0:=by
   intro a b A6 hb j p;rcases List.mem_cons.1 p with rfl|p;·exact A6
   ·rcases List.mem_cons.1 p with rfl|p;·exact hb
    ·exact A j p
  cases i with
  |inBlock b=>refine z l A λcs=>?_;unfold C6;simp only[m,G]
  |inScope b=>refine z l A λcs=>?_;unfold C6;simp only[m,G]
  |inLoop b=>refine z _ (two (aY9 b) (aYn b) hi hi) λcs=>?_;unfold C6;simp only[m,G]
  |code c=>
   cases c with
   |skip=>refine z l A λcs=>?_;unfold C6;simp only[m,G]
   |label n=>refine z l A λcs=>?_;unfold C6;simp only[m,G]
   |ret=>refine B λcs=>?_;unfold C6;simp only[m,K,↓reduceIte,G]
   |seq a b=>obtain⟨s,h2⟩:=Bool.and_eq_true_iff.1 hi;refine z _ (two (aY9 a) (aY9 b) s h2) λcs=>?_;unfold C6;simp only[m,G]
   |cond c a b=>
    obtain⟨s,h2⟩:=Bool.and_eq_true_iff.1 hi;cases hv:fr.eval c with
    |bool v=>
     refine z (aY9 (if v then a else b)::l) (λj p=>?_) λcs=>?_
     ·rcases List.mem_cons.1 p with rfl|p
      ·cases v;·exact h2
       ·exact s
      ·exact A j p
     ·unfold C6;simp only[m,hv,G]
    |_=>refine .ends λcs=>?_;unfold C6;simp only[m,hv];exact⟨_,_,_,rfl⟩
   |block n b=>refine z _ (two (aY9 b) (aYk n) hi rfl) λcs=>?_;unfold C6;simp only[m,G]
   |loop b=>refine z _ (two (aY9 b) (aYn b) hi hi) λcs=>?_;unfold C6;simp only[m,G]
   |scope b=>refine z _ (two (aY9 b) (.inScope b) hi hi) λcs=>?_;unfold C6;simp only[m,G]
   |exit n=>cases e:Px n l with|none=>refine .ends λcs=>?_;unfold C6;simp only[m,K,e,Option.elim_none,EU,↓reduceIte];exact⟨_,_,_,rfl⟩|some W=>refine z W (λj p=>A j (qh e j p)) λcs=>?_;unfold C6;simp only[m,e,Option.elim_some,G]
   |goto n=>cases hi
   |rangeFunc f a b c=>cases hi
   |refuse y=>refine .ends λcs=>?_;unfold C6;simp only[m];exact⟨_,_,_,rfl⟩
   |region n ops H=>
    have Jv:∀(t:List Nat),∀j∈aY7 ops t::l,VD P tb j=A0:=by
     intro t j p;rcases List.mem_cons.1 p with rfl|p;·exact hi
     ·exact A j p
    cases H with|false=>refine z _ (Jv (H9 ops.size)) λcs=>?_;unfold C6;simp only[m,U4,↓reduceIte,G]|true=>have hc:AO P any (Sy (aYq fr.fn n)):=lg _;have s:=hc.runs w #[];have h2:=hc.ends w #[];have h3:=PZ (P:=P) (Sy (aYq fr.fn n)) w #[];cases U:(Sy (aYq fr.fn n)).run P w with|ok t w2=>rw[h3,U]at s;have s:EN w w2 #[] _:=s;refine .here (fr':={fr with todo:=aY7 ops (Region.schedule (P.follows .mixedOrders) ops t)::l}) (w':=w2) (es:=#[]) (λcs=>?_) (h.to (Jv _)) (AA I) ⟨s.size,s.os,s.output,s.tape,λe he=>AA he⟩;unfold C6;simp only[m,U,Sg,EU,↓reduceIte,G]|halt x w2=>refine .ends λcs=>?_;unfold C6;simp only[m,U,Sg,EU,↓reduceIte];exact⟨_,_,_,rfl⟩
  |inRegion ops todo=>
   cases todo with
   |nil=>refine z l A λcs=>?_;unfold C6;simp only[m,G]
   |cons j rest=>
    have X:fr.oper?=ops[j]?:=by unfold Frame.oper?;rw[m]
    by_cases M:(ops[j]?.map (EY · (Gu ops fr.tmps))).getD A5=A0
    ·cases e:ops[j]? with
     |none=>rw[e]at M;cases M
     |some o=>
      have C:mJ P tb o=A0:=List.all_eq_true.1 hi o (by obtain⟨hlt,rfl⟩:=Array.getElem?_eq_some_iff.1 e;simp);have e1:∀cs,C6 P A0 A0 fr cs J w=MI P A0 fr cs J (AU fr.eval o) w:=by intro cs;unfold C6;simp only[m,M,↓reduceIte];unfold stepG.oper;rw[X,e];simp only[K]
      rcases Bool.or_eq_true_iff.1 C with C|C;·have:=aCS (tb:=tb) S h I (aLu (ρ:=fr.eval) C) w;simpa only[e1]using this
      ·cases Q:o.op with
       |call c=>
        rw[Q]at C;obtain⟨D,args,ts⟩:=c;cases D with
        |value x=>
         cases x with
         |func f=>
          have AE:tb f=A0:=C;obtain⟨fn,c,s,hn,h2,h3⟩:=u f AE;have fj:¬fn.name= "runtime.NumGoroutine":=by simpa using hn
          have ee:fr.eval (aYN f)=aYK (aYI f) #[] #[]:=rfl;have A2:(AU fr.eval o).runT P w #[]=(aY6 (.enter f (args.map fr.eval)) w,#[]):=by unfold AU;rw[Q];show(Dy _ _).runT P w #[]=_;simp[aO,ee,Pw,s,fj,h2,Y',invoke,Pure.pure,Dy]
          have hk:(fr.kind==aYR)=A5:=by rw[h.kind];rfl
          refine .call (f:=f) (args:=args.map fr.eval) (es:=IU P fr.fn #[]) (λcs=>?_) (MT.enter u AE _) ((EN.refl w #[]).seen _);rw[e1,It hk A2 rfl];simp only[m,G]
         |_=>cases C
        |_=>cases C
       |_=>rw[Q]at C;cases C
    ·refine .here (fr':=fr.finish Y) (w':=w) (es:=#[]) (λcs=>?_) (h.finish Y) (by rw[k4];exact AA I) (EN.refl w #[]);unfold C6;simp only[m,M,EU,↓reduceIte,G]
  |_=>cases hi
end
section
variable{P:Ac}{tb:Nat->Bool}
theorem aLM(v:A1):AO P any (asAddr v):=by unfold asAddr;repeat' first|(with_reducible exact AO.ret _)|(with_reducible exact HH _)|(with_reducible exact gW ..)|((with_reducible refine LO λg e=>?_);cases e)|split
theorem a2o(fn:JG)(T:Array A1):AO P any (De fn T):=by unfold De;refine AO.DD (a2Z (λx=>?_) _) λ_=>trivial;cases x with|tmp t=>exact trivial|cell a t=>exact AO.DD (aLM _) λ_=>a2j _ _
theorem EN.gt(h:EN w w' #[] es):GC (λ_=>False) (EM (λ_=>False) w.heap.size) w w' es (EM (λ_=>False) w'.heap.size):=by
 refine⟨h.size,λb m hn=>absurd ⟨m,λx=>x⟩ hn,h.os,h.output,h.tape,λb=>⟨λx=>?_,λx=>?_⟩,λe he=>?_⟩
 ·by_cases m:b<w.heap.size;·exact AA ⟨m,λx=>x⟩
  ·exact AF ⟨by omega,x.1⟩
 ·rcases x with x|x;·exact⟨by have:=x.1;have:=h.size;omega,λx=>x⟩
  ·exact⟨x.2,λx=>x⟩
 ·rcases h.evs e he with x|x;·simp at x
  ·cases x with|cell w s x=>exact .cell w s (x.imp (λy=>⟨y,λz=>z⟩) id)|obj w s x=>exact .obj w s (x.imp (λy=>⟨y,λz=>z⟩) id)|extern f=>exact .extern f|noRoom=>exact .noRoom
theorem hE{a a':AK}{t:DX}{q:Nat->Nat}(hs:a.status=aYF)(f:Be P A0 a w=aYE a' w' es)(h:EN w w' #[] es)(hc:Dm P (λ_=>False) #[a] w t q a):oq P (EB a w)=(aYG (EB a' w'),K6 0 a.frame.fn a.frame.place es)/\Dm P (λ_=>False) #[a'] w' (t++K6 0 a.frame.fn a.frame.place es) q a':=by
 refine⟨(nj hs).trans (vw f),?_⟩;have b:=(Dm.own hc (a':=a') (AF trivial) h.gt a.frame.fn a.frame.place).2;have e:(#[a].map (Pn P a a' w')).setIfInBounds 0 a'=#[a']:=by simp
 rw[e]at b;exact b
def yk(P:Ac)(tb:Nat->Bool)(l:List AY):Prop:=∀c∈l,MT P tb c/\c.mode=.run
theorem a6K:∀{l:List AY},yk P tb l->Passes (l++[bot])|[],_=>.bot|c::l,h=>.cons (h c (by simp)).1.defers (a6K λx hx=>h x (by simp[hx]))
theorem aSC(S:∀g,P.stepOf g=J)(W:jE P tb):∀(N:Nat){fr u:AY}{l base:List AY}{w w1:A'}{t:DX}{q:Nat->Nat},MT P tb fr->fr.mode=aYY∨fr.mode=.returning->yk P tb l->Ek P N (EB (G fr (l++[bot])) w)=aYG (EB (G u [bot]) w1)->u.mode=aYX->Dm P (λ_=>False) #[G fr (l++base)] w t q (G fr (l++base))->∃p,Eg P N (EB (G fr (l++base)) w) t=(aYG (EB (G u base) w1),p)/\Dm P (λ_=>False) #[G u base] w1 p q (G u base):=by
 intro N;induction N with
 |zero=>
  intro fr u l base w w1 t q f U s b y hc;simp only[Ek,RH]at b;obtain⟨Q,rfl⟩:=Qx b;simp only[G,UC]at Q;obtain⟨rfl,h2,_⟩:=Q;have:l=[]:=by cases l with|nil=>rfl|cons c l=>simp at h2
  subst this;exact⟨t,rfl,hc⟩
 |succ N K=>
  intro fr u l base w w1 t q f U s b y hc;unfold Ek at b;rcases U with m|m
  ·have e:∀cs,Be P A0 (G fr cs) w=C6 P A0 A0 fr cs J w:=λcs=>cU rfl m;rcases aF7 S W f m w with⟨hs,h2,h3,h4⟩|⟨hs,h2,h4⟩|⟨hs⟩|⟨hs⟩;·rw[Pb rfl ((e _).trans (hs _))]at b;obtain⟨e1,c1⟩:=hE rfl ((e _).trans (hs (l++base))) h4 hc;obtain⟨p,e2,c2⟩:=K h2 h3 s b y c1;refine⟨p,?_,c2⟩;rw[Eg,e1];exact e2
   ·rw[Pb rfl ((e _).trans (hs _))]at b;obtain⟨e1,c1⟩:=hE rfl ((e _).trans (hs (l++base))) h4 hc;obtain⟨p,e2,c2⟩:=K (l:=fr::l) h2 (AA rfl) (λc hc=>by
     rcases List.mem_cons.1 hc with rfl|hc;·exact⟨f,m⟩
     ·exact s c hc) b y c1;refine⟨p,?_,c2⟩;rw[Eg,e1];exact e2
   ·rename_i ch z A;exfalso;rw[Pb rfl ((e _).trans (hs _))]at b;obtain⟨X,h3,h4⟩:=raised fr ch;obtain⟨za,I⟩:=qR (a6K s) h3 (h4.trans f.defers) b;simp only[G]at I;rw[y]at I;cases I
   ·exfalso;obtain⟨o,z,A,he⟩:=hs (l++[bot]);rw[SZ rfl ((e _).trans he)]at b;cases b
  ·have e:∀cs,Be P A0 (G fr cs) w=HL P A0 fr cs J w:=λcs=>Qy rfl m;cases C:P.funcs[fr.fn]? with
   |none=>obtain⟨fn,h⟩:=f.has;rw[C]at h;cases h
   |some fn=>
    have B:=a2o (P:=P) fn fr.tmps;have D:=B.runs w #[];have he:=B.ends w #[];cases H:(De fn fr.tmps).runT P w #[]with
    |mk r A=>
     rw[H]at D he;cases r with
     |halt x z=>
      exfalso;have:∃o w3 M,HL P A0 fr (l++[bot]) J w=aYs o w3 M:=by unfold HL;simp only[f.defers,m,C,H];cases x<;>exact⟨_,_,_,rfl⟩
      obtain⟨o,w3,M,h3⟩:=this;rw[SZ rfl ((e _).trans h3)]at b;cases b
     |ok v z=>have D:EN w z #[] A:=D;cases l with|nil=>exfalso;have h3:HL P A0 fr [bot] J w=_:=R0 (c:=bot) (cs:=[]) f.defers m f.kind C H;rw[YL,Pb (a1:=G (bot.finish v) []) rfl ((e _).trans h3)]at b;have:=a'0 b;subst this;simp only[Ek,RH]at b;have:=(Qx b).1;simp[G]at this|cons c l=>have h3:∀cs,HL P A0 fr (c::cs) J w=aYE (G (c.finish v) cs) z (IU P fr.fn A):=λcs=>R0 f.defers m f.kind C H;rw[ML,Pb rfl ((e _).trans (h3 _))]at b;obtain⟨e1,c1⟩:=hE rfl ((e _).trans (h3 (l++base))) (D.seen _) hc;have Wj:=s c (by simp);obtain⟨p,e2,c2⟩:=K (Wj.1.finish v) (by rw[k4];exact AA Wj.2) (λx hx=>s x (by simp[hx])) b y c1;refine⟨p,?_,c2⟩;rw[Eg,ML,e1];exact e2
end
end
section
open Go.Proofs.YtcfhleenecfghaaGreatDoor
open Go.Conc Go.RowKit
open Go.ConcR(Payload)
variable{w:A'}{BB b:Nat}{F:Nat->Prop}{o:Obj}
def PR:Obj->Obj|BE c t _=>BE c t (0,c.size)|o=>o
noncomputable def N9(old:Nat->Prop)(w:A'):A':=open Classical in{w with heap:=w.heap.mapIdx λb o=>if old b then PR o else o}
theorem r'(old:Nat->Prop)(w:A'):(N9 old w).heap.size=w.heap.size:=by simp[N9]
theorem qy{old:Nat->Prop}(h:old b)(e:w.heap[b]?=Z o):(N9 old w).heap[b]?=Z (PR o):=by simp[N9,e,h]
theorem qz{old:Nat->Prop}(h:¬old b):(N9 old w).heap[b]?=w.heap[b]?:=by simp[N9,h]
theorem aJW(h:∀c t p,o≠BE c t p):PR o=o:=by cases o<;>first|rfl|exact absurd rfl (h _ _ _)
structure N1(F:Nat->Prop)(old:Nat->Prop)(w:A'):Prop where
 heap:∀b,old b->∃o,w.heap[b]?=Z o/\GI F (D6 old) o o/\∀c t p,o=BE c t p->p.1=p.2
 EF:∀b,b<D4->old b
 low:D4<=w.heap.size
theorem N1.lt{old:Nat->Prop}(h:N1 F old w)(f:old b):b<w.heap.size:=by obtain⟨o,e,_⟩:=h.heap b f;exact(Array.getElem?_eq_some_iff.1 e).1
theorem N1.same{old:Nat->Prop}{w':A'}(h:N1 F old w)(e:∀b,old b->w'.heap[b]?=w.heap[b]?)(m:D4<=w'.heap.size):N1 F old w':=⟨λb f=>by rw[e b f];exact h.heap b f,h.EF,m⟩
def vP(old:Nat->Prop)(e:Nat):Nat->Prop:=λb=>old b∨b=e
theorem GI.PR{F:Nat->Prop}{E:AN}{o:Obj}(h:GI F E o o)(b:∀c t p,o=BE c t p->p.1=p.2):GI F E (Twin.PR o) o:=by
 cases o with
 |cells c t p=>cases h with|cells _ hv _=>exact .cells t hv (AA (b c t p rfl))
 |_=>exact h
theorem aFo{old:Nat->Prop}{so:Dr}(h:N1 F old w)(I:¬old BB)(D:∃p v,w.heap[BB]?=Z (BE #[AI p,AI v] 85))(H:∀b,old b->¬so.obj b)(A:¬so.HP):Cg F so old (D6 (vP old BB)) (N9 old w) w:=by
 refine⟨w.tape,λb s x=>?_,λi q=>rfl,λb f=>?_,⟨by show D4<=(N9 old w).heap.size;rw[r'];exact h.low,h.low⟩,λx=>absurd x A⟩
 ·obtain⟨rfl,f⟩:=x;by_cases m:old s;·obtain⟨o,e,k,z⟩:=h.heap s m;exact⟨_,o,qy m e,e,(k.mono (OK λ_ y=>AA y)).PR λc t p y=>z c t p y⟩
  ·obtain rfl:s=BB:=f.resolve_left m;obtain⟨p,v,e⟩:=D;exact⟨_,_,(qz m).trans e,e,.cells _ (.cons (.string _) (.cons (.string _) .nil)) (.refl _)⟩
 ·obtain⟨o,e,k,z⟩:=h.heap b f;refine⟨by show b<(N9 old w).heap.size;rw[r'];exact h.lt f,?_⟩;have e1:(on (N9 old w) w.tape).heap[b]?=Z (PR o):=qy f e;by_cases hc:∃c t p,o=BE c t p;·obtain⟨c,t,p,rfl⟩:=hc;exact AA ⟨c,t,_,e1,λx hx=>⟨Nat.zero_le _,hx,trivial⟩⟩
  ·have C:∀c t p,o≠BE c t p:=λc t p y=>hc ⟨c,t,p,y⟩;refine AF ⟨H b f,λc t p y=>?_⟩;rw[e1,aJW C]at y;exact C c t p (D3 y)
section
variable[Ck]
structure eI(R:IY)(rd:Nat->Prop)(vr:A1)(Q:ByteArray->ByteArray->Nat->A1->A'->Prop):Prop where
 Hm:N1 reads rd R.w0
 sub:∀b,rd b->R.old b
 br:rd R.br
 AL:R.old R.AL
 ch:∃t p,R.w0.heap[R.AL]?=Z (BE #[aYC (Z R.X.Ch)] t p)
 ta:∀w:A',(∀b o,rd b->R.w0.heap[b]?=Z o->w.heap[b]?=Z (PR o))->∀ρ:C2->A1,ρ (oM 2)=Af R.br->∃es,(AU ρ (I6 1)).runT A4 w #[]=(aY6 (aYD vr) w,es)
 call:∀(j:Nat)p v,R.ms[j]?=Z (p,v)->∀w:A',(∀b o,rd b->R.w0.heap[b]?=Z o->w.heap[b]?=Z (PR o))->AZ A4 200 #[vr,dd #[AI p,AI v]] w λe w1=>∃x,e=hq x/\Q p v w.heap.size x w1/\∀b,b<w.heap.size->w1.heap[b]?=w.heap[b]?
 msg:∀(j:Nat)p v BB,R.ms[j]?=Z (p,v)->¬rd BB->∀n E x x' w1 w' S,BB<n->(∀b,rd b->b<n)->(D6 (vP rd BB)).le E->AJ reads E x x'->Q p v n x w1->Cg reads (B4 (ow rd) A0) rd E w1 w'->JZ rd R.old S E->S BB->∃M,(∀b,M b->S b/\b≠BB)/\R.X.MM j x' M w'
omit[Ck]in theorem aL1{ρ:C2->A1}{p v:ByteArray}(h3:ρ (oM 3)=Af BB)(h:w.heap[BB]?=Z (BE #[AI p,AI v] 85)):∃b,(AU ρ (I6 2)).runT A4 w #[]=(aY6 (aYD (dd #[AI p,AI v])) w,b):=by
 have m:(I6 2).op=aYf 85 (oM 3):=by kernel_rfl
 unfold AU;rw[m];simp only[h3];have e:w.cell? ⟨BB,0,J⟩=Z (AI p):=by simp[F3,h]
 have f:w.cell? ⟨BB,1,J⟩=Z (AI v):=by simp[F3,h]
 exact⟨_,by simp[go_sem,e,f];rfl⟩
theorem aDb{R:IY}{rd:Nat->Prop}{vr:A1}{Q:ByteArray->ByteArray->Nat->A1->A'->Prop}(u:R.X.P=A4)(B:R.X.ty=Ik.tWg)(K:eI R rd vr Q){j:Nat}{p v:ByteArray}(hlt:∀b,R.old b->b<R.w0.heap.size)(U:R.ms[j]?=Z (p,v))(C:∀b,R.old b->w.heap[b]?=R.w0.heap[b]?)(Uy:R.w0.heap.size<=BB)(m:w.heap[BB]?=Z (BE #[AI p,AI v] 85)):∃HU val,Way R.X.P A5 R.old (AtSend R.X j BB HU val R.old) (λb=>b=BB) (born R.X.P (call198 R.X.Wg R.AL R.br BB)) w:=by
 have A:¬rd BB:=λh=>by have:=K.Hm.lt h;omega
 have N:N1 reads rd w:=K.Hm.same (λb f=>C b (K.sub b f)) (by have I:=K.Hm.low;have h2:=(Array.getElem?_eq_some_iff.1 m).1;omega);have y:∀T b o,rd b->R.w0.heap[b]?=Z o->(on (N9 rd w) T).heap[b]?=Z (PR o):=λT b o f e=>qy f ((C b (K.sub b f)).trans e);refine⟨0,AI p,aTc (R:={X:=R.X,i:=j,RO:=rd,Sh:=R.old,IA:=λb=>b=BB,E:=D6 (vP rd BB),wL:=N9 rd w,AL:=R.AL,br:=R.br,BB:=BB,b7:=R.br,b5:=BB,vr:=vr,ca:=dd #[AI p,AI v],Q:=λx s=>Q p v w.heap.size x s/\∀b,b<w.heap.size->s.heap[b]?=(N9 rd w).heap[b]?,HU:=0,val:=AI p}) ?_ ?_ ?_ ?_ ?_⟩
 ·refine⟨u,B,λb f=>⟨rfl,AA (K.Hm.EF b f)⟩,K.AL,⟨rfl,AA K.br⟩,⟨rfl,AF rfl⟩,rfl,λρ h T=>K.ta _ (y T) ρ h,λρ h T=>?_,λT=>(K.call j p v U _ (y T)).mono ?_,?_⟩;·exact aL1 h (by show(N9 rd w).heap[BB]?=_;rw[qz A];exact m)
  ·rintro e s⟨x,rfl,AD,f⟩;have AR:(on (N9 rd w) T).heap.size=w.heap.size:=r' rd w;rw[AR]at AD f;exact⟨x,rfl,AD,λb D=>f b D⟩
  ·intro E x x' s w' S M hx AD A2 hc B_;refine⟨?_,K.msg j p v BB U A w.heap.size E x x' s w' S (Array.getElem?_eq_some_iff.1 m).1 (λb f=>N.lt f) M hx AD.1 A2 hc (B_ _ rfl)⟩;obtain⟨T,W⟩:=A2;have D:BB<w.heap.size:=(Array.getElem?_eq_some_iff.1 m).1;obtain⟨o,o',e,e',A7⟩:=W.heap BB BB (M _ _ ⟨rfl,AF rfl⟩);have e1:s.heap[BB]?=Z o:=e;rw[AD.2 BB D,qz A,m]at e1;obtain rfl:=D3 e1;cases A7 with
   |cells t hv z=>
    rename_i H q;have e2:H=#[AI p,AI v]:=by obtain⟨g6⟩:=H;match g6,hv with|[_,_],.cons (.string _) (.cons (.string _) .nil)=>rfl
    subst e2;simp[F3,e']
 ·exact aFo N A ⟨p,v,m⟩ (λb f h=>h f) λh=>h
 ·rintro b b'⟨rfl,f⟩;rcases f with f|f;·exact AA ⟨f,K.sub _ f⟩
  ·exact AF ⟨λh=>A (f▸h),f⟩
 ·obtain⟨t,q,e⟩:=K.ch;exact⟨t,q,(C _ K.AL).trans e⟩
 ·intro b f;have I:=hlt b f;refine⟨λe=>?_,?_⟩;·have e:b=BB:=e;omega
  ·have h2:=C b f;rw[ET I]at h2;exact(Array.getElem?_eq_some_iff.1 h2).1
end
end
section
open Go.Proofs.YtcfhleenecfghaaGreatDoor
variable{f:Nat}
def b6:List Nat:=[13,14,15,16,17,19,20,21,22,27,28,29,31,32,33,38,43,44,45,46,49,50,51,57,58,59,60,62,63,64,65,66,67,68,69,70,71,85,86,87,88,89,90,91,92,93,94,95,96,97,98,99,100,101,102,103,105,118,119,120,121,122,123,124,125,127,128,129,130,131,132,133,134,135,136,137,138,139,140,141,142,143,145,146,147,148,149,150,151,152,153,154,155,168,169,170,171,172,173,174,175,176,177,178,179,180,181,182,183,184,194,195,196,200,202,203,204,205,206,207,208,209,210,211,212,213,214,215,216,217,218,219,221,222,223,224,225,226,227,228,242,243,244,245,246,247,248,249,250,251,252,253,254,255,256,257,258,259,260,261,262,263,264,265,266,273,274,275,289,295,296,297,298,299,300,301,302,303,304,305,306,307,308,309,310,311,312,313,314,315,316,317,320,321,322,323,324,325,326,327,329,339,340,341,342,343,344,345,346,347,348,350,352,353,354,360,361,362,363,364,365,366,367,368,369,370,371,372,373,374,375,376,377,378,379,380,381,382,384,386,387,388,405,406,408,410,411,412,413,414,415,416,417,418,419,420,421,424,425,434,435,436,437,438,439,440,441,442,443,444,445,446,450,451,452,455,472,474,475,476]
def c6:List Nat:=[267,328,351,407,409,422]
def Cy(f:Nat):Prop:=f∈b6∨f∈c6
def Dw(f:Nat):Bool:=b6.contains f||c6.contains f
theorem Ra(f:Nat)(h:Dw f=A0):Cy f:=by unfold Dw at h;simpa[Cy]using h
def Dc:Nat->List Nat:=λf=>if f=4294967296 then[0]else[]
def XH:HC:=⟨Dc,λ_=>True,λ_ _=>trivial,True,λ_=>trivial⟩
theorem zG:b6.all (eU A4)=A0:=by kernel_rfl
theorem a5a:(b6++c6).all (λf=>Bn (f<4294967296))=A0:=by kernel_rfl
theorem gr(h:Cy f):Dc f=[]:=by have:=List.all_eq_true.1 a5a f (List.mem_append.2 h);have hlt:f<4294967296:=of_decide_eq_true this;unfold Dc;rw[if_neg (by omega)]
theorem lz:A4.funcs[4294967296]?.isNone=A0:=by kernel_rfl
theorem a'F:aP a8P=Z hr:=by kernel_rfl
theorem a'G:aP a8Q=Z o0:=by kernel_rfl
theorem a'H:aP oQ=Z (o6 oQ.params oQ.resultTypes):=by kernel_rfl
theorem a3W:(Xh a8P).isNone=A0:=by kernel_rfl
theorem a3X:(Xh a8Q).isNone=A0:=by kernel_rfl
theorem a3Y:(Xh oQ).isNone=A0:=by kernel_rfl
section
variable{P:Ac}{F:Nat->Prop}{so:Dr}{E:AN}
theorem a4m{row:Array A1->Sem A1}(f:∀l:List A1,l.length≠1->∃m,row ⟨l⟩=Vt m)(p:∀{x x':A1},AJ F E x x'->AG P F so (Ci F) E (row #[x]) (row #[x'])){a a':Array A1}(h:Ab F E a.toList a'.toList):AG P F so (Ci F) E (row a) (row a'):=by
 obtain⟨l⟩:=a;obtain⟨s⟩:=a';by_cases b:l.length=1;·match l,s,b,h with|[x],[x'],_,.cons hx .nil=>exact p hx
 ·obtain⟨m,e⟩:=f l b;rw[e];exact .stuck
end
theorem aDE(z:Bool):Calm A4 Cy (B4 XH z):=by
 refine⟨λf AE=>gr AE,λf AE E y a C A h=>?_⟩;rcases AE with(AE|AE)|AE;·have hb:=List.all_eq_true.1 zG f AE;unfold eU at hb;cases e:A4.funcs[f]? with|none=>rw[e]at hb;cases hb|some D=>rw[e]at hb;simp only[IP,aC]at hb;exact uP (AA (AA AE)) e hb.1 (by rw[a_O];exact hb.2) A h
 ·simp only[c6,Hw,H8,or_false]at AE;rcases AE with rfl|rfl|rfl|rfl|rfl|rfl;·exact NV a_6 (by kernel_rfl) (by kernel_rfl) a3W a'F λs m=>a4k (h.mono m)
  ·exact NV a_7 (by kernel_rfl) (by kernel_rfl) a3X a'G λs m=>SU (λl p=>match l,p with|[],_=>⟨_,rfl⟩|[_],_=>⟨_,rfl⟩|[_,_],h=>absurd rfl h|_::_::_::_,_=>⟨_,rfl⟩) (λhx hy=>a4X hx hy) (h.mono m)
  ·exact NV iU (by kernel_rfl) (by kernel_rfl) tz qn λs m=>SU (λl p=>match l,p with|[],_=>⟨_,rfl⟩|[_],_=>⟨_,rfl⟩|[_,_],h=>absurd rfl h|_::_::_::_,_=>⟨_,rfl⟩) (λhx hy=>uV (by kernel_rfl) (λb hb=>m _ _ (y b hb)) hx hy) (h.mono m)
  ·exact NV oU (by kernel_rfl) (by kernel_rfl) u' qo λs m=>SU (λl p=>match l,p with|[],_=>⟨_,rfl⟩|[_],_=>⟨_,rfl⟩|[_,_],h=>absurd rfl h|_::_::_::_,_=>⟨_,rfl⟩) (λhx hy=>uQ hx hy) (h.mono m)
  ·exact NV iV (by kernel_rfl) (by kernel_rfl) u0 qp λs m=>SU (λl p=>match l,p with|[],_=>⟨_,rfl⟩|[_],_=>⟨_,rfl⟩|[_,_],h=>absurd rfl h|_::_::_::_,_=>⟨_,rfl⟩) (λhx hy=>uU hx hy) (h.mono m)
  ·exact NV a_8 (by kernel_rfl) (by kernel_rfl) a3Y a'H λs m=>a4m (λl p=>match l,p with|[],_=>⟨_,rfl⟩|[_],h=>absurd rfl h|_::_::_,_=>⟨_,rfl⟩) (λhx=>a4e _ _ hx) (h.mono m)
 ·have x:Dc f≠[]:=AE.1;unfold Dc at x;split at x
  ·rename_i e;subst e;have hn:A4.funcs[4294967296]?=J:=by simpa using lz
   unfold Pw;refine .prog ?_;rw[hn];exact .stuck
  ·exact absurd rfl x
def zq(P:Ac)(f:Nat):Bool:=match P.funcs[f]? with
 |Z fn=>match fn.body with
  |Z c=>F8 P Dw Dc (Dc f) 8 c
  |J=>A5
 |J=>A5
theorem aE4:b6.all (zq A4)=A0:=by kernel_rfl
theorem a2v:c6.all (λf=>match A4.funcs[f]? with|Z fn=>fn.body.isNone|J=>A0)=A0:=by kernel_rfl
theorem ZH:Laid A4 Cy Dw XH 8:=by
 intro f s c AE b p;rcases AE with(AE|AE)|AE;·have h:=List.all_eq_true.1 aE4 f AE;unfold zq at h;simp only[b,p]at h;exact⟨h,by show Hi (Dc f)=[];rw[gr (AA AE)];rfl⟩
 ·have h:=List.all_eq_true.1 a2v f AE;rw[b]at h;simp only[p]at h;cases h
 ·have m:Dc f≠[]:=AE.1;unfold Dc at m;split at m
  ·rename_i e;subst e;have hn:A4.funcs[4294967296]?=J:=by simpa using lz
   rw[hn]at b;cases b
  ·exact absurd rfl m
theorem Pa:Static A4 Cy Dw XH 8:=⟨fit _,by kernel_rfl,aDE,Ra,ZH⟩
def M8:Nat->List Nat:=λf=>if f=4294967296 then[0]else if f=7 then[1000007]else[]
def ZQ:HC:=⟨M8,λ_=>True,λ_ _=>trivial,True,λ_=>trivial⟩
theorem aN5:Dw 7=A5:=by kernel_rfl
theorem a47(h:Cy f):M8 f=[]:=by
 have:=List.all_eq_true.1 a5a f (List.mem_append.2 h);have hlt:f<4294967296:=of_decide_eq_true this;have m:f≠7:=λe=>by
  subst e;have b:=aN5;unfold Dw at b;simp only[Bool.or_eq_false_iff]at b;rcases h with h|h;·simp[h]at b
  ·simp[h]at b
 unfold M8;rw[if_neg (by omega),if_neg m]
theorem WK(z:Bool):Calm A4 Cy (B4 ZQ z):=by
 refine⟨λf p=>a47 p,λf p E A a D C h=>?_⟩;rcases p with(p|p)|p;·have hb:=List.all_eq_true.1 zG f p;unfold eU at hb;cases e:A4.funcs[f]? with|none=>rw[e]at hb;cases hb|some H=>rw[e]at hb;simp only[IP,aC]at hb;exact uP (AA (AA p)) e hb.1 (by rw[a_O];exact hb.2) C h
 ·simp only[c6,Hw,H8,or_false]at p;rcases p with rfl|rfl|rfl|rfl|rfl|rfl;·exact NV a_6 (by kernel_rfl) (by kernel_rfl) a3W a'F λx m=>a4k (h.mono m)
  ·exact NV a_7 (by kernel_rfl) (by kernel_rfl) a3X a'G λx m=>SU (λl s=>match l,s with|[],_=>⟨_,rfl⟩|[_],_=>⟨_,rfl⟩|[_,_],h=>absurd rfl h|_::_::_::_,_=>⟨_,rfl⟩) (λhx hy=>a4X hx hy) (h.mono m)
  ·exact NV iU (by kernel_rfl) (by kernel_rfl) tz qn λx m=>SU (λl s=>match l,s with|[],_=>⟨_,rfl⟩|[_],_=>⟨_,rfl⟩|[_,_],h=>absurd rfl h|_::_::_::_,_=>⟨_,rfl⟩) (λhx hy=>uV (by kernel_rfl) (λb hb=>m _ _ (A b hb)) hx hy) (h.mono m)
  ·exact NV oU (by kernel_rfl) (by kernel_rfl) u' qo λx m=>SU (λl s=>match l,s with|[],_=>⟨_,rfl⟩|[_],_=>⟨_,rfl⟩|[_,_],h=>absurd rfl h|_::_::_::_,_=>⟨_,rfl⟩) (λhx hy=>uQ hx hy) (h.mono m)
  ·exact NV iV (by kernel_rfl) (by kernel_rfl) u0 qp λx m=>SU (λl s=>match l,s with|[],_=>⟨_,rfl⟩|[_],_=>⟨_,rfl⟩|[_,_],h=>absurd rfl h|_::_::_::_,_=>⟨_,rfl⟩) (λhx hy=>uU hx hy) (h.mono m)
  ·exact NV a_8 (by kernel_rfl) (by kernel_rfl) a3Y a'H λx m=>a4m (λl s=>match l,s with|[],_=>⟨_,rfl⟩|[_],h=>absurd rfl h|_::_::_,_=>⟨_,rfl⟩) (λhx=>a4e _ _ hx) (h.mono m)
 ·have NC:YN (M8 f):=p;have y:M8 f≠[]:=NC.1;unfold M8 at y;split at y
  ·rename_i e;subst e;have hn:A4.funcs[4294967296]?=J:=by simpa using lz
   unfold Pw;refine .prog ?_;rw[hn];exact .stuck
  ·split at y;·rename_i e;subst e;exact absurd NC.2 (by decide)
   ·exact absurd rfl y
def zr(P:Ac)(f:Nat):Bool:=match P.funcs[f]? with
 |Z fn=>match fn.body with
  |Z c=>F8 P Dw M8 (M8 f) 8 c
  |J=>A5
 |J=>A5
theorem aE5:b6.all (zr A4)=A0:=by kernel_rfl
theorem aK4:Laid A4 Cy Dw ZQ 8:=by
 intro f x c b p s;rcases b with(b|b)|b;·have h:=List.all_eq_true.1 aE5 f b;unfold zr at h;simp only[p,s]at h;exact⟨h,by show Hi (M8 f)=[];rw[a47 (AA b)];rfl⟩
 ·have h:=List.all_eq_true.1 a2v f b;rw[p]at h;simp only[s]at h;cases h
 ·have NC:YN (M8 f):=b;have m:M8 f≠[]:=NC.1;unfold M8 at m;split at m
  ·rename_i e;subst e;have hn:A4.funcs[4294967296]?=J:=by simpa using lz
   rw[hn]at p;cases p
  ·split at m;·rename_i e;subst e;exact absurd NC.2 (by decide)
   ·exact absurd rfl m
theorem v8:Static A4 Cy Dw ZQ 8:=⟨fit _,by kernel_rfl,WK,Ra,aK4⟩
end
section
open Go.Conc
variable{w:A'}{b:AY}{a:Act}{ops:Array Bf}{o:Bf}{cs:List AY}{q:List Cw}
section
variable{P:Ac}{F:Nat->Prop}{fb:Nat->Bool}{el:HC}{k:Nat}{Wb R:Nat->Prop}
def aC0(F:Nat->Prop)(Wb R:Nat->Prop)(m:Nat)(b:AY)(a:Act)(f:Option Tmp)(ops:Array Bf)(rest:List Nat)(q:List Cw)(cs:List AY)(Q:A1->A'->Prop)(g:AK)(w':A'):Prop:=∃e v h,g=G (b.at (a.put f v) (aY7 ops rest::q)) cs/\AJ F (D6 e) v v/\Q v h/\(∀b,R b->e b)/\w'.heap=h.heap/\Closed F Wb e w'/\(∀b,Wb b->b<w'.heap.size)/\∀b,e b->R b∨m<=b
def vk(b:Next)(v:A1):Prop:=b=aYD v∨b=aYU/\v=Y
theorem Tp(X:Static P F fb el k)(S5:∀b,el.J5 b){b0:AY}{i:Nat}{rest:List Nat}{ow:List Nat}{Q:A1->A'->Prop}(U:ops[i]?=Z o)(B:EY o (Gu ops a.tmps)=A0)(Kq:b0.kind≠aYR)(B8:PV P fb el.own ow k o.op=A0)(FN:Kz P o=A0)(LM:LX o.op=A5)(BJ:∀x∈opsOf o.op,AJ F (D6 R) (a.eval x) (a.eval x))(M:Closed F Wb R w)(S:∀b,Wb b->b<w.heap.size)(H0:∀T,∃u v z es,(AU a.eval o).runT P (on w T) #[]=(aY6 u z,es)/\vk u v/\Q v z):Ct P Wb (aC0 F Wb R w.heap.size b0 a o.dst ops rest q cs Q) (G (b0.at a (aY7 ops (i::rest)::q)) cs) w:=by
 refine .step rfl λd=>?_;have W:=M.wr (B4 el A0) w.tape;have OA:YR Wb (D6 R):=λb D x=>by rw[x.1];exact M.off b x.2
 have Gi:JZ (λ_=>False) (λ_=>False) (EM Wb w.heap.size) (D6 R):=λb D x=>AF ⟨λy=>y,(W.lt x).2,OA b D x⟩;have A2:=Bx.at (λ_=>False) (EM Wb w.heap.size) w d;have h:(w.at d).heap=w.heap:=rfl;generalize a1X:w.at d=A at A2 h;have m:=W.rely Gi A2 (join w.tape w.drawn w.tape w.drawn);obtain⟨u,v,z,es,Au,N,AD⟩:=H0 (join (join w.tape w.drawn w.tape w.drawn) w.drawn A.tape A.drawn);have AB:∀b,b<D4->(D6 R).rel b b:=λb e=>⟨rfl,M.EF b e⟩;have hs:AG P F (B4 el A5) (L6 P F el.own) (D6 R) (AU a.eval o) (AU a.eval o):=by have:=mS X.fit X.EF (X.calm (LX o.op)) AB (ρ:=a.eval) (ρ':=a.eval) (λv=>rfl) (λf=>rfl) (λf=>rfl) o k (mG X.sub B8) (mm FN) BJ λx _ b _=>S5 b;rw[LM]at this;exact this
 obtain⟨v2,XB,I,es',r1,r2,EI,p,Gp⟩:=AG.runs X.fit.JD (Pr:=λ_=>False) (RO:=λ_=>False) (λ_ x=>x) (λx=>by cases x) hs (⟨m.heap,m.tape,m.kept,m.low,m.even⟩:C3 F (B4 el A5) (λ_=>False) (D6 R) _ A) (es:=#[]) (es':=#[]) .nil Au;have QI:=p.X5 ⟨a1i R,h⟩;obtain⟨K,H,Rt⟩:=Yk (P:=P) (fn:=b0.fn) Gi (λb e=>e.elim) p Gp;have TU:∀b,Wb b->b<I.heap.size:=λb e=>by have:=S b e;have BH:=H.size;rw[h]at BH;omega
 have fq:YR Wb v2:=λb D x=>by
  have V1:GC (λ_=>False) (EM Wb A.heap.size) A I (IU P b0.fn es') K:=by rw[h];exact H
  have B_:=gY (λb e=>by rw[h];exact S b e) V1;rcases Rt b D x with⟨y,_⟩|⟨_,y⟩;·exact y.elim
  ·rw[B_]at y;exact y.2
 have MY:∀b,b<D4->v2.rel b b:=λb e=>p.le _ _ (AB b e);have FV:((b0.at a (aY7 ops (i::rest)::q)).kind==aYR)=A5:=by simpa[Frame.at]using Kq
 have Dk:∀s,(b0.at a (aY7 ops (i::rest)::q)).finish s=b0.at (a.put o.dst s) (aY7 ops rest::q):=λs=>by rw[KX,U];rfl
 obtain⟨C,rfl,F'⟩:=jg EI QI fq MY;have ER:∀b,R b->C b:=λb e=>(p.le b b ⟨rfl,e⟩).2;have D_:∀b,C b->R b∨w.heap.size<=b:=λb e=>(p.fresh b b ⟨rfl,e⟩).imp (·.2) (·.1);rcases N with rfl|⟨rfl,rfl⟩;·cases r2 with|value hv=>rename_i s;obtain rfl:=hv.same QI.1;refine⟨_,I,_,K,?_,H,.stop λd2=>⟨C,s,z,rfl,hv,AD,ER,QI.2,F'.same λ_ _=>rfl,TU,D_⟩⟩;rw[Sk U B,It FV r1 rfl,Dk];rfl
 ·cases r2;refine⟨_,I,_,K,?_,H,.stop λd2=>⟨C,Y,z,rfl,.tuple .nil,AD,ER,QI.2,F'.same λ_ _=>rfl,TU,D_⟩⟩;rw[Sk U B,It FV r1 rfl,Dk];rfl
theorem Ct.ctl{Stop:AK->A'->Prop}{g g':AK}(hs:g.status=aYF)(h:∀w,Be P A0 g w=aYE g' w #[])(k:Ct P Wb Stop g' w):Ct P Wb Stop g w:=by refine .step hs λd=>⟨g',w.at d,#[],EM Wb w.heap.size,h _,⟨AX _,λ_ _ _=>rfl,rfl,rfl,rfl,λb=>⟨λx=>AA x,λx=>x.elim id λy=>absurd y.2 (Nat.not_lt.2 y.1)⟩,λe he=>by simp at he⟩,k.at d⟩
theorem Ct.oper{Stop:AK->A'->Prop}{i:Nat}{rest:List Nat}{w2:A'}{v:A1}{es:Array By}(f:ops[i]?=Z o)(D:EY o (Gu ops a.tmps)=A0)(A:b.kind≠aYR)(h:∀d,(AU a.eval o).runT P (w.at d) #[]=(aY6 (aYD v) (w2.at d),es))(H:w2.heap.size=w.heap.size)(C:∀x,¬EM Wb w.heap.size x->w2.heap[x]?=w.heap[x]?)(S7:w2.os=w.os/\w2.output=w.output/\w2.tape=w.tape)(m:∀e∈es,KU (λ_=>False) (EM Wb w.heap.size) e)(k:Ct P Wb Stop (G (b.at (a.put o.dst v) (aY7 ops rest::q)) cs) w2):Ct P Wb Stop (G (b.at a (aY7 ops (i::rest)::q)) cs) w:=by
 have s:((b.at a (aY7 ops (i::rest)::q)).kind==aYR)=A5:=by simpa[Frame.at]using A
 have p:(b.at a (aY7 ops (i::rest)::q)).finish v=b.at (a.put o.dst v) (aY7 ops rest::q):=by rw[KX,f];rfl
 refine .step rfl λd=>⟨G (b.at (a.put o.dst v) (aY7 ops rest::q)) cs,w2.at d,IU P b.fn es,EM Wb w.heap.size,?_,⟨?_,λx _ hn=>C x hn,S7.1,S7.2.1,S7.2.2,λx=>⟨λy=>AA y,λy=>y.elim id λz=>?_⟩,λe he=>m e (aN he)⟩,k.at d⟩;·rw[Sk f D,It s (h d) rfl,p];rfl
 ·show w.heap.size<=w2.heap.size;omega
 ·have I:w.heap.size<=x:=z.1;have K:x<w2.heap.size:=z.2;omega
theorem Ct.pure{Stop:AK->A'->Prop}{i:Nat}{rest:List Nat}(v:A1)(m:ops[i]?=Z o)(p:EY o (Gu ops a.tmps)=A0)(f:b.kind≠aYR)(h:∀w,(AU a.eval o).runT P w #[]=(aY6 (aYD v) w,#[]))(k:Ct P Wb Stop (G (b.at (a.put o.dst v) (aY7 ops rest::q)) cs) w):Ct P Wb Stop (G (b.at a (aY7 ops (i::rest)::q)) cs) w:=.oper m p f (λd=>h _) rfl (λ_ _=>rfl) ⟨rfl,rfl,rfl⟩ (λe he=>by simp at he) k
end
end
section
open Go.Proofs.YtcfhleenecfghaaGreatDoor
open Go.Conc Go.RowKit
open Go.ConcR(Payload)
variable{Post:(Nat->Prop)->AK->A'->Prop}{w w':A'}{v x:A1}{Q W7:A1->A'->Prop}{c':AY}{t:A_}{P:Ac}{T args buf cs:Array A1}{tm:Bool}{ρ:C2->A1}{c:Cv}{fn:JG}{xs:List A1}{cs':List AY}{b cap f g n r:Nat}{R Wb:Nat->Prop}{p:Nat×Nat}{d8:Type}
theorem aQT{c s:Nat}(b:ρ (oM 24)=aYC (Z c))(hc:w.heap[c]?=Z (aYQ cap buf A5 s r tm)):(AU ρ (Tm.getD 1 Ag)).runT A4 w #[]=(aY6 (aYD (aY8 #[])) (w.setChan c cap buf A0 s r tm),#[⟨aYb c,A5,A0⟩,⟨aYb c,A0,A0⟩]):=by
 unfold AU;rw[aNQ];simp only[Y',Le,GU,K8,b];have h:(vo #[316] (Tm.getD 1 Ag).type #[aYC (Z c)]).runT A4 w #[]=(aY6 (aY8 #[]) (w.setChan c cap buf A0 s r tm),#[⟨aYb c,A5,A0⟩,⟨aYb c,A0,A0⟩]):=by unfold vo;change(Sem.getObj c _).runT A4 w #[]=_;simp only[DV,hc];change(Sem.setObj c _ _).runT A4 w _=_;simp only[DV,hc];rfl
 change(Dy (vo #[316] (Tm.getD 1 Ag).type #[aYC (Z c)]) _).runT A4 w #[]=_;rw[IK,h];rfl
theorem lA:∃i,A4.info? 234=Z i/\i.size=8/\i.bytes=136/\∃z,i.zero=Z z:=by
 have h:((A4.info? 234).map λi=>(i.size,i.bytes,i.zero.isSome))=Z (8,136,A0):=by kernel_rfl
 obtain⟨i,hi,h⟩:=Option.map_eq_some_iff.1 h;simp only[Ot]at h;obtain⟨z,b⟩:=Option.isSome_iff_exists.1 h.2.2;exact⟨i,hi,h.1,h.2.1,z,b⟩
theorem uu:A4.underlying 130=Z (.slice 234):=by kernel_rfl
theorem cO{s:Sem d8}{w1:A'}{v:d8}(h:s.run P w=aY6 v w1):∃b,s.runT P w #[]=(aY6 v w1,b):=by have:=PZ (P:=P) s w #[];rw[h]at this;exact⟨(s.runT P w #[]).2,by rw[<-this]⟩
theorem aQc(hc:ρ (aU7 (IS Po 0))=IS Po 0)(f:ρ (oM 26)=IS Po n)(hn:n<2147483648)(w:A'):∃b e,(AU ρ (Mg.getD 2 Ag)).runT A4 w #[]=(aY6 (aYD (As (Z ⟨w.heap.size,0,J⟩) 0 n)) b,e)/\b.ownsRow w.heap.size 234 8 (As (Z ⟨w.heap.size,0,J⟩) 0 n) 0 []/\w.grownBy b J:=by
 have s:(Mg.getD 2 Ag).op=aZ4 130 (aU7 (IS Po 0)) (oM 26):=by kernel_rfl
 obtain⟨i,hi,p,m,z,y⟩:=lA;obtain⟨b,x,h,h2⟩:=run_make_own (P:=A4) w w.heap.size 130 234 i z 8 uu hi y p Po Po n (by rw[m];omega) (by simp[BK];omega) (AX _);obtain⟨e,he⟩:=cO x;refine⟨b,e,?_,h,h2⟩;unfold AU;rw[s];simp only[hc,f];change(Dy (Instr.makeSlice 130 (IS Po 0) (IS Po n)) _).runT A4 w #[]=_;rw[IK,he];rfl
theorem uo(w:A')(c cap:Nat)(buf:Array A1)(cl:Bool)(s r:Nat)(tm:Bool):(w.setChan c cap buf cl s r tm).heap.size=w.heap.size:=by simp[df]
theorem um{c:Nat}{cl:Bool}{s:Nat}(h:b≠c):(w.setChan c cap buf cl s r tm).heap[b]?=w.heap[b]?:=by unfold df;simp[Array.getElem?_setIfInBounds,Ne.symm h]
noncomputable def ai:List Cw:=[aYn UW,aYk 2,aY9 Yb]
structure UZ(c:Nat)(B:Nat)(Wb Di:Nat->Prop)(got:List A1)(T:Array A1)(w:A'):Prop where
 size:T.size=39
 t28:T.getD 28 Y=aYC (Z c)
 own:w.ownsRow B 234 8 (T.getD 9 Y) (got.length) (got.flatMap λv=>v.cells.toList)
 vr:AJ Cy (D6 Di) (T.getD 9 Y) (T.getD 9 Y)
 closed:Closed Cy Wb Di w
 off:¬Di c
 low:∀b,Wb b->b<w.heap.size
theorem aST{cs:List AY}{B:Nat->Prop}{bl off AL c u s:Nat}(B3:T.size=39)(h1:T.getD 1 Y=As (Z ⟨bl,off,J⟩) n cap)(BH:T.getD 5 Y=Af AL)(QE:w.heap[AL]?=Z (BE #[aYC (Z c)] t p))(hc:w.heap[c]?=Z (aYQ u buf A5 s r tm))(bK:EM Wb w.heap.size AL)(kF:EM Wb w.heap.size c)(ru:Closed Cy Wb B w)(sM:¬B c)(E8:∀b,Wb b->b<w.heap.size)(hn:n<2147483648):Ct A4 Wb (λg w'=>∃DN Lj,g=G ((B6 126).at ⟨DN,[]⟩ (aY9 UW::ai)) cs/\UZ c w.heap.size Wb Lj [] DN w'/\(∀b,B b->Lj b)/\(∀b,Lj b->B b∨w.heap.size<=b)/\w'.heap[c]?=Z (aYQ u buf A0 s r tm)/\(∀b,b<w.heap.size->b≠c->w'.heap[b]?=w.heap[b]?)/\w.heap.size<=w'.heap.size) (G ((B6 126).at ⟨T,[]⟩ [aY7 SO [],aY9 Q6]) cs) w:=by
 have md:AL≠c:=λe=>by rw[e,hc]at QE;cases QE
 rw[aD9];refine .ctl rfl (λ_=>Hf) ?_;refine .ctl rfl (λ_=>GB) ?_;refine .ctl rfl (λ_=>Hu) ?_;rw[show H9 Tm.size=[0,1]by kernel_rfl];refine .oper (w2:=w) (v:=aYC (Z c)) (es:=#[⟨aYM ⟨AL,0,J⟩,A5,A5⟩]) (Eh (by rw[a6b];omega)) (by kernel_rfl) (by simp[B6]) (λd=>a5N (w:=w.at d) aNO (ρ:=Cu ⟨T,[]⟩) BH QE) rfl (λ_ _=>rfl) ⟨rfl,rfl,rfl⟩ (λe he=>?_) ?_;·simp only[UT,ak]at he;subst he;exact .cell _ _ (AA bK)
 rw[show(Tm.getD 0 Ag).dst=Z 24 by kernel_rfl];show Ct A4 Wb _ (G ((B6 126).at ⟨T.setIfInBounds 24 (aYC (Z c)),[]⟩ _) cs) w;have GH:(T.setIfInBounds 24 (aYC (Z c))).size=39:=by simpa using B3
 have M:(T.setIfInBounds 24 (aYC (Z c))).getD 24 Y=aYC (Z c):=FK (by rw[B3];omega);have g1:(T.setIfInBounds 24 (aYC (Z c))).getD 1 Y=As (Z ⟨bl,off,J⟩) n cap:=by rw[Bo (by omega)];exact h1
 have Ri:(T.setIfInBounds 24 (aYC (Z c))).getD 5 Y=Af AL:=by rw[Bo (by omega)];exact BH
 generalize T.setIfInBounds 24 (aYC (Z c))=m at GH M g1 Ri;refine .oper (w2:=w.setChan c u buf A0 s r tm) (v:=aY8 #[]) (es:=#[⟨aYb c,A5,A0⟩,⟨aYb c,A0,A0⟩]) (Eh (by rw[a6b];omega)) (by kernel_rfl) (by simp[B6]) (λd=>aQT (w:=w.at d) (ρ:=Cu ⟨m,[]⟩) M hc) (uo ..) (λx hx=>um λe=>hx (e▸kF)) ⟨rfl,rfl,rfl⟩ (λe he=>?_) ?_;·simp only[UT,Hw,H8,or_false]at he;rcases he with rfl|rfl<;>exact .obj _ _ (AA kF)
 rw[show(Tm.getD 1 Ag).dst=J by kernel_rfl];show Ct A4 Wb _ (G ((B6 126).at ⟨m,[]⟩ _) cs) _;have bU:(w.setChan c u buf A0 s r tm).heap[c]?=Z (aYQ u buf A0 s r tm):=a7I w c u buf A0 s r tm (Array.getElem?_eq_some_iff.1 hc).1;have F0:∀b,b≠c->(w.setChan c u buf A0 s r tm).heap[b]?=w.heap[b]?:=λb A=>um A;have K:(w.setChan c u buf A0 s r tm).heap.size=w.heap.size:=uo ..;generalize w.setChan c u buf A0 s r tm=w2 at bU F0 K;have rs:Closed Cy Wb B w2:=ru.same λb A=>F0 b λe=>sM (e▸A);have TU:∀b,Wb b->b<w2.heap.size:=λb A=>by rw[K];exact E8 b A
 refine .ctl rfl (λ_=>Hf) ?_;refine .ctl rfl (λ_=>GB) ?_;refine .ctl rfl (λ_=>Hu) ?_;rw[show H9 Mg.size=[0,1,2,3]by kernel_rfl];refine .pure (As (Z ⟨bl,off,J⟩) n cap) (Eh (by rw[hQ];omega)) (by kernel_rfl) (by simp[B6]) (aQe (ρ:=Cu ⟨m,[]⟩) g1) ?_;rw[show(Mg.getD 0 Ag).dst=Z 25 by kernel_rfl];show Ct A4 Wb _ (G ((B6 126).at ⟨m.setIfInBounds 25 _,[]⟩ _) cs) w2;have G0:(m.setIfInBounds 25 (As (Z ⟨bl,off,J⟩) n cap)).size=39:=by simpa using GH
 have N:(m.setIfInBounds 25 (As (Z ⟨bl,off,J⟩) n cap)).getD 25 Y=As (Z ⟨bl,off,J⟩) n cap:=FK (by rw[GH];omega);have S:(m.setIfInBounds 25 (As (Z ⟨bl,off,J⟩) n cap)).getD 5 Y=Af AL:=by rw[Bo (by omega)];exact Ri
 generalize m.setIfInBounds 25 (As (Z ⟨bl,off,J⟩) n cap)=D at G0 N S;refine .pure (IS Po n) (Eh (by rw[hQ];omega)) (by kernel_rfl) (by simp[B6]) (aQa (ρ:=Cu ⟨D,[]⟩) N) ?_;rw[show(Mg.getD 1 Ag).dst=Z 26 by kernel_rfl];show Ct A4 Wb _ (G ((B6 126).at ⟨D.setIfInBounds 26 _,[]⟩ _) cs) w2;have KN:(D.setIfInBounds 26 (IS Po n)).size=39:=by simpa using G0
 have r3:(D.setIfInBounds 26 (IS Po n)).getD 26 Y=IS Po n:=FK (by rw[G0];omega);have W:(D.setIfInBounds 26 (IS Po n)).getD 5 Y=Af AL:=by rw[Bo (by omega)];exact S
 generalize D.setIfInBounds 26 (IS Po n)=z at KN r3 W;have kn:(Mg.getD 2 Ag).op=aZ4 130 (aU7 (IS Po 0)) (oM 26):=by kernel_rfl
 refine(Tp Pa (λ_=>trivial) (Wb:=Wb) (R:=B) (ow:=[]) (Q:=λv C=>v=As (Z ⟨w2.heap.size,0,J⟩) 0 n/\C.ownsRow w2.heap.size 234 8 v 0 []/\w2.heap.size<=C.heap.size/\∀k,k<w2.heap.size->C.heap[k]?=w2.heap[k]?) (Eh (by rw[hQ];omega)) (by kernel_rfl) (by simp[B6]) (by rw[kn];rfl) (by unfold Kz;rw[kn]) (by rw[kn];rfl) ?_ rs TU ?_).bind ?_
 ·intro x hx;rw[kn]at hx;simp only[opsOf,Dn,UT,Hw,H8,or_false]at hx;rcases hx with rfl|rfl;·exact .int _ _
  ·show AJ Cy (D6 B) (z.getD 26 Y) (z.getD 26 Y);rw[r3];exact .int _ _
 ·intro T0;obtain⟨C,es,e1,e2,DF⟩:=aQc (ρ:=Cu ⟨z,[]⟩) (n:=n) rfl r3 hn (on w2 T0);exact⟨_,_,C,es,e1,AA rfl,rfl,e2,DF.size,λk hk=>DF.block k hk (by simp)⟩
 rintro g f⟨Rb,v,C,rfl,hv,⟨rfl,AQ,Wo,KJ⟩,ER,X,fK,fh,D_⟩;rw[show(Mg.getD 2 Ag).dst=Z 27 by kernel_rfl];show Ct A4 Wb _ (G ((B6 126).at ⟨z.setIfInBounds 27 _,[]⟩ _) cs) f;have LK:(z.setIfInBounds 27 (As (Z ⟨w2.heap.size,0,J⟩) 0 n)).size=39:=by simpa using KN
 have U:(z.setIfInBounds 27 (As (Z ⟨w2.heap.size,0,J⟩) 0 n)).getD 27 Y=As (Z ⟨w2.heap.size,0,J⟩) 0 n:=FK (by rw[KN];omega);have QU:(z.setIfInBounds 27 (As (Z ⟨w2.heap.size,0,J⟩) 0 n)).getD 5 Y=Af AL:=by rw[Bo (by omega)];exact W
 generalize z.setIfInBounds 27 (As (Z ⟨w2.heap.size,0,J⟩) 0 n)=H at LK U QU;refine .pure (As (Z ⟨w2.heap.size,0,J⟩) 0 n) (Eh (by rw[hQ];omega)) (by kernel_rfl) (by simp[B6]) (aQN (ρ:=Cu ⟨H,[]⟩) U) ?_;rw[show(Mg.getD 3 Ag).dst=Z 9 by kernel_rfl];show Ct A4 Wb _ (G ((B6 126).at ⟨H.setIfInBounds 9 _,[]⟩ _) cs) f;have PK:(H.setIfInBounds 9 (As (Z ⟨w2.heap.size,0,J⟩) 0 n)).size=39:=by simpa using LK
 have r4:(H.setIfInBounds 9 (As (Z ⟨w2.heap.size,0,J⟩) 0 n)).getD 9 Y=As (Z ⟨w2.heap.size,0,J⟩) 0 n:=FK (by rw[LK];omega);have tS:(H.setIfInBounds 9 (As (Z ⟨w2.heap.size,0,J⟩) 0 n)).getD 5 Y=Af AL:=by rw[Bo (by omega)];exact QU
 generalize H.setIfInBounds 9 (As (Z ⟨w2.heap.size,0,J⟩) 0 n)=I at PK r4 tS;refine .ctl rfl (λ_=>Hf) ?_;refine .ctl rfl (λ_=>GB) ?_;refine .ctl rfl (λ_=>GB) ?_;refine .ctl rfl (λ_=>Hu) ?_;rw[show H9 gk.size=[0]by kernel_rfl];have aH2:f.heap[AL]?=Z (BE #[aYC (Z c)] t p):=by rw[X,KJ AL (by rw[K];exact bK.1),F0 AL md];exact QE
 have bo:w.heap.size<=f.heap.size:=by rw[X];omega
 refine .oper (w2:=f) (v:=aYC (Z c)) (es:=#[⟨aYM ⟨AL,0,J⟩,A5,A5⟩]) (Eh (by rw[z12];omega)) (by kernel_rfl) (by simp[B6]) (λd=>a5N (w:=f.at d) aNP (ρ:=Cu ⟨I,[]⟩) tS aH2) rfl (λ_ _=>rfl) ⟨rfl,rfl,rfl⟩ (λe he=>?_) ?_;·simp only[UT,ak]at he;subst he;exact .cell _ _ (AA ⟨by have:=bK.1;show AL<f.heap.size;omega,bK.2⟩)
 rw[show(gk.getD 0 Ag).dst=Z 28 by kernel_rfl];show Ct A4 Wb _ (G ((B6 126).at ⟨I.setIfInBounds 28 _,[]⟩ _) cs) f;have T_:(I.setIfInBounds 28 (aYC (Z c))).size=39:=by simpa using PK
 have a2X:(I.setIfInBounds 28 (aYC (Z c))).getD 28 Y=aYC (Z c):=FK (by rw[PK];omega);have td:(I.setIfInBounds 28 (aYC (Z c))).getD 9 Y=As (Z ⟨w2.heap.size,0,J⟩) 0 n:=by rw[Bo (by omega)];exact r4
 generalize I.setIfInBounds 28 (aYC (Z c))=Li at T_ a2X td;refine .ctl rfl (λ_=>Hf) ?_;refine .ctl rfl (λ_=>dC) ?_;refine .ctl rfl (λ_=>a7O) ?_;refine .stop λd=>⟨Li,Rb,rfl,⟨T_,a2X,?_,?_,fK.same λ_ _=>rfl,λh=>?_,fh⟩,ER,λb A=>?_,?_,λb A KI=>?_,bo⟩;·rw[td];rw[K]at AQ;have e:(f.at d).heap=C.heap:=X;rcases AQ with⟨x,y⟩;refine⟨x,?_⟩;rw[e];simpa[K]using y
 ·rw[td];exact hv
 ·rcases D_ c h with h|h;·exact sM h
  ·have:=kF.1;omega
 ·rcases D_ b A with h|h;·exact AA h
  ·exact AF (by omega)
 ·show f.heap[c]?=_;rw[X,KJ c (by rw[K];exact kF.1)];exact bU
 ·show f.heap[b]?=_;rw[X,KJ b (by omega)];exact F0 b KI
theorem hS:∃i z,A4.info? 234=Z i/\i.size=8/\i.bytes=136/\i.zero=Z z/\z.cells.size=8:=by
 have h:((A4.info? 234).map λi=>(i.size,i.bytes,i.zero.map λz=>z.cells.size))=Z (8,136,Z 8):=by kernel_rfl
 obtain⟨i,hi,h⟩:=Option.map_eq_some_iff.1 h;simp only[Ot]at h;obtain⟨z,e,b⟩:=Option.map_eq_some_iff.1 h.2.2;exact⟨i,z,hi,h.1,h.2.1,e,b⟩
theorem aRr{p:Ac}(h:(match p.underlying t with|Z (aYu _)=>A0|_=>A5)=A0):∃b,p.underlying t=Z (aYu b):=by cases e:p.underlying t with|none=>rw[e]at h;cases h|some d=>rw[e]at h;cases d with|struct b=>exact⟨b,rfl⟩|_=>cases h
theorem aRp:∃b,A4.underlying 234=Z (aYu b):=aRr (by kernel_rfl)
theorem mg:(A4.info? 234).map (·.size)=Z 8:=by kernel_rfl
theorem aQK(w:A'):∃z b,z.size=8/\(AU ρ (Mh.getD 1 Ag)).runT A4 w #[]=(aY6 (aYD (Af w.heap.size)) (w.alloc (BE z 234)),b):=by
 have f:(Mh.getD 1 Ag).op=aZK 234:=by kernel_rfl
 obtain⟨i,z,hi,_,_,m,e⟩:=hS;have h:(AU ρ (Mh.getD 1 Ag)).run A4 w=aY6 (aYD (Af w.heap.size)) (w.alloc (BE z.cells 234)):=by unfold AU;rw[f];simp[Instr.alloc,RM,RL,hi,m,newVar,newRow]
 obtain⟨b,he⟩:=cO h;exact⟨z.cells,b,e,he⟩
theorem aQl{old:Array A1}(f:ρ (oM 10)=Af g)(h:ρ (oM 31)=dd cs)(m:w.heap[g]?=Z (BE old 234 (0,0)))(x:old.size=8)(hc:cs.size=8)(e:cs.all (·.oneCell')=A0):∃b,(AU ρ (Mh.getD 2 Ag)).runT A4 w #[]=(aY6 aYU (w.setRow g cs),b):=by
 have p:(Mh.getD 2 Ag).op=aZg 234 (oM 10) (oM 31):=by kernel_rfl
 have s:(AU ρ (Mh.getD 2 Ag)).run A4 w=aY6 aYU (w.setRow g cs):=by unfold AU;rw[p];simp only[f,h];have:=run_storeVar_row (P:=A4) w g 234 234 old cs m (by rw[hc];exact mg) (by omega) e;simp[Instr.storeAt,dL,this]
 exact cO s
theorem aQb(e:ρ (oM 10)=Af g)(h:w.heap[g]?=Z (BE cs 234 (0,0)))(hc:cs.size=8):∃b,(AU ρ (II.getD 1 Ag)).runT A4 w #[]=(aY6 (aYD (dd cs)) w,b):=by
 have m:(II.getD 1 Ag).op=aYf 234 (oM 10):=by kernel_rfl
 obtain⟨s,f⟩:=aRp;have p:(AU ρ (II.getD 1 Ag)).run A4 w=aY6 (aYD (dd cs)) w:=by unfold AU;rw[m];simp only[e];have:=run_loadVar_row (P:=A4) w g 234 234 cs (0,0) _ h f rfl (by rw[hc];exact mg);simp[Instr.loadAt,dL,this]
 exact cO p
theorem eight{a:Array d8}(h:a.size=8):∃b e f m p s x y,a=#[b,e,f,m,p,s,x,y]:=by obtain⟨l⟩:=a;match l,h with|[b,e,f,m,p,s,x,y],_=>exact⟨b,e,f,m,p,s,x,y,rfl⟩
theorem aFS{u:Array A1}(hc:cs.size=8)(b:u.size=8):UD (λi=>Z (i*8,8)) u [(0,dd cs)]=Z cs:=by obtain⟨e,f,h,m,p,s,x,y,rfl⟩:=eight hc;obtain⟨z,A,C,D,H,I,K,M,rfl⟩:=eight b;simp[UD,de]
theorem aQR(w:A')(b:ρ (oM 33)=dd cs)(hc:cs.size=8):∃e,(AU ρ (II.getD 2 Ag)).runT A4 w #[]=(aY6 (aYD (As (Z ⟨w.heap.size,0,J⟩) 1 1)) (w.alloc (BE cs 234)),e):=by
 have h:(II.getD 2 Ag).op=aZL 130 1 #[(0,oM 33)]:=by kernel_rfl
 obtain⟨i,z,hi,f,_,p,s⟩:=hS;have m:(AU ρ (II.getD 2 Ag)).run A4 w=aY6 (aYD (As (Z ⟨w.heap.size,0,J⟩) 1 1)) (w.alloc (BE cs 234)):=by unfold AU;rw[h];simp only[Le,GU,K8,b];simp[Instr.buildSlice,run_underlying uu,sizeOf,RL,hi,f,RM,p,aFS hc,newRow]
 exact cO m
theorem aQL{B k:Nat}(p:ρ (oM 32)=v)(s:ρ (oM 34)=As (Z ⟨g,0,J⟩) 1 1)(I:w.heap[g]?=Z (BE cs 234 (0,0)))(hc:cs.size=8)(A:cs.all (·.oneCell')=A0)(y:w.ownsRow B 234 8 v k xs)(hk:k<2147483648)(H:B<=w.heap.size):∃h f m,(AU ρ (II.getD 3 Ag)).runT A4 w #[]=(aY6 (aYD h) f,m)/\f.ownsRow B 234 8 h (k+1) (xs++cs.toList)/\w.heap.size<=f.heap.size/\∀b,b<B->f.heap[b]?=w.heap[b]?:=by
 have N:(II.getD 3 Ag).op=a8E {callee:=aYV .append,args:=#[oM 32,oM 34],argTypes:=#[130,130]}:=by kernel_rfl
 obtain⟨i,z,hi,K,C,U,D⟩:=hS;have M:∀(j:Nat)(u:A1),cs.toList[j]?=Z u->w.cell? ((⟨g,0,J⟩:Aa).add j)=Z u:=by
  intro j u hu;have x:cs[j]?=Z u:=by simpa using hu
  rw[Addr.add_lit];simp[F3,I,x]
 obtain⟨h,f,Q,h2,h3,_⟩:=run_append_own (P:=A4) w B 130 (II.getD 3 Ag).type 234 i z 8 136 uu hi U K C D (by omega) v k xs y ⟨g,0,J⟩ 1 1 cs.toList (by simp[hc]) M (λu hu=>(Array.all_eq_true_iff_forall_mem.1 A) u (by simpa using hu)) (by simp[BK];omega) (by omega) H
 ·obtain⟨m,he⟩:=cO Q;refine⟨h,f,m,?_,h2,h3.size,λb hb=>h3.block b (by omega) λe=>?_⟩;·unfold AU;rw[N];simp only[Y',Le,GU,K8,p,s];change(Dy (U9 #[130,130] (II.getD 3 Ag).type #[v,As (Z ⟨g,0,J⟩) 1 1]) _).runT A4 w #[]=_;rw[IK,he];rfl
  ·have:=(y.lt b e.symm).1;omega
structure YP(Di:Nat->Prop)(x:A1)(cs:Array A1):Prop where
 is:x=dd cs
 size:cs.size=8
 one:cs.all (·.oneCell')=A0
 vr:Ab Cy (D6 Di) cs.toList cs.toList
theorem YP.mono{e m:Nat->Prop}{x:A1}{cs:Array A1}(h:YP e x cs)(k:∀b,e b->m b):YP m x cs:=⟨h.is,h.size,h.one,h.vr.mono (OK k)⟩
theorem a4D{B k:Nat}(h:w.ownsRow B 234 8 v k xs)(e:w'.heap=w.heap):w'.ownsRow B 234 8 v k xs:=by obtain⟨x,y⟩:=h;refine⟨x,?_⟩;rw[e];exact y
theorem uD{B k:Nat}(h:w.ownsRow B 234 8 v k xs)(e:∀b,b<w.heap.size->w'.heap[b]?=w.heap[b]?):w'.ownsRow B 234 8 v k xs:=by obtain⟨x,y⟩:=h;refine⟨x,y.imp id ?_⟩;rintro⟨g,f,m,p,h2,h3,h4⟩;exact⟨g,f,m,p,h2,by rw[e g (Array.getElem?_eq_some_iff.1 h3).1];exact h3,h4⟩
theorem aQy{old:Array A1}(h:w.heap[g]?=Z (BE old t p)):(w.setRow g cs).heap[g]?=Z (BE cs t p):=by unfold aA4;rw[VK _ _ _ h]
theorem aQz(h:b≠g):(w.setRow g cs).heap[b]?=w.heap[b]?:=Mf _ _ _ h
theorem setRow_size(w:A')(g:Nat)(cs:Array A1):(w.setRow g cs).heap.size=w.heap.size:=by simp[aA4]
theorem aQf(h:ρ (oM 9)=x)(w:A'):(AU ρ (II.getD 0 Ag)).runT A4 w #[]=(aY6 (aYD x) w,#[]):=by
 have b:(II.getD 0 Ag).op=aYg (oM 9):=by kernel_rfl
 unfold AU;rw[b];simp[h]
theorem aQO(h:ρ (oM 35)=x)(w:A'):(AU ρ (II.getD 4 Ag)).runT A4 w #[]=(aY6 (aYD x) w,#[]):=by
 have b:(II.getD 4 Ag).op=aYt (oM 35):=by kernel_rfl
 unfold AU;rw[b];simp[h]
noncomputable def Vz:List Cw:=aY9 (aYB (aZB (oM 30) aZD (aZC 2)) (aYi 3 e3))::ai
theorem aFx{fs:List AY}{Di:Nat->Prop}{c B:Nat}{got:List A1}(h:UZ c B Wb Di got T w)(hx:YP Di x cs)(hk:got.length<2147483647)(DC:B<=w.heap.size)(bS:c<B):Ct A4 Wb (λg w'=>∃DN Lj,g=G ((B6 126).at ⟨DN,[]⟩ (aY9 UW::ai)) fs/\UZ c B Wb Lj (got++[x]) DN w'/\(∀b,Di b->Lj b)/\(∀b,b<B->w'.heap[b]?=w.heap[b]?)/\w.heap.size<=w'.heap.size) (G ((B6 126).at ⟨T.setIfInBounds 29 (aY8 #[x,aY5 A0]),[]⟩ (aY7 Kx [1]::Vz)) fs) w:=by
 have LJ:(T.setIfInBounds 29 (aY8 #[x,aY5 A0])).size=39:=by simpa using h.size
 have b3:(T.setIfInBounds 29 (aY8 #[x,aY5 A0])).getD 29 Y=aY8 #[x,aY5 A0]:=FK (by rw[h.size];omega);have eO:(T.setIfInBounds 29 (aY8 #[x,aY5 A0])).getD 28 Y=aYC (Z c):=by rw[Bo (by omega)];exact h.t28
 have a9:(T.setIfInBounds 29 (aY8 #[x,aY5 A0])).getD 9 Y=T.getD 9 Y:=Bo (by omega);generalize T.setIfInBounds 29 (aY8 #[x,aY5 A0])=p at LJ b3 eO a9;have AQ:=h.own;have Kv:=h.vr;have Hj:=h.closed;have OA:=h.off;have E8:=h.low;generalize T.getD 9 Y=m at a9 AQ Kv;refine .pure (aY5 A0) (Eh (by rw[hR];omega)) (by kernel_rfl) (by simp[B6]) (a5L (ρ:=Cu ⟨p,[]⟩) b3) ?_;rw[show(Kx.getD 1 Ag).dst=Z 30 by kernel_rfl];show Ct A4 Wb _ (G ((B6 126).at ⟨p.setIfInBounds 30 _,[]⟩ _) fs) w;have GH:(p.setIfInBounds 30 (aY5 A0)).size=39:=by simpa using LJ
 have JM:(p.setIfInBounds 30 (aY5 A0)).getD 30 Y=aY5 A0:=FK (by rw[LJ];omega);have z7:(p.setIfInBounds 30 (aY5 A0)).getD 29 Y=aY8 #[x,aY5 A0]:=by rw[Bo (by omega)];exact b3
 have eR:(p.setIfInBounds 30 (aY5 A0)).getD 28 Y=aYC (Z c):=by rw[Bo (by omega)];exact eO
 have WJ:(p.setIfInBounds 30 (aY5 A0)).getD 9 Y=m:=by rw[Bo (by omega)];exact a9
 generalize p.setIfInBounds 30 (aY5 A0)=S at GH JM z7 eR WJ;refine .ctl rfl (λ_=>Hf) ?_;unfold Vz;refine .ctl rfl (λ_=>GB) ?_;refine .ctl rfl (λ_=>hl (t:=A0) JM) ?_;refine .ctl rfl (λ_=>a7P) ?_;refine .ctl rfl (λ_=>dC) ?_;rw[aBG];refine .ctl rfl (λ_=>GB) ?_;refine .ctl rfl (λ_=>Hu) ?_;rw[show H9 Mh.size=[0,1,2]by kernel_rfl];refine .pure x (Eh (by rw[n9];omega)) (by kernel_rfl) (by simp[B6]) (aQU (ρ:=Cu ⟨S,[]⟩) z7) ?_;rw[show(Mh.getD 0 Ag).dst=Z 31 by kernel_rfl];show Ct A4 Wb _ (G ((B6 126).at ⟨S.setIfInBounds 31 _,[]⟩ _) fs) w;have G0:(S.setIfInBounds 31 x).size=39:=by simpa using GH
 have zO:(S.setIfInBounds 31 x).getD 31 Y=dd cs:=(FK (by rw[GH];omega)).trans hx.is;have zN:(S.setIfInBounds 31 x).getD 28 Y=aYC (Z c):=by rw[Bo (by omega)];exact eR
 have zQ:(S.setIfInBounds 31 x).getD 9 Y=m:=by rw[Bo (by omega)];exact WJ
 generalize S.setIfInBounds 31 x=u at G0 zO zN zQ;have mB:(Mh.getD 1 Ag).op=aZK 234:=by kernel_rfl
 refine(Tp Pa (λ_=>trivial) (Wb:=Wb) (R:=Di) (ow:=[]) (Q:=λv f=>v=Af w.heap.size/\∃z:Array A1,z.size=8/\f.heap=w.heap.push (BE z 234)) (Eh (by rw[n9];omega)) (by kernel_rfl) (by simp[B6]) (by rw[mB];rfl) (by unfold Kz;rw[mB]) (by rw[mB];rfl) ?_ Hj E8 ?_).bind ?_;·intro y hy;rw[mB]at hy;simp[opsOf,Dn]at hy
 ·intro p;obtain⟨z,M,AR,e1⟩:=aQK (ρ:=Cu ⟨u,[]⟩) (on w p);exact⟨_,_,_,M,e1,AA rfl,rfl,z,AR,rfl⟩
 rintro g w3⟨Rb,v,f,rfl,ZD,⟨rfl,z,AR,s⟩,fe,TS,fK,fh,sP⟩;rw[show(Mh.getD 1 Ag).dst=Z 10 by kernel_rfl];show Ct A4 Wb _ (G ((B6 126).at ⟨u.setIfInBounds 10 _,[]⟩ _) fs) w3;have KN:(u.setIfInBounds 10 (Af w.heap.size)).size=39:=by simpa using G0
 have ec:(u.setIfInBounds 10 (Af w.heap.size)).getD 10 Y=Af w.heap.size:=FK (by rw[G0];omega);have qO:(u.setIfInBounds 10 (Af w.heap.size)).getD 31 Y=dd cs:=by rw[Bo (by omega)];exact zO
 have zv:(u.setIfInBounds 10 (Af w.heap.size)).getD 28 Y=aYC (Z c):=by rw[Bo (by omega)];exact zN
 have qP:(u.setIfInBounds 10 (Af w.heap.size)).getD 9 Y=m:=by rw[Bo (by omega)];exact zQ
 generalize u.setIfInBounds 10 (Af w.heap.size)=C at KN ec qO zv qP;have a0W:w3.heap[w.heap.size]?=Z (BE z 234 (0,0)):=by rw[TS,s];simp
 have bo:w3.heap.size=w.heap.size+1:=by rw[TS,s];simp
 have a1H:∀b,b<w.heap.size->w3.heap[b]?=w.heap[b]?:=λb D=>by rw[TS,s,H4 D,ET D]
 have QN:w3.ownsRow B 234 8 m got.length (got.flatMap λv=>v.cells.toList):=uD AQ a1H;have aIQ:¬Rb c:=λy=>(sP c y).elim OA λy=>by omega
 have aJB:AJ Cy (D6 Rb) m m:=Kv.mono (OK fe);have aJM:=hx.mono fe;clear TS s sP f;have mC:(Mh.getD 2 Ag).op=aZg 234 (oM 10) (oM 31):=by kernel_rfl
 refine(Tp Pa (λ_=>trivial) (Wb:=Wb) (R:=Rb) (ow:=[]) (Q:=λv f=>f.heap=(w3.setRow w.heap.size cs).heap) (Eh (by rw[n9];omega)) (by kernel_rfl) (by simp[B6]) (by rw[mC];rfl) (by unfold Kz;rw[mC]) (by rw[mC];rfl) ?_ fK fh ?_).bind ?_
 ·intro y hy;rw[mC]at hy;simp only[opsOf,Dn,Hw,H8,or_false]at hy;rcases hy with rfl|rfl;·show AJ Cy (D6 Rb) (C.getD 10 Y) (C.getD 10 Y);rw[ec];exact ZD
  ·show AJ Cy (D6 Rb) (C.getD 31 Y) (C.getD 31 Y);rw[qO];exact .agg aJM.vr
 ·intro p;obtain⟨M,e1⟩:=aQl (ρ:=Cu ⟨C,[]⟩) (w:=on w3 p) ec qO a0W AR hx.size hx.one;exact⟨_,Y,_,M,e1,AF ⟨rfl,rfl⟩,rfl⟩
 rintro g N⟨W,v,f,rfl,_,s,ff,QH,aH9,aHz,a0w⟩;rw[show(Mh.getD 2 Ag).dst=J by kernel_rfl];show Ct A4 Wb _ (G ((B6 126).at ⟨C,[]⟩ _) fs) N;have kT:N.heap[w.heap.size]?=Z (BE cs 234 (0,0)):=by rw[QH,s];exact aQy a0W
 have kz:N.heap.size=w.heap.size+1:=by rw[QH,s,setRow_size,bo]
 have kv:∀b,b<w.heap.size->N.heap[b]?=w.heap[b]?:=λb D=>by rw[QH,s,aQz (by omega)];exact a1H b D
 have Wz:N.ownsRow B 234 8 m got.length (got.flatMap λv=>v.cells.toList):=uD AQ kv;have aIR:¬W c:=λy=>(a0w c y).elim aIQ λy=>by omega
 have aJC:AJ Cy (D6 W) m m:=aJB.mono (OK ff);have gI:AJ Cy (D6 W) (Af w.heap.size) (Af w.heap.size):=ZD.mono (OK ff);have aHt:∀b,Di b->W b:=λb D=>ff b (fe b D);clear QH s a0w f;refine .ctl rfl (λ_=>Hf) ?_;refine .ctl rfl (λ_=>Hu) ?_;rw[show H9 II.size=[0,1,2,3,4]by kernel_rfl];refine .pure m (Eh (by rw[cj];omega)) (by kernel_rfl) (by simp[B6]) (aQf (ρ:=Cu ⟨C,[]⟩) qP) ?_;rw[show(II.getD 0 Ag).dst=Z 32 by kernel_rfl];show Ct A4 Wb _ (G ((B6 126).at ⟨C.setIfInBounds 32 _,[]⟩ _) fs) N;have LK:(C.setIfInBounds 32 m).size=39:=by simpa using KN
 have acc:(C.setIfInBounds 32 m).getD 32 Y=m:=FK (by rw[KN];omega);have Q8:(C.setIfInBounds 32 m).getD 10 Y=Af w.heap.size:=by rw[Bo (by omega)];exact ec
 have a85:(C.setIfInBounds 32 m).getD 28 Y=aYC (Z c):=by rw[Bo (by omega)];exact zv
 generalize C.setIfInBounds 32 m=I at LK acc Q8 a85;have mD:(II.getD 1 Ag).op=aYf 234 (oM 10):=by kernel_rfl
 refine(Tp Pa (λ_=>trivial) (Wb:=Wb) (R:=W) (ow:=[]) (Q:=λv f=>v=dd cs/\f.heap=N.heap) (Eh (by rw[cj];omega)) (by kernel_rfl) (by simp[B6]) (by rw[mD];rfl) (by unfold Kz;rw[mD]) (by rw[mD];rfl) ?_ aH9 aHz ?_).bind ?_;·intro y hy;rw[mD]at hy;simp only[opsOf,Dn,Hw,H8,or_false]at hy;subst hy;show AJ Cy (D6 W) (I.getD 10 Y) (I.getD 10 Y);rw[Q8];exact gI
 ·intro p;obtain⟨M,e1⟩:=aQb (ρ:=Cu ⟨I,[]⟩) (w:=on N p) Q8 kT hx.size;exact⟨_,_,_,M,e1,AA rfl,rfl,rfl⟩
 rintro g A⟨qG,v,f,rfl,aJ3,⟨rfl,s⟩,a0j,a0a,aHA,aI',a0x⟩;rw[show(II.getD 1 Ag).dst=Z 33 by kernel_rfl];show Ct A4 Wb _ (G ((B6 126).at ⟨I.setIfInBounds 33 _,[]⟩ _) fs) A;have PK:(I.setIfInBounds 33 (dd cs)).size=39:=by simpa using LK
 have qj:(I.setIfInBounds 33 (dd cs)).getD 33 Y=dd cs:=FK (by rw[LK];omega);have a'C:(I.setIfInBounds 33 (dd cs)).getD 32 Y=m:=by rw[Bo (by omega)];exact acc
 have f28:(I.setIfInBounds 33 (dd cs)).getD 28 Y=aYC (Z c):=by rw[Bo (by omega)];exact a85
 generalize I.setIfInBounds 33 (dd cs)=K at PK qj a'C f28;have a0b:A.heap=N.heap:=a0a.trans s;have aIS:¬qG c:=λy=>(a0x c y).elim aIR λy=>by omega
 clear a0a s a0x f;have mE:(II.getD 2 Ag).op=aZL 130 1 #[(0,oM 33)]:=by kernel_rfl
 refine(Tp Pa (λ_=>trivial) (Wb:=Wb) (R:=qG) (ow:=[]) (Q:=λv f=>v=As (Z ⟨A.heap.size,0,J⟩) 1 1/\f.heap=A.heap.push (BE cs 234)) (Eh (by rw[cj];omega)) (by kernel_rfl) (by simp[B6]) (by rw[mE];rfl) (by unfold Kz;rw[mE]) (by rw[mE];rfl) ?_ aHA aI' ?_).bind ?_;·intro y hy;rw[mE]at hy;simp only[opsOf,Dn,Le,GU,K8,Hw,H8,or_false]at hy;subst hy;show AJ Cy (D6 qG) (K.getD 33 Y) (K.getD 33 Y);rw[qj];exact aJ3
 ·intro p;obtain⟨M,e1⟩:=aQR (ρ:=Cu ⟨K,[]⟩) (on A p) qj hx.size;exact⟨_,_,_,M,e1,AA rfl,rfl,rfl⟩
 rintro g U⟨ea,v,f,rfl,aJ4,⟨rfl,s⟩,a0k,kW,aHB,aI0,a0y⟩;rw[show(II.getD 2 Ag).dst=Z 34 by kernel_rfl];show Ct A4 Wb _ (G ((B6 126).at ⟨K.setIfInBounds 34 _,[]⟩ _) fs) U;have T_:(K.setIfInBounds 34 (As (Z ⟨A.heap.size,0,J⟩) 1 1)).size=39:=by simpa using PK
 have tD:(K.setIfInBounds 34 (As (Z ⟨A.heap.size,0,J⟩) 1 1)).getD 34 Y=As (Z ⟨A.heap.size,0,J⟩) 1 1:=FK (by rw[PK];omega);have i32:(K.setIfInBounds 34 (As (Z ⟨A.heap.size,0,J⟩) 1 1)).getD 32 Y=m:=by rw[Bo (by omega)];exact a'C
 have a1h:(K.setIfInBounds 34 (As (Z ⟨A.heap.size,0,J⟩) 1 1)).getD 28 Y=aYC (Z c):=by rw[Bo (by omega)];exact f28
 generalize K.setIfInBounds 34 (As (Z ⟨A.heap.size,0,J⟩) 1 1)=H at T_ tD i32 a1h;have aHY:U.heap[A.heap.size]?=Z (BE cs 234 (0,0)):=by rw[kW,s];simp
 have aVp:U.heap.size=A.heap.size+1:=by rw[kW,s];simp
 have aVo:A.heap.size=w.heap.size+1:=by rw[a0b,kz]
 have a1I:∀b,b<w.heap.size->U.heap[b]?=w.heap[b]?:=λb D=>by rw[kW,s,H4 (by omega),<-ET (by omega),a0b];exact kv b D
 have Z7:U.ownsRow B 234 8 m got.length (got.flatMap λv=>v.cells.toList):=uD AQ a1I;have aIT:¬ea c:=λy=>(a0y c y).elim aIS λy=>by omega
 have aJE:AJ Cy (D6 ea) m m:=(aJC.mono (OK a0j)).mono (OK a0k);clear kW s a0y f;have mF:(II.getD 3 Ag).op=a8E {callee:=aYV .append,args:=#[oM 32,oM 34],argTypes:=#[130,130]}:=by kernel_rfl
 refine(Tp Pa (λ_=>trivial) (Wb:=Wb) (R:=ea) (ow:=[]) (Q:=λv f=>f.ownsRow B 234 8 v (got.length+1) ((got.flatMap λv=>v.cells.toList)++cs.toList)/\U.heap.size<=f.heap.size/\∀b,b<B->f.heap[b]?=U.heap[b]?) (Eh (by rw[cj];omega)) (by kernel_rfl) (by simp[B6]) (by rw[mF];rfl) (by unfold Kz;rw[mF]) (by rw[mF];rfl) ?_ aHB aI0 ?_).bind ?_
 ·intro y hy;rw[mF]at hy;have hy:y=oM 32∨y=oM 34:=by simpa[opsOf,Dn,Call.operands]using hy
  rcases hy with rfl|rfl;·show AJ Cy (D6 ea) (H.getD 32 Y) (H.getD 32 Y);rw[i32];exact aJE
  ·show AJ Cy (D6 ea) (H.getD 34 Y) (H.getD 34 Y);rw[tD];exact aJ4
 ·intro p;obtain⟨v',f,M,e1,e2,DF,EX⟩:=aQL (ρ:=Cu ⟨H,[]⟩) (w:=on U p) i32 tD aHY hx.size hx.one (a4D Z7 rfl) (by omega) (by show B<=U.heap.size;omega);exact⟨_,v',f,M,e1,AA rfl,e2,DF,EX⟩
 rintro g Il⟨aDl,v,f,rfl,aJ5,⟨QQ,fw,fx⟩,aHv,Yy,aHC,aI1,aIK⟩;rw[show(II.getD 3 Ag).dst=Z 35 by kernel_rfl];show Ct A4 Wb _ (G ((B6 126).at ⟨H.setIfInBounds 35 _,[]⟩ _) fs) Il;have sd:(H.setIfInBounds 35 v).size=39:=by simpa using T_
 have a1x:(H.setIfInBounds 35 v).getD 35 Y=v:=FK (by rw[T_];omega);have a1w:(H.setIfInBounds 35 v).getD 28 Y=aYC (Z c):=by rw[Bo (by omega)];exact a1h
 generalize H.setIfInBounds 35 v=X at sd a1x a1w;refine .pure v (Eh (by rw[cj];omega)) (by kernel_rfl) (by simp[B6]) (aQO (ρ:=Cu ⟨X,[]⟩) a1x) ?_;rw[show(II.getD 4 Ag).dst=Z 9 by kernel_rfl];show Ct A4 Wb _ (G ((B6 126).at ⟨X.setIfInBounds 9 _,[]⟩ _) fs) Il;have a1D:(X.setIfInBounds 9 v).size=39:=by simpa using sd
 have tT:(X.setIfInBounds 9 v).getD 9 Y=v:=FK (by rw[sd];omega);have a2D:(X.setIfInBounds 9 v).getD 28 Y=aYC (Z c):=by rw[Bo (by omega)];exact a1w
 generalize X.setIfInBounds 9 v=aC8 at a1D tT a2D;refine .ctl rfl (λ_=>Hf) ?_;refine .ctl rfl (λ_=>aZw) ?_;unfold ai;refine .ctl rfl (λ_=>aZx) ?_;refine .stop λd=>⟨aC8,aDl,rfl,⟨a1D,a2D,?_,by rw[tT];exact aJ5,aHC.same λ_ _=>rfl,λy=>?_,aI1⟩,λb D=>aHv b (a0k b (a0j b (aHt b D))),λb D=>?_,?_⟩;·rw[tT];have e:(Il.at d).heap=f.heap:=Yy;refine a4D (w:=f) ?_ e;simpa[hx.is,de]using QQ
 ·exact(aIK c y).elim aIT λy=>by omega
 ·show Il.heap[b]?=_;rw[Yy,fx b D];exact a1I b (by omega)
 ·show w.heap.size<=Il.heap.size;rw[Yy];omega
def Goes(Wb:Nat->Prop)(g:AK)(w:A')(Post:(Nat->Prop)->AK->A'->Prop):Prop:=∀(Wc U:Nat->Prop),Wb=(λb=>Wc b∨U b)->(∀b,U b->¬Wc b/\b<w.heap.size)->∀(gs:Array AK)(sl:Option (Nat×Nat))(t:DX)(q:Nat->Nat),Dm A4 Wc gs w t q g->∃(N:Nat)(h:Array AK)(f:AK)(w':A')(s:Option (Nat×Nat))(m:DX)(p:Nat->Nat)(e:Nat->Prop),Eg A4 N (Ea gs w sl) t=(aYG (Ea h w' s),m)/\Dm A4 e h w' m p f/\(∀b,U b->¬e b)/\JI U w w'/\Post (λb=>e b∨U b) f w'
theorem Z_{P:Ac}:∀{h N2:Nat}{m m1:UI}{t t1:DX}{r:Stepped×DX},Eg P h m t=(aYG m1,t1)->Eg P N2 m1 t1=r->Eg P (h+N2) m t=r|0,N2,m,m1,t,t1,r,h1,h2=>by simp only[Eg,Ot,RH]at h1;obtain⟨rfl,rfl⟩:=h1;simpa using h2|h+1,N2,m,m1,t,t1,r,h1,h2=>by rw[show h+1+N2=h+N2+1 by omega];simp only[Eg]at h1⊢;cases hs:oq P m with|mk s b=>rw[hs]at h1;cases s with|next f=>exact Z_ h1 h2|ended e w=>simp only[Ot]at h1;exact absurd h1.1 (by simp)
theorem Goes.bind{g:AK}{u:(Nat->Prop)->AK->A'->Prop}(h:Goes Wb g w Post)(k:∀f m w',Post f m w'->Goes f m w' u):Goes Wb g w u:=by intro A U K p gs sl t q hc;obtain⟨N,H,C,w1,B,t1,S,e,r1,c1,W,x,Q⟩:=h A U K p gs sl t q hc;obtain⟨y,I,D,w2,X,t2,Dg,z,r2,c2,VW,M,LS⟩:=k _ C w1 Q e U rfl (λb s=>⟨W b s,K9 (p b s).2 x.size⟩) H B t1 S c1;exact⟨N+y,I,D,w2,X,t2,Dg,z,Z_ r1 r2,c2,VW,x.trans M,LS⟩
theorem Goes.here{g:AK}(h:Post Wb g w):Goes Wb g w Post:=λe U m f gs sl t q hc=>⟨0,gs,g,w,sl,t,q,e,rfl,hc,λb p=>(f b p).1,JI.refl _ _,m▸h⟩
theorem Goes.JW{g:AK}{Stop:AK->A'->Prop}(h:Ct A4 Wb Stop g w)(k:∀m w',Stop m w'->Goes Wb m w' Post):Goes Wb g w Post:=by intro Wc U H p gs sl t q hc;subst H;obtain⟨N,C,z,s,u,t1,B,r1,_,c1,M,e⟩:=(h.Aw.wide (Wc:=Wc) λb=>AA).beside gs sl t q hc;have e:JI U w s:=⟨e.os,e.output,e.size,λb f I=>e.same b (AF f) I⟩;obtain⟨x,D,A,w2,S,t2,W,y,r2,c2,X,K,Q⟩:=k z s M Wc U rfl (λb f=>⟨(p b f).1,K9 (p b f).2 e.size⟩) C u t1 B c1;exact⟨N+x,D,A,w2,S,t2,W,y,Z_ r1 r2,c2,X,e.trans K,Q⟩
theorem Goes.ctl{Wb:Nat->Prop}{g g':AK}{w:A'}{Post:(Nat->Prop)->AK->A'->Prop}(hs:g.status=aYF)(h:∀w,Be A4 A0 g w=aYE g' w #[])(k:∀d,Goes Wb g' (w.at d) Post):Goes Wb g w Post:=.JW (Stop:=λb f=>b=g'/\∃d,f=w.at d) (.ctl hs h (.stop λd=>⟨rfl,d,rfl⟩)) λb f⟨e,d,e2⟩=>by subst e e2;exact k d
structure Holds(Wb R:Nat->Prop)(w:A'):Prop where
 closed:Closed Cy Wb R w
 low:∀b,Wb b->b<w.heap.size
theorem Holds.heap{Wb R:Nat->Prop}{w w':A'}(h:Holds Wb R w)(e:w'.heap=w.heap):Holds Wb R w':=⟨h.closed.same λb _=>by rw[e],λb f=>by rw[e];exact h.low b f⟩
theorem Holds.at{Wb R:Nat->Prop}{w:A'}(h:Holds Wb R w)(d:Nat):Holds Wb R (w.at d):=h.heap rfl
abbrev Ah(R:Nat->Prop)(T:Array A1):Prop:=Ab Cy (D6 R) T.toList T.toList
theorem Ah.mono{R R':Nat->Prop}{T:Array A1}(h:Ah R T)(k:∀b,R b->R' b):Ah R' T:=Ab.mono (OK k) h
def a6p(R:Nat->Prop)(c':AY)(cs':List AY)(Q:A1->A'->Prop)(e:Nat->Prop)(g':AK)(w':A'):Prop:=∃R' v,g'=G (c'.finish v) cs'/\AJ Cy (D6 R') v v/\Q v w'/\(∀b,R b->R' b)/\Holds e R' w'
def CallsC(f:Nat)(args:Array A1)(w:A')(Q:A1->A'->Prop):Prop:=∀(Wb R:Nat->Prop)(c':AY)(cs':List AY),Holds Wb R w->Ah R args->Goes Wb (G (GR A4 f args a73) (c'::cs')) w (a6p R c' cs' Q)
theorem CallsC.mono(h:CallsC f args w Q)(k:∀v w',Q v w'->W7 v w'):CallsC f args w W7:=λWb R p m s h2=>(h Wb R p m s h2).bind λx y w'⟨R',v,a,b,c,d,e⟩=>.here ⟨R',v,a,b,k v w' c,d,e⟩
theorem CallsC.heap(h:CallsC f args w Q)(e:w'=w):CallsC f args w' Q:=e▸h
theorem CallsC.lone(s:Cy f)(x:A4.funcs[f]?=Z fn)(D:fn.body.isSome=A0)(h:∀T,AZ A4 f args (on w T) λe b=>∃v,e=hq v/\Q v b):CallsC f args w λv w'=>∃b,w'.heap=b.heap/\Q v b:=by
 intro Wb R c' cs' z C;obtain⟨y,p⟩:=Option.isSome_iff_exists.1 D;refine .JW (qC Pa (λ_=>trivial) (Wb:=Wb) (R:=R) (c':=c') (cs':=cs') (Q:=Q) x p (ZH f _ _ (AA s) x p).1 (ZH f _ _ (AA s) x p).2 (λt m=>?_) C z.closed z.low h) ?_;·have e:Dc f=[]:=gr s;have m:t∈Dc f:=m;rw[e]at m;cases m
 ·rintro g U⟨A,v,b,rfl,hv,N,K,I,H,M,_⟩;exact .here ⟨A,v,rfl,hv,⟨b,I,N⟩,K,H,M⟩
noncomputable def AL(f:Nat):AY:={(Ag:AY)with fn:=f,kind:=a73}
theorem jy(e:A4.funcs[f]?=Z fn)(b:fn.body=Z c):GR A4 f args a73=(AL f).at ⟨args++Sf (fn.ntmps-args.size) Y,[]⟩ [aY9 c]:=by simp[GR,Frame.at,e,b,AL]
def a6w(Wb R:Nat->Prop)(f:Nat)(r:List Cw)(cs:List AY)(Q:Array A1->A'->Prop)(g:AK)(w':A'):Prop:=∃e h m,g=G ((AL f).at ⟨h,[]⟩ r) cs/\Q h m/\w'.heap=m.heap/\Ah e h/\(∀b,R b->e b)/\Holds Wb e w'
theorem aOC{r:List Cw}{cs:List AY}{Q:Array A1->A'->Prop}(W:A4.funcs[f]?=Z fn)(J2:f<4294967296)(hc:F8 A4 Dw Dc [] 8 c=A0)(X:Ah R T)(K:Holds Wb R w)(h:∀s,c.wp A4 (λe H w'=>e=aYP/\H.defers=[]/\Q H.tmps w') ⟨T,[]⟩ (on w s)):Ct A4 Wb (a6w Wb R f r cs Q) (G ((AL f).at ⟨T,[]⟩ (aY9 c::r)) cs) w:=by
 have A:Dc f=[]:=by unfold Dc;rw[if_neg (by omega)]
 have BM:Ej A4 Cy Dw XH 8 (D6 R) r ((AL f).at ⟨T,[]⟩ [aY9 c]) ((AL f).at ⟨T,[]⟩ (aY9 c::r)):=by
  refine⟨rfl,⟨fn,W,by show Qt (Hi (Dc f)) fn=A0;rw[A];exact h9 fn⟩,rfl,λi hi=>?_,⟨rfl,rfl⟩,rfl,⟨rfl,rfl⟩,⟨rfl,rfl⟩,Ab.bp X _,λt p=>?_⟩;·obtain rfl:=List.mem_singleton.1 hi;show F8 A4 Dw Dc (Dc f) 8 c=A0;rw[A];exact hc
  ·have p:t∈Dc f:=p;rw[A]at p;cases p
 have H0:∀s,∃N z D,Ek A4 N (EB (G ((AL f).at ⟨T,[]⟩ [aY9 c]) [bot]) (on w s))=aYG (EB (G z [bot]) D)/\Fin A5 z/\z.fn=f/\Q z.tmps D:=by intro s;obtain⟨e,H,w',⟨rfl,AT,U⟩,Bp⟩:=h s (AL f) [] [bot];obtain⟨N,H'⟩:=Bp;exact⟨N,_,w',H',⟨rfl,rfl⟩,rfl,U⟩
 refine(mb Pa (λ_=>trivial) (Wb:=Wb) (R:=R) (r:=r) (base':=cs) (Q:=λm D=>m.fn=f/\Q m.tmps D) A5 (λh=>by cases h) BM rfl K.closed K.low H0).mono ?_;rintro g w'⟨E,m,x,wL,rfl,Yw,Dk,⟨y,U⟩,u,Ey,hid,OA,E8,_⟩;obtain⟨Bs,rfl,F'⟩:=jg Ey hid OA λb M=>u _ _ ⟨rfl,K.closed.EF b M⟩;have C:=Yw.tmps;rw[show Hi (XH.own m.fn)=[]by rw[y];show Hi (Dc f)=[];rw[A];rfl,a1O,a1O]at C;have p:x.tmps=m.tmps:=by have:=C.same hid.1;exact Array.toList_inj.1 this
 have Dk:m.mode=aYY/\m.todo=[]:=Dk;refine⟨Bs,m.tmps,wL,?_,U,hid.2,?_,λb M=>(u b b ⟨rfl,M⟩).2,F',E8⟩;·have I:=Yw.fn;have h2:=Yw.todo;have h3:=Yw.defers.2;have h4:=Yw.mode;have B:=Yw.kind.2;have S:=Yw.round.2;rw[Dk.2,YL]at h2;rw[Dk.1]at h4;rw[y]at I;obtain⟨a1,I0,a3,a4,a5,WH,q2⟩:=x;simp only at I h2 h3 h4 B S p;subst I h2 h3 h4 B S p;rfl
 ·rw[p]at C;exact C
theorem Ab.put{F:Nat->Prop}{E:AN}{v:A1}(hv:AJ F E v v):∀{l:List A1}(d:Nat),Ab F E l l->Ab F E (l.set d v) (l.set d v)|_,_,.nil=>.nil|_,0,.cons _ t=>.cons hv t|_,d+1,.cons h t=>.cons h (Ab.put hv d t)
theorem Ah.set(h:Ah R T)(hv:AJ Cy (D6 R) v v)(d:Nat):Ah R (T.setIfInBounds d v):=by show Ab Cy (D6 R) (T.setIfInBounds d v).toList (T.setIfInBounds d v).toList;rw[Array.toList_setIfInBounds];exact Ab.put hv d h
section
variable{Wb R:Nat->Prop}{f0:Nat}{ops:Array Bf}{i:Nat}{rest:List Nat}{q:List Cw}{cs:List AY}{o:Bf}{T:Array A1}{w:A'}{d:Nat}{Post:(Nat->Prop)->AK->A'->Prop}
theorem Goes.zT{f:Nat}{opd:Array C2}{ats:Array A_}{args:Array A1}{Q:A1->A'->Prop}(p:ops[i]?=Z o)(u:EY o (Gu ops T)=A0)(N:o.op=a8E {callee:=aYa (aYN f),args:=opd,argTypes:=ats})(I:o.dst=Z d)(K:A4.funcs[f]?=Z fn)(M:(fn.name== "runtime.NumGoroutine")=A5)(C:fn.body.isSome=A0)(A:opd.map (Cu ⟨T,[]⟩)=args)(s:Holds Wb R w)(z:Ah R T)(B:Ah R args)(H:∀x,CallsC f args (w.at x) Q)(k:∀e R' v w',Q v w'->(∀b,R b->R' b)->Holds e R' w'->Ah R' (T.setIfInBounds d v)->Goes e (G ((AL f0).at ⟨T.setIfInBounds d v,[]⟩ (aY7 ops rest::q)) cs) w' Post):Goes Wb (G ((AL f0).at ⟨T,[]⟩ (aY7 ops (i::rest)::q)) cs) w Post:=by obtain⟨h,D⟩:=Option.isSome_iff_exists.1 C;refine .ctl rfl (λw=>Qz p u (by simp[AL]) N K M D) λx=>?_;rw[A];refine(H x Wb R _ cs (s.at x) B).bind ?_;rintro e g' w'⟨R',v,rfl,hv,U,m,y⟩;rw[KX,p,RR,I];exact k e R' v w' U m y ((z.mono m).set hv d)
theorem Goes.op{Q:A1->A'->Prop}(A7:ops[i]?=Z o)(u:EY o (Gu ops T)=A0)(B:PV A4 Dw Dc [] 8 o.op=A0)(S:Kz A4 o=A0)(W:LX o.op=A5)(X:(opsOf o.op).all (SQ Dw [])=A0)(M:o.dst=Z d)(y:A4.funcs[f0]?.isSome=A0)(J2:f0<4294967296)(s:Holds Wb R w)(A:Ah R T)(H0:∀h,∃v f,(AU (Cu ⟨T,[]⟩) o).run A4 (on w h)=aY6 (aYD v) f/\Q v f)(k:∀R' v f w',Q v f->w'.heap=f.heap->(∀b,R b->R' b)->Holds Wb R' w'->Ah R' (T.setIfInBounds d v)->Goes Wb (G ((AL f0).at ⟨T.setIfInBounds d v,[]⟩ (aY7 ops rest::q)) cs) w' Post):Goes Wb (G ((AL f0).at ⟨T,[]⟩ (aY7 ops (i::rest)::q)) cs) w Post:=by
 obtain⟨p,y⟩:=Option.isSome_iff_exists.1 y;have z:Dc f0=[]:=by unfold Dc;rw[if_neg (by omega)]
 have N:Ej A4 Cy Dw XH 8 (D6 R) [] ((AL f0).at ⟨T,[]⟩ []) ((AL f0).at ⟨T,[]⟩ []):=by refine⟨rfl,⟨p,y,by show Qt (Hi (Dc f0)) p=A0;rw[z];exact h9 p⟩,rfl,λi hi=>(by cases hi),⟨rfl,rfl⟩,rfl,⟨rfl,rfl⟩,⟨rfl,rfl⟩,Ab.bp A _,λt m=>?_⟩;have m:t∈Dc f0:=m;rw[z]at m;cases m
 have U:∀b,b<D4->(D6 R).rel b b:=λb I=>⟨rfl,s.closed.EF b I⟩;refine .JW (Tp Pa (λ_=>trivial) (b0:=AL f0) (a:=⟨T,[]⟩) (rest:=rest) (q:=q) (cs:=cs) (ow:=[]) (Q:=Q) A7 u (by simp[AL]) B S W (λx hx=>?_) s.closed s.low λh=>?_) ?_;·have:=N.eval U Ra x (by show SQ Dw (Dc f0) x=A0;rw[z];exact List.all_eq_true.1 X x hx);rw[Frame.eval_at]at this;exact this
 ·obtain⟨v,f,H,h2⟩:=H0 h;have h3:=PZ (P:=A4) (AU (Cu ⟨T,[]⟩) o) (on w h) #[];rw[H]at h3;exact⟨aYD v,v,f,_,RS h3 rfl,AA rfl,h2⟩
 ·rintro g w'⟨D,v,f,rfl,hv,AD,C,D',K,E8,_⟩;have e:aJ ⟨T,[]⟩ o.dst v=⟨T.setIfInBounds d v,[]⟩:=by rw[M];rfl
  rw[e];exact k D v f w' AD D' C ⟨K,E8⟩ ((A.mono C).set hv d)
theorem Goes.piece{f:Nat}{r:List Cw}{Q:Array A1->A'->Prop}(D:A4.funcs[f]?=Z fn)(H:f<4294967296)(hc:F8 A4 Dw Dc [] 8 c=A0)(C:Ah R T)(A:Holds Wb R w)(h:∀z,c.wp A4 (λe y w'=>e=aYP/\y.defers=[]/\Q y.tmps w') ⟨T,[]⟩ (on w z))(k:∀m p s w',Q p s->w'.heap=s.heap->Ah m p->(∀b,R b->m b)->Holds Wb m w'->Goes Wb (G ((AL f).at ⟨p,[]⟩ r) cs) w' Post):Goes Wb (G ((AL f).at ⟨T,[]⟩ (aY9 c::r)) cs) w Post:=.JW (aOC D H hc C A h) λg w'⟨m,p,s,e,a,b,c,d,x⟩=>by subst e;exact k m p s w' a b c d x
end
section
variable{P:Ac}{F:Nat->Prop}{fb:Nat->Bool}{el:HC}{k:Nat}
theorem aS2(X:Static P F fb el k)(S5:∀b,el.J5 b){Wb R:Nat->Prop}{f:Nat}{fr0 W:AY}{Q:A1->A'->Prop}(u:Ej P F fb el k (D6 R) [] fr0 W)(QK:fr0.mode=aYY)(Bb:Closed F Wb R w)(E8:∀b,Wb b->b<w.heap.size)(H0:∀T,∃N M e,Ek P N (EB (G fr0 [bot]) (on w T))=aYG (EB (G M [bot]) e)/\Fin A0 M/\∃v,Q v e/\M.fn=f/\M.leaving P e (hq v)):Ct P Wb (vb F Wb R w.heap.size c' cs' Q) (G W (c'::cs')) w:=by
 refine(mb X S5 A0 (λ_=>rfl) (r:=[]) u QK Bb E8 H0).bind ?_;rintro g s⟨A,K,h,e,rfl,BM,Dk,⟨v,AD,Wm,hm,AT,hk,C,PE,GG⟩,fd,z,hid,OA,ba,D_⟩;refine .step rfl λd=>?_;have Gi:JZ (λ_=>False) (λ_=>False) (EM Wb s.heap.size) A:=λb b' x=>AF ⟨λy=>y,(z.lt x).2,OA b b' x⟩;have A2:=Bx.at (λ_=>False) (EM Wb s.heap.size) s d;have D:(s.at d).heap=s.heap:=rfl;generalize a1X:s.at d=p at A2 D;have H:C3 F (B4 el A0) (λ_=>False) A (on e (join e.tape e.drawn p.tape p.drawn)) p:=(z:C3 F (B4 el A0) (λ_=>False) A (on e e.tape) s).rely Gi A2 _;have hs:AG P F ⟨el.J5,False,el.own,el.HP⟩ (Ci F) A (De C K.tmps) (De C h.tmps):=BM.results PE;have B:∃es,(De C K.tmps).runT P e #[]=(aY6 v e,es):=by have:=PZ (P:=P) (De C K.tmps) e #[];rw[GG]at this;exact⟨((De C K.tmps).runT P e #[]).2,by rw[<-this]⟩
 obtain⟨es,B⟩:=B;have gC:=(AG.tape X.fit.JD hs (w':=s) ⟨z.heap,z.tape,λ_ x=>x.elim,z.low,z.even⟩ B).2 (join e.tape e.drawn p.tape p.drawn) (λi q h1 h2=>by omega);obtain⟨C1,v',U,es',r1,r2,EI,I,Gp⟩:=AG.runs X.fit.JD (Pr:=λ_=>False) (RO:=λ_=>False) (λ_ x=>x) (λx=>a6z x) hs (⟨H.heap,H.tape,H.kept,H.low,H.even⟩:C3 F ⟨el.J5,False,el.own,el.HP⟩ (λ_=>False) A _ p) (es:=#[]) (es':=#[]) .nil gC;have lc:Be P A0 (G h (c'::cs')) p=aYE (G (c'.finish v') cs') U (IU P h.fn es'):=by rw[Qy rfl (BM.mode.trans hm)];exact R0 BM.defers.2 (BM.mode.trans hm) BM.kind.2 (by show P.funcs[h.fn]?=_;rw[BM.fn];exact PE) r1
 obtain⟨Ov,S,Rt⟩:=Yk (P:=P) (fn:=h.fn) Gi (λb m=>m.elim) I Gp;have QI:=I.X5 ⟨hid.1,D.trans hid.2⟩;have TU:∀b,Wb b->b<U.heap.size:=λb m=>by have:=ba b m;have BH:=S.size;rw[D]at BH;omega
 have fq:YR Wb C1:=λb b' x=>by
  have V1:GC (λ_=>False) (EM Wb p.heap.size) p U (IU P h.fn es') Ov:=by rw[D];exact S
  have B_:=gY (λb m=>by rw[D];exact ba b m) V1;rcases Rt b b' x with⟨y,_⟩|⟨_,y⟩;·exact y.elim
  ·rw[B_]at y;exact y.2
 refine⟨_,U,_,Ov,lc,S,.stop λd2=>?_⟩;have MY:∀b,b<D4->C1.rel b b:=λb m=>I.le _ _ (fd _ _ ⟨rfl,Bb.EF b m⟩);obtain⟨Bs,rfl,F'⟩:=jg EI QI fq MY;obtain rfl:=r2.same QI.1;refine⟨Bs,v',e,rfl,r2,AD,λb m=>(I.le _ _ (fd b b ⟨rfl,m⟩)).2,?_,F'.same λ_ _=>rfl,TU,λb m=>?_⟩;·exact QI.2
 ·rcases I.fresh b b ⟨rfl,m⟩with y|⟨y,_⟩;·exact(D_ b b y).imp (·.2) id
  ·right;have y':e.heap.size<=b:=y;omega
end
theorem Goes.tail(D:A4.funcs[f]?=Z fn)(J2:f<4294967296)(hc:F8 A4 Dw Dc [] 8 c=A0)(B:Ah R T)(K:Holds Wb R w)(h:∀y,c.wp A4 (bodyPost A4 fn λe p=>∃v,e=hq v/\Q v p) ⟨T,[]⟩ (on w y))(k:∀s v p w',Q v p->w'.heap=p.heap->AJ Cy (D6 s) v v->(∀b,R b->s b)->Holds Wb s w'->Goes Wb (G (c'.finish v) cs') w' Post):Goes Wb (G ((AL f).at ⟨T,[]⟩ [aY9 c]) (c'::cs')) w Post:=by
 have H:Dc f=[]:=by unfold Dc;rw[if_neg (by omega)]
 have BM:Ej A4 Cy Dw XH 8 (D6 R) [] ((AL f).at ⟨T,[]⟩ [aY9 c]) ((AL f).at ⟨T,[]⟩ [aY9 c]):=by
  refine⟨rfl,⟨fn,D,by show Qt (Hi (Dc f)) fn=A0;rw[H];exact h9 fn⟩,rfl,λi hi=>?_,⟨rfl,rfl⟩,rfl,⟨rfl,rfl⟩,⟨rfl,rfl⟩,Ab.bp B _,λt x=>?_⟩;·obtain rfl:=List.mem_singleton.1 hi;show F8 A4 Dw Dc (Dc f) 8 c=A0;rw[H];exact hc
  ·have x:t∈Dc f:=x;rw[H]at x;cases x
 refine .JW (aS2 Pa (λ_=>trivial) (f:=f) (Q:=Q) (c':=c') (cs':=cs') BM rfl K.closed K.low λy=>?_) ?_;·obtain⟨e,a',w',m,M⟩:=h y (AL f) [] [bot];cases e with|normal=>obtain⟨C,v,I,u,hu,A⟩:=m;obtain⟨N,z⟩:=a_F M (.one step_end);cases hu;exact⟨N,_,w',z,rfl,v,A,rfl,rfl,C,rfl,fn,D,I⟩|ret=>obtain⟨C,v,I,u,hu,A⟩:=m;obtain⟨U,N,z⟩:=M;cases hu;exact⟨N,_,w',z,rfl,v,A,rfl,rfl,C,rfl,fn,D,I⟩|panic S=>obtain⟨_,u,hu,_⟩:=m;cases hu|exit id=>exact m.elim|goto l=>exact m.elim|outgrown=>obtain⟨u,hu,_⟩:=m;cases hu
 ·rintro g w'⟨s,v,p,rfl,hv,m,W,D',Hj,X,_⟩;exact k s v p w' m D' hv W ⟨Hj,X⟩
theorem aL9(l:Loc):∃B,l.low B:=by cases l with|cell a=>exact⟨a.block+1,Pz _⟩|obj r=>exact⟨r+1,Pz _⟩|output=>exact⟨0,trivial⟩|goroutines=>exact⟨0,trivial⟩|mark _=>exact⟨0,trivial⟩
theorem aCE(x:MemAct):∃B,x.low B:=by
 cases x with
 |access e=>exact aL9 e.loc
 |mark m=>
  cases m with
  |acquire a=>exact⟨a.block+1,Pz _⟩
  |release a=>exact⟨a.block+1,Pz _⟩
  |releaseMerge a=>exact⟨a.block+1,Pz _⟩
  |read a=>exact⟨a.block+1,Pz _⟩
  |write a=>exact⟨a.block+1,Pz _⟩
  |disable=>exact⟨0,trivial⟩
  |enable=>exact⟨0,trivial⟩
  |extern=>exact⟨0,trivial⟩
  |noRoom=>exact⟨0,trivial⟩
 |go _=>exact⟨0,trivial⟩
 |start=>exact⟨0,trivial⟩
 |send c _=>exact⟨c+1,Pz _⟩
 |sendDone c _=>exact⟨c+1,Pz _⟩
 |recv c _ _=>exact⟨c+1,Pz _⟩
 |recvDone c _=>exact⟨c+1,Pz _⟩
 |close c=>exact⟨c+1,Pz _⟩
 |recvClosed c=>exact⟨c+1,Pz _⟩
theorem aSh(t:DX):∃B,∀b∈t,b.act.low B:=by
 obtain⟨l⟩:=t;induction l with
 |nil=>exact⟨0,λb h=>by simp at h⟩
 |cons x l m=>
  obtain⟨B,e⟩:=m;obtain⟨C,f⟩:=aCE x.act;refine⟨max B C,λb h=>?_⟩;rcases List.mem_cons.1 (Array.mem_toList_iff.2 h)with rfl|h;·exact a88 (Nat.le_max_right _ _) f
  ·exact a88 (Nat.le_max_left _ _) (e b (Array.mem_toList_iff.1 h))
section
variable{P:Ac}{Wb:Nat->Prop}{gs:Array AK}{w:A'}{t:DX}{q:Nat->Nat}{a:AK}
theorem Dm.past(h:Dm P Wb gs w t q a):∃B,Past (λl=>∃b,Wb b/\Fu l b) B t:=by
 obtain⟨B,D⟩:=aSh t;have s:∀i g,t.g? i=Z g->¬gs.size<=g:=λi g e K=>by unfold dc at e;obtain⟨p,f,rfl⟩:=Option.map_eq_some_iff.1 e;have:=h.JB.gs i p f;omega
 refine⟨B,h.JB.nr,λi x hx H=>?_,λi g e I hc=>?_,h.hears,D⟩
 ·by_cases hs:∃b,Wb b/\Fu x.loc b;·obtain⟨p,f,m⟩:=touch_of hx;obtain⟨C,h2⟩:=h.JB.quiet i p x f m hs;cases A:x.kind with|plain=>exact absurd A C|said=>have:=knows_own f;rw[h2 A]at this;exact AA this|atomic=>exact AF ⟨hs,rfl⟩
  ·rcases h.NN.known i x hx H hs with y|⟨g,y,z⟩;·exact AA y
   ·exact absurd y (s i g z)
 ·exact(h.NN.over i g e I hc).resolve_right (s i g e)
end
def v_(P:Ac)(Post:A1->A'->Prop)(a:AK)(w:A'):Prop:=a.status=aYF/\∀b,AtRel w b->∃v,Be P A0 a b=aYs (.done v) b #[]/\Post v b
theorem aDF(P:Ac)(a:AK)(w:A'):Dm P (λ_=>False) #[a] w #[] (λ_=>0) a:=by refine⟨rfl,leavers_one P a,⟨past_nil.clean,λg b e l p=>?_,λg b e=>e.elim,λi f x hi=>by simp at hi,λf h=>by simp at h,λi f hi=>by simp at hi⟩,⟨λi x hx=>by simp[touchAt,od]at hx,λi g m=>by simp[dc]at m⟩,rfl,λb e=>e.elim⟩;intro i x hx;simp[touchAt,od]at hx
theorem aQ4(b:fn.results=#[aUQ r])(T:Array A1)(w:A')(es:Array By):(De fn T).runT P w es=(aY6 (T.getD r Y) w,es):=by unfold De;rw[b];rw[Array.mapM_eq_foldlM,<-Array.foldlM_toList];rfl
theorem aNE{a b:A1}(h:(aY6 a w:Result A1)=aY6 b w):a=b:=by injection h
theorem aSu{fr:AY}{w1:A'}(b:fr.defers=[])(m:fr.mode=aYX)(h:fr.kind=a73)(e:P.funcs[fr.fn]?=Z fn)(f:P.inits.idxOf? fr.fn=J)(p:(De fn fr.tmps).runT P w #[]=(aY6 v w1,#[])):HL P A0 fr [] J w=aYs (.done v) w1 #[]:=by unfold HL;simp only[b,m,e,p,doReturn,h,Nh,U2,f];simp[IU]
theorem Goes.last(x:A4.funcs[7]?=Z fn)(hc:F8 A4 Dw M8 [1000007] 8 c=A0)(X:Ah R (E_ [0,15] T))(B:Holds Wb R w)(K:fn.results=#[aUQ r])(I:[0,15].contains r=A5)(Ko:A4.inits.idxOf? 7=J)(h:∀A,c.wp A4 (bodyPost A4 fn λe f=>∃v,e=hq v/\Q v f) ⟨T,[]⟩ (on w A))(k:∀v f w',Q v f->w'.heap=f.heap->W7 v w'):Goes Wb (G ((AL 7).at ⟨T,[]⟩ [aY9 c]) []) w λ_ g' w'=>v_ A4 W7 g' w':=by
 have BM:Ej A4 Cy Dw ZQ 8 (D6 R) [] ((AL 7).at ⟨T,[]⟩ [aY9 c]) ((AL 7).at ⟨T,[]⟩ [aY9 c]):=by
  refine⟨rfl,⟨fn,x,by show Qt [0,15] fn=A0;unfold Qt;rw[K];simp only[List.all_toArray,List.all_cons,List.all_nil,I,U4,Bool.and_true]⟩,rfl,λi hi=>?_,⟨rfl,rfl⟩,rfl,⟨rfl,rfl⟩,⟨rfl,rfl⟩,X,λt M=>?_⟩;·obtain rfl:=List.mem_singleton.1 hi;exact hc
  ·exact λ_ _=>trivial
 refine .JW (mb v8 (λ_=>trivial) A0 (λ_=>rfl) (r:=[]) (Q:=λS f=>∃v,Q v f/\S.fn=7/\S.leaving A4 f (hq v)) BM rfl B.closed B.low λA=>?_) ?_;·obtain⟨e,a',w',m,Bp⟩:=h A (AL 7) [] [bot];cases e with|normal=>obtain⟨y,v,s,u,hu,H⟩:=m;obtain⟨N,D⟩:=a_F Bp (.one step_end);cases hu;exact⟨N,_,w',D,rfl,v,H,rfl,rfl,y,rfl,fn,x,s⟩|ret=>obtain⟨y,v,s,u,hu,H⟩:=m;obtain⟨todo,N,D⟩:=Bp;cases hu;exact⟨N,_,w',D,rfl,v,H,rfl,rfl,y,rfl,fn,x,s⟩|panic aDW=>obtain⟨_,u,hu,_⟩:=m;cases hu|exit id=>exact m.elim|goto l=>exact m.elim|outgrown=>obtain⟨u,hu,_⟩:=m;cases hu
 ·rintro g w'⟨v2,p,b,f,rfl,BM,Dk,⟨v,m,z,hm,y,hk,C,W,s⟩,fd,Ey,hid,OA,ba,D_⟩;have e1:C=fn:=by rw[z,x]at W;exact(D3 W).symm
  subst e1;have hv:v=p.tmps.getD r Y:=by
   have h1:(De C p.tmps).run A4 f=aY6 (p.tmps.getD r Y) f:=by simp[De,K]
   rw[h1]at s;exact(aNE s).symm
  have M:=BM.tmps;rw[show Hi (ZQ.own p.fn)=[0,15]by rw[z];rfl]at M;have U:=Array.toList_inj.1 (Ab.same hid.1 M);have X2:b.tmps.getD r Y=p.tmps.getD r Y:=by rw[JX,JX,<-Ta I b.tmps,<-Ta I p.tmps,U]
  refine .here ⟨rfl,λf3 d0=>⟨v,?_,?_⟩⟩;·rw[Qy rfl (BM.mode.trans hm)];refine aSu BM.defers.2 (BM.mode.trans hm) BM.kind.2 (by show A4.funcs[b.fn]?=_;rw[BM.fn,z];exact x) (by show A4.inits.idxOf? b.fn=_;rw[BM.fn,z];exact Ko) ?_;show(De C b.tmps).runT A4 f3 #[]=_;rw[aQ4 K,X2,hv]
  ·obtain⟨d,rfl⟩:=d0;exact k v f _ m hid.2
end
section
open Go.Proofs.YtcfhleenecfghaaGreatDoor
open Go.Conc Go.RowKit
open Go.ConcN(sumTo)
variable{w:A'}{z:A1}{t:A_}{P:Ac}{T:Array A1}{es:Array By}{fs:List AY}{c:Nat}{Wb:Nat->Prop}
theorem zb:∃d,A4.underlying 316=Z (aZQ d 234):=by
 have h:(match A4.underlying 316 with|Z (aZQ _ e)=>e==234|_=>A5)=A0:=by kernel_rfl
 have b:∀{p:Ac},(match p.underlying 316 with|Z (aZQ _ e)=>e==234|_=>A5)=A0->∃d,p.underlying 316=Z (aZQ d 234):=by intro p h;cases e:p.underlying 316 with|none=>rw[e]at h;cases h|some u=>rw[e]at h;cases u with|chan d e2=>simp only[beq_iff_eq]at h;subst h;exact⟨d,rfl⟩|_=>cases h
 exact b h
theorem a5J{d:TypeDesc}(h:P.underlying t=Z d):(Iq t).runT P w es=(aY6 d w,es):=by change(match P.underlying t with|Z d=>Mu d|J=>Vt _:Sem _).runT P w es=_;rw[h];rfl
theorem aQG{i:TypeInfo}(hi:P.info? t=Z i)(e:i.zero=Z z):(RM t).runT P w es=(aY6 z w,es):=by
 unfold RM;change(Dy (RL t) _).runT P w es=_;have b:(RL t).runT P w es=(aY6 i w,es):=by change(match P.info? t with|Z i=>Mu i|J=>Vt _:Sem _).runT P w es=_;rw[hi];rfl
 rw[IK,b];simp only[e];rfl
theorem aQj{ρ:C2->A1}(b:ρ (oM 28)=aYC (Z c)):∃z,∀w:A',(AU ρ (Kx.getD 0 Ag)).runT A4 w #[]=(aY6 (.comm #[Xd c z] A0 (aZE A0)) w,#[]):=by obtain⟨d,e⟩:=zb;obtain⟨i,z,hi,_,_,f,_⟩:=hS;refine⟨z,λw=>?_⟩;unfold AU;rw[aNR];simp only[b];change(Dy (Iq 316) _).runT A4 w #[]=_;have e1:=a5J (w:=w) (es:=#[]) e;rw[IK,e1];change(Dy (RM 234) _).runT A4 w #[]=_;have e2:=aQG (w:=w) (es:=#[]) hi f;rw[IK,e2];rfl
noncomputable def b4(fs:List AY)(T:Array A1):AK:=G ((B6 126).at ⟨T,[]⟩ (aY7 Kx [0,1]::Vz)) fs
noncomputable def j_(fs:List AY)(T:Array A1):AK:=G ((B6 126).at ⟨T,[]⟩ [aY9 Yb]) fs
theorem a5p(f:T.getD 28 Y=aYC (Z c)):∃z,∀w:A',Be A4 A0 (b4 fs T) w=.comm (b4 fs T) #[Xd c z] A0 (aZE A0) w #[]:=by
 obtain⟨z,e⟩:=aQj (ρ:=Cu ⟨T,[]⟩) f;refine⟨z,λw=>?_⟩;have m:(AU (Cu ⟨T,[]⟩) (Kx.getD 0 Ag)).run A4 w=aY6 (.comm #[Xd c z] A0 (aZE A0)) w:=by rw[<-PZ _ w #[],e w]
 unfold b4;have h:∀b,listed A4 b ⟨T,[]⟩ (Kx.getD 0 Ag) w=#[]:=by intro b;unfold listed oc;rw[e w];exact ng _ _
 rw[stepG_comm (Eh (by rw[hR];omega)) (by kernel_rfl) (by simp[B6]) m,h]
theorem a'M{x:A1}{ok:Bool}:(b4 fs T).finishComm A4 #[Xd c z] (aZE A0) 0 x ok=G ((B6 126).at ⟨T.setIfInBounds 29 (aY8 #[x,aY5 ok]),[]⟩ (aY7 Kx [1]::Vz)) fs:=by
 have b:((B6 126).at ⟨T,[]⟩ (aY7 Kx [0,1]::Vz)).finish (aY8 #[x,aY5 ok])=(B6 126).at ⟨T.setIfInBounds 29 (aY8 #[x,aY5 ok]),[]⟩ (aY7 Kx [1]::Vz):=by rw[KX,Eh (ops:=Kx) (i:=0) (by rw[hR];omega),RR,show(Kx.getD 0 Ag).dst=Z 29 by kernel_rfl];rfl
 unfold b4 a7t commResult;simp only[G,b]
theorem UZ.a6B{B:Nat}{u:Nat->Prop}{got:List A1}{w':A'}(h:UZ c B Wb u got T w)(A:c<B)(z:w'.heap.size=w.heap.size)(hs:∀b,b≠c->w'.heap[b]?=w.heap[b]?):UZ c B Wb u got T w':=by refine⟨h.size,h.t28,?_,h.vr,h.closed.same λb m=>hs b λe=>h.off (e▸m),h.off,λb m=>by rw[z];exact h.low b m⟩;obtain⟨x,y⟩:=h.own;refine⟨x,y.imp id ?_⟩;rintro⟨g,f,p,s,h2,h3,h4⟩;exact⟨g,f,p,s,h2,by rw[hs g (by omega)];exact h3,h4⟩
theorem a68:Ct A4 Wb (λg w'=>g=b4 fs T/\∃d,w'=w.at d) (G ((B6 126).at ⟨T,[]⟩ (aY9 UW::ai)) fs) w:=by rw[aBp];refine .ctl rfl (λ_=>GB) ?_;refine .ctl rfl (λ_=>Hu) ?_;rw[show H9 Kx.size=[0,1]by kernel_rfl];exact .stop λd=>⟨rfl,d,rfl⟩
theorem shut(C:T.size=39):Ct A4 Wb (λg w'=>(∃e,g=j_ fs e/\e.size=39/\e.getD 28 Y=T.getD 28 Y/\e.getD 9 Y=T.getD 9 Y)/\∃d,w'=w.at d) (G ((B6 126).at ⟨T.setIfInBounds 29 (aY8 #[z,aY5 A5]),[]⟩ (aY7 Kx [1]::Vz)) fs) w:=by
 have f:(T.setIfInBounds 29 (aY8 #[z,aY5 A5])).size=39:=by simpa using C
 have m:(T.setIfInBounds 29 (aY8 #[z,aY5 A5])).getD 29 Y=aY8 #[z,aY5 A5]:=FK (by rw[C];omega);have h:(T.setIfInBounds 29 (aY8 #[z,aY5 A5])).getD 28 Y=T.getD 28 Y:=Bo (by omega);have p:(T.setIfInBounds 29 (aY8 #[z,aY5 A5])).getD 9 Y=T.getD 9 Y:=Bo (by omega);generalize T.setIfInBounds 29 (aY8 #[z,aY5 A5])=b at f m h p;refine .pure (aY5 A5) (Eh (by rw[hR];omega)) (by kernel_rfl) (by simp[B6]) (a5L (ρ:=Cu ⟨b,[]⟩) m) ?_;rw[show(Kx.getD 1 Ag).dst=Z 30 by kernel_rfl];show Ct A4 Wb _ (G ((B6 126).at ⟨b.setIfInBounds 30 _,[]⟩ _) fs) w;have A:(b.setIfInBounds 30 (aY5 A5)).size=39:=by simpa using f
 have x:(b.setIfInBounds 30 (aY5 A5)).getD 30 Y=aY5 A5:=FK (by rw[f];omega);have s:(b.setIfInBounds 30 (aY5 A5)).getD 28 Y=T.getD 28 Y:=by rw[Bo (by omega)];exact h
 have y:(b.setIfInBounds 30 (aY5 A5)).getD 9 Y=T.getD 9 Y:=by rw[Bo (by omega)];exact p
 generalize b.setIfInBounds 30 (aY5 A5)=D at A x s y;refine .ctl rfl (λ_=>Hf) ?_;unfold Vz;refine .ctl rfl (λ_=>GB) ?_;refine .ctl rfl (λ_=>hl (t:=A5) x) ?_;refine .ctl rfl (λ_=>a7N (k':=[aY9 Yb]) rfl) ?_;exact .stop λd=>⟨⟨D,rfl,A,s,y⟩,d,rfl⟩
theorem aPv{Wc:Nat->Prop}{B:Nat}(Q:c<B)(E7:∀b,Wc b->Wb b)(rb:¬Wb c):∀(buf got:List A1)(m:Nat->Prop)(T:Array A1)(w:A')(gs:Array AK)(sl:Option (Nat×Nat))(t:DX)(q:Nat->Nat)(cap s r:Nat)(tm:Bool),UZ c B Wb m got T w->(∀x∈buf,∃cs,YP m x cs)->w.heap[c]?=Z (aYQ cap buf.toArray A0 s r tm)->got.length+buf.length<2147483648->B<=w.heap.size->Dm A4 Wc gs w t q (G ((B6 126).at ⟨T,[]⟩ (aY9 UW::ai)) fs)->∃(N:Nat)(u:Array AK)(w':A')(Dd:Option (Nat×Nat))(Bd:DX)(EA:Nat->Nat)(A:Array A1)(Lj:Nat->Prop),Eg A4 N (Ea gs w sl) t=(aYG (Ea u w' Dd),Bd)/\u.size=gs.size/\Dm A4 Wc u w' Bd EA (j_ fs A)/\UZ c B Wb Lj (got++buf) A w'/\(∀b,m b->Lj b)/\(∀b,b<B->b≠c->w'.heap[b]?=w.heap[b]?)/\w.heap.size<=w'.heap.size/\JI Wb w w':=by
 intro buf;induction buf with
 |nil=>intro got m T w gs sl t q cap s r tm C Ai hc A9 DC S;obtain⟨U,Yj,a1,w1,W,t1,DQ,r1,E2,c1,rfl,D,rfl⟩:=a68 (w:=w).beside gs sl t q S;obtain⟨z,AR⟩:=a5p (fs:=fs) C.t28;obtain⟨N2,X,M,SY,t2,Dg,I,z2,c2⟩:=aCs (w:=w.at D) rfl (λd=>AR _) hc W c1;rw[a'M]at c2;obtain⟨e7,en,a3,K,hD,t3,FG,EI,z3,c3,⟨A,rfl,e1,e2,DF⟩,d3,rfl⟩:=(shut C.size).beside X SY t2 Dg c2;refine⟨U+(N2+e7),en,_,hD,t3,FG,A,m,Tw r1 (Tw I EI),by omega,c3,?_,λ_ x=>x,λ_ _ _=>rfl,AX _,(((JI.refl Wb w).at _).at _).at _⟩;have:=C.a6B (w':=((w.at D).at M).at d3) Q rfl λ_ _=>rfl;rw[List.append_nil];exact⟨e1,by rw[e2];exact this.t28,by rw[DF];exact this.own,by rw[DF];exact this.vr,this.closed,this.off,this.low⟩
 |cons x buf ih=>
  intro got m T w gs sl t q cap s r tm C Ai hc A9 DC S;obtain⟨U,Yj,a1,w1,W,t1,DQ,r1,E2,c1,rfl,D,rfl⟩:=a68 (w:=w).beside gs sl t q S;obtain⟨z,AR⟩:=a5p (fs:=fs) C.t28;obtain⟨N2,X,M,SY,t2,Dg,I,z2,c2⟩:=aCu (w:=w.at D) rfl (λd=>AR _) hc (by simp) W c1;rw[a'M]at c2;have gJ:(x::buf).toArray.getD 0 Y=x:=by simp
  have Lx:(x::buf).toArray.extract 1 (x::buf).toArray.size=buf.toArray:=by apply Array.ext';simp
  rw[gJ,Lx]at c2;rw[Lx]at I;have Hj:c<w.heap.size:=(Array.getElem?_eq_some_iff.1 hc).1;generalize H:(w.at D).setChan c cap buf.toArray A0 s (r+1) tm=p at c2 I;have G0:∀b,b≠c->p.heap[b]?=w.heap[b]?:=λb f=>by rw[<-H];exact um f
  have Cc:p.heap.size=w.heap.size:=by rw[<-H];exact uo ..
  have Lp:p.heap[c]?=Z (aYQ cap buf.toArray A0 s (r+1) tm):=by rw[<-H];exact a7I _ _ _ _ _ _ _ _ Hj
  have KG:UZ c B Wb m got T (p.at M):=C.a6B Q Cc G0;obtain⟨cs,hx⟩:=Ai x (by simp);simp only[List.length_cons]at A9;obtain⟨e7,en,a3,K,hD,t3,FG,EI,z3,c3,⟨A,Rb,rfl,O7,ER,J2,B3⟩,Ju⟩:=((aFx (fs:=fs) KG hx (by omega) (by show B<=p.heap.size;omega) Q).Aw.wide E7).beside X SY t2 Dg c2;have Yu:K.heap[c]?=Z (aYQ cap buf.toArray A0 s (r+1) tm):=by rw[J2 c Q];exact Lp
  have aVn:w.heap.size<=K.heap.size:=by have:p.heap.size<=K.heap.size:=B3;omega
  obtain⟨aBr,aFz,w4,aR3,t4,Gn,Et,WM,EJ,z4,c4,Ut,ff,kv,kz,aHm⟩:=ih (got++[x]) Rb A K en hD t3 FG cap s (r+1) tm O7 (λy hy=>let⟨cs,h⟩:=Ai y (by simp[hy]);⟨cs,h.mono ER⟩) Yu (by simp;omega) (by omega) c3;refine⟨U+(N2+(e7+aBr)),aFz,w4,aR3,t4,Gn,Et,WM,Tw r1 (Tw I (Tw EI EJ)),by omega,c4,by simpa using Ut,λb f=>ff b (ER b f),λb f KI=>?_,by omega,JI.trans ?_ aHm⟩;·rw[kv b f KI,J2 b f];exact G0 b KI
  ·refine JI.trans ⟨?_,?_,by rw[Cc];exact AX _,λb f _=>G0 b λe=>rb (e▸f)⟩ (JI.trans ((JI.refl Wb p).at M) Ju);·rw[<-H];rfl
   ·rw[<-H];rfl
end
section
open Go.Proofs.YtcfhleenecfghaaGreatDoor
open Go.Conc Go.RowKit
variable{x:A1}{ρ:C2->A1}
noncomputable def SL:Array Bf:=LR (fstC Yb)
noncomputable def SM:Array Bf:=LR (fstC (sndC Yb))
theorem aDB:Yb=aYB (aYH 16 SL A5) (aYB (aYH 17 SM A5) aYT):=by kernel_rfl
theorem nA:SL.size=2:=by kernel_rfl
theorem z17:SM.size=2:=by kernel_rfl
theorem aQg(h:ρ (oM 9)=x)(w:A'):(AU ρ (SL.getD 0 Ag)).runT A4 w #[]=(aY6 (aYD x) w,#[]):=by
 have b:(SL.getD 0 Ag).op=aYg (oM 9):=by kernel_rfl
 unfold AU;rw[b];simp[h]
theorem aQh(h:ρ (oM 9)=x)(w:A'):(AU ρ (SM.getD 0 Ag)).runT A4 w #[]=(aY6 (aYD x) w,#[]):=by
 have b:(SM.getD 0 Ag).op=aYg (oM 9):=by kernel_rfl
 unfold AU;rw[b];simp[h]
theorem aQP(h:ρ (oM 38)=x)(w:A'):(AU ρ (SM.getD 1 Ag)).runT A4 w #[]=(aY6 (aYD x) w,#[]):=by
 have b:(SM.getD 1 Ag).op=aYt (oM 38):=by kernel_rfl
 unfold AU;rw[b];simp[h]
theorem aNS:(SL.getD 1 Ag).op=a8E {callee:=aYa (aYN 128),args:=#[oM 36,aYN 129],argTypes:=#[130,235]}:=by kernel_rfl
theorem aD':∃b,Tryz.f128.body=Z b:=⟨_,rfl⟩
def Handed(Wb f:Nat->Prop)(v:A1)(c':AY)(cs':List AY)(Q:A'->Prop)(m:Nat)(g:AK)(w':A'):Prop:=∃e h,g=G (c'.finish v) cs'/\AJ Cy (D6 e) v v/\Q h/\(∀b,f b->e b)/\w'.heap=h.heap/\Closed Cy Wb e w'/\(∀b,Wb b->b<w'.heap.size)/\∀b,e b->f b∨m<=b
theorem aSU{c':AY}{cs':List AY}{Wb u:Nat->Prop}{T:Array A1}{w:A'}{v:A1}{Q:A'->Prop}(B:T.size=39)(S:T.getD 9 Y=v)(hv:AJ Cy (D6 u) v v)(Hj:Closed Cy Wb u w)(E8:∀b,Wb b->b<w.heap.size)(gE:∀C,AZ A4 128 #[v,aYK (aYI 129) #[] #[]] (on w C) λe p=>e=hq (aY8 #[])/\Q p):Ct A4 Wb (Handed Wb u v c' cs' Q w.heap.size) (j_ (c'::cs') T) w:=by
 unfold j_;rw[aDB];refine .ctl rfl (λ_=>GB) ?_;refine .ctl rfl (λ_=>Hu) ?_;rw[show H9 SL.size=[0,1]by kernel_rfl];refine .pure v (Eh (by rw[nA];omega)) (by kernel_rfl) (by simp[B6]) (aQg (ρ:=Cu ⟨T,[]⟩) S) ?_;rw[show(SL.getD 0 Ag).dst=Z 36 by kernel_rfl];show Ct A4 Wb _ (G ((B6 126).at ⟨T.setIfInBounds 36 _,[]⟩ _) (c'::cs')) w;have W:(T.setIfInBounds 36 v).size=39:=by simpa using B
 have N:(T.setIfInBounds 36 v).getD 36 Y=v:=FK (by rw[B];omega);have U:(T.setIfInBounds 36 v).getD 9 Y=v:=by rw[Bo (by omega)];exact S
 generalize T.setIfInBounds 36 v=h at W N U;obtain⟨code,z⟩:=aD';refine .ctl rfl (λw=>Qz (Eh (by rw[nA];omega)) (by kernel_rfl) (by simp[B6]) aNS iT (by kernel_rfl) z) ?_;have Ha:#[oM 36,aYN 129].map (Cu ⟨h,[]⟩)=#[v,aYK (aYI 129) #[] #[]]:=by simp only[Le,GU,K8];rw[show Cu ⟨h,[]⟩ (oM 36)=v from N];rfl
 rw[Ha];have D:Cy 128:=AA (by decide);have H:Cy 129:=AA (by decide);refine(qC Pa (λ_=>trivial) (Wb:=Wb) (R:=u) (Q:=λx p=>x=aY8 #[]/\Q p) iT z (ZH 128 _ _ (AA D) iT z).1 (ZH 128 _ _ (AA D) iT z).2 (λt A=>?_) ?_ Hj E8 λC=>(gE C).mono ?_).bind ?_;·have e:Dc 128=[]:=gr D;have A:t∈Dc 128:=A;rw[e]at A;cases A
 ·exact .cons hv (.cons (.func H .nil .nil) .nil)
 ·rintro e p⟨rfl,I⟩;exact⟨_,rfl,rfl,I⟩
 rintro g w2⟨zf,x,p,rfl,_,⟨rfl,I⟩,X,D',rs,TU,D_⟩;have Dk:((B6 126).at ⟨h,[]⟩ (aY7 SL [1]::[aY9 (aYB (aYH 17 SM A5) aYT)])).finish (aY8 #[])=(B6 126).at ⟨h.setIfInBounds 37 (aY8 #[]),[]⟩ (aY7 SL []::[aY9 (aYB (aYH 17 SM A5) aYT)]):=by rw[KX,Eh (ops:=SL) (i:=1) (by rw[nA];omega),RR,show(SL.getD 1 Ag).dst=Z 37 by kernel_rfl];rfl
 rw[Dk];have K:(h.setIfInBounds 37 (aY8 #[])).size=39:=by simpa using W
 have WJ:(h.setIfInBounds 37 (aY8 #[])).getD 9 Y=v:=by rw[Bo (by omega)];exact U
 generalize h.setIfInBounds 37 (aY8 #[])=s at K WJ;refine .ctl rfl (λ_=>Hf) ?_;refine .ctl rfl (λ_=>GB) ?_;refine .ctl rfl (λ_=>Hu) ?_;rw[show H9 SM.size=[0,1]by kernel_rfl];refine .pure v (Eh (by rw[z17];omega)) (by kernel_rfl) (by simp[B6]) (aQh (ρ:=Cu ⟨s,[]⟩) WJ) ?_;rw[show(SM.getD 0 Ag).dst=Z 38 by kernel_rfl];show Ct A4 Wb _ (G ((B6 126).at ⟨s.setIfInBounds 38 _,[]⟩ _) (c'::cs')) w2;have M:(s.setIfInBounds 38 v).size=39:=by simpa using K
 have zP:(s.setIfInBounds 38 v).getD 38 Y=v:=FK (by rw[K];omega);generalize s.setIfInBounds 38 v=y at M zP;refine .pure v (Eh (by rw[z17];omega)) (by kernel_rfl) (by simp[B6]) (aQP (ρ:=Cu ⟨y,[]⟩) zP) ?_;rw[show(SM.getD 1 Ag).dst=Z 4 by kernel_rfl];show Ct A4 Wb _ (G ((B6 126).at ⟨y.setIfInBounds 4 _,[]⟩ _) (c'::cs')) w2;have LK:(y.setIfInBounds 4 v).size=39:=by simpa using M
 have d4:(y.setIfInBounds 4 v).getD 4 Y=v:=FK (by rw[M];omega);generalize y.setIfInBounds 4 v=f at LK d4;refine .ctl rfl (λ_=>Hf) ?_;refine .ctl rfl (λ_=>aZy) ?_;have GG:UJ.results=#[aUQ 4]:=by kernel_rfl
 have SA:∀w:A',Be A4 A0 (G {(B6 126).at ⟨f,[]⟩ [aY9 aYT]with mode:=aYX} (c'::cs')) w=aYE (G (c'.finish v) cs') w #[]:=by
  intro w;rw[Qy rfl rfl];have A2:(De UJ f).run A4 w=aY6 (f.getD 4 Y) w:=results_tmp GG f A4 w;have he:(De UJ f).events A4 w #[]=#[]:=events_results_tmp GG f _;rw[d4]at A2;have gB:(De UJ f).runT A4 w #[]=(aY6 v w,#[]):=by have h1:=PZ (P:=A4) (De UJ f) w #[];rw[A2]at h1;unfold oc at he;exact RS h1 he
  have LM:=R0 (P:=A4) (m:=A0) (fr:={(B6 126).at ⟨f,[]⟩ [aY9 aYT]with mode:=aYX}) (c:=c') (cs:=cs') rfl rfl rfl x1 gB;rw[ng]at LM;exact LM
 refine .ctl rfl SA ?_;exact .stop λd=>⟨zf,p,rfl,hv.mono (OK X),I,X,D',rs.same λ_ _=>rfl,TU,D_⟩
open Go.ConcR(Payload)
variable{Post:(Nat->Prop)->AK->A'->Prop}{w w' w0:A'}{Ak Am An Ao Ap Ar B5 BR BV fk g2 g5 g9 m0 n3 p2 p3 p4 pp rg rt s1 s2 sm up v v1 v6 vr wt x y y3 y4 y6:A1}{c':AY}{t:A_}{P:Ac}{T rc:Array A1}{es:Array By}{ρ:C2->A1}{ms:List (ByteArray×ByteArray)}{BA:List (Nat×A1)}{Q:List (Nat×A1)->A1->A'->A'->Prop}{xs:List A1}{cs cs':List AY}{d9 l:List Ax}{A L:List Cb}{Gs:List Rel}{Aq Ch b b2 bi br cap g j n r1 r2:Nat}{C:Nat->A1->(Nat->Prop)->A'->Prop}{Cn F M R U Wb:Nat->Prop}{p:Nat×Nat}{o:Obj}{s:_}
def eC(A B:Nat->Prop):Nat->Prop:=λb=>A b∨B b
structure YW(rd:Nat->Prop)(C:Nat->A1->(Nat->Prop)->A'->Prop)(j:Nat)(x:A1)(M:Nat->Prop)(w:A'):Prop where
 a38:∃cs,YP (eC rd M) x cs
 own:∀b,M b->∃o,w.heap[b]?=Z o/\GI Cy (D6 (eC rd M)) o o
 uh:C j x M w
theorem aDo{rd rc Old:Nat->Prop}(Q:F=Cy)(I:Closed F Wb rc w)(K:∀b,rd b->rc b)(u:¬rc Ch)(U:∀i v,(i,v)∈BA->∃M,(∀b,M b->b<w.heap.size/\¬Wb b/\b≠Ch/\¬Old b)/\YW rd C i v M w):∃s,Closed Cy Wb s w/\¬s Ch/\(∀b,rc b->s b)/\(∀b,s b->rc b∨¬Old b)/\∀i v,(i,v)∈BA->∃M cs,YP s v cs/\(∀b,M b->s b)/\C i v M w:=by
 subst Q;have H:∀p:Nat×A1,∃M:Nat->Prop,p∈BA->(∀b,M b->b<w.heap.size/\¬Wb b/\b≠Ch/\¬Old b)/\YW rd C p.1 p.2 M w:=by
  intro p;by_cases h:p∈BA;·obtain⟨M,N,h2⟩:=U p.1 p.2 h;exact⟨M,λ_=>⟨N,h2⟩⟩
  ·exact⟨λ_=>False,λx=>absurd x h⟩
 have A:=λp=>U5 (H p);refine⟨λb=>rc b∨∃p,p∈BA/\aD (H p) b,⟨λb f=>?_,λb f=>?_,λb f=>AA (I.EF b f)⟩,?_,λb f=>AA f,λb f=>f.imp id λ⟨p,m,y⟩=>((A p m).1 b y).2.2.2,λi v D=>?_⟩
 ·rcases f with f|⟨p,m,f⟩;·obtain⟨o,e,k⟩:=I.heap b f;exact⟨o,e,k.mono (OK λ_ y=>AA y)⟩
  ·obtain⟨o,e,k⟩:=(A p m).2.own b f;exact⟨o,e,k.mono (OK λc y=>y.imp (K c) λz=>⟨p,m,z⟩)⟩
 ·rcases f with f|⟨p,m,f⟩;·exact I.off b f
  ·exact((A p m).1 b f).2.1
 ·rintro(f|⟨p,m,f⟩);·exact u f
  ·exact((A p m).1 Ch f).2.2.1 rfl
 ·obtain⟨cs,hm⟩:=(A (i,v) D).2.a38;exact⟨aD (H (i,v)),cs,hm.mono λc y=>y.imp (K c) λz=>⟨(i,v),D,z⟩,λb f=>AF ⟨(i,v),D,f⟩,(A (i,v) D).2.uh⟩
section
variable{R:IY}
theorem aCo{rd rc:Nat->Prop}{m:UI}{t:DX}(z:∀b,U b->R.old b/\¬rc b/\b≠R.AL)(sU:¬R.old R.X.Ch)(Cr:R.X.P=A4)(hn:R.X.n=R.ms.length)(J2:R.ms.length<2147483648)(Ew:R.cs=c'::cs')(Mb:R.X.MM=YW rd C)(S:Closed Cy R.X.B7 rc R.w0)(bh:∀b,rd b->rc b)(PL:∀b,rc b->R.old b)(FU:¬rc R.X.Ch)(QE:R.old R.AL)(hlt:∀b,R.old b->b<R.w0.heap.size)(Fo:∃t p,R.w0.heap[R.AL]?=Z (BE #[aYC (Z R.X.Ch)] t p))(a0A:R.X.Ch<R.w0.heap.size)(rb:¬R.X.Wb R.X.Ch)(rl:R.AL<R.w0.heap.size/\¬R.X.B7 R.AL)(gE:∀(BA:List (Nat×A1))(w w2:A')(v:A1)(B:Nat),(∀b,R.old b->w.heap[b]?=R.w0.heap[b]?)->(∀i,(∃v,(i,v)∈BA)↔i<R.X.n)->(BA.map (·.1)).Nodup->(∀i v,(i,v)∈BA->∃M,(∀b,M b->b<w.heap.size/\b≠R.X.Ch)/\C i v M w)->R.w0.heap.size<=w.heap.size->B=w.heap.size->(∀b,b<w.heap.size->b≠R.X.Ch->w2.heap[b]?=w.heap[b]?)->w2.ownsRow B 234 8 v BA.length ((BA.map (·.2)).flatMap λv=>v.cells.toList)->∀T0,AZ A4 128 #[v,aYK (aYI 129) #[] #[]] (on w2 T0) λe A=>e=hq (aY8 #[])/\Q BA v w2 A)(E7:q' R m t):∃(N:Nat)(gs:Array AK)(w':A')(sl:Option (Nat×Nat))(q:Nat->Nat)(Bd:DX)(BA:List (Nat×A1))(v:A1)(w2 A:A')(K:Nat->Prop)(g:AK),Eg A4 N m t=(aYG (Ea gs w' sl),Bd)/\gs.size=R.X.c0+R.X.n/\Dm A4 R.X.B7 gs w' Bd q g/\g=G (c'.finish v) cs'/\Q BA v w2 A/\w'.heap=A.heap/\AJ Cy (D6 K) v v/\Closed Cy (λb=>R.X.B7 b∨U b) K w'/\(∀b,rc b->K b)/\(∀b,R.X.B7 b∨U b->b<w'.heap.size)/\(w'.os=R.w0.os/\w'.output=R.w0.output/\R.w0.heap.size<=w'.heap.size)/\∀b,U b->w'.heap[b]?=R.w0.heap[b]?:=by
 obtain⟨gs,w,sl,T,q,BA,rfl,Wo,W,i1,u,KO,NJ,bU,⟨tm,Rs⟩,Jp,EH,B_⟩:=E7.at_;rw[Cr]at W;rw[Mb]at B_;have aIi:Closed Cy (λb=>R.X.B7 b∨U b) rc w:=⟨(S.same λb f=>u b (PL b f)).heap,λb f x=>x.elim (S.off b f) λy=>(z b y).2.1 f,S.EF⟩;obtain⟨K,ru,sN,aIh,_,aIA⟩:=aDo (C:=C) (Old:=R.old) rfl aIi bh FU (λi v hv=>by obtain⟨M,s,h2⟩:=B_ i v hv;exact⟨M,λb f=>⟨(s b f).1,λx=>x.elim (s b f).2.1 λy=>(s b f).2.2.2 (z b y).1,(s b f).2.2⟩,h2⟩);obtain⟨aSp,OS,bm⟩:=Fo;have aH4:w.heap[R.AL]?=Z (BE #[aYC (Z R.X.Ch)] aSp OS):=(u _ QE).trans bm;have Bz:BA.length<=R.X.n:=by
  have:=lx R.X.n (BA.map (·.1)) EH λx hx=>by obtain⟨y,hy,rfl⟩:=List.mem_map.1 hx;exact(Jp y.1).1 ⟨y.2,hy⟩
  simpa using this
 have H:∀b,U b->b<w.heap.size:=λb f=>K9 (hlt b (z b f).1) KO;have E8:∀b,R.X.B7 b∨U b->b<w.heap.size:=λb f=>f.elim (W.OW b) (H b);have rR:EM (λb=>R.X.B7 b∨U b) w.heap.size R.X.Ch:=⟨by omega,λh=>h.elim (λh=>h.elim rb bU) λh=>sU (z _ h).1⟩;have bK:EM (λb=>R.X.B7 b∨U b) w.heap.size R.AL:=⟨by omega,λh=>h.elim rl.2 λh=>(z _ h).2.2 rfl⟩;have Tb:=aST (cs:=R.cs) i1.size i1.t1 i1.t5 aH4 Rs bK rR ru sN E8 J2;obtain⟨MN,Yj,a1,A,VU,t1,DQ,r1,E2,c1,⟨C7,aDk,rfl,F',I,aVc,Fx,aIv,X1⟩,JQ⟩:=(Tb.Aw.wide (Wc:=R.X.B7) λb=>AA).beside gs sl t q W;obtain⟨N2,Rj,w2,SY,t2,Dg,FJ,zf,r2,z2,c2,D,aHu,aIw,ky,Fa⟩:=aPv (fs:=R.cs) (Wc:=R.X.B7) rR.1 (λb=>AA) rR.2 (BA.map (·.2)) [] aDk C7 A Yj VU t1 DQ _ _ _ _ F' (λx hx=>by obtain⟨y,hy,rfl⟩:=List.mem_map.1 hx;obtain⟨M,cs,hm,_,_⟩:=aIA y.1 y.2 hy;exact⟨cs,hm.mono I⟩) Fx (by simp;omega) X1 c1;have AQ:=D.own;simp only[YL,Mz]at AQ;have BM:∀b,b<w.heap.size->b≠R.X.Ch->w2.heap[b]?=w.heap[b]?:=λb f KI=>by rw[aIw b f KI];exact aIv b f KI
 rw[Ew]at c2;have SA:=aSU (c':=c') (cs':=cs') (Q:=Q BA (FJ.getD 9 Y) w2) D.size rfl D.vr D.closed D.low (gE BA w w2 _ _ u Jp EH (λi v bZ=>?_) KO rfl BM AQ);·obtain⟨e7,en,a3,w3,hD,t3,FG,EI,z3,c3,⟨Rb,w4,rfl,ZD,fx,fe,TS,fK,fh,sP⟩,Ju⟩:=(SA.Aw.wide (Wc:=R.X.B7) λb=>AA).beside Rj SY t2 Dg c2;have hk:=(JQ.trans Fa).trans Ju;exact⟨MN+(N2+e7),en,w3,hD,FG,t3,BA,_,w2,w4,Rb,_,Tw r1 (Tw r2 EI),by omega,c3,rfl,fx,TS,ZD,fK,λb f=>fe b (aHu b (I b (aIh b f))),fh,⟨hk.os.trans NJ.1,hk.output.trans NJ.2,HA KO hk.size⟩,λb f=>(hk.same b (AF f) (H b f)).trans (u b (z b f).1)⟩
 ·obtain⟨M,s,h2⟩:=B_ i v bZ;exact⟨M,λb f=>⟨(s b f).1,(s b f).2.2.1⟩,h2.uh⟩
end
noncomputable def LP:Array Bf:=LR (fstC WI)
noncomputable def o1:Array Bf:=LR (fstC (sndC WI))
theorem aCb:WI=aYB (aYH 0 LP A5) (aYB (aYH 1 o1 A5) (aYB (aYH 2 o2 A5) c3)):=by kernel_rfl
theorem aCz:UJ.body=Z WI:=by
 have h:UJ.body.isSome=A0:=by kernel_rfl
 obtain⟨c,hc⟩:=Option.isSome_iff_exists.1 h;unfold WI;rw[hc];rfl
theorem z0:LP.size=2:=by kernel_rfl
theorem E2:o1.size=5:=by kernel_rfl
theorem ntmps126:UJ.ntmps=39:=by kernel_rfl
theorem aQM(hc:ρ (aU7 (As J 0 0))=As J 0 0)(w:A'):(AU ρ (LP.getD 1 Ag)).runT A4 w #[]=(aY6 (aYD (As J 0 0)) w,#[]):=by
 have b:(LP.getD 1 Ag).op=aYt (aU7 (As J 0 0)):=by kernel_rfl
 unfold AU;rw[b];simp[hc]
theorem aQd(h:ρ (oM 1)=x)(w:A'):(AU ρ (o1.getD 0 Ag)).runT A4 w #[]=(aY6 (aYD x) w,#[]):=by
 have b:(o1.getD 0 Ag).op=aYg (oM 1):=by kernel_rfl
 unfold AU;rw[b];simp[h]
theorem aQ_{a:Aa}(h:ρ (oM 11)=As (Z a) n cap)(w:A'):(AU ρ (o1.getD 1 Ag)).runT A4 w #[]=(aY6 (aYD (IS Po n)) w,#[]):=by
 have b:(o1.getD 1 Ag).op=a8E {callee:=aYV .len,args:=#[oM 11],argTypes:=#[57]}:=by kernel_rfl
 unfold AU;rw[b];simp[h,go_sem]
theorem aQQ{cs:Array A1}(h:ρ (oM 0)=dd cs)(w:A'):(AU ρ (LP.getD 0 Ag)).runT A4 w #[]=(aY6 (aYD (Af w.heap.size)) {w with heap:=w.heap.push (BE cs 138)},#[]):=by
 have b:(LP.getD 0 Ag).op=.box 138 (oM 0):=by kernel_rfl
 unfold AU;rw[b];simp only[h];rfl
theorem aQF{i:TypeInfo}(h:P.info? t=Z i):(RL t).runT P w es=(aY6 i w,es):=by change(match P.info? t with|Z i=>Mu i|J=>Vt _:Sem _).runT P w es=_;rw[h];rfl
theorem aQS(h:ρ (oM 12)=IS Po n)(hn:n<2147483648)(w:A'):(AU ρ (o1.getD 2 Ag)).runT A4 w #[]=(aY6 (aYD (aYC (Z w.heap.size))) {w with heap:=w.heap.push (aYQ n #[] A5 0 0 A5)},#[]):=by
 have p:(o1.getD 2 Ag).op=.makeChan 316 (oM 12):=by kernel_rfl
 obtain⟨d,m⟩:=zb;obtain⟨i,z,hi,_,b,s,_⟩:=hS;unfold AU;rw[p];simp only[h];change(Dy (wU 316 (IS Po n)) _).runT A4 w #[]=_;have e:(wU 316 (IS Po n)).runT A4 w #[]=(aY6 (aYC (Z w.heap.size)) {w with heap:=w.heap.push (aYQ n #[] A5 0 0 A5)},#[]):=by
  unfold wU;change(Dy (Iq 316) _).runT A4 w #[]=_;rw[IK,a5J m];change(Dy (RL 234) _).runT A4 w #[]=_;rw[IK,aQF hi];have f:¬((n:Int)<0∨(n:Int)>Po.max∨(i.bytes:Int)*n>2^48-112):=by
   rw[b];have:Po.max=9223372036854775807:=by decide
   rw[this];omega
  dsimp only;rw[if_neg f];rfl
 rw[IK,e];rfl
theorem Ct.mI{Stop:AK->A'->Prop}{b:AY}{a:Act}{ops:Array Bf}{i:Nat}{rest:List Nat}{q:List Cw}{o:Bf}{w2:A'}{u:Next}(f:ops[i]?=Z o)(y:EY o (Gu ops a.tmps)=A0)(C:b.kind≠aYR)(h:∀d,(AU a.eval o).runT P (w.at d) #[]=(aY6 u (w2.at d),es))(A:vk u v)(H:w.heap.size<=w2.heap.size)(D:∀x,x<w.heap.size->¬EM Wb w.heap.size x->w2.heap[x]?=w.heap[x]?)(S7:w2.os=w.os/\w2.output=w.output/\w2.tape=w.tape)(z:∀e∈es,KU (λ_=>False) (λb=>EM Wb w.heap.size b∨w.heap.size<=b/\b<w2.heap.size) e)(k:Ct P Wb Stop (G (b.at (a.put o.dst v) (aY7 ops rest::q)) cs) w2):Ct P Wb Stop (G (b.at a (aY7 ops (i::rest)::q)) cs) w:=by
 have s:((b.at a (aY7 ops (i::rest)::q)).kind==aYR)=A5:=by simpa[Frame.at]using C
 have p:∀m,(b.at a (aY7 ops (i::rest)::q)).finish m=b.at (a.put o.dst m) (aY7 ops rest::q):=λm=>by rw[KX,f];rfl
 refine .step rfl λd=>⟨G (b.at (a.put o.dst v) (aY7 ops rest::q)) cs,w2.at d,IU P b.fn es,λb=>EM Wb w.heap.size b∨w.heap.size<=b/\b<w2.heap.size,?_,⟨H,λx hx hn=>D x hx hn,S7.1,S7.2.1,S7.2.2,λx=>UR,λe he=>z e (aN he)⟩,k.at d⟩;rcases A with rfl|⟨rfl,rfl⟩;·rw[Sk f y,It s (h d) rfl,p];rfl
 ·rw[Sk f y,It s (h d) rfl,p];rfl
theorem aQJ(w:A'):(AU ρ (o1.getD 3 Ag)).runT A4 w #[]=(aY6 (aYD (Af w.heap.size)) {w with heap:=w.heap.push (BE #[aYC J] 316)},#[]):=by
 have b:(o1.getD 3 Ag).op=aZK 316:=by kernel_rfl
 unfold AU;rw[b];simp[go_sem]
theorem aQk{c:Nat}(f:ρ (oM 5)=Af g)(e:ρ (oM 13)=aYC (Z c))(b:w.heap[g]?=Z (BE #[x] 316)):(AU ρ (o1.getD 4 Ag)).runT A4 w #[]=(aY6 aYU (w.setCell ⟨g,0,J⟩ (aYC (Z c))),#[⟨aYM ⟨g,0,J⟩,A0,A5⟩]):=by
 have h:(o1.getD 4 Ag).op=aZg 316 (oM 5) (oM 13):=by kernel_rfl
 have c0:w.cell? ⟨g,0,J⟩=Z x:=by simp[F3,b]
 have z0:w.frozen? ⟨g,0,J⟩=A5:=by simp[World.frozen?,b]
 unfold AU;rw[h];simp[f,e,go_sem,c0,z0]
theorem uM(e:b<w.heap.size):(w.heap.push o)[b]?=w.heap[b]?:=by rw[H4 e,ET e]
noncomputable def XR(x y:A1):Array A1:=#[x,y]++Sf (UJ.ntmps-(#[x,y]:Array A1).size) Y
theorem aSz(x y:A1):(XR x y).size=39:=by unfold XR;rw[ntmps126];simp
theorem aSx(x y:A1):(XR x y).getD 0 Y=x:=by unfold XR;simp[JX]
theorem aSy(x y:A1):(XR x y).getD 1 Y=y:=by unfold XR;simp[JX]
theorem aEj{bl off:Nat}(E8:∀b,Wb b->b<w.heap.size)(hn:n<2147483648):Ct A4 Wb (λg w'=>∃T,g=G ((B6 126).at ⟨T,[]⟩ [aY7 o2 [0],aY9 c3]) cs/\T.size=39/\T.getD 1 Y=As (Z ⟨bl,off,J⟩) n cap/\T.getD 2 Y=Af w.heap.size/\T.getD 5 Y=Af (w.heap.size+2)/\w'.heap=((w.heap.push (BE rc 138)).push (aYQ n #[] A5 0 0 A5)).push (BE #[aYC (Z (w.heap.size+1))] 316)) (G (GR A4 126 #[dd rc,As (Z ⟨bl,off,J⟩) n cap] a73) cs) w:=by
 rw[enter_at _ x1 aCz];have M:=aSz (dd rc) (As (Z ⟨bl,off,J⟩) n cap);have a0:=aSx (dd rc) (As (Z ⟨bl,off,J⟩) n cap);have a1:=aSy (dd rc) (As (Z ⟨bl,off,J⟩) n cap);show Ct A4 Wb _ (G ((B6 126).at ⟨XR (dd rc) (As (Z ⟨bl,off,J⟩) n cap),[]⟩ _) cs) w;generalize XR (dd rc) (As (Z ⟨bl,off,J⟩) n cap)=T at M a0 a1;rw[aCb];refine .ctl rfl (λ_=>GB) ?_;refine .ctl rfl (λ_=>Hu) ?_;rw[show H9 LP.size=[0,1]by kernel_rfl];refine .mI (w2:={w with heap:=w.heap.push (BE rc 138)}) (v:=Af w.heap.size) (Eh (by rw[z0];omega)) (by kernel_rfl) (by simp[B6]) (λd=>aQQ (ρ:=Cu ⟨T,[]⟩) a0 (w.at d)) (AA rfl) (by simp) (λx hx _=>uM hx) ⟨rfl,rfl,rfl⟩ (λe he=>by simp at he) ?_;rw[show(LP.getD 0 Ag).dst=Z 2 by kernel_rfl];show Ct A4 Wb _ (G ((B6 126).at ⟨T.setIfInBounds 2 _,[]⟩ _) cs) _;have X:(T.setIfInBounds 2 (Af w.heap.size)).size=39:=by simpa using M
 have b2:(T.setIfInBounds 2 (Af w.heap.size)).getD 2 Y=Af w.heap.size:=FK (by rw[M];omega);have E6:(T.setIfInBounds 2 (Af w.heap.size)).getD 1 Y=As (Z ⟨bl,off,J⟩) n cap:=by rw[Bo (by omega)];exact a1
 generalize T.setIfInBounds 2 (Af w.heap.size)=z at X b2 E6;refine .pure (As J 0 0) (Eh (by rw[z0];omega)) (by kernel_rfl) (by simp[B6]) (aQM (ρ:=Cu ⟨z,[]⟩) rfl) ?_;rw[show(LP.getD 1 Ag).dst=Z 4 by kernel_rfl];show Ct A4 Wb _ (G ((B6 126).at ⟨z.setIfInBounds 4 _,[]⟩ _) cs) _;have N:(z.setIfInBounds 4 (As J 0 0)).size=39:=by simpa using X
 have d2:(z.setIfInBounds 4 (As J 0 0)).getD 2 Y=Af w.heap.size:=by rw[Bo (by omega)];exact b2
 have I:(z.setIfInBounds 4 (As J 0 0)).getD 1 Y=As (Z ⟨bl,off,J⟩) n cap:=by rw[Bo (by omega)];exact E6
 generalize z.setIfInBounds 4 (As J 0 0)=p at N d2 I;refine .ctl rfl (λ_=>Hf) ?_;refine .ctl rfl (λ_=>GB) ?_;refine .ctl rfl (λ_=>Hu) ?_;rw[show H9 o1.size=[0,1,2,3,4]by kernel_rfl];refine .pure (As (Z ⟨bl,off,J⟩) n cap) (Eh (by rw[E2];omega)) (by kernel_rfl) (by simp[B6]) (aQd (ρ:=Cu ⟨p,[]⟩) I) ?_;rw[show(o1.getD 0 Ag).dst=Z 11 by kernel_rfl];show Ct A4 Wb _ (G ((B6 126).at ⟨p.setIfInBounds 11 _,[]⟩ _) cs) _;have Q:(p.setIfInBounds 11 (As (Z ⟨bl,off,J⟩) n cap)).size=39:=by simpa using N
 have jo:(p.setIfInBounds 11 (As (Z ⟨bl,off,J⟩) n cap)).getD 11 Y=As (Z ⟨bl,off,J⟩) n cap:=FK (by rw[N];omega);have e2:(p.setIfInBounds 11 (As (Z ⟨bl,off,J⟩) n cap)).getD 2 Y=Af w.heap.size:=by rw[Bo (by omega)];exact d2
 have e1:(p.setIfInBounds 11 (As (Z ⟨bl,off,J⟩) n cap)).getD 1 Y=As (Z ⟨bl,off,J⟩) n cap:=by rw[Bo (by omega)];exact I
 generalize p.setIfInBounds 11 (As (Z ⟨bl,off,J⟩) n cap)=s at Q jo e2 e1;refine .pure (IS Po n) (Eh (by rw[E2];omega)) (by kernel_rfl) (by simp[B6]) (aQ_ (ρ:=Cu ⟨s,[]⟩) jo) ?_;rw[show(o1.getD 1 Ag).dst=Z 12 by kernel_rfl];show Ct A4 Wb _ (G ((B6 126).at ⟨s.setIfInBounds 12 _,[]⟩ _) cs) _;have U:(s.setIfInBounds 12 (IS Po n)).size=39:=by simpa using Q
 have A:(s.setIfInBounds 12 (IS Po n)).getD 12 Y=IS Po n:=FK (by rw[Q];omega);have HE:(s.setIfInBounds 12 (IS Po n)).getD 2 Y=Af w.heap.size:=by rw[Bo (by omega)];exact e2
 have Gz:(s.setIfInBounds 12 (IS Po n)).getD 1 Y=As (Z ⟨bl,off,J⟩) n cap:=by rw[Bo (by omega)];exact e1
 generalize s.setIfInBounds 12 (IS Po n)=y at U A HE Gz;generalize C4:({w with heap:=w.heap.push (BE rc 138)}:A')=f;have I4:f.heap=w.heap.push (BE rc 138):=by rw[<-C4]
 have DL:f.heap.size=w.heap.size+1:=by rw[I4];simp
 refine .mI (w2:={f with heap:=f.heap.push (aYQ n #[] A5 0 0 A5)}) (v:=aYC (Z f.heap.size)) (Eh (by rw[E2];omega)) (by kernel_rfl) (by simp[B6]) (λd=>aQS (ρ:=Cu ⟨y,[]⟩) A hn (f.at d)) (AA rfl) (by simp) (λx hx _=>uM hx) ⟨rfl,rfl,rfl⟩ (λe he=>by simp at he) ?_;rw[show(o1.getD 2 Ag).dst=Z 13 by kernel_rfl];show Ct A4 Wb _ (G ((B6 126).at ⟨y.setIfInBounds 13 _,[]⟩ _) cs) _;have u:(y.setIfInBounds 13 (aYC (Z f.heap.size))).size=39:=by simpa using U
 have C:(y.setIfInBounds 13 (aYC (Z f.heap.size))).getD 13 Y=aYC (Z (w.heap.size+1)):=(FK (by rw[U];omega)).trans (by rw[DL]);have OJ:(y.setIfInBounds 13 (aYC (Z f.heap.size))).getD 2 Y=Af w.heap.size:=by rw[Bo (by omega)];exact HE
 have PQ:(y.setIfInBounds 13 (aYC (Z f.heap.size))).getD 1 Y=As (Z ⟨bl,off,J⟩) n cap:=by rw[Bo (by omega)];exact Gz
 generalize y.setIfInBounds 13 (aYC (Z f.heap.size))=m at u C OJ PQ;generalize JU:({f with heap:=f.heap.push (aYQ n #[] A5 0 0 A5)}:A')=w2;have kV:w2.heap=f.heap.push (aYQ n #[] A5 0 0 A5):=by rw[<-JU]
 have B:w2.heap.size=w.heap.size+2:=by rw[kV];simp[DL]
 refine .mI (w2:={w2 with heap:=w2.heap.push (BE #[aYC J] 316)}) (v:=Af w2.heap.size) (Eh (by rw[E2];omega)) (by kernel_rfl) (by simp[B6]) (λd=>aQJ (ρ:=Cu ⟨m,[]⟩) (w2.at d)) (AA rfl) (by simp) (λx hx _=>uM hx) ⟨rfl,rfl,rfl⟩ (λe he=>by simp at he) ?_;rw[show(o1.getD 3 Ag).dst=Z 5 by kernel_rfl];show Ct A4 Wb _ (G ((B6 126).at ⟨m.setIfInBounds 5 _,[]⟩ _) cs) _;have T_:(m.setIfInBounds 5 (Af w2.heap.size)).size=39:=by simpa using u
 have S:(m.setIfInBounds 5 (Af w2.heap.size)).getD 5 Y=Af (w.heap.size+2):=(FK (by rw[u];omega)).trans (by rw[B]);have D:(m.setIfInBounds 5 (Af w2.heap.size)).getD 13 Y=aYC (Z (w.heap.size+1)):=by rw[Bo (by omega)];exact C
 have NM:(m.setIfInBounds 5 (Af w2.heap.size)).getD 2 Y=Af w.heap.size:=by rw[Bo (by omega)];exact OJ
 have lD:(m.setIfInBounds 5 (Af w2.heap.size)).getD 1 Y=As (Z ⟨bl,off,J⟩) n cap:=by rw[Bo (by omega)];exact PQ
 generalize m.setIfInBounds 5 (Af w2.heap.size)=H at T_ S D NM lD;generalize W:({w2 with heap:=w2.heap.push (BE #[aYC J] 316)}:A')=h;have K:h.heap=w2.heap.push (BE #[aYC J] 316):=by rw[<-W]
 have l5:h.heap.size=w.heap.size+3:=by rw[K];simp[B]
 have Fo:h.heap[w.heap.size+2]?=Z (BE #[aYC J] 316):=by rw[K,<-B];simp
 have Ai:EM Wb h.heap.size (w.heap.size+2):=⟨by omega,λhb=>by have:=E8 _ hb;omega⟩;refine .mI (w2:=h.setCell ⟨w.heap.size+2,0,J⟩ (aYC (Z (w.heap.size+1)))) (v:=Y) (Eh (by rw[E2];omega)) (by kernel_rfl) (by simp[B6]) (λd=>aQk (ρ:=Cu ⟨H,[]⟩) (w:=h.at d) S D Fo) (AF ⟨rfl,rfl⟩) (by simp[World.setCell]) (λx _ hx=>?_) ⟨rfl,rfl,rfl⟩ (λe he=>?_) ?_;·exact Mf _ _ _ λe=>hx (e▸Ai)
 ·simp only[UT,ak]at he;subst he;exact .cell _ _ (AA (AA Ai))
 rw[show(o1.getD 4 Ag).dst=J by kernel_rfl];show Ct A4 Wb _ (G ((B6 126).at ⟨H,[]⟩ _) cs) _;refine .ctl rfl (λ_=>Hf) ?_;refine .ctl rfl (λ_=>GB) ?_;refine .ctl rfl (λ_=>Hu) ?_;rw[show H9 o2.size=[0]by kernel_rfl];refine .stop λd=>⟨H,rfl,T_,lD,NM,S,?_⟩;have bn:=ma (i:=0) (v:=aYC (Z (w.heap.size+1))) Fo;apply Array.ext_getElem?;intro x;show(h.setCell ⟨w.heap.size+2,0,J⟩ (aYC (Z (w.heap.size+1)))).heap[x]?=_;by_cases hx:x=w.heap.size+2;·subst hx;rw[bn,OX,if_pos (by simp)];rfl
 ·have e:(h.setCell ⟨w.heap.size+2,0,J⟩ (aYC (Z (w.heap.size+1)))).heap[x]?=h.heap[x]?:=Mf _ _ _ hx;rw[e,K,kV,I4,OX,OX (xs:=(w.heap.push (BE rc 138)).push (aYQ n #[] A5 0 0 A5))];simp only[Array.size_push];rw[if_neg hx,if_neg hx]
section
variable[Ck]{R:IY}
theorem aNF{rd:Nat->Prop}{Q:ByteArray->ByteArray->Nat->A1->A'->Prop}(e:R.X.P=A4)(f:R.X.ty=Ik.tWg)(hn:R.X.n=R.ms.length)(I:R.ms.length<2147483648)(D:∀j p v,R.ms[j]?=Z (p,v)->R.w0.cell? ⟨R.bl,R.off+j*2,J⟩=Z (AI p)/\R.w0.cell? ⟨R.bl,R.off+j*2+1,J⟩=Z (AI v))(x:R.old R.bl)(hlt:∀b,R.old b->b<R.w0.heap.size)(K:eI R rd vr Q)(z:R.X.Goal=R.Goal):R.Ok:=⟨e,f,hn,I,D,x,hlt,λ_ _ _ _ _ A H y C=>aDb e f K hlt A H y C,λT Sh S M w' s m h=>by rw[z];exact⟨T,s,m,h⟩⟩
omit[Ck]in theorem aRR{X:Gw}{rd:Nat->Prop}(m:X.MM=YW rd C)(f:∀i v M w w',(∀b,M b->w'.heap[b]?=w.heap[b]?)->C i v M w->C i v M w'):X.L8:=by intro i v M w w' h k;rw[m]at k⊢;exact⟨k.a38,λb e=>by rw[h b e];exact k.own b e,f i v M w w' h k.uh⟩
theorem aFn{rd rc:Nat->Prop}{Q1:ByteArray->ByteArray->Nat->A1->A'->Prop}(Km:∀b,U b->R.old b/\¬rc b/\b≠R.AL)(x:R.X.P=A4)(FN:R.X.ty=Ik.tWg)(hn:R.X.n=R.ms.length)(u:R.ms.length<2147483648)(Wy:∀j p v,R.ms[j]?=Z (p,v)->R.w0.cell? ⟨R.bl,R.off+j*2,J⟩=Z (AI p)/\R.w0.cell? ⟨R.bl,R.off+j*2+1,J⟩=Z (AI v))(FT:R.old R.bl)(K:∀f,eI (R.from f) rd vr Q1)(H:∀f,(R.from f).X.Goal=(R.from f).Goal)(I:R.X.MM=YW rd C)(hC:∀i v M w w',(∀b,M b->w'.heap[b]?=w.heap[b]?)->C i v M w->C i v M w')(Ew:R.cs=c'::cs')(Bl:R.X.Wg=w.heap.size)(m:R.old=W3 R.X.Wb R.X.Wg R.X.Ch (w.heap.size+1))(A:R.w0={w with heap:=w.heap.push (Ms R.X.ty 0 0)})(hs:T.size=39)(h1:T.getD 1 Y=As (Z ⟨R.bl,R.off,J⟩) R.ms.length R.cap)(h2:T.getD 2 Y=Af R.br)(BH:T.getD 5 Y=Af R.AL)(FU:∃tm,w.heap[R.X.Ch]?=Z (aYQ R.X.n #[] A5 0 0 tm))(Lq:EM R.X.Wb w.heap.size R.X.Ch)(KM:Closed Cy R.X.B7 rc R.w0)(bh:∀b,rd b->rc b)(S:∀b,rc b->R.old b)(gE:∀(BA:List (Nat×A1))(w w2:A')(v:A1)(B:Nat),(∀b,R.old b->w.heap[b]?=R.w0.heap[b]?)->(∀i,(∃v,(i,v)∈BA)↔i<R.X.n)->(BA.map (·.1)).Nodup->(∀i v,(i,v)∈BA->∃M,(∀b,M b->b<w.heap.size/\b≠R.X.Ch)/\C i v M w)->R.w0.heap.size<=w.heap.size->B=w.heap.size->(∀b,b<w.heap.size->b≠R.X.Ch->w2.heap[b]?=w.heap[b]?)->w2.ownsRow B 234 8 v BA.length ((BA.map (·.2)).flatMap λv=>v.cells.toList)->∀T0,AZ A4 128 #[v,aYK (aYI 129) #[] #[]] (on w2 T0) λe y=>e=hq (aY8 #[])/\Q BA v w2 y)(gs:Array AK)(sl:Option (Nat×Nat))(t:DX)(q:Nat->Nat)(Iz:R.X.c0=gs.size)(Js:Dm A4 R.X.Wb gs w t q (G ((B6 126).at ⟨T,[]⟩ [aY7 o2 [0],aY9 c3]) R.cs)):∃(N:Nat)(D:Array AK)(w':A')(Dd:Option (Nat×Nat))(EA:Nat->Nat)(W:DX)(BA:List (Nat×A1))(v:A1)(w2 y:A')(s:Nat->Prop),Eg A4 N (Ea gs w sl) t=(aYG (Ea D w' Dd),W)/\Dm A4 R.X.B7 D w' W EA (G (c'.finish v) cs')/\Q BA v w2 y/\w'.heap=y.heap/\AJ Cy (D6 s) v v/\Closed Cy (λb=>R.X.B7 b∨U b) s w'/\(∀b,rc b->s b)/\(∀b,R.X.B7 b∨U b->b<w'.heap.size)/\(w'.os=R.w0.os/\w'.output=R.w0.output/\R.w0.heap.size<=w'.heap.size)/\∀b,U b->w'.heap[b]?=R.w0.heap[b]?:=by
 have hlt:∀b,R.old b->b<R.w0.heap.size:=λb hb=>by rw[m]at hb;rw[A];simpa using hb.1
 have ID:∀f,(R.from f).Ok:=λf=>aNF (R:=R.from f) x FN hn u Wy FT hlt (K f) (H f);have Bp:∀f,(R.from f).X.L8:=λf=>aRR (X:=(R.from f).X) I hC;obtain⟨MN,m1,t1,f,r1,E7⟩:=aCa ID H Bp Bl m A hs h1 h2 BH FU Lq gs sl t q Iz (by rw[x];exact Js);rw[x]at r1;have US:=K f;have z:R.X.Ch<R.w0.heap.size:=by rw[A];have:=Lq.1;simp;omega
 have aVG:=m▸US.AL;have sN:¬rc R.X.Ch:=λh=>by have this:R.old R.X.Ch:=S _ h;rw[m]at this;exact this.2.2.2 rfl
 have sU:¬R.old R.X.Ch:=λh=>by rw[m]at h;exact h.2.2.2 rfl
 have rl:R.AL<R.w0.heap.size/\¬R.X.B7 R.AL:=by
  have AV:R.old R.AL:=US.AL;refine⟨hlt _ AV,λh=>?_⟩;rw[m]at AV;rcases h with h|h;·exact AV.2.1 h
  ·exact AV.2.2.1 h
 obtain⟨N2,Rj,w2,SY,Dg,t2,BA,v,wa,HZ,s,g,r2,_,c2,rfl,AD,D',hv,Hj,ER,E8,NJ,rZ⟩:=aCo (R:=R.from f) (rd:=rd) (rc:=rc) (C:=C) (c':=c') (cs':=cs') (Q:=Q) (U:=U) Km sU x hn u Ew I KM bh S sN US.AL hlt US.ch z Lq.2 rl gE E7;exact⟨MN+N2,Rj,w2,SY,Dg,t2,BA,v,wa,HZ,s,Tw r1 r2,c2,AD,D',hv,Hj,ER,E8,NJ,rZ⟩
end
structure yh(w:A')(own:ByteArray)(br r1 r2 bi cap Aq:Nat)(G:List Rel)(rd:Nat->Prop):Prop where
 Hm:N1 reads rd w
 a1j:rd br
 l6:rd r1
 l7:rd r2
 l8:rd bi
 l9:rd Aq
 box:w.heap[br]?=Z (BE #[AI own,E3 (Z r1),E3 (Z r2),As (Z ⟨bi,0,J⟩) G.length cap,E3 (Z Aq)] 138)
 reads:Reads w own r1 r2 bi Aq G
 files:∀r∈G,∀a,r.Bj=Z a->rd a.block
 ok:O' G
 rel:∀r∈G,eF own r
def px(G:List Rel)(p v:ByteArray)(n:Nat)(x:A1)(w1:A'):Prop:=∃i,∃hi:i<G.length,G[i].name=(p,v)/\∃b,x=XK G[i] b/\w1.ownsRow n 85 2 b G[i].DT.length (F1 G[i].DT)/\GJ isStr w1 2 b G[i].DT.length
def H7(w:A')(M:Nat->Prop)(f:A1)(l:List Ax):Prop:=f=As J 0 0/\l=[]∨∃g b e q,f=As (Z ⟨g,0,J⟩) l.length b/\M g/\w.heap[g]?=Z (BE e 85 q)/\q.1=q.2/\e.toList.take (l.length*2)=F1 l
def Ua(G:List Rel)(ms:List (ByteArray×ByteArray))(j:Nat)(x:A1)(M:Nat->Prop)(w:A'):Prop:=∃i,∃hi:i<G.length,ms[j]?=Z G[i].name/\∃b,x=XK G[i] b/\H7 w M b G[i].DT
theorem Ua.aRQ{G:List Rel}(h:∀b,M b->w'.heap[b]?=w.heap[b]?)(k:Ua G ms j x M w):Ua G ms j x M w':=by
 obtain⟨i,hi,m,p,h2,h3⟩:=k;refine⟨i,hi,m,p,h2,?_⟩;rcases h3 with h3|⟨g,e,f,q,a,b,c,d⟩;·exact AA h3
 ·exact AF ⟨g,e,f,q,a,b,by rw[h g b];exact c,d⟩
theorem aJV{c:Array A1}(h:w.heap[b]?=Z (BE c t p))(e:w'.heap[b]?=Z (PR (BE c t p)))(o:Nat):w'.cell? ⟨b,o,J⟩=w.cell? ⟨b,o,J⟩:=by simp[F3,h,e,PR]
theorem zX{o:Nat}(h:w.cell? ⟨b,o,J⟩=Z v):∃c t p,w.heap[b]?=Z (BE c t p):=by
 unfold F3 at h;split at h;·exact⟨_,_,_,by assumption⟩
 ·cases h
theorem aPp{own:ByteArray}{G:List Rel}{rd:Nat->Prop}(h:Reads w own r1 r2 bi Aq G)(y:rd 0)(z:rd r1)(h2:rd r2)(f:rd bi)(C:rd Aq)(hi:∀b o,rd b->w.heap[b]?=Z o->w'.heap[b]?=Z (Twin.PR o)):Reads w' own r1 r2 bi Aq G:=by
 have hc:∀b o v,rd b->w.cell? ⟨b,o,J⟩=Z v->w'.cell? ⟨b,o,J⟩=Z v:=λb o v f hv=>by obtain⟨c,t,p,e⟩:=zX hv;rw[aJV e (hi b _ f e)];exact hv
 obtain⟨⟨m,g⟩,⟨c1,e1⟩,⟨c2,e2⟩,⟨c3,s⟩,x⟩:=h;refine⟨⟨m,hc _ _ _ y g⟩,⟨c1,hi _ _ z e1⟩,⟨c2,hi _ _ h2 e2⟩,⟨c3,hi _ _ C s⟩,λi A=>?_⟩;obtain⟨a,b,c,d⟩:=x i A;exact⟨hc _ _ _ f a,hc _ _ _ f b,hc _ _ _ f c,hc _ _ _ f d⟩
theorem a5q{F:Nat->Prop}{E:AN}:∀{l e:List A1},Ab F E l e->(∀u∈l,isStr u)->e=l|_,_,.nil,_=>rfl|_,_,.cons (v:=v) (v':=v') h t,hs=>by obtain⟨s,rfl⟩:=hs v (by simp);cases h;rw[a5q t λu hu=>hs u (by simp[hu])]
theorem aNK(x:ByteArray):(AI x).oneCell'=A0:=rfl
theorem aNJ(a:Option Aa)(l c:Nat):(As a l c).oneCell'=A0:=rfl
theorem aNI(k:IntKind)(n:Int):(IS k n).oneCell'=A0:=rfl
theorem aTF{E:AN}{HY u B D H:ByteArray}{v5 I:A1}{k:IntKind}{n:Int}{K:List A1}(h:Ab F E [AI HY,AI u,AI B,AI D,AI H,v5,IS k n,I] K):∃b e,K=[AI HY,AI u,AI B,AI D,AI H,b,IS k n,e]/\AJ F E v5 b/\AJ F E I e:=by cases h with|cons f h=>cases f;cases h with|cons m h=>cases m;cases h with|cons h2 h=>cases h2;cases h with|cons h3 h=>cases h3;cases h with|cons h4 h=>cases h4;cases h with|cons p h=>cases h with|cons s h=>cases s;cases h with|cons x h=>cases h with|nil=>exact⟨_,_,rfl,p,x⟩
theorem a5r{F:Nat->Prop}{E:AN}:∀{l:List A1},(∀u∈l,isStr u)->Ab F E l l|[],_=>.nil|v::l,hs=>by obtain⟨s,rfl⟩:=hs v (by simp);exact .cons (.string s) (a5r λu hu=>hs u (by simp[hu]))
section
theorem aL3{v0 m u v3 v4:A1}(h2:ρ (oM 2)=Af br)(h:w.heap[br]?=Z (BE #[v0,m,u,v3,v4] 138 p)):∃b,(AU ρ (I6 1)).runT A4 w #[]=(aY6 (aYD (dd #[v0,m,u,v3,v4])) w,b):=by
 have e:(I6 1).op=aYf 138 (oM 2):=by kernel_rfl
 unfold AU;rw[e];simp only[h2];have c0:w.cell? ⟨br,0,J⟩=Z v0:=by simp[F3,h]
 have c1:w.cell? ⟨br,1,J⟩=Z m:=by simp[F3,h]
 have c2:w.cell? ⟨br,2,J⟩=Z u:=by simp[F3,h]
 have c3:w.cell? ⟨br,3,J⟩=Z v3:=by simp[F3,h]
 have c4:w.cell? ⟨br,4,J⟩=Z v4:=by simp[F3,h]
 exact⟨_,by simp[go_sem,c0,c1,c2,c3,c4];rfl⟩
theorem aQu{R:IY}{rd:Nat->Prop}{own:ByteArray}{G:List Rel}(f:yh R.w0 own R.br r1 r2 bi cap Aq G rd)(PL:∀b,rd b->R.old b)(QE:R.old R.AL)(FU:∃t p,R.w0.heap[R.AL]?=Z (BE #[aYC (Z R.X.Ch)] t p))(Mb:R.X.MM=YW rd (Ua G R.ms))(H2:∀(j:Nat)p v,R.ms[j]?=Z (p,v)->∃i,∃hi:i<G.length,G[i].name=(p,v)):eI R rd (HW own r1 r2 bi G.length cap Aq) (px G):=by
 refine⟨f.Hm,PL,f.a1j,QE,FU,λw B ρ BJ=>?_,λj p v W w B=>?_,?_⟩;·exact aL3 BJ (B _ _ f.a1j f.box)
 ·obtain⟨i,hi,hn⟩:=H2 j p v W;have A2:=aPp f.reads (f.Hm.EF 0 (by decide)) f.l6 f.l7 f.l8 f.l9 B;have TP:=aPk own r1 r2 bi cap Aq G i hi f.ok (f.rel _ (EC hi)) w A2;have e1:G[i].p=p:=congrArg Prod.fst hn;have e2:G[i].v=v:=congrArg Prod.snd hn;rw[e1,e2]at TP;refine TP.mono ?_;rintro e w1⟨B5,rfl,AQ,D,m⟩;exact⟨_,rfl,⟨i,hi,hn,B5,rfl,AQ,D⟩,m.block⟩
 ·intro j p v BB W bc n E x x' w1 w' S Uy V9 fd hx AD A2 hc aV9;obtain⟨i,hi,hn,B5,rfl,AQ,D⟩:=AD;have Ma:=EC hi;have U:=f.files _ Ma;generalize AB:G[i]=r at hn AQ D hx U;obtain⟨a5I,DY,a5F,C,B4,Bt,ip⟩:=r;simp only[XK]at hx AQ D U;have F0:∀a z,C=Z a->D7 E a z->z=a:=λa z A6 LD=>by have Q:E.rel a.block a.block:=fd _ _ ⟨rfl,AA (U a A6)⟩;have h2:=E.one _ _ _ LD.1 Q;obtain⟨b,o,s⟩:=a;obtain⟨b',o',D9⟩:=z;obtain⟨_,h3,h4⟩:=LD;simp only at h2 h3 h4;subst h2 h3 h4;rfl
  cases hx with
  |agg hv=>
   rename_i z;obtain⟨g6⟩:=z;obtain⟨m0,I,qb,BH,FQ⟩:=aTF hv;have qb:g6=_:=qb;subst qb
   ·skip;have Iu:m0=As C B4 Bt:=by cases BH with|Gt=>rfl|slice _ _ LD=>rw[F0 _ _ rfl LD]
    subst Iu;have aJD:∀M,AJ Cy (D6 (eC rd M)) (As C B4 Bt) (As C B4 Bt):=λM=>by cases C with|none=>exact .Gt _ _|some a=>exact .slice _ _ ⟨⟨rfl,AA (U a rfl)⟩,rfl,rfl⟩
    rw[Mb];have aIG:R.ms[j]?=Z (p,v):=W;have aIJ:∃M:Nat->Prop,(∀b,M b->S b/\b≠BB)/\AJ Cy (D6 (eC rd M)) I I/\I.oneCell'=A0/\(∀b,M b->∃o,w'.heap[b]?=Z o/\GI Cy (D6 (eC rd M)) o o)/\H7 w' M I ip:=by
     rcases AQ.2 with⟨e,FP⟩|⟨g,Gy,K,e,aVd,Lr,_,_,Ew,ZB⟩;·subst e;cases FQ;exact⟨λ_=>False,λb m=>m.elim,.Gt _ _,rfl,λb m=>m.elim,AA ⟨rfl,List.length_eq_zero_iff.1 FP⟩⟩
     ·subst e;cases FQ with
      |slice _ _ LD=>
       rename_i q2;obtain⟨hrel,A7,hs⟩:=LD;obtain⟨A,o',D9⟩:=q2;simp only at hrel A7 hs;subst A7 hs;have aIN:¬rd g:=λh=>by have:=V9 g h;omega
       have aGk:S A:=by
        rcases hc g A hrel with⟨h,_⟩|⟨_,h⟩;·exact absurd h aIN
        ·exact h
       have aHZ:A≠BB:=λh=>by subst h;have:=E.other _ _ _ hrel (fd _ _ ⟨rfl,AF rfl⟩);omega
       have H:∀u∈K.toList,isStr u:=by
        intro u hu;obtain⟨k,hk,rfl⟩:=List.mem_iff_getElem.1 hu;by_cases hlt:k<ip.length*2
        ·have Q:K.toList[k]∈F1 ip:=by rw[<-ZB];exact List.mem_iff_getElem.2 ⟨k,by simp at hk⊢;omega,by simp⟩
         unfold F1 at Q;obtain⟨y,_,hy⟩:=List.mem_flatMap.1 Q;simp only[Hw,H8,or_false]at hy;rcases hy with hy|hy<;>exact⟨_,hy⟩
        ·refine D g Gy K 85 (0,0) rfl Lr k _ (by omega) ?_;rw[<-Array.getElem?_toList];exact List.getElem?_eq_getElem hk
       obtain⟨T,Ey⟩:=A2;obtain⟨o1,cD,N,bB,sW⟩:=Ey.heap g A hrel;have N:w1.heap[g]?=Z o1:=N;rw[Lr]at N;obtain rfl:=D3 N;cases sW with
       |cells _ Ih AR=>
        rename_i c' q;have Wj:c'=K:=Array.toList_inj.1 (a5q Ih H);subst Wj;have AD:q.1=q.2:=by
         rcases AR with h|⟨_,_,h⟩;·exact h
         ·exact absurd rfl h
        refine⟨λb=>b=A,λb m=>by subst m;exact⟨aGk,aHZ⟩,.slice _ _ ⟨⟨rfl,AF rfl⟩,rfl,rfl⟩,rfl,λb m=>?_,AF ⟨A,Gy,c',q,rfl,rfl,bB,AD,ZB⟩⟩;subst m;exact⟨_,bB,.cells _ (a5r H) (Mr.refl _)⟩
    obtain⟨M,aGe,QA,kE,aGf,aGg⟩:=aIJ;refine⟨M,aGe,⟨_,rfl,rfl,?_,?_⟩,aGf,⟨i,hi,?_,I,?_,?_⟩⟩;·simp[kE,aNK,aNJ,aNI]
    ·exact .cons (.string _) (.cons (.string _) (.cons (.string _) (.cons (.string _) (.cons (.string _) (.cons (aJD M) (.cons (.int _ _) (.cons QA .nil)))))))
    ·rw[aIG,AB];exact congrArg Z hn.symm
    ·rw[AB]
    ·rw[AB];exact aGg
end
noncomputable def a5n(Wb rd:Nat->Prop)(G:List Rel)(ms:List (ByteArray×ByteArray))(cs:List AY)(bl off cap c0:Nat)(w':A')(b:Nat)(Goal:(Nat->Prop)->(Nat->Prop)->AK->A'->Prop):IY:={
 X:={P:=A4,ty:=Ik.tWg,Wg:=w'.heap.size,Ch:=b+1,c0:=c0,N0:=0,n:=ms.length,Wb:=Wb,MM:=YW rd (Ua G ms),Goal:=Goal}
 cs:=cs
 ,
 bl:=bl
 ,
 off:=off
 ,
 cap:=cap
 ,
 ms:=ms
 ,
 br:=b
 ,
 AL:=b+2
 old:=W3 Wb w'.heap.size (b+1) (w'.heap.size+1)
 ,
 w0:={w' with heap:=w'.heap.push (Ms Ik.tWg 0 0)}}
noncomputable def Mo(Wb rd:Nat->Prop)(G:List Rel)(ms:List (ByteArray×ByteArray))(cs:List AY)(bl off cap c0:Nat)(w':A')(b:Nat):IY:=a5n Wb rd G ms cs bl off cap c0 w' b (a5n Wb rd G ms cs bl off cap c0 w' b λ_ _ _ _=>False).Goal
section
theorem aRP(Wb rd:Nat->Prop)(G:List Rel)(ms:List (ByteArray×ByteArray))(cs:List AY)(bl off cap c0:Nat)(w':A')(e N0:Nat):((Mo Wb rd G ms cs bl off cap c0 w' e).from N0).X.Goal=((Mo Wb rd G ms cs bl off cap c0 w' e).from N0).Goal:=by
 funext Sh S g w;refine propext ⟨?_,?_⟩;·rintro⟨T,b,h2,h3⟩;exact⟨T,⟨b.size,b.t1,b.t2,b.t5,b.t6,b.t14,b.t15,b.t16⟩,⟨h2.Uf,h2.NY,h2.s,h2.same,h2.size,h2.out⟩,h3⟩
 ·rintro⟨T,b,h2,h3⟩;exact⟨T,⟨b.size,b.t1,b.t2,b.t5,b.t6,b.t14,b.t15,b.t16⟩,⟨h2.Uf,h2.NY,h2.s,h2.same,h2.size,h2.out⟩,h3⟩
end
theorem aN6{l:List Nat}(b:l.Nodup)(h:∀i,i∈l↔i<n):l.Perm (H9 n):=by refine(List.perm_ext_iff_of_nodup b List.nodup_range).2 λi=>?_;rw[h,List.mem_range]
theorem a5T{G:List Rel}{ms:List (ByteArray×ByteArray)}{w:A'}{Ch:Nat}:∀(BA:List (Nat×A1)),(∀i x,(i,x)∈BA->∃M,(∀b,M b->b<w.heap.size/\b≠Ch)/\Ua G ms i x M w)->∃L:List Cb,L.length=BA.length/\(BA.map (·.2)).flatMap (λv=>v.cells.toList)=HV L/\L.map (λx=>Z x.rel.name)=BA.map (λs=>ms[s.1]?)/\∀x∈L,x.rel∈G/\∃M,(∀b,M b->b<w.heap.size/\b≠Ch)/\H7 w M x.B5 x.rel.DT
 |[],_=>⟨[],rfl,rfl,rfl,λx hx=>by cases hx⟩
 |(i,x)::S,h=>by
  obtain⟨L,z,h2,h3,h4⟩:=a5T S λj y C=>h j y (by simp[C]);obtain⟨M,A,k,D,hn,B5,rfl,p⟩:=h i x (by simp);obtain⟨f,m,rfl⟩:∃f m,B5=As f G[k].DT.length m:=by
   rcases p with⟨rfl,e⟩|⟨g,c,H,q,rfl,_⟩;·exact⟨J,0,by rw[e];rfl⟩
   ·exact⟨_,_,rfl⟩
  refine⟨⟨G[k],f,m⟩::L,by simp[z],?_,?_,?_⟩;·rw[uY,GU,List.flatMap_cons,h2];rfl
  ·simp only[GU,h3,hn]
  ·intro y hy;rcases List.mem_cons.1 hy with rfl|hy;·exact⟨EC D,M,A,p⟩
   ·exact h4 y hy
theorem gU(h:H7 w M B5 l):HO w B5 l:=by
 rcases h with h|⟨g,b,s,q,e,_,hc,_,p⟩;·exact AA h
 ·refine AF ⟨g,b,e,λj m=>?_⟩;have a0Y:=tj l j m;have f:∀k u,(F1 l)[k]?=Z u->w.cell? ⟨g,k,J⟩=Z u:=λk u hu=>by
   rw[Ad hc];rw[<-p,List.getElem?_take]at hu;split at hu;·simpa using hu
   ·cases hu
  exact⟨f _ _ a0Y.1,f _ _ a0Y.2⟩
theorem H7.same(h:H7 w M B5 l)(e:∀b,M b->w'.heap[b]?=w.heap[b]?):H7 w' M B5 l:=by
 rcases h with h|⟨g,f,m,q,a,b,c,d⟩;·exact AA h
 ·exact AF ⟨g,f,m,q,a,b,by rw[e g b];exact c,d⟩
theorem H7.mono(h:H7 w M B5 l):H7 w (λ_=>True) B5 l:=by
 rcases h with h|⟨g,b,e,q,a,_,c,d⟩;·exact AA h
 ·exact AF ⟨g,b,e,q,a,trivial,c,d⟩
def yi(G:List Rel)(ms:List (ByteArray×ByteArray))(v:A1)(w2 w1:A'):Prop:=∃g c L,v=As (Z ⟨g,0,J⟩) ms.length c/\L.length=ms.length/\T7 w1 g L/\T8 L/\(names L).Perm ms/\(∀x∈L,x.rel∈G/\H7 w1 (λ_=>True) x.B5 x.rel.DT)/\w2.heap.size<=w1.heap.size/\∀b,b<w2.heap.size->b≠g->w1.heap[b]?=w2.heap[b]?
theorem aRF{G:List Rel}{w2:A'}{B:Nat}{m:Int}(W:∀r∈G,r.v.size<=40)(hn:ms.length<=1000000)(li:0<ms.length)(X:∀i,(∃x,(i,x)∈BA)↔i<ms.length)(EH:(BA.map (·.1)).Nodup)(hC:∀i x,(i,x)∈BA->∃M,(∀b,M b->b<w.heap.size/\b≠Ch)/\Ua G ms i x M w)(DC:B=w.heap.size)(F0:∀b,b<w.heap.size->b≠Ch->w2.heap[b]?=w.heap[b]?)(hm:w2.cell? ⟨0,0,J⟩=Z (IS Po m))(AV:0<w.heap.size)(AQ:w2.ownsRow B 234 8 v BA.length ((BA.map (·.2)).flatMap λv=>v.cells.toList))(T0:Tape):AZ A4 128 #[v,aYK (aYI 129) #[] #[]] (on w2 T0) λe N=>e=hq (aY8 #[])/\yi G ms v w2 N:=by
 obtain⟨L,H,kO,I,D⟩:=a5T BA hC;have S:(BA.map (·.1)).Perm (H9 ms.length):=aN6 EH λi=>by
  rw[<-X i];constructor;·intro h;obtain⟨y,hy,rfl⟩:=List.mem_map.1 h;exact⟨y.2,hy⟩
  ·rintro⟨x,hx⟩;exact List.mem_map.2 ⟨_,hx,rfl⟩
 have C:BA.length=ms.length:=by have:=S.length_eq;simpa using this
 have NI:(names L).Perm ms:=by
  have h1:(names L).map Z=BA.map λs=>ms[s.1]?:=by rw[<-I];simp[names]
  have h2:(BA.map λs=>ms[s.1]?).Perm ((H9 ms.length).map λi=>ms[i]?):=by have:=S.map λi=>ms[i]?;rwa[List.map_map]at this
  have h3:((H9 ms.length).map λi=>ms[i]?)=ms.map Z:=by
   apply List.ext_getElem?;intro i;rw[W',W'];by_cases hi:i<ms.length;·simp[hi]
   ·simp[hi]
  rw[<-h1,h3]at h2;have h4:=h2.filterMap id;simpa using h4
 rw[kO,C,<-H.trans C]at AQ;obtain⟨g,c,rfl,aV1,Fl⟩:=tV AQ (by omega);have Fo:∃A,w2.heap[g]?=Z (BE A 234 (0,0)):=by
  rcases AQ.2 with⟨e,_⟩|⟨g',c',A,e,_,h,_⟩;·cases e
  ·injection e with e;injection e with e;injection e with e;subst e;exact⟨A,h⟩
 obtain⟨A,Lr⟩:=Fo;have p:∀j(h:j<L.length),N5 w2 g j L[j]:=λj f=>by have k:=λo u K hu=>QV AQ _ _ (mY L j f o u K hu);exact⟨k 0 _ (by omega) rfl,k 1 _ (by omega) rfl,k 2 _ (by omega) rfl,k 3 _ (by omega) rfl,k 4 _ (by omega) rfl,k 5 _ (by omega) rfl,k 6 _ (by omega) rfl,k 7 _ (by omega) rfl⟩
 have aHc:w.heap.size<=g:=by omega
 refine(a5h g c m L (on w2 T0) (by omega) (λx hx=>W _ (D x hx).1) (by omega) Fl (λj f=>⟨(p j f).c0,(p j f).c1,(p j f).c2,(p j f).c3,(p j f).c4,(p j f).c5,(p j f).FO,(p j f).F7⟩) (λo=>Dv (w:=on w2 T0) Lr o) hm).mono ?_;rintro e N⟨rfl,R,hp,K,Fx,GH,Q⟩;have z:∀x∈R,H7 N (λ_=>True) x.B5 x.rel.DT:=λx hx=>by
  obtain⟨_,M,Ai,A9⟩:=D x (hp.mem_iff.1 hx);refine H7.mono (A9.same (M:=M) λb hb=>?_);obtain⟨U,KI⟩:=Ai b hb;have h2:=F0 b U KI;have kc:b<w2.heap.size:=by rw[ET U]at h2;exact(Array.getElem?_eq_some_iff.1 h2).1
  exact(Q b kc (by omega)).trans h2
 exact⟨rfl,g,c,R,by rw[H,C],by rw[hp.length_eq,H,C],λj f=>⟨Fx j f,gU (z _ (EC f))⟩,K,(show(names R).Perm (names L)from hp.map _).trans NI,λx hx=>⟨(D x (hp.mem_iff.1 hx)).1,z x hx⟩,GH,Q⟩
def y_(G:List Rel)(ms:List (ByteArray×ByteArray))(v:A1)(w':A'):Prop:=∃g c L,v=As (Z ⟨g,0,J⟩) ms.length c/\L.length=ms.length/\T7 w' g L/\T8 L/\(names L).Perm ms/\∀x∈L,x.rel∈G/\H7 w' (λ_=>True) x.B5 x.rel.DT
section
variable[Ck]
theorem aCZ{rd:Nat->Prop}{own:ByteArray}{G:List Rel}{bl off cap2:Nat}(K:Holds Wb R w)(u:∀b,rd b->R b)(H:N1 reads rd w)(kq:Reads w own r1 r2 bi Aq G)(PQ:rd r1)(OJ:rd r2)(S:rd bi)(bt:rd Aq)(Wn:∀r∈G,∀a,r.Bj=Z a->rd a.block)(B8:O' G)(hrel:∀r∈G,eF own r)(JS:∀r∈G,r.v.size<=40)(FT:R bl)(Wy:∀j p v,ms[j]?=Z (p,v)->w.cell? ⟨bl,off+j*2,J⟩=Z (AI p)/\w.cell? ⟨bl,off+j*2+1,J⟩=Z (AI v))(H2:∀(j:Nat)p v,ms[j]?=Z (p,v)->∃i,∃hi:i<G.length,G[i].name=(p,v))(hn:ms.length<=1000000)(li:0<ms.length):Goes Wb (Go.Conc.G (GR A4 126 #[HW own r1 r2 bi G.length cap Aq,As (Z ⟨bl,off,J⟩) ms.length cap2] a73) (c'::cs')) w λB7 g' w'=>∃R' v,g'=Go.Conc.G (c'.finish v) cs'/\AJ Cy (D6 R') v v/\(∀b,R b->R' b)/\Holds B7 R' w'/\(∀b,R b->w'.heap[b]?=w.heap[b]?)/\y_ G ms v w'/\∀b c,v=As (Z ⟨b,0,J⟩) ms.length c->¬R b:=by
 refine .JW (aEj (rc:=#[AI own,E3 (Z r1),E3 (Z r2),As (Z ⟨bi,0,J⟩) G.length cap,E3 (Z Aq)]) (cs:=c'::cs') (bl:=bl) (off:=off) (n:=ms.length) (cap:=cap2) K.low (by omega)) ?_;rintro g s⟨T,rfl,B3,h1,h2,BH,Ry⟩;intro A U a'v Km gs sl t q Js;have a'x:∀b,¬Wb b->¬A b:=λb h x=>h (a'v▸AA x);have a'w:∀b,U b->Wb b:=λb h=>a'v▸AF h;have GH:s.heap.size=w.heap.size+3:=by rw[Ry];simp
 have zA:∀b,b<w.heap.size->s.heap[b]?=w.heap[b]?:=λb f=>by rw[Ry,H4 (by simp;omega),<-ET,H4 (by simp;omega),<-ET,H4 f,<-ET]
 have b0:s.heap[w.heap.size]?=Z (BE #[AI own,E3 (Z r1),E3 (Z r2),As (Z ⟨bi,0,J⟩) G.length cap,E3 (Z Aq)] 138):=by rw[Ry,H4 (by simp;omega),<-ET,H4 (by simp),<-ET,OX,if_pos rfl]
 have E6:s.heap[w.heap.size+1]?=Z (aYQ ms.length #[] A5 0 0 A5):=by rw[Ry,H4 (by simp),<-ET,OX,if_pos (by simp)]
 have b2:s.heap[w.heap.size+2]?=Z (BE #[aYC (Z (w.heap.size+1))] 316):=by rw[Ry,OX,if_pos (by simp)]
 let D:Nat->Prop:=λb=>rd b∨b=w.heap.size;let rc:Nat->Prop:=λb=>R b∨b=w.heap.size;have W:∀b,R b->b<w.heap.size:=λb f=>K.closed.lt f;have aGi:∀b,R b->¬A b:=λb f=>a'x b (K.closed.off b f);have re:∀b,w.heap.size<=b->¬A b:=λb f=>a'x b λh=>by have:=K.low b h;omega
 have Zc:∀b,b<s.heap.size->(Mo A D G ms (c'::cs') bl off cap2 gs.size s w.heap.size).w0.heap[b]?=s.heap[b]?:=λb f=>by show(s.heap.push _)[b]?=_;rw[H4 f,<-ET]
 have Dq:∀b o v,b<w.heap.size->w.cell? ⟨b,o,J⟩=Z v->(Mo A D G ms (c'::cs') bl off cap2 gs.size s w.heap.size).w0.cell? ⟨b,o,J⟩=Z v:=λb o v f hv=>(F4 (a:=⟨b,o,J⟩) ((Zc b (by omega)).trans (zA b f))).trans hv;have FF:∀b,b<w.heap.size->(Mo A D G ms (c'::cs') bl off cap2 gs.size s w.heap.size).w0.heap[b]?=w.heap[b]?:=λb f=>(Zc b (by omega)).trans (zA b f);have ft:∀b,rc b->(Mo A D G ms (c'::cs') bl off cap2 gs.size s w.heap.size).old b:=λb f=>by
  show b<s.heap.size+1/\¬A b/\b≠s.heap.size/\b≠w.heap.size+1;rcases f with f|rfl;·have:=W b f;exact⟨by omega,aGi b f,by omega,by omega⟩
  ·exact⟨by omega,re _ (AX _),by omega,by omega⟩
 have aIB:N1 reads D (Mo A D G ms (c'::cs') bl off cap2 gs.size s w.heap.size).w0:=by
  refine⟨λb f=>?_,λb f=>AA (H.EF b f),?_⟩
  ·rcases f with f|rfl;·obtain⟨o,e,k,z⟩:=H.heap b f;exact⟨o,(FF b (H.lt f)).trans e,k.mono (OK λc y=>AA y),z⟩
   ·refine⟨_,(Zc _ (by omega)).trans b0,.cells _ (.cons (.string _) (.cons (.map ⟨rfl,AA PQ⟩) (.cons (.map ⟨rfl,AA OJ⟩) (.cons (.slice _ _ ⟨⟨rfl,AA S⟩,rfl,rfl⟩) (.cons (.map ⟨rfl,AA bt⟩) .nil))))) (.refl _),λc t p e=>?_⟩;cases e;rfl
  ·show D4<=(s.heap.push _).size;have:=H.low;simp;omega
 have aIj:Reads (Mo A D G ms (c'::cs') bl off cap2 gs.size s w.heap.size).w0 own r1 r2 bi Aq G:=by obtain⟨⟨m,hm⟩,⟨c1,e1⟩,⟨c2,e2⟩,⟨c3,DF⟩,EX⟩:=kq;refine⟨⟨m,Dq _ _ _ (Ff (h:=hm)) hm⟩,⟨c1,(FF _ (H.lt PQ)).trans e1⟩,⟨c2,(FF _ (H.lt OJ)).trans e2⟩,⟨c3,(FF _ (H.lt bt)).trans DF⟩,λi hi=>?_⟩;obtain⟨g5,fk,g0,g2⟩:=EX i hi;exact⟨Dq _ _ _ (H.lt S) g5,Dq _ _ _ (H.lt S) fk,Dq _ _ _ (H.lt S) g0,Dq _ _ _ (H.lt S) g2⟩
 have aIu:yh (Mo A D G ms (c'::cs') bl off cap2 gs.size s w.heap.size).w0 own w.heap.size r1 r2 bi cap Aq G D:=⟨aIB,AF rfl,AA PQ,AA OJ,AA S,AA bt,(Zc _ (by omega)).trans b0,aIj,λr A2 a A6=>AA (Wn r A2 a A6),B8,hrel⟩;have aHD:Closed Cy (Mo A D G ms (c'::cs') bl off cap2 gs.size s w.heap.size).X.B7 rc (Mo A D G ms (c'::cs') bl off cap2 gs.size s w.heap.size).w0:=by
  refine⟨λb f=>?_,λb f=>?_,λb f=>AA (K.closed.EF b f)⟩
  ·rcases f with f|rfl;·obtain⟨o,e,k⟩:=K.closed.heap b f;exact⟨o,(FF b (W b f)).trans e,k.mono (OK λc y=>AA y)⟩
   ·exact⟨_,(Zc _ (by omega)).trans b0,.cells _ (.cons (.string _) (.cons (.map ⟨rfl,AA (u _ PQ)⟩) (.cons (.map ⟨rfl,AA (u _ OJ)⟩) (.cons (.slice _ _ ⟨⟨rfl,AA (u _ S)⟩,rfl,rfl⟩) (.cons (.map ⟨rfl,AA (u _ bt)⟩) .nil))))) (.refl _)⟩
  ·have h:=ft b f;rintro(x|x);·exact h.2.1 x
   ·exact h.2.2.1 x
 have rY:∀b,U b->b<w.heap.size:=λb f=>K.low b (a'w b f);have aGn:∀b,U b->(Mo A D G ms (c'::cs') bl off cap2 gs.size s w.heap.size).old b/\¬rc b/\b≠(Mo A D G ms (c'::cs') bl off cap2 gs.size s w.heap.size).AL:=λb f=>by
  have h1:=rY b f;refine⟨?_,λx=>?_,?_⟩;·show b<s.heap.size+1/\¬A b/\b≠s.heap.size/\b≠w.heap.size+1;exact⟨by omega,(Km b f).1,by omega,by omega⟩
  ·rcases x with x|x;·exact K.closed.off b x (a'w b f)
   ·omega
  ·show b≠w.heap.size+2;omega
 obtain⟨m,hm⟩:=kq.EF;have aUw:0<w.heap.size:=Ff (h:=hm);have aH3:W3 A s.heap.size (w.heap.size+1) (s.heap.size+1) (w.heap.size+2):=⟨by omega,re _ (by omega),by omega,by omega⟩;have aH7:EM A s.heap.size (w.heap.size+1):=⟨by omega,re _ (by omega)⟩;have aIo:∀N0,eI ((Mo A D G ms (c'::cs') bl off cap2 gs.size s w.heap.size).from N0) D (HW own r1 r2 bi G.length cap Aq) (px G):=λN0=>aQu (R:=(Mo A D G ms (c'::cs') bl off cap2 gs.size s w.heap.size).from N0) aIu (λb f=>ft b (f.imp (u b) id)) aH3 ⟨_,_,(Zc (w.heap.size+2) (by omega)).trans b2⟩ rfl H2;obtain⟨N,Dx,w',Dd,EA,Bd,BA,v,w2,w3,Di,Au,hc,⟨AD,f_⟩,D',hv,Hj,ER,E8,NJ,rZ⟩:=aFn (R:=Mo A D G ms (c'::cs') bl off cap2 gs.size s w.heap.size) (rd:=D) (rc:=rc) (vr:=HW own r1 r2 bi G.length cap Aq) (Q1:=px G) (C:=Ua G ms) (c':=c') (cs':=cs') (U:=U) (Q:=λ_ v w2 s=>yi G ms v w2 s/\∀b,R b->b<w2.heap.size/\(∀g c,v=As (Z ⟨g,0,J⟩) ms.length c->g≠b)/\w2.heap[b]?=w.heap[b]?) aGn rfl rfl rfl (by show ms.length<_;omega) (λj p v H1=>⟨Dq _ _ _ (W _ FT) (Wy j p v H1).1,Dq _ _ _ (W _ FT) (Wy j p v H1).2⟩) (ft _ (AA FT)) aIo (λN0=>aRP _ _ _ _ _ _ _ _ _ _ _ N0) rfl (λi v M w w'=>Ua.aRQ) rfl rfl rfl rfl B3 h1 h2 BH ⟨A5,E6⟩ aH7 aHD (λb f=>f.imp (u b) id) ft λBA wa HZ v B Da Jp EH hC KO DC BM AQ T0=>by
  have aVt:s.heap.size+1<=wa.heap.size:=by have h:(s.heap.push _).size<=wa.heap.size:=KO;simpa using h
  have kG:∀b,R b->HZ.heap[b]?=w.heap[b]?:=λb f=>by have:=W b f;rw[BM b (by omega) (by show b≠w.heap.size+1;omega),Da b (ft b (AA f)),FF b this]
  have Kr:HZ.cell? ⟨0,0,J⟩=Z (IS Po m):=(F4 (a:=⟨0,0,J⟩) (kG 0 (u _ (H.EF 0 (by decide))))).trans hm;refine(aRF (m:=m) JS hn li Jp EH hC DC BM Kr (by omega) AQ T0).mono ?_;rintro e w4⟨rfl,AD⟩;refine⟨rfl,AD,λb f=>⟨?_,λBC c e=>?_,kG b f⟩⟩;·have h:=kG b f;rw[ET (W b f)]at h;exact(Array.getElem?_eq_some_iff.1 h).1
  ·subst e;have:=(AQ.lt BC rfl).1;have:=W b f;omega gs sl t q rfl Js
 ·have J':JI U s w':=⟨NJ.1,NJ.2.1,HA (by show s.heap.size<=(s.heap.push _).size;simp) NJ.2.2,λb f _=>(rZ b f).trans (Zc b (by have:=rY b f;omega))⟩;refine⟨N,Dx,_,w',Dd,Bd,EA,_,Au,hc,λb f x=>?_,J',Di,v,rfl,hv,λb f=>ER b (AA f),⟨Hj,E8⟩,λb f=>?_,?_,λb c hv f=>(f_ b f).2.1 b c hv rfl⟩
  ·have:=rY b f;rcases x with x|x;·exact(Km b f).1 x
   ·have x:b=s.heap.size:=x;omega
  ·obtain⟨BC,c,L,rfl,_,_,_,_,_,_,Fw⟩:=AD;obtain⟨k1,Dl,J4⟩:=f_ b f;rw[D',Fw b k1 (Dl BC c rfl).symm,J4]
  ·obtain⟨BC,c,L,e,Bz,Ev,KL,NI,D5,_⟩:=AD;refine⟨BC,c,L,e,Bz,λj H1=>?_,KL,NI,λx hx=>⟨(D5 x hx).1,(D5 x hx).2.same λb _=>by rw[D']⟩⟩;obtain⟨⟨g5,fk,g0,g2,g9,m0,n3,B2⟩,Ls⟩:=Ev j H1;have I:∀a,w'.cell? a=w3.cell? a:=λa=>by simp[F3,D']
   refine⟨⟨(I _).trans g5,(I _).trans fk,(I _).trans g0,(I _).trans g2,(I _).trans g9,(I _).trans m0,(I _).trans n3,(I _).trans B2⟩,?_⟩;rcases Ls with h|⟨Ds,c2,e2,h⟩;·exact AA h
   ·exact AF ⟨Ds,c2,e2,λk hk=>⟨(I _).trans (h k hk).1,(I _).trans (h k hk).2⟩⟩
end
noncomputable def KB:Cv:=(Od.body).getD aYT
noncomputable def lp:Cv:=fstC KB
noncomputable def lq:Cv:=fstC (sndC KB)
noncomputable def lr:Cv:=fstC (sndC (sndC KB))
noncomputable def cA:Cv:=fstC (sndC (sndC (sndC KB)))
noncomputable def SI:Cv:=fstC (sndC (sndC (sndC (sndC KB))))
noncomputable def M2:Cv:=sndC (sndC (sndC (sndC (sndC KB))))
theorem aCg:KB=aYB lp (aYB lq (aYB lr (aYB cA (aYB SI M2)))):=by kernel_rfl
theorem aO2(x y:A1)(rc:Array A1)(hx:x=dd rc)(w:A'):lp.wp A4 (λe b w'=>e=aYP/\b.defers=[]/\b.tmps=#[dd rc,y,aY4 (Z ⟨w.heap.size,0,J⟩),Y,As J 0 0,Y,Y,Y,Y,Y,Y,Y,Y,Y,Y,Y,Y,Y,Y,Y,Y,Y,Y,Y,Y,Y,Y,Y,Y,Y,Y,Y]/\w'=w.alloc (BE rc 138)) ⟨#[dd rc,y,Y,Y,Y,Y,Y,Y,Y,Y,Y,Y,Y,Y,Y,Y,Y,Y,Y,Y,Y,Y,Y,Y,Y,Y,Y,Y,Y,Y,Y,Y],[]⟩ w:=by simp only[lp,KB,Od,HB,fstC];go_wp2;done
theorem aO3(f h m p:A1)(w:A'):lq.wp A4 (λe b w'=>e=aYP/\b.defers=[]/\b.tmps=#[f,h,m,Y,p,As J 0 0,Y,Y,Y,Y,Y,Y,Y,Y,Y,Y,Y,Y,Y,Y,Y,Y,Y,Y,Y,Y,Y,Y,Y,Y,Y,Y]/\w'=w) ⟨#[f,h,m,Y,p,Y,Y,Y,Y,Y,Y,Y,Y,Y,Y,Y,Y,Y,Y,Y,Y,Y,Y,Y,Y,Y,Y,Y,Y,Y,Y,Y],[]⟩ w:=by simp only[lq,KB,Od,HB,fstC,sndC];go_wp2;done
theorem aMg(w:A'):(Instr.makeMap 131 J).run A4 w=aY6 (E3 (Z w.heap.size)) (w.alloc (oF #[] 0)):=by kernel_rfl
theorem aO4(f h m p s:A1)(w:A'):lr.wp A4 (λe b w'=>e=aYP/\b.defers=[]/\b.tmps=#[f,h,m,Y,p,s,E3 (Z w.heap.size),Y,Y,E3 (Z w.heap.size),Y,Y,Y,Y,Y,Y,Y,Y,Y,Y,Y,Y,Y,Y,Y,Y,Y,Y,Y,Y,Y,Y]/\w'=w.alloc (oF #[] 0)) ⟨#[f,h,m,Y,p,s,Y,Y,Y,Y,Y,Y,Y,Y,Y,Y,Y,Y,Y,Y,Y,Y,Y,Y,Y,Y,Y,Y,Y,Y,Y,Y],[]⟩ w:=by have x:=aMg w;simp only[lr,KB,Od,HB,fstC,sndC];go_wp2;done
theorem aO5(own:ByteArray)(r1 r2 c1 r b2:Nat)(N v Q U t9:A1)(l:List Ax)(w:A')(M:w.heap[r1]?=Z (oF #[] c1))(A:Found w r [] 0)(hv:HO w v l)(A9:l.length<=1000000)(C:∀m∈l,m.1≠own/\Fh m)(FP:w.cell? ⟨b2,0,J⟩=Z (AI own))(e1:w.cell? ⟨b2,1,J⟩=Z (E3 (Z r1)))(e2:w.cell? ⟨b2,2,J⟩=Z (E3 (Z r2))):cA.wp A4 (λe H w'=>e=aYP/\H.defers=[]/\∃W BR b f,AS w.heap.size w W/\R5 [] l 0 r W l.length f w'/\H.tmps=#[N,v,aY4 (Z ⟨b2,0,J⟩),Y,Q,U,E3 (Z r),f,Y,t9,E3 (Z r),aY4 (Z ⟨b2,0,J⟩),BR,v,b,f,Y,Y,Y,Y,Y,Y,Y,Y,Y,Y,Y,Y,Y,Y,Y,Y]) ⟨#[N,v,aY4 (Z ⟨b2,0,J⟩),Y,Q,U,E3 (Z r),Y,Y,t9,Y,Y,Y,Y,Y,Y,Y,Y,Y,Y,Y,Y,Y,Y,Y,Y,Y,Y,Y,Y,Y,Y],[]⟩ w:=by
 have u:Hid (∀wx,AS w.heap.size w wx->AZ A4 125 #[dd #[AI own,E3 (Z r1),E3 (Z r2)],v] wx λe w'=>∃b,e=hq b/\w'.ownsRow wx.heap.size 85 2 b l.length (F1 l)/\GJ isStr w' 2 b l.length/\AS wx.heap.size wx w'):=A3 λwx s=>a3V own r1 r2 c1 v l wx (IF s M) (hv.below s) (by omega) C;have B:Hid (∀wx b,AS w.heap.size w wx->wx.ownsRow w.heap.size 85 2 b l.length (F1 l)->AZ A4 124 #[E3 (Z r),b] wx λe w'=>∃f,e=hq f/\R5 [] l 0 r wx l.length f w'):=A3 λwx b s p=>by
  have S:=A.lt;refine ym r [] 0 b l wx (A.heap (s.block _ S)) List.nodup_nil (by simp) ?_ ?_ (λm hm=>(C m hm).2) (by omega)
  ·rcases c7 p with h|⟨g,c,z,_,h3,_⟩;·exact AA h
   ·exact AF ⟨g,c,z,h3⟩
  ·intro g c x;rcases c7 p with⟨h,_⟩|⟨g',c',z,_,h3,h4⟩;·rw[h]at x;cases x
   ·rw[z]at x;cases x;omega
 clear M A hv C;have D:AS w.heap.size w w.drew:=⟨rfl,rfl,rfl,AX _,λ_ _=>rfl⟩;simp only[cA,KB,Od,HB,fstC,sndC];go_wp2_with(first|(go_at_call 125;refine(u.out _ (by first|exact D|exact B9 _ _)).mono ?_;rintro e wd⟨b,rfl,p,X,K⟩;have EW:=A3 p;have y:=A3 K;clear p X K)|(go_at_call 124;refine(B.out _ _ (by first|exact y.out|exact D.trans y.out) EW.out).mono ?_;rintro e aTO⟨f,rfl,I⟩;have GD:=A3 I;clear I));exact⟨wd,y.out,_,_,_,GD.out,rfl,rfl,rfl,rfl⟩
noncomputable def gf:Cv:=Ly (sndC (Ly (Ly SI)))
noncomputable def gb:Cv:=fstC (Ly (Ly SI))
noncomputable def cB:Cv:=fstC gf
noncomputable def Qi:Cv:=fstC (sndC gf)
noncomputable def Qj:Cv:=sndC (sndC gf)
theorem aMp:SI=aYi 0 (.loop (aYB gb (aYi 1 (aYB cB (aYB Qi Qj))))):=by kernel_rfl
theorem aO8(r:Nat)(K:List Ax)(M:Nat)(v:A1)(L:List Cb)(g5 fk u g2 g9 m0 X Ar Am BV BR p2 up p3 y4 y6 Ak Ao An y3 pp rg v1 rt s1 s2 sm v6 wt p4:A1)(w:A')(C:Found w r K M)(U:K.Nodup)(B:∀m∈K,Fh m)(hv:Jh w v L)(BI:L.length<=1000000)(hn:∀k,(Ei (L.take k)).length<=1000000000)(S:∀m∈Ei L,Fh m)(I:M+(Ei L).length<=1000000000):Qj.wp A4 (λe H w'=>e=aYP/\H.defers=[]/\∃W b f,AS w.heap.size w W/\R5 K (Ei L) M r W (Ei L).length f w'/\H.tmps=#[g5,fk,u,g2,g9,m0,E3 (Z r),f,v,Ar,Am,BV,BR,p2,up,p3,y4,y6,Ak,Ao,An,y3,pp,rg,v1,E3 (Z r),v,b,f,v6,wt,p4]) ⟨#[g5,fk,u,g2,g9,m0,E3 (Z r),X,v,Ar,Am,BV,BR,p2,up,p3,y4,y6,Ak,Ao,An,y3,pp,rg,v1,rt,s1,s2,sm,v6,wt,p4],[]⟩ w:=by
 have x:Hid (∀wx,AS w.heap.size w wx->AZ A4 127 #[v] wx λe w'=>∃b,e=hq b/\w'.ownsRow wx.heap.size 85 2 b (Ei L).length (F1 (Ei L))/\AS wx.heap.size wx w'):=A3 λwx A=>aN0 v L wx (hv.below A) BI hn;have ou:Hid (∀wx b,AS w.heap.size w wx->wx.ownsRow w.heap.size 85 2 b (Ei L).length (F1 (Ei L))->AZ A4 124 #[E3 (Z r),b] wx λe w'=>∃f,e=hq f/\R5 K (Ei L) M r wx (Ei L).length f w'):=A3 λwx b A p=>by
  have Hl:=C.lt;refine ym r K M b (Ei L) wx (C.heap (A.block _ Hl)) U B ?_ ?_ S I
  ·rcases c7 p with h|⟨g,c,z,_,h3,_⟩;·exact AA h
   ·exact AF ⟨g,c,z,h3⟩
  ·intro g c s;rcases c7 p with⟨h,_⟩|⟨g',c',z,_,h3,h4⟩;·rw[h]at s;cases s
   ·rw[z]at s;cases s;omega
 clear C U B hv hn S I;have D:AS w.heap.size w w.drew:=⟨rfl,rfl,rfl,AX _,λ_ _=>rfl⟩;simp only[Qj,gf,SI,KB,Od,HB,fstC,sndC,Ly];go_wp2_with(first|(go_at_call 127;refine(x.out _ (by first|exact D|exact B9 _ _)).mono ?_;rintro e wd⟨b,rfl,p,Q⟩;have EW:=A3 p;have y:=A3 Q;clear p Q)|(go_at_call 124;refine(ou.out _ _ (by first|exact y.out|exact D.trans y.out) EW.out).mono ?_;rintro e aTO⟨f,rfl,N⟩;have GD:=A3 N;clear N));exact⟨wd,y.out,_,_,GD.out,rfl,rfl,rfl⟩
theorem aPd(h:T7 w g L)(j:Nat)(u:A1)(m:(HV L)[j]?=Z u):w.cell? ((⟨g,0,J⟩:Aa).add j)=Z u:=by
 have hlt:j<L.length*8:=by rw[<-a4w];exact(List.getElem?_eq_some_iff.1 m).1
 rw[Gg];try rw[Oq]
 have f:j/8<L.length:=by omega
 have e:j%8<8:=by omega
 have he:j=j/8*8+j%8:=by omega
 have b:=(h _ f).1;generalize j/8=q at f he b;generalize j%8=o at e he;subst he;have G:=λp hu=>mY L q f o p e hu;rw[m]at G;match o,e,G with|0,_,G=>exact b.c0.trans (G _ rfl).symm|1,_,G=>exact b.c1.trans (G _ rfl).symm|2,_,G=>exact b.c2.trans (G _ rfl).symm|3,_,G=>exact b.c3.trans (G _ rfl).symm|4,_,G=>exact b.c4.trans (G _ rfl).symm|5,_,G=>exact b.c5.trans (G _ rfl).symm|6,_,G=>exact b.FO.trans (G _ rfl).symm|7,_,G=>exact b.F7.trans (G _ rfl).symm
theorem aPf(L:List Cb):∀u∈HV L,u.oneCell'=A0:=by intro u hu;simp only[HV,List.mem_flatMap]at hu;obtain⟨x,_,hx⟩:=hu;simp only[Hw,H8,or_false]at hx;rcases hx with rfl|rfl|rfl|rfl|rfl|rfl|rfl|rfl<;>rfl
theorem aO7(B g c:Nat)(v:A1)(A L:List Cb)(m p N g2 g9 n3 u Ar s x y z C D H I K M Q U pp rg v1 rt s1 s2 sm v6 wt p4:A1)(w:A')(AQ:w.ownsRow B 234 8 v A.length (HV A))(S:B<=w.heap.size)(Ev:T7 w g L)(Bz:A.length+L.length<=1000000):Qi.wp A4 (λe h w'=>e=aYP/\h.defers=[]/\∃b,w'.ownsRow B 234 8 b (A++L).length (HV (A++L))/\w.grownBy w' v.ownBlock/\(b.ownBlock=v.ownBlock∨b.ownBlock=Z w.heap.size)/\h.tmps=#[m,p,N,g2,g9,b,n3,u,As (Z ⟨g,0,J⟩) L.length c,Ar,s,x,y,z,C,D,H,I,K,M,Q,U,v,As (Z ⟨g,0,J⟩) L.length c,b,rt,s1,s2,sm,v6,wt,p4]) ⟨#[m,p,N,g2,g9,v,n3,u,As (Z ⟨g,0,J⟩) L.length c,Ar,s,x,y,z,C,D,H,I,K,M,Q,U,pp,rg,v1,rt,s1,s2,sm,v6,wt,p4],[]⟩ w:=by obtain⟨i0,hi,W,X,Cc⟩:=info_parts Go.Proofs.YtcfhleenecfghaaGreatDoor.lA;simp only[Qi,gf,SI,KB,Od,HB,fstC,sndC,Ly];go_wp2_with(at_builtin;refine wpList_append_own_at _ rfl _ _ 130 rfl B 234 i0 (dd #[AI ⟨#[]⟩,AI ⟨#[]⟩,AI ⟨#[]⟩,AI ⟨#[]⟩,AI ⟨#[]⟩,As J 0 0,IS Po 0,As J 0 0]) 8 136 Tryz.underlying130 hi W X Cc rfl (by decide) _ _ _ rfl AQ ⟨g,0,J⟩ L.length c (HV L) rfl (a4w L) (aPd Ev) (aPf L) (by unfold BK;omega) (by omega) S ?_);intro b w' f h2 _ h4;rw[<-aPe]at f;have RP:=A3 f;have K7:=A3 h2;have dk:=A3 h4;clear f h2 h4;go_wp2;exact⟨b,RP.out,K7.out,dk.out,rfl⟩
noncomputable def ls:Cv:=fstC gb
theorem aMm:gb=aYB ls (aZB (oM 18) aZD (aZC 0)):=by kernel_rfl
noncomputable def cC:Cv:=fstC M2
noncomputable def gd:Cv:=fstC (sndC M2)
theorem aMo:M2=aYB cC (aYB gd aYT):=by kernel_rfl
theorem aO6(a:Option Aa)(n c:Nat)(f h C g2 g9 m0 n3 Ap Ar m p s x y z y4 y6 Ak A D H I K M N Q U sm v6 wt p4:A1)(w:A')(hn:n<=1000000000):ls.wp A4 (λe b w'=>e=aYP/\b.defers=[]/\w'=w/\b.tmps=#[f,h,C,g2,g9,m0,n3,As a n c,Ap,Ar,m,p,s,x,y,z,As a n c,IS Po (n:Int),aY5 (Bn (0<n)),A,D,H,I,K,M,N,Q,U,sm,v6,wt,p4]) ⟨#[f,h,C,g2,g9,m0,n3,As a n c,Ap,Ar,m,p,s,x,y,z,y4,y6,Ak,A,D,H,I,K,M,N,Q,U,sm,v6,wt,p4],[]⟩ w:=by
 simp only[ls,gb,SI,KB,Od,HB,fstC,sndC,Ly];by_cases u:0<n;·go_wp2
 ·go_wp2
theorem aO9(g cap:Nat)(m:Int)(L:List Cb)(A C u g2 g9 n3 B Ap Ar D I K M N Q U y6 Ak Ao An y3 pp rg v1 rt s1 s2 sm v6 wt p4:A1)(w:A')(A9:L.length<=1000000)(hv:∀x∈L,x.rel.v.size<=40)(S:g≠0)(W:g<w.heap.size)(z:∀j(h:j<L.length),N5 w g j L[j])(s:∀o,w.frozen? ⟨g,o,J⟩=A5)(y:w.cell? ⟨0,0,J⟩=Z (IS Po m)):cC.wp A4 (λe f w'=>e=aYP/\f.defers=[]/\(∃R,R.Perm L/\T8 R/\(∀j(h:j<R.length),N5 w' g j R[j])/\w.heap.size<=w'.heap.size/\∀b,b<w.heap.size->b≠g->w'.heap[b]?=w.heap[b]?)/\f.tmps=#[A,C,u,g2,g9,As (Z ⟨g,0,J⟩) L.length cap,n3,B,Ap,Ar,D,I,K,M,N,Q,U,y6,Ak,Ao,An,y3,pp,rg,v1,rt,s1,s2,sm,As (Z ⟨g,0,J⟩) L.length cap,aY8 #[],p4]) ⟨#[A,C,u,g2,g9,As (Z ⟨g,0,J⟩) L.length cap,n3,B,Ap,Ar,D,I,K,M,N,Q,U,y6,Ak,Ao,An,y3,pp,rg,v1,rt,s1,s2,sm,v6,wt,p4],[]⟩ w:=by have H:=A3 (a5h g cap m L w A9 hv S W z s y);clear z s y hv;simp only[cC,M2,KB,Od,HB,fstC,sndC,Ly];go_wp2_with(go_at_call 128;refine H.out.mono ?_;rintro e wd⟨rfl,p⟩;have Cg:=A3 p;clear p);exact Cg.out
theorem aOB(h m K g2 g9 b n3 u Ap Ar p s x y z A C D H I M N Q U v1 rt s1 s2 sm v6 wt p4:A1)(w:A'):gd.wp A4 (λe f w'=>e=aYP/\f.defers=[]/\w'=w/\f.tmps=#[h,m,K,g2,b,b,n3,u,Ap,Ar,p,s,x,y,z,A,C,D,H,I,M,N,Q,U,v1,rt,s1,s2,sm,v6,wt,b]) ⟨#[h,m,K,g2,g9,b,n3,u,Ap,Ar,p,s,x,y,z,A,C,D,H,I,M,N,Q,U,v1,rt,s1,s2,sm,v6,wt,p4],[]⟩ w:=by simp only[gd,M2,KB,Od,HB,fstC,sndC,Ly];go_wp2
theorem aDH:F8 A4 Dw Dc [] 8 lp=A0:=by kernel_rfl
theorem aDI:F8 A4 Dw Dc [] 8 lq=A0:=by kernel_rfl
theorem aDJ:F8 A4 Dw Dc [] 8 lr=A0:=by kernel_rfl
theorem aDK:F8 A4 Dw Dc [] 8 cA=A0:=by kernel_rfl
theorem aDL:F8 A4 Dw Dc [] 8 ls=A0:=by kernel_rfl
theorem aDM:F8 A4 Dw Dc [] 8 Qi=A0:=by kernel_rfl
theorem aDN:F8 A4 Dw Dc [] 8 Qj=A0:=by kernel_rfl
theorem zV:F8 A4 Dw Dc [] 8 cC=A0:=by kernel_rfl
theorem aDO:F8 A4 Dw Dc [] 8 gd=A0:=by kernel_rfl
theorem Goes.Mn{f:Nat}{fn:JG}{c c2:Cv}{r:List Cw}{Q:Array A1->A'->Prop}(C:A4.funcs[f]?=Z fn)(D:f<4294967296)(hc:F8 A4 Dw Dc [] 8 c=A0)(A:Ah R T)(z:Holds Wb R w)(h:∀d y,c.wp A4 (λe s w'=>e=aYP/\s.defers=[]/\Q s.tmps w') ⟨T,[]⟩ (on (w.at d) y))(k:∀m p x w',Q p x->w'.heap=x.heap->Ah m p->(∀b,R b->m b)->Holds Wb m w'->Goes Wb (G ((AL f).at ⟨p,[]⟩ (aY9 c2::r)) cs) w' Post):Goes Wb (G ((AL f).at ⟨T,[]⟩ (aY9 (aYB c c2)::r)) cs) w Post:=.ctl rfl (λ_=>GB) λd=>Goes.piece C D hc A (z.at d) (h d) k
theorem aEp(x y:A1):GR A4 61 #[x,y] a73=(AL 61).at ⟨#[x,y,Y,Y,Y,Y,Y,Y,Y,Y,Y,Y,Y,Y,Y,Y,Y,Y,Y,Y,Y,Y,Y,Y,Y,Y,Y,Y,Y,Y,Y,Y],[]⟩ [aY9 KB]:=by rw[jy Pq (show Od.body=Z KB by kernel_rfl)];kernel_rfl
theorem Ah.aNA(h:Ah R #[x,y]):Ah R #[x,y,Y,Y,Y,Y,Y,Y,Y,Y,Y,Y,Y,Y,Y,Y,Y,Y,Y,Y,Y,Y,Y,Y,Y,Y,Y,Y,Y,Y,Y,Y]:=by
 show Ab Cy (D6 R) [x,y,Y,Y,Y,Y,Y,Y,Y,Y,Y,Y,Y,Y,Y,Y,Y,Y,Y,Y,Y,Y,Y,Y,Y,Y,Y,Y,Y,Y,Y,Y] [x,y,Y,Y,Y,Y,Y,Y,Y,Y,Y,Y,Y,Y,Y,Y,Y,Y,Y,Y,Y,Y,Y,Y,Y,Y,Y,Y,Y,Y,Y,Y];cases h with
 |cons a t=>
  cases t with
  |cons b _=>
   refine .cons a (.cons b ?_);iterate 30 refine Ab.cons (by constructor;exact Ab.nil) ?_
   exact Ab.nil
theorem aCm(I:Holds Wb R w)(u:Ah R #[dd rc,y])(k:∀p w',w'.heap=(w.heap.push (BE rc 138)).push (oF #[] 0)->Ah p #[dd rc,y,aY4 (Z ⟨w.heap.size,0,J⟩),Y,As J 0 0,As J 0 0,E3 (Z (w.heap.size+1)),Y,Y,E3 (Z (w.heap.size+1)),Y,Y,Y,Y,Y,Y,Y,Y,Y,Y,Y,Y,Y,Y,Y,Y,Y,Y,Y,Y,Y,Y]->(∀b,R b->p b)->Holds Wb p w'->Goes Wb (G ((AL 61).at ⟨#[dd rc,y,aY4 (Z ⟨w.heap.size,0,J⟩),Y,As J 0 0,As J 0 0,E3 (Z (w.heap.size+1)),Y,Y,E3 (Z (w.heap.size+1)),Y,Y,Y,Y,Y,Y,Y,Y,Y,Y,Y,Y,Y,Y,Y,Y,Y,Y,Y,Y,Y,Y],[]⟩ [aY9 (aYB cA (aYB SI M2))]) cs) w' Post):Goes Wb (G (GR A4 61 #[dd rc,y] a73) cs) w Post:=by
 rw[aEp,aCg];refine .Mn (Q:=λT w'=>T=#[dd rc,y,aY4 (Z ⟨w.heap.size,0,J⟩),Y,As J 0 0,Y,Y,Y,Y,Y,Y,Y,Y,Y,Y,Y,Y,Y,Y,Y,Y,Y,Y,Y,Y,Y,Y,Y,Y,Y,Y,Y]/\w'.heap=w.heap.push (BE rc 138)) Pq (by decide) aDH u.aNA I (λd f=>ME ?_ (aO2 (dd rc) y rc rfl (on (w.at d) f))) ?_;·rintro e x w'⟨m,h2,h3,rfl⟩;exact⟨m,h2,h3,rfl⟩
 rintro p C7 w1 w2⟨rfl,e1⟩e2 B U K;refine .Mn (Q:=λT w'=>T=#[dd rc,y,aY4 (Z ⟨w.heap.size,0,J⟩),Y,As J 0 0,As J 0 0,Y,Y,Y,Y,Y,Y,Y,Y,Y,Y,Y,Y,Y,Y,Y,Y,Y,Y,Y,Y,Y,Y,Y,Y,Y,Y]/\w'.heap=w.heap.push (BE rc 138)) Pq (by decide) aDI B K (λd f=>ME ?_ (aO3 _ _ _ _ (on (w2.at d) f))) ?_;·rintro e x w'⟨m,h2,h3,rfl⟩;exact⟨m,h2,h3,e2.trans e1⟩
 rintro MQ FJ w3 s⟨rfl,A⟩C S W M;have h:=C.trans A;have X:s.heap.size=w.heap.size+1:=by rw[h];simp
 refine .Mn (Q:=λT w'=>T=#[dd rc,y,aY4 (Z ⟨w.heap.size,0,J⟩),Y,As J 0 0,As J 0 0,E3 (Z (w.heap.size+1)),Y,Y,E3 (Z (w.heap.size+1)),Y,Y,Y,Y,Y,Y,Y,Y,Y,Y,Y,Y,Y,Y,Y,Y,Y,Y,Y,Y,Y,Y]/\w'.heap=(w.heap.push (BE rc 138)).push (oF #[] 0)) Pq (by decide) aDJ S M (λd f=>ME ?_ (aO4 _ _ _ _ _ (on (s.at d) f))) ?_
 ·rintro e x w'⟨m,h2,h3,rfl⟩;refine⟨m,h2,?_,?_⟩;·rw[h3,show(on (s.at d) f).heap.size=w.heap.size+1 from X]
  ·show s.heap.push _=_;rw[h]
 rintro z Es ES DZ⟨rfl,D⟩H Ln O7 N;exact k z DZ (H.trans D) Ln (λb hb=>O7 b (W b (U b hb))) N
theorem aSI{own:ByteArray}{c1 r:Nat}{t0 t4 t5 t9:A1}(H:Holds Wb R w)(M:Ah R #[t0,v,aY4 (Z ⟨b2,0,J⟩),Y,t4,t5,E3 (Z r),Y,Y,t9,Y,Y,Y,Y,Y,Y,Y,Y,Y,Y,Y,Y,Y,Y,Y,Y,Y,Y,Y,Y,Y,Y])(u:w.heap[r1]?=Z (oF #[] c1))(U:Found w r [] 0)(hv:HO w v l)(A9:l.length<=1000000)(B:∀m∈l,m.1≠own/\Fh m)(C:w.cell? ⟨b2,0,J⟩=Z (AI own))(e1:w.cell? ⟨b2,1,J⟩=Z (E3 (Z r1)))(e2:w.cell? ⟨b2,2,J⟩=Z (E3 (Z r2)))(k:∀x W p h f s w',w.heap.size<=W.heap.size->(∀b,b<w.heap.size->W.heap[b]?=w.heap[b]?)->R5 [] l 0 r W l.length f s->w'.heap=s.heap->Ah x #[t0,v,aY4 (Z ⟨b2,0,J⟩),Y,t4,t5,E3 (Z r),f,Y,t9,E3 (Z r),aY4 (Z ⟨b2,0,J⟩),p,v,h,f,Y,Y,Y,Y,Y,Y,Y,Y,Y,Y,Y,Y,Y,Y,Y,Y]->(∀b,R b->x b)->Holds Wb x w'->Goes Wb (G ((AL 61).at ⟨#[t0,v,aY4 (Z ⟨b2,0,J⟩),Y,t4,t5,E3 (Z r),f,Y,t9,E3 (Z r),aY4 (Z ⟨b2,0,J⟩),p,v,h,f,Y,Y,Y,Y,Y,Y,Y,Y,Y,Y,Y,Y,Y,Y,Y,Y],[]⟩ [aY9 (aYB SI M2)]) cs) w' Post):Goes Wb (G ((AL 61).at ⟨#[t0,v,aY4 (Z ⟨b2,0,J⟩),Y,t4,t5,E3 (Z r),Y,Y,t9,Y,Y,Y,Y,Y,Y,Y,Y,Y,Y,Y,Y,Y,Y,Y,Y,Y,Y,Y,Y,Y,Y],[]⟩ [aY9 (aYB cA (aYB SI M2))]) cs) w Post:=by
 refine .Mn (Q:=λT s=>∃(W:A')(p h f:A1),(w.heap.size<=W.heap.size/\∀b,b<w.heap.size->W.heap[b]?=w.heap[b]?)/\R5 [] l 0 r W l.length f s/\T=#[t0,v,aY4 (Z ⟨b2,0,J⟩),Y,t4,t5,E3 (Z r),f,Y,t9,E3 (Z r),aY4 (Z ⟨b2,0,J⟩),p,v,h,f,Y,Y,Y,Y,Y,Y,Y,Y,Y,Y,Y,Y,Y,Y,Y,Y]) Pq (by decide) aDK M H (λd A=>ME ?_ (aO5 own r1 r2 c1 r b2 t0 v t4 t5 t9 l (on (w.at d) A) u U hv A9 B C e1 e2)) ?_;·rintro e a' w'⟨D,h2,W,p,h,f,y,z,AH⟩;exact⟨D,h2,W,p,h,f,⟨y.size,y.block⟩,z,AH⟩
 rintro x S s w2⟨W,p,h,f,⟨hs,y⟩,z,rfl⟩e2 N K I;exact k x W p h f s w2 hs y z e2 N K I
noncomputable def ZZ:Cv:=aYB gb (aYi 1 (aYB cB (aYB Qi Qj)))
noncomputable def Y_:List Cw:=[aYn ZZ,aYk 0,aY9 M2]
theorem aLD(h:Holds Wb R w)(k:∀w',w'.heap=w.heap->Holds Wb R w'->Goes Wb (G ((AL 61).at ⟨T,[]⟩ (aY9 ZZ::Y_)) cs) w' Post):Goes Wb (G ((AL 61).at ⟨T,[]⟩ [aY9 (aYB SI M2)]) cs) w Post:=by rw[aMp];refine .ctl rfl (λ_=>GB) λb=>?_;refine .ctl rfl (λ_=>dC) λe=>?_;refine .ctl rfl (λ_=>a7O) λf=>?_;exact k _ rfl (((h.at b).at e).at f)
theorem a63{a:Option Aa}{c:Nat}{u:A1}(I:Holds Wb R w)(K:Ah R #[g5,fk,u,g2,g9,m0,n3,As a n c,Ap,Ar,Am,BV,BR,p2,up,p3,y4,y6,Ak,Ao,An,y3,pp,rg,v1,rt,s1,s2,sm,v6,wt,p4])(hn:n<=1000000000)(M:n=0->∀f w',w'.heap=w.heap->Ah f #[g5,fk,u,g2,g9,m0,n3,As a n c,Ap,Ar,Am,BV,BR,p2,up,p3,As a n c,IS Po (n:Int),aY5 (Bn (0<n)),Ao,An,y3,pp,rg,v1,rt,s1,s2,sm,v6,wt,p4]->(∀b,R b->f b)->Holds Wb f w'->Goes Wb (G ((AL 61).at ⟨#[g5,fk,u,g2,g9,m0,n3,As a n c,Ap,Ar,Am,BV,BR,p2,up,p3,As a n c,IS Po (n:Int),aY5 (Bn (0<n)),Ao,An,y3,pp,rg,v1,rt,s1,s2,sm,v6,wt,p4],[]⟩ [aY9 M2]) cs) w' Post)(N:0<n->∀f w',w'.heap=w.heap->Ah f #[g5,fk,u,g2,g9,m0,n3,As a n c,Ap,Ar,Am,BV,BR,p2,up,p3,As a n c,IS Po (n:Int),aY5 (Bn (0<n)),Ao,An,y3,pp,rg,v1,rt,s1,s2,sm,v6,wt,p4]->(∀b,R b->f b)->Holds Wb f w'->Goes Wb (G ((AL 61).at ⟨#[g5,fk,u,g2,g9,m0,n3,As a n c,Ap,Ar,Am,BV,BR,p2,up,p3,As a n c,IS Po (n:Int),aY5 (Bn (0<n)),Ao,An,y3,pp,rg,v1,rt,s1,s2,sm,v6,wt,p4],[]⟩ (aY9 (aYB cB (aYB Qi Qj))::aYk 1::Y_)) cs) w' Post):Goes Wb (G ((AL 61).at ⟨#[g5,fk,u,g2,g9,m0,n3,As a n c,Ap,Ar,Am,BV,BR,p2,up,p3,y4,y6,Ak,Ao,An,y3,pp,rg,v1,rt,s1,s2,sm,v6,wt,p4],[]⟩ (aY9 ZZ::Y_)) cs) w Post:=by
 unfold ZZ;refine .ctl rfl (λ_=>GB) λp=>?_;rw[aMm];refine .Mn (Q:=λT A=>T=#[g5,fk,u,g2,g9,m0,n3,As a n c,Ap,Ar,Am,BV,BR,p2,up,p3,As a n c,IS Po (n:Int),aY5 (Bn (0<n)),Ao,An,y3,pp,rg,v1,rt,s1,s2,sm,v6,wt,p4]/\A.heap=w.heap) Pq (by decide) aDL K (I.at p) (λd C=>ME ?_ (aO6 a n c g5 fk u g2 g9 m0 n3 Ap Ar Am BV BR p2 up p3 y4 y6 Ak Ao An y3 pp rg v1 rt s1 s2 sm v6 wt p4 (on ((w.at p).at d) C) hn)) ?_;·rintro e a' w'⟨H,h2,rfl,h4⟩;exact⟨H,h2,h4,rfl⟩
 rintro f U A w2⟨rfl,e1⟩e2 z y x;have he:=e2.trans e1;refine .ctl rfl (λ_=>hl (t:=Bn (0<n)) rfl) λs=>?_;by_cases m:0<n;·rw[if_pos (by simpa using m)];refine .ctl rfl (λ_=>a7P) λh=>?_;refine .ctl rfl (λ_=>dC) λD=>?_;exact N m f _ he z y (((x.at s).at h).at D)
 ·rw[if_neg (by simpa using m)];refine .ctl rfl (λ_=>a7N (k':=[aY9 M2]) rfl) λh=>?_;exact M (by omega) f _ he z y ((x.at s).at h)
theorem aQ3:Od.results=#[aUQ 4]:=by kernel_rfl
theorem aQ6(w:A'):Be A4 A0 (G {(AL 61).at ⟨T,[]⟩ [aY9 aYT]with mode:=aYX} (c'::cs')) w=aYE (G (c'.finish (T.getD 4 Y)) cs') w #[]:=by simp[G,Be,HL,doReturn,De,Frame.at,AL,Pq,aQ3,IU,Nh]
noncomputable def XE:Array Bf:=match cB with|aYH _ ops _=>ops|_=>#[]
theorem aMn:cB=aYH 5 XE A5:=by kernel_rfl
theorem a3p:XE.size=4:=by kernel_rfl
noncomputable def Qm(i:Nat):Bf:=XE.getD i Ag
theorem gp(i:Nat)(h:i<4):XE[i]?=Z (Qm i):=by unfold Qm;rw[JX,ET (by rw[a3p];exact h)];rfl
theorem aG':∀i,i<4->(Qm i).guard=J|0,_=>by kernel_rfl|1,_=>by kernel_rfl|2,_=>by kernel_rfl|3,_=>by kernel_rfl
theorem mx(i:Nat)(h:i<4)(y:_):EY (Qm i) y=A0:=by simp[EY,aG' i h]
theorem aKo{v0 e m v3 v4:A1}(h2:ρ (oM 2)=Af br)(h:w.heap[br]?=Z (BE #[v0,e,m,v3,v4] 138 p)):(AU ρ (Qm 0)).run A4 w=aY6 (aYD (dd #[v0,e,m,v3,v4])) w:=by
 have b:(Qm 0).op=aYf 138 (oM 2):=by kernel_rfl
 unfold AU;rw[b];simp only[h2];have c0:w.cell? ⟨br,0,J⟩=Z v0:=by simp[F3,h]
 have c1:w.cell? ⟨br,1,J⟩=Z e:=by simp[F3,h]
 have c2:w.cell? ⟨br,2,J⟩=Z m:=by simp[F3,h]
 have c3:w.cell? ⟨br,3,J⟩=Z v3:=by simp[F3,h]
 have c4:w.cell? ⟨br,4,J⟩=Z v4:=by simp[F3,h]
 simp[go_sem,c0,c1,c2,c3,c4]
theorem Ab.nth{F:Nat->Prop}{E:AN}:∀{l:List A1}(i:Nat){v:A1},Ab F E l l->l[i]?=Z v->AJ F E v v|_,_,_,.nil,h=>by cases h|_,0,_,.cons a _,h=>by obtain rfl:=D3 h;exact a|_,i+1,_,.cons _ t,h=>Ab.nth i t (by simpa using h)
theorem Ah.nth{R:Nat->Prop}{T:Array A1}(h:Ah R T)(i:Nat){v:A1}(e:T[i]?=Z v):AJ Cy (D6 R) v v:=Ab.nth i h (by simpa using e)
theorem AJ.ZG{o l c:Nat}(h:AJ Cy (D6 R) (As (Z ⟨b,o,s⟩) l c) (As (Z ⟨b,o,s⟩) l c)):R b:=by cases h with|slice _ _ LD=>exact LD.1.2
theorem AJ.gP{o:Nat}(h:AJ Cy (D6 R) (aY4 (Z ⟨b,o,s⟩)) (aY4 (Z ⟨b,o,s⟩))):R b:=by cases h with|ptr LD=>exact LD.1.2
theorem AJ.gO(h:AJ Cy (D6 R) (E3 (Z b)) (E3 (Z b))):R b:=by cases h with|map h=>exact h.2
section
variable[Ck]
theorem aPj{rd:Nat->Prop}{B:List Cw}{own:ByteArray}{bl cap2:Nat}(B1:Holds Wb R w)(i1:Ah R #[g5,fk,aY4 (Z ⟨b2,0,J⟩),g2,g9,m0,n3,As (Z ⟨bl,0,J⟩) ms.length cap2,Ap,Ar,Am,BV,BR,p2,up,p3,y4,y6,Ak,Ao,An,y3,pp,rg,v1,rt,s1,s2,sm,v6,wt,p4])(I3:w.heap[b2]?=Z (BE #[AI own,E3 (Z r1),E3 (Z r2),As (Z ⟨bi,0,J⟩) Gs.length cap,E3 (Z Aq)] 138))(V7:∀b,rd b->R b)(Ai:N1 reads rd w)(kq:Reads w own r1 r2 bi Aq Gs)(PQ:rd r1)(OJ:rd r2)(VC:rd bi)(bt:rd Aq)(Wn:∀r∈Gs,∀a,r.Bj=Z a->rd a.block)(B8:O' Gs)(hrel:∀r∈Gs,eF own r)(JS:∀r∈Gs,r.v.size<=40)(Wy:YO w bl ms)(H2:∀m∈ms,∃r∈Gs,r.name=m)(hn:ms.length<=1000000)(li:0<ms.length)(k:∀K R' v w',(∀b,R b->R' b)->Holds K R' w'->Ah R' #[g5,fk,aY4 (Z ⟨b2,0,J⟩),g2,g9,m0,n3,As (Z ⟨bl,0,J⟩) ms.length cap2,v,Ar,Am,BV,BR,p2,up,p3,y4,y6,Ak,HW own r1 r2 bi Gs.length cap Aq,As (Z ⟨bl,0,J⟩) ms.length cap2,v,pp,rg,v1,rt,s1,s2,sm,v6,wt,p4]->(∀b,R b->w'.heap[b]?=w.heap[b]?)->y_ Gs ms v w'->(∀b c,v=As (Z ⟨b,0,J⟩) ms.length c->¬R b)->Goes K (G ((AL 61).at ⟨#[g5,fk,aY4 (Z ⟨b2,0,J⟩),g2,g9,m0,n3,As (Z ⟨bl,0,J⟩) ms.length cap2,v,Ar,Am,BV,BR,p2,up,p3,y4,y6,Ak,HW own r1 r2 bi Gs.length cap Aq,As (Z ⟨bl,0,J⟩) ms.length cap2,v,pp,rg,v1,rt,s1,s2,sm,v6,wt,p4],[]⟩ (aY9 (aYB Qi Qj)::B)) cs) w' Post):Goes Wb (G ((AL 61).at ⟨#[g5,fk,aY4 (Z ⟨b2,0,J⟩),g2,g9,m0,n3,As (Z ⟨bl,0,J⟩) ms.length cap2,Ap,Ar,Am,BV,BR,p2,up,p3,y4,y6,Ak,Ao,An,y3,pp,rg,v1,rt,s1,s2,sm,v6,wt,p4],[]⟩ (aY9 (aYB cB (aYB Qi Qj))::B)) cs) w Post:=by
 refine .ctl rfl (λ_=>GB) λd1=>?_;rw[aMn];refine .ctl rfl (λ_=>Hu) λd2=>?_;rw[a3p];show Goes Wb (G ((AL 61).at ⟨#[g5,fk,aY4 (Z ⟨b2,0,J⟩),g2,g9,m0,n3,As (Z ⟨bl,0,J⟩) ms.length cap2,Ap,Ar,Am,BV,BR,p2,up,p3,y4,y6,Ak,Ao,An,y3,pp,rg,v1,rt,s1,s2,sm,v6,wt,p4],[]⟩ (aY7 XE [0,1,2,3]::aY9 (aYB Qi Qj)::B)) cs) _ Post;have P6:=(B1.at d1).at d2;refine Goes.op (Q:=λv H=>v=HW own r1 r2 bi Gs.length cap Aq/\H.heap=w.heap) (gp 0 (by decide)) (mx 0 (by decide) _) (by kernel_rfl) (by kernel_rfl) (by kernel_rfl) (by kernel_rfl) (show(Qm 0).dst=Z 19 by kernel_rfl) (by kernel_rfl) (by decide) P6 i1 (λN=>⟨_,_,aKo (br:=b2) rfl I3,rfl,rfl⟩) ?_;rintro Bs v H w2⟨rfl,e1⟩e2 F' Ur X;have kV:w2.heap=w.heap:=e2.trans e1;have X:Ah Bs #[g5,fk,aY4 (Z ⟨b2,0,J⟩),g2,g9,m0,n3,As (Z ⟨bl,0,J⟩) ms.length cap2,Ap,Ar,Am,BV,BR,p2,up,p3,y4,y6,Ak,HW own r1 r2 bi Gs.length cap Aq,An,y3,pp,rg,v1,rt,s1,s2,sm,v6,wt,p4]:=X;show Goes Wb (G ((AL 61).at ⟨#[g5,fk,aY4 (Z ⟨b2,0,J⟩),g2,g9,m0,n3,As (Z ⟨bl,0,J⟩) ms.length cap2,Ap,Ar,Am,BV,BR,p2,up,p3,y4,y6,Ak,HW own r1 r2 bi Gs.length cap Aq,An,y3,pp,rg,v1,rt,s1,s2,sm,v6,wt,p4],[]⟩ (aY7 XE [1,2,3]::aY9 (aYB Qi Qj)::B)) cs) _ Post;refine Goes.op (Q:=λv H=>v=As (Z ⟨bl,0,J⟩) ms.length cap2/\H.heap=w.heap) (gp 1 (by decide)) (mx 1 (by decide) _) (by kernel_rfl) (by kernel_rfl) (by kernel_rfl) (by kernel_rfl) (show(Qm 1).dst=Z 20 by kernel_rfl) (by kernel_rfl) (by decide) Ur X (λN=>?_) ?_
 ·have A7:(Qm 1).op=aYg (oM 7):=by kernel_rfl
  refine⟨_,on w2 N,?_,rfl,kV⟩;unfold AU;rw[A7];rfl
 rintro MQ v w3 A⟨rfl,DF⟩EX KG O6 S;have D:A.heap=w.heap:=EX.trans DF;have S:Ah MQ #[g5,fk,aY4 (Z ⟨b2,0,J⟩),g2,g9,m0,n3,As (Z ⟨bl,0,J⟩) ms.length cap2,Ap,Ar,Am,BV,BR,p2,up,p3,y4,y6,Ak,HW own r1 r2 bi Gs.length cap Aq,As (Z ⟨bl,0,J⟩) ms.length cap2,y3,pp,rg,v1,rt,s1,s2,sm,v6,wt,p4]:=S;show Goes Wb (G ((AL 61).at ⟨#[g5,fk,aY4 (Z ⟨b2,0,J⟩),g2,g9,m0,n3,As (Z ⟨bl,0,J⟩) ms.length cap2,Ap,Ar,Am,BV,BR,p2,up,p3,y4,y6,Ak,HW own r1 r2 bi Gs.length cap Aq,As (Z ⟨bl,0,J⟩) ms.length cap2,y3,pp,rg,v1,rt,s1,s2,sm,v6,wt,p4],[]⟩ (aY7 XE [2,3]::aY9 (aYB Qi Qj)::B)) cs) _ Post;have U:∀b,R b->MQ b:=λb y=>KG b (F' b y);refine .ctl rfl (λ_=>Qz (f:=126) (fn:=UJ) (c:=WI) (az:=#[.tmp 19,.tmp 20]) (ats:=#[138,57]) (gp 2 (by decide)) (mx 2 (by decide) _) (by simp[AL]) (by kernel_rfl) x1 (by kernel_rfl) (by kernel_rfl)) λd3=>?_;have JN:(#[.tmp 19,.tmp 20]:Array C2).map (Cu ⟨#[g5,fk,.pointer (Z ⟨b2,0,J⟩),g2,g9,m0,n3,.slice (Z ⟨bl,0,J⟩) ms.length cap2,Ap,Ar,Am,BV,BR,p2,up,p3,y4,y6,Ak,HW own r1 r2 bi Gs.length cap Aq,.slice (Z ⟨bl,0,J⟩) ms.length cap2,y3,pp,rg,v1,rt,s1,s2,sm,v6,wt,p4],[]⟩)=#[HW own r1 r2 bi Gs.length cap Aq,.slice (Z ⟨bl,0,J⟩) ms.length cap2]:=by kernel_rfl
 rw[JN];have C:∀a,A.cell? a=w.cell? a:=λa=>by simp[F3,D]
 have FT:MQ bl:=AJ.ZG (Ah.nth S 7 rfl);have E8:D4<=A.heap.size:=by rw[D];exact Ai.low
 refine(aCZ (w:=A.at d3) (rd:=rd) (off:=0) (ms:=ms) (bl:=bl) (cap2:=cap2) (O6.at d3) (λb y=>U b (V7 b y)) (Ai.same λb _=>by show A.heap[b]?=_;rw[D] E8) ?_ PQ OJ VC bt Wn B8 hrel JS FT (λj p v M=>?_) (λj p v M=>?_) hn li).bind ?_;·obtain⟨⟨m,a⟩,⟨c1,b⟩,⟨c2,c⟩,⟨c3,d⟩,e⟩:=kq;exact⟨⟨m,(C _).trans a⟩,⟨c1,by show A.heap[r1]?=_;rw[D];exact b⟩,⟨c2,by show A.heap[r2]?=_;rw[D];exact c⟩,⟨c3,by show A.heap[Aq]?=_;rw[D];exact d⟩,λi hi=>⟨(C _).trans (e i hi).1,(C _).trans (e i hi).2.1,(C _).trans (e i hi).2.2.1,(C _).trans (e i hi).2.2.2⟩⟩
 ·obtain⟨hlt,AB⟩:=List.getElem?_eq_some_iff.1 M;have:=Wy j hlt;rw[AB]at this;rw[Oq];exact⟨(C _).trans this.1,(C _).trans this.2⟩
 ·obtain⟨r,A2,e⟩:=H2 _ (List.mem_of_getElem? M);obtain⟨i,hi,rfl⟩:=List.mem_iff_getElem.1 A2;exact⟨i,hi,e⟩
 rintro K g' W⟨N4,v,rfl,hv,O7,Us,F0,AD,D_⟩;rw[KX,gp 2 (by decide),RR,show(Qm 2).dst=Z 21 by kernel_rfl];have Ln:Ah N4 #[g5,fk,.pointer (Z ⟨b2,0,J⟩),g2,g9,m0,n3,.slice (Z ⟨bl,0,J⟩) ms.length cap2,Ap,Ar,Am,BV,BR,p2,up,p3,y4,y6,Ak,HW own r1 r2 bi Gs.length cap Aq,.slice (Z ⟨bl,0,J⟩) ms.length cap2,v,pp,rg,v1,rt,s1,s2,sm,v6,wt,p4]:=(S.mono O7).set hv 21;show Goes K (G ((AL 61).at ⟨#[g5,fk,.pointer (Z ⟨b2,0,J⟩),g2,g9,m0,n3,.slice (Z ⟨bl,0,J⟩) ms.length cap2,Ap,Ar,Am,BV,BR,p2,up,p3,y4,y6,Ak,HW own r1 r2 bi Gs.length cap Aq,.slice (Z ⟨bl,0,J⟩) ms.length cap2,v,pp,rg,v1,rt,s1,s2,sm,v6,wt,p4],[]⟩ (.inRegion XE [3]::.code (.seq Qi Qj)::B)) cs) _ Post;refine Goes.op (Q:=λu H=>u=v/\H.heap=W.heap) (gp 3 (by decide)) (mx 3 (by decide) _) (by kernel_rfl) (by kernel_rfl) (by kernel_rfl) (by kernel_rfl) (show(Qm 3).dst=Z 8 by kernel_rfl) (by kernel_rfl) (by decide) Us Ln (λN=>?_) ?_
 ·have A7:(Qm 3).op=.assign (.tmp 21):=by kernel_rfl
  refine⟨_,on W N,?_,rfl,rfl⟩;unfold AU;rw[A7];rfl
 rintro YU u DZ I⟨rfl,Iu⟩Jm Ut TL P7;have Yy:I.heap=W.heap:=Jm.trans Iu;have P7:Ah YU #[g5,fk,.pointer (Z ⟨b2,0,J⟩),g2,g9,m0,n3,.slice (Z ⟨bl,0,J⟩) ms.length cap2,u,Ar,Am,BV,BR,p2,up,p3,y4,y6,Ak,HW own r1 r2 bi Gs.length cap Aq,.slice (Z ⟨bl,0,J⟩) ms.length cap2,u,pp,rg,v1,rt,s1,s2,sm,v6,wt,p4]:=P7;refine .ctl rfl (λ_=>Hf) λd4=>?_;refine k K YU u (I.at d4) (λb y=>Ut b (O7 b (U b y))) (TL.at d4) P7 (λb y=>?_) ?_ λb c e y=>D_ b c e (U b y);·show I.heap[b]?=_;rw[Yy,F0 b (U b y)];show A.heap[b]?=_;rw[D]
 ·obtain⟨BC,c,L,a1,I0,a3,a4,a5,WH⟩:=AD;have s:∀a,(I.at d4).cell? a=W.cell? a:=λa=>by show I.cell? a=_;simp[F3,Yy]
  refine⟨BC,c,L,a1,I0,λj M=>?_,a4,a5,λx hx=>⟨(WH x hx).1,(WH x hx).2.same λb _=>by show I.heap[b]?=_;rw[Yy]⟩⟩;obtain⟨⟨Cj,B0,Bi,C5,Ce,D1,Cf,Cp⟩,Ls⟩:=a3 j M;refine⟨⟨(s _).trans Cj,(s _).trans B0,(s _).trans Bi,(s _).trans C5,(s _).trans Ce,(s _).trans D1,(s _).trans Cf,(s _).trans Cp⟩,?_⟩;rcases Ls with h|⟨Ds,c2,z,h⟩;·exact AA h
  ·exact AF ⟨Ds,c2,z,λk hk=>⟨(s _).trans (h k hk).1,(s _).trans (h k hk).2⟩⟩
end
def M4(Gs:List Rel)(m:Ax):List Ax:=((Gs.find? λr=>Bn (r.name=m)).map Rel.DT).getD []
theorem tx(m:O' Gs){r:Rel}(h:r∈Gs):M4 Gs r.name=r.DT:=by
 unfold M4;cases e:Gs.find? λx=>Bn (x.name=r.name)with
 |none=>have:=List.find?_eq_none.1 e r h;simp at this
 |some x=>
  have b:x.name=r.name:=by simpa using List.find?_some e
  have h2:=List.mem_of_find?_eq_some e;obtain⟨i,hi,rfl⟩:=List.mem_iff_getElem.1 h;obtain⟨j,f,rfl⟩:=List.mem_iff_getElem.1 h2;obtain rfl:=m.inj f hi b;rfl
theorem a3T{Gs:List Rel}(b:O' Gs):∀{L:List Cb},(∀x∈L,x.rel∈Gs)->Ei L=(names L).flatMap (M4 Gs)|[],_=>rfl|x::L,h=>by have e:=a3T b (L:=L) λy hy=>h y (by simp[hy]);show x.rel.DT++Ei L=M4 Gs x.rel.name++(names L).flatMap (M4 Gs);rw[e,tx b (h x (by simp))]
theorem aN'(A L:List Cb):Ei (A++L)=Ei A++Ei L:=by simp[Ei]
theorem aMr(A L:List Cb):names (A++L)=names A++names L:=by simp[names]
theorem lv{c:Nat}:∀{L:List Cb},(∀x∈L,x.rel.DT.length<=c)->(Ei L).length<=L.length*c|[],_=>by simp[Ei]|x::L,h=>by have e:=lv (L:=L) λy hy=>h y (by simp[hy]);have b:=h x (by simp);show(x.rel.DT++Ei L).length<=(L.length+1)*c;rw[HN,Nat.add_mul];omega
structure Whole(Gs:List Rel)(d9:List Ax)(own:ByteArray):Prop where
 ok:O' Gs
 rel:∀r∈Gs,eF own r
 AW:∀r∈Gs,r.v.size<=40
 qm:Gs.length<=1000
 short:∀r∈Gs,r.DT.length<=1000
 DT:∀r∈Gs,∀m∈r.DT,∃x∈Gs,x.name=m
 root:∀m∈d9,∃x∈Gs,x.name=m
 roots:d9.length<=1000
theorem Whole.reach{own:ByteArray}(h:Whole Gs d9 own){m:Ax}(b:N.Reach (M4 Gs) d9 m):∃x∈Gs,x.name=m:=by induction b with|root hx=>exact h.root _ hx|step _ hy f=>obtain⟨x,hx,e⟩:=f;rw[<-e,tx h.ok hx]at hy;exact h.DT x hx _ hy
theorem Whole.len{own:ByteArray}(h:Whole Gs d9 own){F A X:List Ax}(b:N.U_ (M4 Gs) d9 F A X):A.length+X.length<=Gs.length:=by
 have f:=N.ly (U:=Gs.map Rel.name) b.nodup λm p=>by obtain⟨x,hx,e⟩:=h.reach (b.reach m p);exact List.mem_map.2 ⟨x,hx,e⟩
 have h2:=b.perm.length_eq;rw[HN]at h2;rw[Mz]at f;omega
structure aw(w0:A')(Cn rd:Nat->Prop)(own:ByteArray)(r1 r2 bi Aq:Nat)(Gs:List Rel):Prop where
 sub:∀b,rd b->Cn b
 Hm:N1 reads rd w0
 reads:Reads w0 own r1 r2 bi Aq Gs
 l6:rd r1
 l7:rd r2
 l8:rd bi
 l9:rd Aq
 files:∀r∈Gs,∀a,r.Bj=Z a->rd a.block
 low:∀b,Cn b->b<w0.heap.size
theorem Reads.same{own:ByteArray}{rd:Nat->Prop}(h:Reads w own r1 r2 bi Aq Gs)(s:rd 0)(x:rd r1)(h2:rd r2)(e:rd bi)(z:rd Aq)(hi:∀b,rd b->w'.heap[b]?=w.heap[b]?):Reads w' own r1 r2 bi Aq Gs:=by have hc:∀b o v,rd b->w.cell? ⟨b,o,J⟩=Z v->w'.cell? ⟨b,o,J⟩=Z v:=λb o v e hv=>(F4 (a:=⟨b,o,J⟩) (hi b e)).trans hv;obtain⟨⟨m,g⟩,⟨c1,e1⟩,⟨c2,e2⟩,⟨c3,f⟩,p⟩:=h;refine⟨⟨m,hc _ _ _ s g⟩,⟨c1,(hi _ x).trans e1⟩,⟨c2,(hi _ h2).trans e2⟩,⟨c3,(hi _ z).trans f⟩,λi y=>?_⟩;obtain⟨a,b,c,d⟩:=p i y;exact⟨hc _ _ _ e a,hc _ _ _ e b,hc _ _ _ e c,hc _ _ _ e d⟩
structure YX(Gs:List Rel)(d9:List Ax)(own:ByteArray)(r1 r2 bi cap Aq b2 r:Nat)(Cn:Nat->Prop)(w0:A')(R:Nat->Prop)(Gh Dj:A1)(A:List Cb)(F X:List Ax)(w:A'):Prop where
 old:∀b,Cn b->R b/\w.heap[b]?=w0.heap[b]?
 size:w0.heap.size<=w.heap.size
 box:w.heap[b2]?=Z (BE #[AI own,E3 (Z r1),E3 (Z r2),As (Z ⟨bi,0,J⟩) Gs.length cap,E3 (Z Aq)] 138)
 new:w0.heap.size<=r
 found:Found w r F (d9.length+(Ei A).length)
 all:w.ownsRow w0.heap.size 234 8 Gh A.length (HV A)
 KP:∀x∈A,x.rel∈Gs/\H7 w R x.B5 x.rel.DT
 fresh:w.ownsRow w0.heap.size 85 2 Dj X.length (F1 X)
 round:N.U_ (M4 Gs) d9 F (names A) X
theorem XI{B e s k:Nat}(h:w.ownsRow B e s v k xs)(hs:∀b,v.ownBlock=Z b->w'.heap[b]?=w.heap[b]?):w'.ownsRow B e s v k xs:=by obtain⟨x,y⟩:=h;refine⟨x,y.imp id ?_⟩;rintro⟨g,f,m,p,h2,h3,h4⟩;subst p;exact⟨g,f,m,rfl,h2,by rw[hs g rfl];exact h3,h4⟩
theorem a4C{B B' e s k:Nat}(h:w.ownsRow B e s v k xs)(p:B'<=B):w.ownsRow B' e s v k xs:=by obtain⟨x,y⟩:=h;refine⟨x,y.imp id ?_⟩;rintro⟨g,b,f,m,h2,h3,h4⟩;exact⟨g,b,f,m,by omega,h3,h4⟩
theorem a4E{B e s k:Nat}(h:w.ownsRow B e s v k xs)(m:v.ownBlock=Z b):∃f,w.heap[b]?=Z (BE f e (0,0)):=by
 rcases h.2 with⟨rfl,_⟩|⟨g,p,f,rfl,_,h3,_⟩;·cases m
 ·obtain rfl:=D3 m;exact⟨f,h3⟩
theorem AJ.uC(h:AJ Cy (D6 R) v v)(e:v.ownBlock=Z b):R b:=by match v,e with|As (Z ⟨b',o,s⟩) l c,e=>obtain rfl:=D3 e;exact AJ.ZG h
theorem H7.at{R':Nat->Prop}(h:H7 w R B5 l)(m:∀b,R b->R' b)(hs:∀b c q,R b->w.heap[b]?=Z (BE c 85 q)->w'.heap[b]?=w.heap[b]?):H7 w' R' B5 l:=by
 rcases h with h|⟨g,e,f,q,a,b,c,d⟩;·exact AA h
 ·exact AF ⟨g,e,f,q,a,m g b,by rw[hs g _ _ b c];exact c,d⟩
theorem aKd{x:Cb}(y:Holds Wb R w)(z:R g)(hc:N5 w g j x)(A:H7 w (λ_=>True) x.B5 l):H7 w R x.B5 l:=by
 rcases A with h|⟨s,c2,m,q,a,_,c,d⟩;·exact AA h
 ·refine AF ⟨s,c2,m,q,a,?_,c,d⟩;obtain⟨o,e,k⟩:=y.closed.heap g z;have b:=hc.F7;obtain⟨C,t,p,f⟩:=zX b;rw[e]at f;obtain rfl:=D3 f;rw[Ad e]at b;cases k with|cells _ hv _=>have:=Ab.nth _ hv (by simpa using b);rw[a]at this;exact AJ.ZG this
theorem h7{x:Cb}(h:N5 w g j x)(e:w'.heap[g]?=w.heap[g]?):N5 w' g j x:=by have hc:∀o v,w.cell? ⟨g,o,J⟩=Z v->w'.cell? ⟨g,o,J⟩=Z v:=λo v hv=>(F4 (a:=⟨g,o,J⟩) e).trans hv;exact⟨hc _ _ h.c0,hc _ _ h.c1,hc _ _ h.c2,hc _ _ h.c3,hc _ _ h.c4,hc _ _ h.c5,hc _ _ h.FO,hc _ _ h.F7⟩
theorem a30(h:HO w v l)(e:w'.heap=w.heap):HO w' v l:=by
 have hc:∀a,w'.cell? a=w.cell? a:=λa=>by simp[F3,e]
 rcases h with h|⟨g,c,f,h2⟩;·exact AA h
 ·exact AF ⟨g,c,f,λj b=>⟨(hc _).trans (h2 j b).1,(hc _).trans (h2 j b).2⟩⟩
theorem a4v(h:T7 w g L)(e:w'.heap=w.heap):T7 w' g L:=λj b=>⟨h7 (h j b).1 (by rw[e]),a30 (h j b).2 e⟩
theorem a4y(h:Jh w v L)(e:w'.heap=w.heap):Jh w' v L:=by
 rcases h with h|⟨g,c,b,h2⟩;·exact AA h
 ·exact AF ⟨g,c,b,a4v h2 e⟩
theorem O0(h:w.heap[b]?=Z o):b<w.heap.size:=(Array.getElem?_eq_some_iff.1 h).1
section
variable[Ck]
theorem aQC{own:ByteArray}{r:Nat}{rd:Nat->Prop}(D:Whole Gs d9 own)(C:aw w0 Cn rd own r1 r2 bi Aq Gs){u S:A1}{F X:List Ax}(B1:Holds Wb R w)(i1:Ah R #[g5,fk,aY4 (Z ⟨b2,0,J⟩),g2,g9,u,E3 (Z r),S,Ap,Ar,Am,BV,BR,p2,up,p3,y4,y6,Ak,Ao,An,y3,pp,rg,v1,rt,s1,s2,sm,v6,wt,p4])(HF:YX Gs d9 own r1 r2 bi cap Aq b2 r Cn w0 R u S A F X w)(J3:∀(R:Nat->Prop)(w:A')(g5 fk g2 g9 Ap Ar Am BV BR p2 up p3 y4 y6 Ak Ao An y3 pp rg v1 rt s1 s2 sm v6 wt p4:A1),Holds Wb R w->Ah R #[g5,fk,aY4 (Z ⟨b2,0,J⟩),g2,g9,u,E3 (Z r),S,Ap,Ar,Am,BV,BR,p2,up,p3,y4,y6,Ak,Ao,An,y3,pp,rg,v1,rt,s1,s2,sm,v6,wt,p4]->YX Gs d9 own r1 r2 bi cap Aq b2 r Cn w0 R u S A F [] w->Goes Wb (G ((AL 61).at ⟨#[g5,fk,aY4 (Z ⟨b2,0,J⟩),g2,g9,u,E3 (Z r),S,Ap,Ar,Am,BV,BR,p2,up,p3,y4,y6,Ak,Ao,An,y3,pp,rg,v1,rt,s1,s2,sm,v6,wt,p4],[]⟩ [aY9 M2]) cs) w Post)(k1:∀(Wb R:Nat->Prop)(w:A')(eQ ek:A1)(IN:List Cb)(R7 YZ:List Ax)(g5 fk g2 g9 Ap Ar Am BV BR p2 up p3 y4 y6 Ak Ao An y3 pp rg v1 rt s1 s2 sm v6 wt p4:A1),A.length<IN.length->Holds Wb R w->Ah R #[g5,fk,aY4 (Z ⟨b2,0,J⟩),g2,g9,eQ,E3 (Z r),ek,Ap,Ar,Am,BV,BR,p2,up,p3,y4,y6,Ak,Ao,An,y3,pp,rg,v1,rt,s1,s2,sm,v6,wt,p4]->YX Gs d9 own r1 r2 bi cap Aq b2 r Cn w0 R eQ ek IN R7 YZ w->Goes Wb (G ((AL 61).at ⟨#[g5,fk,aY4 (Z ⟨b2,0,J⟩),g2,g9,eQ,E3 (Z r),ek,Ap,Ar,Am,BV,BR,p2,up,p3,y4,y6,Ak,Ao,An,y3,pp,rg,v1,rt,s1,s2,sm,v6,wt,p4],[]⟩ (aY9 ZZ::Y_)) cs) w Post):Goes Wb (G ((AL 61).at ⟨#[g5,fk,aY4 (Z ⟨b2,0,J⟩),g2,g9,u,E3 (Z r),S,Ap,Ar,Am,BV,BR,p2,up,p3,y4,y6,Ak,Ao,An,y3,pp,rg,v1,rt,s1,s2,sm,v6,wt,p4],[]⟩ (aY9 ZZ::Y_)) cs) w Post:=by
 have Bz:=D.len HF.round;have a0T:=D.qm;have rC:(names A).length=A.length:=by simp[names]
 have kx:∀(R':Nat->Prop)(w':A'),w'.heap=w.heap->(∀b,R b->R' b)->YX Gs d9 own r1 r2 bi cap Aq b2 r Cn w0 R' u S A F X w':=λR' w' e Bb=>by refine⟨λb f=>⟨Bb b (HF.old b f).1,by rw[e];exact(HF.old b f).2⟩,by rw[e];exact HF.size,by rw[e];exact HF.box,HF.new,HF.found.heap (by rw[e]),XI HF.all λb _=>by rw[e],λx hx=>⟨(HF.KP x hx).1,(HF.KP x hx).2.at Bb λb c q _ _=>by rw[e]⟩,XI HF.fresh λb _=>by rw[e],HF.round⟩
 rcases HF.fresh.2 with⟨s4,aGr⟩|⟨bl,y,hw,s4,FT,Lr,_⟩;·have LC:X=[]:=List.length_eq_zero_iff.1 aGr;subst s4 LC;refine a63 B1 i1 (by omega) (λ_ H M e1 U F' Ic=>J3 H M _ _ _ _ _ _ _ _ _ _ _ _ _ _ _ _ _ _ _ _ _ _ _ _ _ _ _ _ Ic U (kx H M e1 F')) λAV=>absurd AV (by omega)
 subst s4;refine a63 B1 i1 (by omega) (λAV H M e1 U F' Ic=>?_) λli H M e1 U F' Ic=>?_;·obtain rfl:=List.length_eq_zero_iff.1 AV;exact J3 H M _ _ _ _ _ _ _ _ _ _ _ _ _ _ _ _ _ _ _ _ _ _ _ _ _ _ _ _ Ic U (kx H M e1 F')
 have Kl:=kx H M e1 F';clear kx B1 i1 J3 Lr;have a1':∀b,rd b->M.heap[b]?=w0.heap[b]?:=λb f=>(Kl.old b (C.sub b f)).2;have aIf:H r:=AJ.gO (Ah.nth U 6 rfl);have aH':H b2:=AJ.gP (Ah.nth U 2 rfl);have a04:∀b,u.ownBlock=Z b->H b:=λb f=>AJ.uC (Ah.nth U 5 rfl) f;have aI9:YO M bl X:=by
  rcases c7 Kl.fresh with⟨h,_⟩|⟨g,c,h,_,h2,_⟩;·cases h
  ·injection h with h;injection h with h;injection h with h;subst h;exact h2
 refine aPj (rd:=rd) (Gs:=Gs) (ms:=X) Ic U Kl.box (λb f=>(Kl.old b (C.sub b f)).1) (C.Hm.same a1' ?_) (Reads.same C.reads (C.Hm.EF 0 (by decide)) C.l6 C.l7 C.l8 C.l9 a1') C.l6 C.l7 C.l8 C.l9 C.files D.ok D.rel D.AW aI9 (λm hm=>D.reach (Kl.round.reach m (Kl.round.perm.mem_iff.1 (List.mem_append.2 (AF hm))))) (by omega) li ?_;·have:=C.Hm.low;have:=Kl.size;omega
 rintro eM MQ v p KG P6 FR F0 AD D_;obtain⟨z,c,L,rfl,aHp,Ev,KL,bf,BI⟩:=AD;have D_:=D_ z c rfl;clear KL;rw[<-aHp]at FR li⊢;have a0Z:MQ z:=AJ.ZG (Ah.nth FR 8 rfl);have kR:Found p r F (d9.length+(Ei A).length):=Kl.found.heap (F0 r aIf);have be:p.ownsRow w0.heap.size 234 8 u A.length (HV A):=XI Kl.all λb f=>F0 b (a04 b f);have aVj:r<p.heap.size:=kR.lt;have J1:=Kl.new;have kp:∃a b,p.heap[r]?=Z (oF a b):=by obtain⟨l,h,_⟩:=kR;exact⟨_,_,h⟩
 refine .Mn (Q:=λT w3=>∃K,w3.ownsRow w0.heap.size 234 8 K (A++L).length (HV (A++L))/\(p.heap.size<=w3.heap.size/\∀k,k<p.heap.size->Z k≠u.ownBlock->w3.heap[k]?=p.heap[k]?)/\T=#[g5,fk,aY4 (Z ⟨b2,0,J⟩),g2,g9,K,E3 (Z r),As (Z ⟨bl,0,J⟩) L.length y,As (Z ⟨z,0,J⟩) L.length c,Ar,Am,BV,BR,p2,up,p3,As (Z ⟨bl,0,J⟩) L.length y,IS Po (L.length:Int),aY5 (Bn (0<L.length)),HW own r1 r2 bi Gs.length cap Aq,As (Z ⟨bl,0,J⟩) L.length y,As (Z ⟨z,0,J⟩) L.length c,u,As (Z ⟨z,0,J⟩) L.length c,K,rt,s1,s2,sm,v6,wt,p4]) Pq (by decide) aDM FR P6 (λd T0=>ME ?_ (aO7 w0.heap.size z c u A L _ _ _ _ _ _ _ _ _ _ _ _ _ _ _ _ _ _ _ _ _ _ _ _ _ _ _ _ _ _ (on (p.at d) T0) (XI be λ_ _=>rfl) (by show w0.heap.size<=p.heap.size;omega) (a4v Ev rfl) (by omega))) ?_;·rintro e a' w'⟨I,h2,K,h3,h4,_,Cz⟩;exact⟨I,h2,K,h3,⟨h4.size,h4.block⟩,Cz⟩
 rintro N4 Es w3 s⟨K,QN,⟨bo,Bu⟩,rfl⟩EX Ln O7 Ur;have Wz:s.ownsRow w0.heap.size 234 8 K (A++L).length (HV (A++L)):=XI QN λ_ _=>by rw[EX]
 have kz:p.heap.size<=s.heap.size:=by rw[EX];exact bo
 have EZ:∀k,k<p.heap.size->Z k≠u.ownBlock->s.heap[k]?=p.heap[k]?:=λk I h2=>by rw[EX];exact Bu k I h2
 clear QN bo Bu EX;have bd:∀b o,p.heap[b]?=Z o->(∀hw,o≠BE hw 234 (0,0))->s.heap[b]?=p.heap[b]?:=λb o e h=>EZ b (O0 e) λh2=>by obtain⟨hw,h3⟩:=a4E be h2.symm;rw[e]at h3;exact h hw (D3 h3)
 obtain⟨aW6,hW,kp⟩:=kp;have NL:s.heap[r]?=p.heap[r]?:=bd r _ kp λ_=>by simp
 have aHP:Found s r F (d9.length+(Ei A).length):=kR.heap NL;have aH_:s.heap[z]?=p.heap[z]?:=EZ z (P6.closed.lt a0Z) λh=>D_ (a04 z h.symm);have fC:∀x∈L,x.rel∈Gs:=λx hx=>(BI x hx).1;have TM:∀x∈L,H7 p MQ x.B5 x.rel.DT:=λx hx=>by obtain⟨j,H1,rfl⟩:=List.mem_iff_getElem.1 hx;exact aKd P6 a0Z (Ev j H1).1 (BI _ hx).2
 have rB:∀b c q,p.heap[b]?=Z (BE c 85 q)->s.heap[b]?=p.heap[b]?:=λb c q e=>bd b _ e λ_=>by simp
 have fB:∀x∈L,H7 s N4 x.B5 x.rel.DT:=λx hx=>(TM x hx).at O7 λb c q _ e=>rB b c q e;have aGL:∀x∈A,H7 s N4 x.B5 x.rel.DT:=λx hx=>by have I:H7 p MQ x.B5 x.rel.DT:=(Kl.KP x hx).2.at KG λb c q f _=>F0 b f;exact I.at O7 λb c q _ e=>rB b c q e
 have a'f:∀x∈A,x.rel∈Gs:=λx hx=>(Kl.KP x hx).1;have aV_:=lv (c:=1000) (L:=A) λx hx=>D.short _ (a'f x hx);have aVa:=lv (c:=1000) (L:=L) λx hx=>D.short _ (fC x hx);have a1B:=D.roots;have PH:d9.length+(Ei A).length+(Ei L).length<=1000000000:=by have I:A.length*1000<=1000*1000:=yX _ (by omega);have h2:L.length*1000<=1000*1000:=yX _ (by omega);omega
 have Wx:∀k,(Ei (L.take k)).length<=1000000000:=λk=>by
  have I:=lv (c:=1000) (L:=L.take k) λx hx=>D.short _ (fC x (List.mem_of_mem_take hx));have h2:(L.take k).length<=L.length:=by rw[List.length_take];omega
  have h3:(L.take k).length*1000<=1000*1000:=yX _ (by omega);omega
 have aIt:∀m∈Ei L,Fh m:=λm hm=>by obtain⟨x,hx,hm⟩:=List.mem_flatMap.1 hm;exact((D.rel _ (fC x hx)).DT m hm).2
 have aIs:∀m∈F,Fh m:=λm hm=>by obtain⟨x,hx,rfl⟩:=D.reach (Kl.round.reach m hm);exact D.ok.short x hx
 have aIg:Jh s (As (Z ⟨z,0,J⟩) L.length c) L:=AF ⟨z,c,rfl,λj H1=>⟨h7 (Ev j H1).1 aH_,gU (fB _ (EC H1))⟩⟩;refine .piece (Q:=λT ES=>∃(W:A')(B5 HE:A1),(s.heap.size<=W.heap.size/\∀b,b<s.heap.size->W.heap[b]?=s.heap[b]?)/\R5 F (Ei L) (d9.length+(Ei A).length) r W (Ei L).length HE ES/\T=#[g5,fk,aY4 (Z ⟨b2,0,J⟩),g2,g9,K,E3 (Z r),HE,As (Z ⟨z,0,J⟩) L.length c,Ar,Am,BV,BR,p2,up,p3,As (Z ⟨bl,0,J⟩) L.length y,IS Po (L.length:Int),aY5 (Bn (0<L.length)),HW own r1 r2 bi Gs.length cap Aq,As (Z ⟨bl,0,J⟩) L.length y,As (Z ⟨z,0,J⟩) L.length c,u,As (Z ⟨z,0,J⟩) L.length c,K,E3 (Z r),As (Z ⟨z,0,J⟩) L.length c,B5,HE,v6,wt,p4]) Pq (by decide) aDN Ln Ur (λT0=>ME ?_ (aO8 r F (d9.length+(Ei A).length) _ L _ _ _ _ _ _ _ _ _ _ _ _ _ _ _ _ _ _ _ _ _ _ _ _ _ _ _ _ _ _ (on s T0) (aHP.heap rfl) Kl.round.nodup aIs (a4y aIg rfl) (by omega) Wx aIt PH)) ?_;·rintro e a' w'⟨I,h2,W,B5,HE,h3,h4,BH⟩;exact⟨I,h2,W,B5,HE,⟨h3.size,h3.block⟩,h4,BH⟩
 rintro T5 Hh ES B⟨W,B5,HE,⟨bO,ra⟩,Uw,rfl⟩Jm QC Uu Us;refine .ctl rfl (λ_=>aZw) λd1=>?_;unfold Y_;refine .ctl rfl (λ_=>aZx) λd2=>?_;have TO:∀b,b<s.heap.size->b≠r->B.heap[b]?=s.heap[b]?:=λb f A2=>by rw[Jm,Uw.but.block b (by omega) A2,ra b f]
 have kN:∀b c t q,s.heap[b]?=Z (BE c t q)->B.heap[b]?=s.heap[b]?:=λb c t q e=>TO b (O0 e) λh=>by subst h;rw[NL,kp]at e;cases e
 have a's:∀b,H b->T5 b:=λb f=>Uu b (O7 b (KG b f));have AQ:=Uw.own;have fP:=Uw.found;rw[On]at AQ fP;refine k1 eM T5 ((B.at d1).at d2) K HE (A++L) (F++N.fresh F (Ei L)) (N.fresh F (Ei L)) _ _ _ _ _ _ _ _ _ _ _ _ _ _ _ _ _ _ _ _ _ _ _ _ _ _ _ _ (by rw[HN];omega) ((Us.at d1).at d2) QC ⟨λb f=>⟨a's b (Kl.old b f).1,?_⟩,?_,?_,J1,?_,?_,λx hx=>?_,?_,?_⟩;·have I:=C.low b f;show B.heap[b]?=_;rw[TO b (by omega) (by omega),EZ b (by omega) λh=>by have:=(be.lt b h.symm).1;omega,F0 b (Kl.old b f).1];exact(Kl.old b f).2
 ·show w0.heap.size<=B.heap.size;have I:=Uw.but.size;rw[Jm];omega
 ·show B.heap[b2]?=_;have h2:p.heap[b2]?=_:=(F0 b2 aH').trans Kl.box;have h4:=bd b2 _ h2 λ_=>by simp
  rw[kN b2 _ _ _ (h4.trans h2)];exact h4.trans h2
 ·rw[aN',HN,<-Nat.add_assoc];exact fP.heap (by show B.heap[r]?=_;rw[Jm])
 ·refine XI Wz λb f=>?_;obtain⟨hw,h⟩:=a4E Wz f;exact kN b _ _ _ h
 ·rcases List.mem_append.1 hx with hx|hx;·exact⟨a'f x hx,(aGL x hx).at Uu λb c q _ e=>kN b _ _ _ e⟩
  ·exact⟨fC x hx,(fB x hx).at Uu λb c q _ e=>kN b _ _ _ e⟩
 ·exact a4C (XI AQ λb _=>by show B.heap[b]?=_;rw[Jm]) (by omega)
 ·rw[aMr];exact Kl.round.next bf (a3T D.ok fC)
theorem a5H{Gs:List Rel}{d9:List Ax}{own:ByteArray}{r1 r2 bi cap Aq b2 r:Nat}{Cn rd:Nat->Prop}{w0:A'}{cs:List AY}{Post:(Nat->Prop)->AK->A'->Prop}(S:Whole Gs d9 own)(B_:aw w0 Cn rd own r1 r2 bi Aq Gs)(k:∀(Wb R:Nat->Prop)(w:A')(u B:A1)(A:List Cb)(F:List Ax)(e f g2 g9 Ap Ar h m p s x y z C D H I K M N Q U s1 s2 sm v6 wt p4:A1),Holds Wb R w->Ah R #[e,f,aY4 (Z ⟨b2,0,J⟩),g2,g9,u,E3 (Z r),B,Ap,Ar,h,m,p,s,x,y,z,C,D,H,I,K,M,N,Q,U,s1,s2,sm,v6,wt,p4]->YX Gs d9 own r1 r2 bi cap Aq b2 r Cn w0 R u B A F [] w->Goes Wb (G ((AL 61).at ⟨#[e,f,aY4 (Z ⟨b2,0,J⟩),g2,g9,u,E3 (Z r),B,Ap,Ar,h,m,p,s,x,y,z,C,D,H,I,K,M,N,Q,U,s1,s2,sm,v6,wt,p4],[]⟩ [aY9 M2]) cs) w Post):∀(n:Nat)(Wb R:Nat->Prop)(w:A')(u B:A1)(A:List Cb)(F X:List Ax)(e f g2 g9 Ap Ar h m p s x y z C D H I K M N Q U s1 s2 sm v6 wt p4:A1),Gs.length<A.length+n->Holds Wb R w->Ah R #[e,f,aY4 (Z ⟨b2,0,J⟩),g2,g9,u,E3 (Z r),B,Ap,Ar,h,m,p,s,x,y,z,C,D,H,I,K,M,N,Q,U,s1,s2,sm,v6,wt,p4]->YX Gs d9 own r1 r2 bi cap Aq b2 r Cn w0 R u B A F X w->Goes Wb (G ((AL 61).at ⟨#[e,f,aY4 (Z ⟨b2,0,J⟩),g2,g9,u,E3 (Z r),B,Ap,Ar,h,m,p,s,x,y,z,C,D,H,I,K,M,N,Q,U,s1,s2,sm,v6,wt,p4],[]⟩ (aY9 ZZ::Y_)) cs) w Post
 |0,Wb,R,w,u,B,A,F,X,e,f,g2,g9,Ap,Ar,h,m,p,s,x,y,z,C,D,H,I,K,M,N,Q,U,s1,s2,sm,v6,wt,p4,hn,W,i1,HF=>by
  have h1:=S.len HF.round;have h2:(names A).length=A.length:=by simp[names]
  omega
 |n+1,Wb,R,w,u,B,A,F,X,e,f,g2,g9,Ap,Ar,h,m,p,s,x,y,z,C,D,H,I,K,M,N,Q,U,s1,s2,sm,v6,wt,p4,hn,W,i1,HF=>by refine aQC S B_ W i1 HF (λR w e f g2 g9 Ap Ar h m p s x y z C D H I K M N Q U s1 s2 sm v6 wt p4 a b c=>k Wb R w u B A F e f g2 g9 Ap Ar h m p s x y z C D H I K M N Q U s1 s2 sm v6 wt p4 a b c) λWb R w eQ ek IN R7 YZ e f g2 g9 Ap Ar h m p s x y z C D H I K M N Q U s1 s2 sm v6 wt p4 hlt a b c=>?_;exact a5H S B_ k n Wb R w eQ ek IN R7 YZ e f g2 g9 Ap Ar h m p s x y z C D H I K M N Q U s1 s2 sm v6 wt p4 (by omega) a b c
end
theorem aRB(f:A1)(w:A'):AZ A4 128 #[As J 0 0,f] w λe w'=>e=hq (aY8 #[])/\w'=w:=AnyF.slices_SortFunc_none Tryz.a5g J 0 f w
theorem aOA(f h K g2 g9 n3 u Ap Ar m p s x y z A C D I M N Q U v1 rt s1 s2 sm v6 wt p4:A1)(w:A'):cC.wp A4 (λe b w'=>e=aYP/\b.defers=[]/\w'=w/\b.tmps=#[f,h,K,g2,g9,As J 0 0,n3,u,Ap,Ar,m,p,s,x,y,z,A,C,D,I,M,N,Q,U,v1,rt,s1,s2,sm,As J 0 0,aY8 #[],p4]) ⟨#[f,h,K,g2,g9,As J 0 0,n3,u,Ap,Ar,m,p,s,x,y,z,A,C,D,I,M,N,Q,U,v1,rt,s1,s2,sm,v6,wt,p4],[]⟩ w:=by have H:=A3 (aRB (aYK (aYI 129) #[] #[]) w);simp only[cC,M2,KB,Od,HB,fstC,sndC,Ly];go_wp2_with(go_at_call 128;refine H.out.mono ?_;rintro e wd⟨rfl,rfl⟩);done
structure W4(Gs:List Rel)(d9:List Ax)(R R':Nat->Prop)(w:A')(u:A1)(A:List Cb)(w':A'):Prop where
 same:∀b,R b->w'.heap[b]?=w.heap[b]?
 sl:Jh w' u A
 KP:∀x∈A,x.rel∈Gs/\H7 w' R' x.B5 x.rel.DT
 order:T8 A
 nodup:(names A).Nodup
 reach:∀m,m∈names A↔N.Reach (M4 Gs) d9 m
theorem W4.heap{Gs:List Rel}{d9:List Ax}{R R' B:Nat->Prop}{w w' w2:A'}{u:A1}{A:List Cb}(h:W4 Gs d9 R R' w u A w')(e:w2.heap=w'.heap)(m:∀b,R' b->B b):W4 Gs d9 R B w u A w2:=by
 refine⟨λb s=>by rw[e];exact h.same b s,?_,λx hx=>⟨(h.KP x hx).1,(h.KP x hx).2.at m λ_ _ _ _ _=>by rw[e]⟩,h.order,h.nodup,h.reach⟩;rcases h.sl with f|⟨g,c,f,h2⟩;·exact AA f
 ·refine AF ⟨g,c,f,λj p=>⟨h7 (h2 j p).1 (by rw[e]),gU ((h.KP _ (EC p)).2.at m λ_ _ _ _ _=>by rw[e])⟩⟩
def pq(Gs:List Rel)(d9:List Ax)(R:Nat->Prop)(w:A')(c':AY)(cs':List AY)(e:Nat->Prop)(g':AK)(w':A'):Prop:=∃R' u A,g'=G (c'.finish u) cs'/\AJ Cy (D6 R') u u/\(∀b,R b->R' b)/\Holds e R' w'/\W4 Gs d9 R R' w u A w'
theorem zB{u B:A1}(z:Holds Wb R w)(H:Ah R #[g5,fk,u,g2,g9,m0,n3,B,Ap,Ar,Am,BV,BR,p2,up,p3,y4,y6,Ak,Ao,An,y3,pp,rg,v1,rt,s1,s2,sm,v6,wt,p4])(D:∀b,Cn b->R b)(M:W4 Gs d9 Cn R w0 m0 A w):Goes Wb (G ((AL 61).at ⟨#[g5,fk,u,g2,g9,m0,n3,B,Ap,Ar,Am,BV,BR,p2,up,p3,y4,y6,Ak,Ao,An,y3,pp,rg,v1,rt,s1,s2,sm,v6,wt,p4],[]⟩ [aY9 (aYB gd aYT)]) (c'::cs')) w (pq Gs d9 Cn w0 c' cs'):=by
 refine .Mn (Q:=λT h=>T=#[g5,fk,u,g2,m0,m0,n3,B,Ap,Ar,Am,BV,BR,p2,up,p3,y4,y6,Ak,Ao,An,y3,pp,rg,v1,rt,s1,s2,sm,v6,wt,m0]/\h.heap=w.heap) Pq (by decide) aDO H z (λd p=>ME ?_ (aOB _ _ _ _ _ _ _ _ _ _ _ _ _ _ _ _ _ _ _ _ _ _ _ _ _ _ _ _ _ _ _ _ (on (w.at d) p))) ?_;·rintro e U w'⟨y,h2,rfl,h4⟩;exact⟨y,h2,h4,rfl⟩
 rintro m N h w2⟨rfl,e1⟩e2 I f C;refine .ctl rfl (λ_=>aZy) λs=>?_;refine .ctl rfl (λw=>aQ6 w) λx=>?_;exact .here ⟨m,m0,A,rfl,Ah.nth I 4 rfl,λb K=>f b (D b K),(C.at s).at x,M.heap (e2.trans e1) f⟩
theorem aEd{own:ByteArray}{r:Nat}{rd:Nat->Prop}(N:Whole Gs d9 own)(C:aw w0 Cn rd own r1 r2 bi Aq Gs){S B:A1}{F:List Ax}(X:Holds Wb R w)(i1:Ah R #[g5,fk,aY4 (Z ⟨b2,0,J⟩),g2,g9,S,E3 (Z r),B,Ap,Ar,Am,BV,BR,p2,up,p3,y4,y6,Ak,Ao,An,y3,pp,rg,v1,rt,s1,s2,sm,v6,wt,p4])(HF:YX Gs d9 own r1 r2 bi cap Aq b2 r Cn w0 R S B A F [] w):Goes Wb (G ((AL 61).at ⟨#[g5,fk,aY4 (Z ⟨b2,0,J⟩),g2,g9,S,E3 (Z r),B,Ap,Ar,Am,BV,BR,p2,up,p3,y4,y6,Ak,Ao,An,y3,pp,rg,v1,rt,s1,s2,sm,v6,wt,p4],[]⟩ [aY9 M2]) (c'::cs')) w (pq Gs d9 Cn w0 c' cs'):=by
 obtain⟨EH,V8⟩:=HF.round.done;have Bz:=N.len HF.round;have a0T:=N.qm;have rC:(names A).length=A.length:=by simp[names]
 have aV0:A.length<=1000:=by rw[rC]at Bz;omega
 rw[aMo];rcases HF.all.2 with⟨U,bI⟩|⟨g,H,hw,U,O9,W,_⟩
 ·obtain rfl:=List.length_eq_zero_iff.1 bI;subst U;refine .Mn (Q:=λT s=>T=#[g5,fk,aY4 (Z ⟨b2,0,J⟩),g2,g9,As J 0 0,E3 (Z r),B,Ap,Ar,Am,BV,BR,p2,up,p3,y4,y6,Ak,Ao,An,y3,pp,rg,v1,rt,s1,s2,sm,As J 0 0,aY8 #[],p4]/\s.heap=w.heap) Pq (by decide) zV i1 X (λd D=>ME ?_ (aOA _ _ _ _ _ _ _ _ _ _ _ _ _ _ _ _ _ _ _ _ _ _ _ _ _ _ _ _ _ _ _ (on (w.at d) D))) ?_;·rintro e a' w'⟨y,h2,rfl,h4⟩;exact⟨y,h2,h4,rfl⟩
  rintro Bs C7 s w2⟨rfl,e1⟩e2 K I M;have e:=e2.trans e1;refine zB (A:=[]) M K (λb f=>I b (HF.old b f).1) ⟨λb f=>by rw[e];exact(HF.old b f).2,AA ⟨rfl,rfl⟩,λx hx=>(by cases hx),.nil,EH,V8⟩
 ·subst U;obtain⟨m,hm⟩:=C.reads.EF;have AV:Cn 0:=C.sub 0 (C.Hm.EF 0 (by decide));have FD:w.cell? ⟨0,0,J⟩=Z (IS Po m):=(F4 (a:=⟨0,0,J⟩) (HF.old 0 AV).2).trans hm;have eo:=C.low 0 AV;have Fl:=O0 W;have KM:∀j(h:j<A.length),N5 w g j A[j]:=λj z=>by have k:=λo u A7 hu=>QV HF.all _ _ (mY A j z o u A7 hu);exact⟨k 0 _ (by omega) rfl,k 1 _ (by omega) rfl,k 2 _ (by omega) rfl,k 3 _ (by omega) rfl,k 4 _ (by omega) rfl,k 5 _ (by omega) rfl,k 6 _ (by omega) rfl,k 7 _ (by omega) rfl⟩
  refine .Mn (Q:=λT s=>(∃p,p.Perm A/\T8 p/\(∀j(h:j<p.length),N5 s g j p[j])/\w.heap.size<=s.heap.size/\∀b,b<w.heap.size->b≠g->s.heap[b]?=w.heap[b]?)/\T=#[g5,fk,aY4 (Z ⟨b2,0,J⟩),g2,g9,As (Z ⟨g,0,J⟩) A.length H,E3 (Z r),B,Ap,Ar,Am,BV,BR,p2,up,p3,y4,y6,Ak,Ao,An,y3,pp,rg,v1,rt,s1,s2,sm,As (Z ⟨g,0,J⟩) A.length H,aY8 #[],p4]) Pq (by decide) zV i1 X (λd D=>ME ?_ (aO9 g H m A _ _ _ _ _ _ _ _ _ _ _ _ _ _ _ _ _ _ _ _ _ _ _ _ _ _ _ _ _ _ _ (on (w.at d) D) (by omega) (λx hx=>N.AW _ (HF.KP x hx).1) (by omega) Fl (λj z=>h7 (KM j z) rfl) (λo=>Dv (w:=on (w.at d) D) W o) FD)) ?_;·rintro e a' w'⟨y,h2,h3,h4⟩;exact⟨y,h2,h3,h4⟩
  rintro Bs C7 s w2⟨⟨p,hp,KL,hc,B3,FT⟩,rfl⟩e2 K I M;have NI:(names p).Perm (names A):=hp.map _;have A9:∀x∈p,x.rel∈Gs/\H7 w2 Bs x.B5 x.rel.DT:=λx hx=>by obtain⟨y,h2⟩:=HF.KP x (hp.mem_iff.1 hx);refine⟨y,h2.at I λb c q f e=>?_⟩;rw[e2];refine FT b (O0 e) λh=>?_;subst h;rw[W]at e;cases e
  rw[<-hp.length_eq]at K⊢;refine zB (A:=p) M K (λb f=>I b (HF.old b f).1) ⟨λb f=>?_,AF ⟨g,H,rfl,λj z=>⟨h7 (hc j z) (by rw[e2]),gU (A9 _ (EC z)).2⟩⟩,A9,KL,NI.nodup_iff.2 EH,λm=>(NI.mem_iff).trans (V8 m)⟩;have y:=C.low b f;rw[e2,FT b (by have:=HF.size;omega) (by omega)];exact(HF.old b f).2
section
variable[Ck]
theorem aMz{own:ByteArray}{rd:Nat->Prop}(s:Whole Gs d9 own)(C:aw w R rd own r1 r2 bi Aq Gs)(B1:Holds Wb R w)(OH:Ah R #[HW own r1 r2 bi Gs.length cap Aq,v])(hv:HO w v d9)(B8:∀m∈d9,m.1≠own):Goes Wb (G (GR A4 61 #[HW own r1 r2 bi Gs.length cap Aq,v] a73) (c'::cs')) w (pq Gs d9 R w c' cs'):=by
 refine aCm B1 OH λBs f e1 Dz F' Ic=>?_;have GH:f.heap.size=w.heap.size+2:=by rw[e1];simp
 have M:∀b,b<w.heap.size->f.heap[b]?=w.heap[b]?:=λb p=>by rw[e1,H4 (by simp;omega),<-ET,H4 p,<-ET]
 have H:f.heap[w.heap.size]?=Z (BE #[AI own,E3 (Z r1),E3 (Z r2),As (Z ⟨bi,0,J⟩) Gs.length cap,E3 (Z Aq)] 138):=by rw[e1,H4 (by simp),<-ET,OX,if_pos rfl]
 have V3:f.heap[w.heap.size+1]?=Z (oF #[] 0):=by rw[e1,OX,if_pos (by simp)]
 obtain⟨c1,U⟩:=C.reads.ex;have B:∀b o u,w.cell? ⟨b,o,J⟩=Z u->f.cell? ⟨b,o,J⟩=Z u:=λb o u h=>(F4 (a:=⟨b,o,J⟩) (M b (Ff (h:=h)))).trans h;have Lw:HO f v d9:=by
  rcases hv with h|⟨g,c,I,h2⟩;·exact AA h
  ·exact AF ⟨g,c,I,λj S=>⟨B _ _ _ (h2 j S).1,B _ _ _ (h2 j S).2⟩⟩
 have a1B:=s.roots;have K:∀m∈d9,m.1≠own/\Fh m:=λm hm=>by obtain⟨x,hx,e⟩:=s.root m hm;exact⟨B8 m hm,e▸s.ok.short x hx⟩
 refine aSI (r1:=r1) (r2:=r2) (c1:=c1) (own:=own) (l:=d9) Ic Dz ((M r1 (O0 U)).trans U) ⟨[],V3,rfl,λx hx=>by cases hx⟩ Lw (by omega) K ?_ ?_ ?_ ?_;·rw[Ad H];rfl
 ·rw[Ad H];rfl
 ·rw[Ad H];rfl
 intro MQ W BR B5 Dj w2 w3 bO ra D DF FR KG P6;refine aLD P6 λy EX O6=>?_;have z:y.heap=w2.heap:=EX.trans DF;have AQ:=D.own;have X:=D.found;rw[On]at AQ X;have Q:∀b,b<f.heap.size->b≠w.heap.size+1->y.heap[b]?=f.heap[b]?:=λb p A2=>by rw[z,D.but.block b (by omega) A2,ra b p]
 have kz:f.heap.size<=y.heap.size:=by have:=D.but.size;rw[z];omega
 refine a5H (b2:=w.heap.size) (r:=w.heap.size+1) (cap:=cap) s C (λWb R w Gh Dj A F g5 fk g2 g9 Ap Ar Am BV BR p2 up p3 y4 y6 Ak Ao An y3 pp rg v1 rt s1 s2 sm v6 wt p4 a b c=>aEd s C a b c) (Gs.length+1) Wb MQ y _ _ [] (N.fresh [] d9) (N.fresh [] d9) _ _ _ _ _ _ _ _ _ _ _ _ _ _ _ _ _ _ _ _ _ _ _ _ _ _ _ _ (by simp) O6 FR ⟨λb p=>⟨KG b (F' b p),?_⟩,by omega,?_,by omega,?_,World.ownsRow_nil _ _ _ _,λx hx=>(by cases hx),?_,.start _ _⟩;·have I:=C.low b p;rw[Q b (by omega) (by omega),M b I]
 ·rw[Q _ (by omega) (by omega)];exact H
 ·have:Found y (w.heap.size+1) ([]++N.fresh [] d9) (0+d9.length):=X.heap (by rw[z]);simpa[Ei]using this
 ·exact a4C (XI AQ λb _=>by rw[z]) (by omega)
end
end
end Go.Proofs.YtcfhleenecfghaaGreatDoor.Twin
