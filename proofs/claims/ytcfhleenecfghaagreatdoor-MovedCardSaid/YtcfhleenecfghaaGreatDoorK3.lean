import Derived.Lib.Split
import Derived.Lib.Bytealg
import Derived.Lib.IndexBytes
import Derived.Lib.Strings
import Derived.Lib.FieldsP
import Derived.Lib.TrimUEq
import Derived.Lib.Small
import Derived.Test.YtcfhleenecfghaaGreatDoorRows
import Derived.LaidByTextLater
import Derived.SevenTiedAt
import Derived.LaidOnce
import Derived.WalkKit
import Derived.WalkSpells
import Derived.WalkLawsBesides
import Derived.Deep.QuietTactic
import Derived.BigQuiet
import Derived.WideMake
import Derived.Lib.SmallJoins
import Derived.Laws.Concat
import Derived.Deep.RegionWith
import Derived.DeepKeys4
import Derived.Great.BuildSlice
import Derived.RegionTactic
import Derived.BigRegion
import Derived.Deep.Cut
import Derived.Deep.RegionHeld2
import Derived.Test.YtcfhleenecfghaaGreatDoorK2
set_option linter.all false
set_option maxHeartbeats 4000000
set_option maxRecDepth 100000
open Array renaming getElem?_eq_none->Ml,getElem?_setIfInBounds->HX,getElem?_setIfInBounds_ne->Mm,getElem?_setIfInBounds_self_of_lt->Va,getElem?_toList->eO,size_append->eP
open Bool renaming and_eq_true->aY,eq_iff_iff->Xl,false->A9,false_eq_true->Ev,not_eq_true'->kk,true->A5
open ByteArray renaming empty->B7,mk->Ji
open Decidable renaming decide->BK
open Go renaming Addr->An,Calls->Ab,Goroutine->AY,MapEntry->Fy,Obj->Cq,TypeId->BL,Value->A3,World->A1,below_drewN->KP,bodyPost_ret->IT,grownCap->fP,heap_alloc_new->OS,heap_setCell_same->CO,info_parts->FJ,keyOf->sc,maxLen->BZ,method->se,results->D5,results_cell_row->Ss,rounds_succ->Nf,run_slice_string->aG0,run_string_add_sum->aG1,setRow_heap->aG2,wpList_append_own->IU,wp_loop_rounds->St
open Go.Addr renaming add->Sc
open Go.Builtin renaming append_->U1,zeroCells->Mo
open Go.ByteArray renaming mk_append_mk->aDo,toList_eq->QS
open Go.Calls renaming quiet_of->kx,quiet_of_same->Vh
open Go.ConcR renaming wgBlock->NV
open Go.Ending renaming returned->AV
open Go.Exit renaming inBlock->Sg
open Go.Extern.AbiNoEscape renaming same->rj
open Go.Fn renaming func->Bo
open Go.Instr renaming checkKey->rq,findKey->Vs,lookup->Fb,makeMap->lE,mapUpdate->Y3,slice->lG,typeAssert->PK
open Go.IntKind renaming i64->AJ,u64->Da,u8->Gc,wrap_i64->RU
open Go.Item renaming inRegion->Ak
open Go.LaidKind renaming data->Y5
open Go.Lib renaming BuilderAt->Vt,IsBuilder->Mq,alloc_old->lH,cell_of_heap->A_,closeSpans->a0i,compareBytes->Fx,compareInt->KI,countB->Y6,countB_le->a0j,count_hit->aEn,cut->Gv,decodeN->U6,decode_N->aEo,frozen_of_heap->C',goFieldsP->Vu,hasPrefix->Y7,index->Si,indexByte_none->s4,indexByte_some->s5,index_one->Y8,index_spec->lI,spansFromP->Sj,splitB->s6,splitB_all->a0k,splitK->a0l,toList_data->Y9,trimPrefix->Sk
open Go.Lib.BuilderAt renaming put->aEm
open Go.Lit renaming int->s7
open Go.MapKept renaming run_getObj_map->OO,run_setObj_map->fA
open Go.Obj renaming cells->A7,map->B4
open Go.Op renaming stringOp->sF
open Go.OpenClaim renaming laidByTextAt_pinned->aaA
open Go.Oper renaming upon_value->a0y
open Go.Program renaming keyLits->aF8,laidByTextLater_by_one->aaC,listedFits->aaD
open Go.Proofs renaming intOf->B0
open Go.Proofs.Tryz renaming prog->A6,results100->sN,results87->aFO,underlying187->a1B,underlying188->aFP,underlying390->aFR,underlying85->fH,underlying9->fI,underlying99->lV
open Go.Proofs.YtcfhleenecfghaaGreatDoor.Rows renaming movedRow->PO
open Go.Proofs.YtcfhleenecfghaaGreatDoor.Tryz renaming pinned->aFT
open Go.Result renaming andThen->KO
open Go.RowKit renaming Below->AO,intOf->M9,ownsRow_setCell_below->a1I,run_makeMap->aFZ
open Go.RowKit.Below renaming heap_alloc->aFY,heap_setCell->DC,refl->Az
open Go.Utf8 renaming decode->Sp
open Go.Value renaming agg->AH,bool->Ag,cells->lZ,func->Br,iface->DD,int->AB,map->AL,nilIface->CN,ownBlock->Kt,pointer->B2,slice->A0,string->A4,tuple->Aj
open Go.WideMaps renaming KeyLaw->a1U
open Go.World renaming block_lt_of_cell?->Cn,cell?_alloc_past->lb,cell?_of_block->C8,cell?_setCell_other->Vz,cell?_setCell_same->lf,ownsRow_nil->PR
open Int renaming eq_ofNat_of_zero_le->a2S,tmod_eq_emod_of_nonneg->aH6,toNat_natCast->bS
open LawfulBEq renaming eq_of_beq->tZ
open List renaming Nodup->Lc,all_append->t_,all_eq_false->ta,all_eq_true->Ha,all_map->aHJ,any_eq_true->a2W,append_assoc->T1,drop_drop->aHM,drop_eq_getElem_cons->tb,drop_eq_nil_of_le->tc,drop_length->a2X,drop_zero->aHN,eq_nil_of_length_eq_zero->aHO,flatMap_cons->a2_,getD_cons_succ->td,getD_eq_getElem?_getD->P_,getElem?_append_right->Rj,getElem?_eq_getElem->En,getElem?_set_ne->aHX,getElem_cons_succ->gA,getElem_drop->aHY,getElem_mem->Ci,getElem_of_mem->Rk,getElem_take->aH_,isEmpty_eq_false_iff->aHa,length->mZ,length_append->DV,length_cons->T3,length_drop->m_,length_map->Gf,length_pos_iff->YW,length_take->UK,map_append->Pa,map_cons->Ee,map_map->Ld,map_nil->Iw,mem_append->E8,mem_append_left->ti,mem_cons->DO,mem_cons_of_mem->G1,mem_cons_self->Le,mem_iff_getElem->Mw,mem_map->Bt,mem_of_getElem?->Jq,mem_of_mem_tail->aHg,mem_singleton->ES,nil_append->gB,nodup_cons->gD,not_mem_nil->IX,pairwise_cons->bX,pairwise_map->I8,replicate->Dt,size_toArray->Rm,take_append_drop->aHi,take_length->Hb,take_of_length_le->bY,take_succ_eq_append_getElem->T4,toList_toArray->tn
open List.Pairwise renaming imp_of_mem->bV,nil->aad
open List.Perm renaming eq_of_pairwise->aHG
open Nat renaming add_mul->a2h,le_of_lt->gI,le_refl->Ad,le_trans->Dn,lt_of_lt_of_le->Hw,lt_or_ge->JR,lt_succ_of_lt->aHs,not_lt_zero->gJ,succ_mul->aHz,zero_le->JS
open Option renaming map_eq_some_iff->Qf,none->J,some->Z
open Option.some renaming inj->CP
open Or renaming inl->AA,inr->AF
open Prod renaming ext->Ro,fst->Ya
open UInt8 renaming lt_iff_toNat_lt->a3D,ofNat->UU,toNat_inj->uI
namespace Go.Proofs.YtcfhleenecfghaaGreatDoor.Twin
section
open Go.Proofs.YtcfhleenecfghaaGreatDoor
open Go.Conc Go.RowKit
open Go.ConcR(Payload)
variable{Kl:A3}{C:Nat->A3->zy->A1->Prop}{BE:zy}
section
variable[Payload]{R:F3}
def aTW{Q:zz->zz->Nat->A3->A1->Prop}(h:R.X.P=A6)(I:R.X.ty=LN.tWg)(hn:R.X.n=R.ms)(c:R.ms.length<2147483648)(U:∀j p v,R.ms[j]?=Z (p,v)->R.AU.cell? ⟨R.bl,R.off+j*2,J⟩=Z (A4 p)/\R.AU.cell? ⟨R.bl,R.off+j*2+1,J⟩=Z (A4 v))(hbl:R.old R.bl)(hlt:∀b,R.old b->b<R.AU)(K:gT R BE Kl Q)(hg:R.X.Goal=R.Goal):R.Ok:=⟨h,I,hn,c,U,hbl,hlt,λ_ _ _ _ _ hj hsame N hm=>aJu h I K hlt hj hsame N hm,λT AG S g' w' hT hI hB=>by rw[hg];exact⟨T,hT,hI,hB⟩⟩
omit[Payload]in def aYH{X:GG}(hm:X.Nk=WO BE C)(hC:∀i v M w w',(∀b,M b->w'.heap[b]?=w.heap[b]?)->C i v M w->C i v M w'):X.MM:=by intro i v M w w' h k;rw[hm]at k⊢;exact⟨k.a9c,λb hb=>As (h b hb) (k.own b hb),hC i v M w w' h k.aBy⟩
def aMC{rc:zy}{aI5:zz->zz->Nat->A3->A1->Prop}{c':Frame}{cs':List Frame}{Q:List (Nat×A3)->A3->A1->A1->Prop}{T:Nat->A3}{w:A1}{U:zy}(d:∀b,U b->R.old b/\¬rc b/\b≠R.B5)(D:R.X.P=A6)(G3:R.X.ty=LN.tWg)(hn:R.X.n=R.ms)(j5:R.ms.length<2147483648)(cv:∀j p v,R.ms[j]?=Z (p,v)->R.AU.cell? ⟨R.bl,R.off+j*2,J⟩=Z (A4 p)/\R.AU.cell? ⟨R.bl,R.off+j*2+1,J⟩=Z (A4 v))(hbl:rc R.bl)(K:∀I,gT (R.from I) BE Kl aI5)(hg:∀I,(R.from I).X.Goal=(R.from I).Goal)(hmsg:R.X.Nk=WO BE C)(hC:∀i v M w w',(∀b,M b->w'.heap[b]?=w.heap[b]?)->C i v M w->C i v M w')(FU:R.cs=c'::cs')(v6:R.X.Ae=w)(C1:R.old=WJ R.X.Wb R.X.Ae R.X.Bn (w+1))(FK:R.AU={w with heap:=w.heap.push (NV R.X.ty 0 0)})(hT:Au R R.HM T)(hch:∃tm,w.heap[R.X.Bn]?=Z (.chan R.X.n #[] A9 0 0 tm))(Ny:Du R.X.Wb w R.X.Bn)(Jb:Closed CK R.X.BJ rc R.AU)(hrc:∀b,BE b->rc b)(hsub:∀b,rc b->R.old b)(dG:∀(c:List (Nat×A3))(w w2:A1)(v:A3)(B:Nat),(∀b,R.old b->w.heap[b]?=R.AU.heap[b]?)->(∀i,(∃v,(i,v)∈c)↔i<R.X.n)->(c.map (·.1)).Nodup->(∀i v,(i,v)∈c->∃M,(∀b,M b->b<w.heap.size/\b≠R.X.Bn)/\C i v M w)->R.AU.heap.size<=w->B=w->(∀b,b<w.heap.size->b≠R.X.Bn->w2.heap[b]?=w.heap[b]?)->w2.ownsRow B 234 8 v c ((c.map (·.2)).flatMap λv=>v.cells.toList)->∀T0,Ab A6 128 #[v,Br (Bo 129) #[] #[]] (on w2 T0) λe w1=>e=AV (Aj #[])/\Q c v w2 w1)(gs:Array AY)(sl:Option (Nat×Nat))(t:Trace)(q:Nat->Nat)(H4:R.X.c0=gs.size)(f:Cx A6 R.X.Wb gs w t q (G (Fr (J,[]) 126 (Ax 39 T) [Ak o2 [0],.code c3]) R.cs)):∃(N:Nat)(DI:Array AY)(g':AY)(w':A1)(sl':Option (Nat×Nat))(v4:Trace)(q':Nat->Nat)(UX:zy),runNT A6 N (crowd gs w sl) t=(.next (crowd DI w' sl'),v4)/\Cx A6 UX DI w' v4 q' g'/\(∀b,U b->¬UX b)/\KU U R.AU w'/\∃F v w2 w1 c,g'=G (c'.finish v) cs'/\AK CK (C7 F) v v/\(∀b,rc b->F b)/\CC (λb=>UX b∨U b) F w'/\Q c v w2 w1/\w'.heap=w1.heap:=by
 let hlt:∀b,R.old b->b<AR R.AU:=λb hb=>by rw[C1]at hb;rw[FK];simpa using hb.1
 let⟨N1,m1,t1,I,r1,CF⟩:=aJ8 (λI=>aTW D G3 hn j5 cv (hsub _ hbl) hlt (K I) (hg I)) hg (λI=>aYH hmsg hC) v6 C1 FK hT hch Ny gs sl t q H4 (Ar D);rw[D]at r1;let Jp:=K I;let S:∀b,R.old b->¬R.X.BJ b/\b≠R.X.Bn:=λb h=>by rw[C1]at h;exact⟨λx=>x.elim h.2.1 h.2.2.1,h.2.2.2⟩
 let r:R.X.Bn≠R.X.Ae->¬R.X.BJ R.X.Bn:=λh x=>x.elim Ny.2 h;obtain⟨S1,w,VU,T2,q2,c,rfl,_,f,m,hsame,Q3,dA,o8,⟨tm,hchan⟩,FD,hnd,Y⟩:=CF.at_;let m:Au R R.HM T2:=⟨m.at_,m.av⟩;let f:Cx A6 R.X.BJ S1 w t1 q2 (waited R T2):=D▸f;let Y:∀i v,(i,v)∈c->∃M,(∀b,M b->b<AR w/\¬R.X.BJ b/\b≠R.X.Bn/\¬R.old b)/\WO BE C i v M w:=hmsg▸Y;let⟨t5,p5,EG⟩:=Jp.ch;let EG:=(hsame _ Jp.B5).trans EG;obtain⟨F,TS,k5,kc,z,aOe⟩:=aK2 (Wb:=λb=>R.X.BJ b∨U b) (rc:=rc) ⟨λb hb=>As (hsame b (hsub b hb)) (Jb.heap b hb),λb hb x=>x.elim (Jb.off b hb) λy=>(d b y).2.1 hb,Jb.Ca⟩ hrc EG hchan (λx=>x.elim (S _ Jp.B5).1 λy=>(d _ y).2.2 rfl) (λx=>x.elim (r o8) λy=>(S _ (d _ y).1).2 rfl) λi v hv=>let⟨M,a1,a2⟩:=Y i v hv;⟨M,λb hb x=>x.elim (a1 b hb).2.1 λy=>(a1 b hb).2.2.2 (d b y).1,a2⟩;let hlen:c<=R.X.n:=by
  have:=pO R.X.n (c.map (·.1)) hnd λx hx=>by obtain⟨y,hy,rfl⟩:=Bt.1 hx;exact(FD y.1).1 ⟨y.2,hy⟩
  simpa using this
 let A:∀b,U b->b<AR w:=λb hb=>Hw (hlt b (d b hb).1) Q3;let hgo:=aJH (c':=c') (cs':=cs') (Q:=λu w2 w1=>Q c u w2 w1) (v:=T2) (w:=w) ⟨TS,λb hb=>hb.elim (f.PC b) (A b)⟩ (m.av _ (z _ hbl) k5) (λx=>x.elim (r o8) λy=>(S _ (d _ y).1).2 rfl) (m.get 1 (u:=R.sl)) (m.get 5 (u:=AT R.B5)) EG hchan j5 (by rw[Gf];omega) aOe λu w2 hown EW T0=>dG c w w2 u _ hsame FD hnd (λi v aOL=>let⟨M,a1,a2⟩:=Y i v aOL;⟨M,λb hb=>⟨(a1 b hb).1,(a1 b hb).2.2.1⟩,a2.aBy⟩) Q3 rfl EW (Ai hown) T0;let f:Cx A6 R.X.BJ S1 w t1 q2 (G (Fr (J,[]) 126 (Ax 39 T2) [Ak XQ [],.code Pk]) (c'::cs')):=FU▸f;obtain⟨N2,aMU,g3,w3,aXj,t3,q3,aIg,r2,c3,acc,F5,aJx,Ga,w4,Bd,rfl,a1,a2,a3,a4,a5⟩:=hgo R.X.BJ U rfl (λb hb=>⟨(S _ (d b hb).1).1,A b hb⟩) S1 VU t1 q2 f;exact⟨N1+N2,aMU,_,w3,aXj,t3,q3,aIg,Tp r1 r2,c3,acc,KU.trans ⟨dA.1,dA.2,Q3,λb hb _=>hsame b (d b hb).1⟩ F5,aJx,Ga,w4,Bd,c,rfl,a1,λb hb=>a2 b (z b hb),a3,a4,a5⟩
end
end
end Go.Proofs.YtcfhleenecfghaaGreatDoor.Twin
namespace Go.Proofs.YtcfhleenecfghaaGreatDoor
variable{s v:zz}{kw:Int}{q:List (Nat×Nat)}{l:List (Nat×Nat×List zz)}{em fs:List zz}{p:zx}{M n pos t:Nat}{α:Type}{b:UInt8}
namespace V
def V7(b:UInt8):Bool:=BK (48<=b.toNat)&&BK (b.toNat<=57)
def isLet(b:UInt8):Bool:=BK (97<=b.toNat)&&BK (b.toNat<=122)||BK (65<=b.toNat)&&BK (b.toNat<=90)
def digits(l:zx):Bool:=l.all V7&&!l.isEmpty
def number(l:zx):Bool:=digits l&&(l==[48]||l.head? !=Z 48)
def Mf(b:UInt8):Bool:=V7 b||isLet b||b==45
def mark(l:zx):Bool:=if digits l then number l else l.all Mf&&!l.isEmpty
def pieces(c:UInt8):zx->List (zx)|[]=>[[]]|b::r=>if b==c then[]::pieces c r else(b::(pieces c r).headD [])::(pieces c r).tail
def parts(s:zx):List (zx)×List (zx):=(pieces 46 (Gv (Sk s [118]) [45]).1,if(Gv (Sk s [118]) [45]).2.2 then pieces 46 (Gv (Sk s [118]) [45]).2.1 else[])
def AI(s:zx):Bool:=BK (s.length<=40)&&(Y7 s [118]&&((parts s).1.length==3&&(parts s).1.all number&&(parts s).2.all mark))
def Gl(a b:Nat):Int:=if a<b then-1 else if b<a then 1 else 0
def KW(a b:zx):Int:=if Gl a b !=0 then Gl a b else Fx a b
def Oh(a b:zx):Int:=if digits a then if digits b then KW a b else-1 else if digits b then 1 else Fx a b
def lex(f:zx->zx->Int):List (zx)->List (zx)->Int|[],[]=>0|[],_::_=>-1|_::_,[]=>1|a::az,b::B5=>if f a b !=0 then f a b else lex f az B5
def order(a b:zx):Int:=if lex KW (parts a).1 (parts b).1 !=0 then lex KW (parts a).1 (parts b).1 else if(parts a).2.isEmpty||(parts b).2.isEmpty then Gl (parts b).2.length (parts a).2.length else lex Oh (parts a).2 (parts b).2
theorem pZ(c)(l):pieces c l≠[]:=by cases l with|nil=>simp[pieces]|cons b r=>grind[pieces]
theorem yj(c):∀(l),(∀k:Nat,l[k]?≠Z c)->pieces c l=[l]|[],_=>rfl|b::r,h=>by have hb:¬(b==c)=A5:=λe=>h 0 (by simp[tZ e]);have hr:=yj c r λk=>Ai (h (k+1));simp_all[pieces,if_neg]
theorem yk(c):∀(l)(o),l[o]?=Z c->(∀k:Nat,k<o->l[k]?≠Z c)->pieces c l=l.take o::pieces c (l.drop (o+1))|[],o,h,_=>BA|b::r,0,h,_=>by simp_all[pieces,if_pos]|b::r,o+1,h,hk=>by have hb:¬(b==c)=A5:=λe=>hk 0 A' (by simp[tZ e]);let hr:=yk c r o (Ai h) λk hlt=>Ai (hk (k+1) A');simp_all[pieces,if_neg]
theorem aCH(c):∀(n:Nat)(l:zx),Lib.count l [c]<=n->a0l [c] 0 n l=pieces c l
 |0,l,h=>by
  have hi:Si l [c]=-1:=by
   rcases lI l [c]with⟨I,_⟩|⟨i,I,_⟩;.grind
   have:=aEn AD I;omega
  rw[Y8]at hi;rw[yj c l (s4 hi)];rfl
 |n+1,l,h=>by
  rcases lI l [c]with⟨I,_⟩|⟨i,I,_⟩;.let hi:=I;rw[Y8]at hi;rw[yj c l (s4 hi)];unfold a0l;grind
  let hi:=I;rw[Y8]at hi;let⟨ho,hk⟩:=s5 hi;let hc:=aEn AD I;let e:(Si l [c]).toNat=i:=A';rw[yk c l i ho hk];unfold a0l;rw[if_neg λe=>BO (beq_iff_eq.1 e),e];rw[aCH c n _ A'];simp
def zk(s I)(c)(h:I.data.toList=[c]):(s6 I 0 (Y6 s I) s).map (·.data.toList)=pieces c s:=by rw[Lib.splitB_data,h];exact aCH c _ _ BA
theorem aKi(l)(k)(h:k<l.length)(hd:V7 l[k]=A9):digits l=A9:=by unfold digits;grind
theorem aKh{l}(h:digits l=A5):l≠[]:=by grind[digits]
theorem a3p{p q:UInt8->Bool}(h:∀n:Fin 256,p (UU n.val)=q (UU n.val))(b):p b=q b:=by have:=h ⟨b.toNat,b.toNat_lt⟩;simp_all
theorem getD_at(l:List α)(d){k}(h):l.getD k d=l[k]:=by grind
def Ns(p:zx->Bool)(ls:List zz):Bool:=ls.all λx=>p x
theorem a3Q(p)(ls:List zz)(k:Nat)(h:k<ls)(I:Ns p (ls.take k)=A5)(h2:p (ls.getD k B7)=A5):Ns p (ls.take (k+1))=A5:=by grind[Ns,T4,getD_at]
theorem a3P(p)(ls)(k)(h:k<ls.length)(h2:p (ls.getD k B7)=A9):Ns p ls=A9:=by grind[Ns,getD_at,ta]
theorem a3O(p)(ls):Ns p ls=(ls.map (·.data.toList)).all p:=by grind[Ns,aHJ]
def lexB(f:zx->zx->Int)(h I:List zz):Int:=lex f (h.map (·.data.toList)) (I.map (·.data.toList))
def drop_at(l:List α)(k)(h):l.drop k=l[k]::l.drop (k+1):=tb h
def a8p(f)(I N:List zz)(k:Nat)(U:k<I)(h2:k<N)(h:(f (I.getD k B7) (N.getD k B7)!=0)=A9):lexB f (I.drop k) (N.drop k)=lexB f (I.drop (k+1)) (N.drop (k+1)):=by unfold lexB;rw[drop_at I k U,drop_at N k h2,Ee,Ee,lex,if_neg BA]
def a8l(f:zx->zx->Int)(I N:List zz)(k:Nat)(U:k<I)(h2:k<N)(h:(f (I.getD k B7) (N.getD k B7)!=0)=A5):lexB f (I.drop k) (N.drop k)=f (I.getD k B7) (N.getD k B7):=by rw[getD_at _ _ U,getD_at _ _ h2]at h;rw[getD_at _ _ U,getD_at _ _ h2];unfold lexB;rw[drop_at I k U,drop_at N k h2,Ee,Ee,lex,if_pos h]
def a8n(f)(h I:List zz)(k:Nat)(N:k<h)(h2:I<=k):lexB f (h.drop k) (I.drop k)=1:=by rw[drop_at h k N,tc h2];rfl
def a8m(f)(I h:List zz)(k:Nat)(N:I<=k)(h2:k<h):lexB f (I.drop k) (h.drop k)=-1:=by rw[drop_at h k h2,tc N];rfl
def a8o(f)(h I:List zz)(k)(N:h.length<=k)(h2:I<=k):lexB f (h.drop k) (I.drop k)=0:=by rw[tc N,tc h2];rfl
theorem jc(c):∀(l),∀q∈pieces c l,q.length<=l.length
 |[],q,h=>by grind[pieces]
 |b::r,q,h=>by
  have I:=jc c r;rw[pieces]at h;split at h;.grind
  rcases DO.1 h with h|h;.cases hp:pieces c r with|nil=>grind|cons x xs=>grind
  have:=I q (aHg h);grind
theorem aZi{t:zz}(h:t=Sk s p)(hs:s<=n):t<=n:=by let e1:t.data.toList=t.size:=AD;let e2:s.data.toList=s.size:=AD;grind[Sk,m_]
theorem v7{t x y:zz}(hx:x=(Gv t p).1)(hy:y=(Gv t p).2.1)(hs:t<=n):x<=n/\y<=n:=by let e1:x.data.toList=x.size:=AD;let e2:y.data.toList=y.size:=AD;let e3:t.data.toList=t.size:=AD;grind[Gv]
theorem aKR{l c}(h:∀j:Nat,l[j]?≠Z c):Gv l [c]=(l,[],A9):=by
 rcases lI l [c]with⟨I,_⟩|⟨i,I,_⟩;.simp_all[Gv,if_neg,]
 rw[Y8]at I;exact absurd (s5 I).1 (h i)
def aKS{l c o}(h:l[o]?=Z c)(hk:∀j:Nat,j<o->l[j]?≠Z c):Gv l [c]=(l.take o,l.drop (o+1),A5):=by
 rcases lI l [c]with⟨I,_⟩|⟨i,I,_⟩;.rw[Y8]at I;exact absurd h (s4 I o)
 let h2:=I;rw[Y8]at h2;let⟨ha,hb⟩:=s5 h2;have e:i=o:=by
  rcases Nat.lt_trichotomy i o with hlt|he|hgt;.exact absurd ha (hk i hlt)
  .exact he
  exact absurd h (hb o hgt)
 subst e;unfold Gv;rw[I,if_pos A'];simp
theorem aZj{l}(h:l.head?=Z 118):Sk l [118]=l.drop 1:=by cases l with|nil=>grind|cons a r=>grind[Sk,Y7]
theorem aUJ{l}:Y7 l [118]=(l.head?==Z 118):=by cases l with|nil=>rfl|cons a r=>grind[Y7]
theorem aZw{l}(h:(l.head?==Z 118)=A9):AI l=A9:=by grind[AI,aUJ]
def IZ{α:Type}(f:α->α->Int):Prop:=(∀x y,f x y=-1∨f x y=0∨f x y=1)/\(∀x y,f y x=-f x y)/\∀x y z,f x y<=0->f y z<=0->f x z<=0
def Good{α:Type}(f:α->α->Int):Prop:=IZ f/\∀x y,f x y=0->x=y
def JF{α:Type}(f g:α->α->Int)(x y:α):Int:=if f x y !=0 then f x y else g x y
theorem IZ.refl{f:α->α->Int}(h:IZ f)(x):f x x=0:=BO (h.2.1 x x)
def IZ.back{c f}(h:IZ f)(p:c->α):IZ λx y=>f (p x) (p y):=⟨λ_ _=>h.1 ..,λ_ _=>h.2.1 ..,λ_ _ _=>h.2.2 _ _ _⟩
theorem QH(f g)(x y:α):f x y≠0/\JF f g x y=f x y∨f x y=0/\JF f g x y=g x y:=by unfold JF;grind
theorem IZ.then{f g:α->α->Int}(hf:IZ f)(hg:IZ g):IZ (JF f g):=by
 refine⟨λx y=>?_,λx y=>?_,λx y z U h2=>?_⟩
 .rcases QH f g x y with⟨_,e⟩|⟨_,e⟩<;>rw[e];.exact hf.1 x y
  exact hg.1 x y
 .let a:=hf.2.1 x y;rcases QH f g x y with⟨h,e⟩|⟨h,e⟩<;>rcases QH f g y x with⟨I,N⟩|⟨I,N⟩<;>rw[e,N];.grind
  .omega
  .omega
  exact hg.2.1 x y
 let f1:f x y<=0:=by rcases QH f g x y with⟨h,e⟩|⟨h,e⟩<;>omega
 let f2:f y z<=0:=by rcases QH f g y z with⟨h,e⟩|⟨h,e⟩<;>omega
 let f3:=hf.2.2 x y z f1 f2;rcases QH f g x z with⟨h,e⟩|⟨h,e⟩;.omega
 let r1:=hf.2.1 x z;let r2:=hf.2.2 z x y A' f1;let r3:=hf.2.1 z y;let r4:=hf.2.2 y z x f2 A';let r5:=hf.2.1 y x;rcases QH f g x y with⟨I,_⟩|⟨_,e1⟩;.exact absurd A' I
 rcases QH f g y z with⟨I,_⟩|⟨_,e2⟩;.exact absurd A' I
 rw[e];exact hg.2.2 x y z A' A'
def Good.then{α}{f g:α->α->Int}(hf:IZ f)(hg:Good g):Good (JF f g):=⟨hf.then hg.1,λx y h=>by
 rcases QH f g x y with⟨I,e⟩|⟨_,e⟩;.omega
 exact hg.2 x y A'⟩
theorem Yn:IZ Gl:=by
 refine⟨λx y=>?_,λx y=>?_,λx y z=>?_⟩;.grind[Gl]
 .unfold Gl;grind
 unfold Gl;grind
theorem uv:Good Gl:=⟨Yn,λx y h=>by unfold Gl at h;grind⟩
def Ik{α:Type}(f:α->α->Int):List α->List α->Int|[],[]=>0|[],_::_=>-1|_::_,[]=>1|a::az,b::B5=>if f a b !=0 then f a b else Ik f az B5
theorem VC(f)(a b)(az I:List α):f a b≠0/\Ik f (a::az) (b::I)=f a b∨f a b=0/\Ik f (a::az) (b::I)=Ik f az I:=by
 by_cases h:f a b=0;.grind[Ik]
 exact AA ⟨h,by rw[Ik,if_pos (bne_iff_ne.2 h)]⟩
theorem a8q{f:α->α->Int}(hf:Good f):Good (Ik f):=by
 let r:∀x:List α,∀y,Ik f x y=-1∨Ik f x y=0∨Ik f x y=1:=by
  intro x;induction x with
  |nil=>intro y;cases y<;>simp[Ik]
  |cons a az U=>
   intro y;cases y with
   |nil=>simp[Ik]
   |cons b I=>
    rcases VC f a b az I with⟨_,e⟩|⟨_,e⟩<;>rw[e];.exact hf.1.1 a b
    grind
 let s:∀x:List α,∀y,Ik f y x=-Ik f x y:=by
  intro x;induction x with
  |nil=>intro y;cases y<;>rfl
  |cons a az U=>
   intro y;cases y with
   |nil=>rfl
   |cons b I=>
    let q:=hf.1.2.1 a b;rcases VC f a b az I with⟨h,e⟩|⟨h,e⟩<;>rcases VC f b a I az with⟨N,e'⟩|⟨N,e'⟩<;>rw[e,e'];.exact q
    .omega
    .omega
    grind
 let t:∀x:List α,∀y z,Ik f x y<=0->Ik f y z<=0->Ik f x z<=0:=by
  intro x;induction x with
  |nil=>intro y z _ _;cases z<;>simp[Ik]
  |cons a az U=>
   intro y z h1 h2;cases y with
   |nil=>trivial
   |cons b I=>
    cases z with
    |nil=>assumption
    |cons c cs=>
     let f1:f a b<=0:=by rcases VC f a b az I with⟨h,e⟩|⟨h,e⟩<;>omega
     let f2:f b c<=0:=by rcases VC f b c I cs with⟨h,e⟩|⟨h,e⟩<;>omega
     let f3:=hf.1.2.2 a b c f1 f2;rcases VC f a c az cs with⟨h,e⟩|⟨h,e⟩;.omega
     let r1:=hf.1.2.1 a c;let r2:=hf.1.2.2 c a b A' f1;let r3:=hf.1.2.1 c b;let r4:=hf.1.2.2 b c a f2 A';let r5:=hf.1.2.1 b a;rcases VC f a b az I with⟨N,_⟩|⟨_,e1⟩;.exact absurd A' N
     rcases VC f b c I cs with⟨N,_⟩|⟨_,e2⟩;.exact absurd A' N
     rw[e];exact U I cs A' A'
 refine⟨⟨r,s,t⟩,?_⟩;intro x;induction x with
 |nil=>intro y h;cases y<;>simp[Ik]at h⊢
 |cons a az U=>
  intro y h;cases y with
  |nil=>simp[Ik]at h
  |cons b I=>
   rcases VC f a b az I with⟨N,e⟩|⟨N,e⟩;.omega
   rw[hf.2 a b N,U I A']
def uu(a b:UInt8):Int:=Gl a.toNat b.toNat
def aK4:Good uu:=⟨Yn.back _,λ_ _ h=>uI.1 (uv.2 _ _ h)⟩
theorem a4F:∀(x y),Fx x y=Ik uu x y
 |[],[]=>rfl
 |[],_::_=>rfl
 |_::_,[]=>rfl
 |a::az,b::B5=>by
  rw[Fx,Ik,a4F az B5];unfold uu Gl;by_cases I:a<b;.have N:=a3D.1 I;grind
  by_cases h2:b<a;.rw[if_neg I,if_pos h2,if_neg λh=>I (a3D.2 h),if_pos (a3D.1 h2)];rfl
  grind
def c7:Good Fx:=As (funext λx=>funext λy=>a4F x y) (a8q aK4)
def a4A:Good KW:=Good.then (Yn.back mZ) c7
theorem aK7(a b):Oh a b=JF (λx y=>Gl (if digits x then 0 else 1) (if digits y then 0 else 1)) (JF (λx y=>Gl (if digits x then x else 0) (if digits y then y else 0)) Fx) a b:=by grind[Oh,JF,Gl,KW]
def a48:Good Oh:=As (funext λx=>funext λy=>aK7 x y) (Good.then (Yn.back λx:zx=>if digits x then 0 else 1) (Good.then (Yn.back λx:zx=>if digits x then x else 0) c7))
def a8r(f):∀(x y),lex f x y=Ik f x y|[],[]=>rfl|[],_::_=>rfl|_::_,[]=>rfl|a::az,b::B5=>by rw[lex,Ik,a8r f az B5]
def pA{f}(h:Good f):Good (lex f):=As (funext λx=>funext λy=>a8r f x y) (a8q h)
def pU(x y:List (zx)×List (zx)):Int:=JF (λx y=>lex KW x.1 y.1) (JF (λx y=>Gl (if x.2.isEmpty then 1 else 0) (if y.2.isEmpty then 1 else 0)) λx y=>lex Oh x.2 y.2) x y
theorem dZ(a b):order a b=pU (parts a) (parts b):=by grind[order,pU,JF,Gl,lex]
theorem ja:Good pU:=by
 refine⟨IZ.then ((pA a4A).1.back λx:List (zx)×List (zx)=>x.1) (IZ.then (Yn.back λx:List (zx)×List (zx)=>if x.2.isEmpty then 1 else 0) ((pA a48).1.back λx:List (zx)×List (zx)=>x.2)),?_⟩;intro x y h;unfold pU at h;rcases QH (λx y:List (zx)×List (zx)=>lex KW x.1 y.1) (JF (λx y=>Gl (if x.2.isEmpty then 1 else 0) (if y.2.isEmpty then 1 else 0)) λx y=>lex Oh x.2 y.2) x y with⟨I,e⟩|⟨I,e⟩;.grind
 let e1:=(pA a4A).2 _ _ I;rw[e]at h;rcases QH (λx y:List (zx)×List (zx)=>Gl (if x.2.isEmpty then 1 else 0) (if y.2.isEmpty then 1 else 0)) (λx y=>lex Oh x.2 y.2) x y with⟨h2,e2⟩|⟨_,e2⟩;.grind
 let e3:=(pA a48).2 _ _ (e2.symm.trans h);grind
def join(c:UInt8):List (zx)->zx|[]=>[]|[a]=>a|a::b::r=>a++c::join c (b::r)
theorem ov(c):∀(l),join c (pieces c l)=l
 |[]=>rfl
 |b::r=>by
  have I:=ov c r;let hne:=pZ c r;rw[pieces];cases hp:pieces c r with
  |nil=>grind
  |cons q N=>
   by_cases h:b=c;.simp_all[join,I]
   cases N with|nil=>simp_all[join,I]|cons q2 N=>simp_all[join,I]
theorem aKQ(l)(c):l=(Gv l [c]).1++if(Gv l [c]).2.2 then c::(Gv l [c]).2.1 else[]:=by
 rcases lI l [c]with⟨h,_⟩|⟨i,h,_⟩;.rw[Y8]at h;rw[aKR (s4 h)];simp
 rw[Y8]at h;let⟨ha,hb⟩:=s5 h;rw[aKS ha hb];grind[tb,aHi]
theorem aCw{l}(h:AI l=A5):l.head?=Z 118:=by grind[aZw]
theorem aCu{l}(h:AI l=A5):l=118::(join 46 (parts l).1++if(parts l).2=[]then[]else 45::join 46 (parts l).2):=by
 let hh:=aCw h;cases l with
 |nil=>grind
 |cons a r=>
  have e:=Ai hh;subst e;unfold parts;rw[aZj hh];let hd:(118::r).drop 1=r:=rfl;rw[hd];have hb:=aKQ r 45;generalize Gv r [45]=t at hb⊢;let⟨t1,t2,t3⟩:=t;cases t3;.simp[ov]at hb⊢;exact hb
  simp[ov,pZ]at hb⊢;exact hb
theorem aZx{a b}(ha:AI a=A5)(hb:AI b=A5)(h:parts a=parts b):a=b:=by grind[aCu]
def aAU(a b):order b a=-order a b:=by rw[dZ,dZ];exact ja.1.2.1 ..
def aAS(a b c)(h:order a b<=0)(h2:order b c<=0):order a c<=0:=by rw[dZ]at*;exact ja.1.2.2 _ _ _ h h2
def aAT(a b):order a b=-1∨order a b=0∨order a b=1:=As dZ (ja.1.1 ..)
def aTl{a b}(ha:AI a=A5)(hb:AI b=A5):order a b=0↔a=b:=by
 constructor;.intro h;rw[dZ]at h;exact aZx ha hb (ja.2 _ _ h)
 intro h;subst h;rw[dZ];exact ja.1.refl _
def Jy(n:Nat):UInt8:=UU (48+n)
def Uf:Nat->Nat->zx|0,n=>[Jy n]|f+1,n=>if n<10 then[Jy n]else Uf f (n/10)++[Jy (n%10)]
theorem a4Q:∀(f n),1<=(Uf f n).length/\(Uf f n).length<=f+1
 |0,n=>by simp[Uf]
 |f+1,n=>by
  rw[Uf];by_cases h:n<10;.grind
  have I:=a4Q f (n/10);grind
theorem aU9(c)(l r)(h:∀k:Nat,l[k]?≠Z c):pieces c (l++c::r)=l::pieces c r:=by let I:=yk c (l++c::r) l AD λk hk=>As (List.getElem?_append_left hk) (h k);simp_all
def blank(b:UInt8):Bool:=b==32||b==9
def Pj(x:Nat):Bool:=x==32||x==9
def JI:zx->zx->List (zx)|cur,[]=>if cur.isEmpty then[]else[cur]|cur,b::r=>if blank b then if cur.isEmpty then JI [] r else cur::JI [] r else JI (cur++[b]) r
def words(l:zx):List (zx):=JI [] l
def kL:∀(x r cur),(∀b∈x,blank b=A9)->JI cur (x++r)=JI (cur++x) r|[],r,cur,_=>AD|b::x,r,cur,h=>by rw[List.cons_append,JI,h b AD];rw[kL x r (cur++[b]) λy hy=>h y BA,T1];rfl
theorem aOI(h:128<=b.toNat):blank b=A9:=by
 unfold blank;let I:b≠32:=λe=>by subst e;revert h;decide
 let h2:b≠9:=λe=>by subst e;revert h;decide
 grind
theorem aOJ{x}(h:128<=x):Pj x=A9:=by grind[Pj]
theorem aJN(b):Pj b.toNat=blank b:=by
 unfold Pj blank;rw[Xl];simp;constructor
 .rintro(h|h);.exact AA (uI.1 h)
  exact AF (uI.1 h)
 rintro(h|h);.exact AA (Af h)
 simp_all
theorem aKW(n I N b2 U)(h:I<128):U6 n I N b2 U=(I,1):=by simp_all[U6,if_pos]
theorem aKV(n h I b2 N)(h0:128<=h)(hn:1<=n):128<=(U6 n h I b2 N).1/\1<=(U6 n h I b2 N).2/\(U6 n h I b2 N).2<=n/\(1<(U6 n h I b2 N).2->128<=I)/\(2<(U6 n h I b2 N).2->128<=b2)/\(3<(U6 n h I b2 N).2->128<=N)/\(U6 n h I b2 N).2<=4:=by unfold U6;grind
def aKY(hb:s.data.toList[pos]?=b)(h:b.toNat<128):Sp s pos=(b.toNat,1):=by
 rw[aEo];let e:s.data.toList.getD pos 0=b:=by rw[P_,hb];rfl
 rw[e];exact aKW _ _ _ _ _ h
def aKX(hb:s.data.toList[pos]?=b)(h:128<=b.toNat):128<=(Sp s pos).1/\1<=(Sp s pos).2/\pos+(Sp s pos).2<=s.data.toList/\∀y∈(s.data.toList.drop pos).take (Sp s pos).2,blank y=A9:=by
 have hlt:=Po hb;let e:s.data.toList.getD pos 0=b:=by rw[P_,hb];rfl
 let hd:=aKV (s.data.toList-pos) b.toNat (s.data.toList.getD (pos+1) 0).toNat (s.data.toList.getD (pos+2) 0).toNat (s.data.toList.getD (pos+3) 0).toNat h A';rw[aEo,e];let⟨g1,g2,g3,g4,g5,g6,g7⟩:=hd;refine⟨g1,g2,A',λy hy=>?_⟩;let⟨j,hj,hy⟩:=Mw.1 hy;rw[UK,m_]at hj;rw[aH_,aHY]at hy;let hg:s.data.toList.getD (pos+j) 0=y:=by rw[P_,En A',hy];rfl
 rw[<-hg];apply aOI;match j,hj with|0,_=>rwa[Nat.add_zero,e]|1,hj=>exact g4 A'|2,hj=>exact g5 A'|3,hj=>exact g6 A'|j+4,hj=>omega
def rest(l:zx)(pos:Nat):Option Nat->List (zx)|J=>JI [] (l.drop pos)|Z a=>JI ((l.drop a).take (pos-a)) (l.drop pos)
def piece(s:zz)(x:Nat×Nat):zx:=(s.data.toList.drop x.1).take (x.2-x.1)
def Xc(s):∀(f pos:Nat)(st:Option Nat)(h:List (Nat×Nat)),s.data.toList.length<=pos+f->pos<=s.data.toList.length->(∀a,st=Z a->a<pos)->(a0i s (Sj Pj s f pos st h)).map (piece s)=h.map (piece s)++rest s.data.toList pos st
 |0,pos,st,h,h1,h2,h3=>by
  have hp:pos=s.data.toList.length:=A';let hs:s.size=s.data.toList:=AD;cases st with
  |none=>simp only[Sj,a0i,rest];rw[hp,a2X];simp[JI]
  |some a=>
   let ha:=h3 a rfl;let hne:((s.data.toList.drop a).take (pos-a)).isEmpty=A9:=by rw[aHa,<-YW,UK,m_];omega
   simp only[Sj,a0i,Pa,Ee,Iw,rest];rw[show s.data.toList.drop pos=[]by rw[hp,a2X],JI,hne];simp only[Ev,if_false];show h.map (piece s)++[(s.data.toList.drop a).take (s.size-a)]=_;rw[hs,<-hp]
 |f+1,pos,st,h,h1,h2,h3=>by
  let hs:s.size=s.data.toList:=AD;by_cases hlt:pos<s.size
  .let c:Sj Pj s (f+1) pos st h=if Pj (Sp s pos).1 then match st with|Z a=>Sj Pj s f (pos+(Sp s pos).2) J (h++[(a,pos)])|J=>Sj Pj s f (pos+(Sp s pos).2) J h else match st with|Z a=>Sj Pj s f (pos+(Sp s pos).2) (Z a) h|J=>Sj Pj s f (pos+(Sp s pos).2) (Z pos) h:=by
    conv=>lhs;unfold Sj
    rw[if_pos hlt];cases st<;>rfl
   rw[c];clear c;have N:=A';have hb:=En N;have U:=tb N;by_cases m:s.data.toList[pos].toNat<128
   .rw[aKY hb m];simp only;rw[aJN];cases hbl:blank s.data.toList[pos];.simp;cases st with|none=>simp only;rw[Xc s f (pos+1) (Z pos) h A' A' λa e=>by injection e;omega];simp only[rest];rw[U,JI,hbl];simp|some a=>let ha:=h3 a rfl;simp only;rw[Xc s f (pos+1) (Z a) h A' A' λa' e=>by injection e;omega];simp only[rest];rw[U,JI,hbl];simp only[Ev,if_false];congr 2;rw[show pos+1-a=pos-a+1 by omega,T4 (by rw[m_];omega),aHY];congr 3;omega
    simp only[if_true];cases st with
    |none=>simp only;rw[Xc s f (pos+1) J h A' A' λa e=>by cases e];simp only[rest];rw[U,JI,hbl];simp
    |some a=>
     let ha:=h3 a rfl;let hne:((s.data.toList.drop a).take (pos-a)).isEmpty=A9:=by rw[aHa,<-YW,UK,m_];omega
     simp only;rw[Xc s f (pos+1) J (h++[(a,pos)]) A' A' λa e=>by cases e];simp only[rest,Pa,Ee,Iw];rw[U,JI,hbl,hne];simp[piece]
   obtain⟨g1,g2,g3,g4⟩:=aKX hb A';generalize Sp s pos=d at g1 g2 g3 g4⊢;obtain⟨d1,I⟩:=d;simp only at g1 g2 g3 g4⊢;rw[aOJ g1];simp only[Ev,if_false];let hsp:s.data.toList.drop pos=(s.data.toList.drop pos).take I++s.data.toList.drop (pos+I):=by rw[<-aHM,aHi]
   cases st with
   |none=>
    simp only;rw[Xc s f (pos+I) (Z pos) h A' g3 λa e=>by injection e;omega];simp only[rest];conv=>rhs;rw[hsp]
    rw[kL _ _ _ g4];simp
   |some a=>
    let ha:=h3 a rfl;simp only;rw[Xc s f (pos+I) (Z a) h A' g3 λa' e=>by injection e;omega];simp only[rest];conv=>rhs;rw[hsp]
    rw[kL _ _ _ g4];congr 2;rw[show pos+I-a=pos-a+I by omega,List.take_add,aHM,show a+(pos-a)=pos by omega]
  let c:Sj Pj s (f+1) pos st h=(h,st):=Lib.spansFromP_end _ _ _ _ _ _ hlt;rw[c];have hp:=A';let h0:=Xc s 0 pos st h A' h2 h3;simpa[Sj]using h0
theorem aLt(s):(Vu Pj s).map (·.data.toList)=words s:=by
 let hs:s.size=s.data.toList:=AD;let h:=Xc s s.size 0 J [] A' A' (λa e=>by cases e);unfold Vu Lib.spansOfP;let he:((λx:zz=>x.data.toList)∘λx:Nat×Nat=>s.extract x.1 x.2)=piece s:=by funext x;show(s.extract x.1 x.2).data.toList=_;rw[Lib.extract_data];rfl
 grind[rest,words]
end V
def V.kind(l:zx):Int:=if l==[40]then 1 else if l==[41]then 2 else if l==[61,62]then 3 else 0
def V.GW(l:zx):Int:=if l==[109,111,100,117,108,101]then 1 else if l==[114,101,113,117,105,114,101]then 2 else if l==[101,120,99,108,117,100,101]then 3 else if l==[114,101,112,108,97,99,101]then 4 else 0
def V.said(l:zx):zx:=(Gv l [47,47]).1
def V.fit(I:List zz)(h:List Int):Bool:=I.map (λs=>V.kind s.data.toList)==h
def V.Eu(kw:Int)(h:List zz):Option (Nat×List zz):=if kw==1&&V.fit h [0]then Z (123,[h.getD 0 B7])else if kw==2&&V.fit h [0,0]then Z (221,[h.getD 0 B7,h.getD 1 B7])else if kw==3&&V.fit h [0,0]then Z (222,[h.getD 0 B7,h.getD 1 B7])else if kw==4&&V.fit h [0,3,0,0]then Z (224,[h.getD 0 B7,⟨#[]⟩,h.getD 2 B7,h.getD 3 B7])else if kw==4&&V.fit h [0,0,3,0,0]then Z (224,[h.getD 0 B7,h.getD 1 B7,h.getD 3 B7,h.getD 4 B7])else J
def V.added(n:Nat)(kw:Int)(h:List zz)(l:List (Nat×Nat×List zz)):Bool×List (Nat×Nat×List zz):=match V.Eu kw h with|Z x=>(A5,l++[(n,x)])|J=>(A9,l)
def V.opens(kw:Int)(h:List zz):Bool:=(kw==2||kw==3||kw==4)&&V.fit h [1]
def V.NP(n:Nat)(I:List zz)(h:Int)(l:List (Nat×Nat×List zz)):Bool×Int×Int×List (Nat×Nat×List zz):=if V.fit I [2]then(A5,1,h,l)else((V.added n h I l).1,2,h,(V.added n h I l).2)
def V.D_(n:Nat)(I:List zz)(st h:Int)(l:List (Nat×Nat×List zz)):Bool×Int×Int×List (Nat×Nat×List zz):=match I with|[]=>(A5,st,h,l)|x::rest=>if st==2 then V.NP n (x::rest) h l else if V.GW x==1&&st !=0 then(A9,st,h,l)else if V.opens (V.GW x) rest then(A5,2,V.GW x,l)else((V.added n (V.GW x) rest l).1,1,h,(V.added n (V.GW x) rest l).2)
def V.Qi(x:Nat×Nat×List zz):Prop:=(x.2.1=123/\∃a,x.2.2=[a])∨(x.2.1=221/\∃a b,x.2.2=[a,b])∨(x.2.1=222/\∃a b,x.2.2=[a,b])∨x.2.1=224/\∃a b c d,x.2.2=[a,b,c,d]
def V.gV(st h:Int):Prop:=(st=0∨st=1∨st=2)/\(h=0∨h=1∨h=2∨h=3∨h=4)
def V.may(st:Int)(l:List (Nat×Nat×List zz)):Bool:=match l with|[]=>A9|x::_=>!st==2&&x.2.1==123
def V.texts(ls:List (zx)):List zz:=ls.map λl=>⟨l.toArray⟩
def V.lines(s:zz):List zz:=V.texts (V.pieces 10 s)
def V.Jf(s:zz):List zz:=V.texts (V.words (V.said s))
def V.Hq:Nat->List zz->Int->Int->List (Nat×Nat×List zz)->List (Nat×Nat×List zz)×Nat|n,[],st,_,l=>(l,if V.may st l then 0 else n)|n,x::xs,st,blk,l=>if(V.D_ (n+1) (V.Jf x) st blk l).1 then V.Hq (n+1) xs (V.D_ (n+1) (V.Jf x) st blk l).2.1 (V.D_ (n+1) (V.Jf x) st blk l).2.2.1 (V.D_ (n+1) (V.Jf x) st blk l).2.2.2 else((V.D_ (n+1) (V.Jf x) st blk l).2.2.2,n+1)
def V.parse(s:zz):List (Nat×Nat×List zz)×Nat:=V.Hq 0 (V.lines s) 0 0 []
def V.O9(b:UInt8):Bool:=b.toNat==46||b.toNat==45||b.toNat==95||BK (97<=b.toNat)&&BK (b.toNat<=122)||BK (48<=b.toNat)&&BK (b.toNat<=57)
def V.RH(l:zx):Bool:=l.all V.O9&&(l !=[]&&(l !=[46]&&l !=[46,46]))
def V.path(l:zx):Bool:=BK (l.length<=60)&&(V.pieces 47 l).all V.RH
def V.MP(p:zz):Option (Int×Int×zz×zz):=if V.path p then J else Z (3,0,p,⟨#[]⟩)
def V.TM(v:zz):Option (Int×Int×zz×zz):=if V.AI v then J else Z (2,0,⟨#[]⟩,v)
def V.IF(p v:zz):Option (Int×Int×zz×zz):=match V.MP p with|Z f=>Z f|J=>V.TM v
def V.TL(p v:zz):Option (Int×Int×zz×zz):=if v.toList==[]then V.MP p else V.IF p v
def V.Wd(a b c d:zz):Option (Int×Int×zz×zz):=match V.TL a b with|Z f=>Z f|J=>V.IF c d
def V.cF(t:Nat)(fs:List zz):Option (Int×Int×zz×zz):=if t==123 then V.MP (fs.getD 0 B7)else if t==224 then V.Wd (fs.getD 0 B7) (fs.getD 1 B7) (fs.getD 2 B7) (fs.getD 3 B7)else V.IF (fs.getD 0 B7) (fs.getD 1 B7)
def V.place(t:Nat)(fs:List zz):Int×zz×zz:=if t==123 then(0,fs.getD 0 B7,⟨#[]⟩)else if t==221 then(1,fs.getD 0 B7,⟨#[]⟩)else if t==222 then(2,fs.getD 0 B7,fs.getD 1 B7)else(3,fs.getD 0 B7,fs.getD 1 B7)
def V.Jx:List (Nat×Nat×List zz)->List ((Int×zz×zz)×Nat)->Option (Int×Int×zz×zz)|[],_=>J|x::xs,seen=>match V.cF x.2.1 x.2.2 with|Z f=>Z (f.1,(x.1:Int),f.2.2.1,f.2.2.2)|J=>if seen.any λy=>BK (y.1=V.place x.2.1 x.2.2)then Z (4,(x.1:Int),⟨#[]⟩,⟨#[]⟩)else V.Jx xs (seen++[(V.place x.2.1 x.2.2,x.1)])
def V.M1(l:List (Nat×Nat×List zz))(n:Nat):List (Nat×Nat×List zz):=match l.getLast? with|Z x=>if x.1=n then l.dropLast else l|J=>l
namespace V
theorem aXR(b)(l):said (b::l)=if[47,47].isPrefixOf (b::l)then[]else b::said l:=by
 unfold said Gv;by_cases hp:[47,47].isPrefixOf (b::l)=A5
 .rw[if_pos hp];have:Si (b::l) [47,47]=0:=by rw[Si,if_pos hp]
  simp_all
 rw[if_neg hp];let hi:Si (b::l) [47,47]=if Si l [47,47]==-1 then-1 else Si l [47,47]+1:=by rw[Si,if_neg hp]
 let hg:=Lib.index_ge l [47,47];by_cases h:Si l [47,47]=-1;.rw[hi,h];rfl
 rw[if_neg (Ai h)]at hi;rw[hi,if_pos A',if_pos A'];rw[show(Si l [47,47]+1).toNat=(Si l [47,47]).toNat+1 by omega,List.take_succ_cons]
def clean:zx->Bool|[]=>A5|b::l=>![47,47].isPrefixOf (b::l)&&clean l
def aBx:∀(l),clean l=A5->said l=l|[],_=>rfl|b::l,h=>by unfold clean at h;rw[aY,kk]at h;rw[aXR,h.1,aBx l h.2];rfl
theorem gm:∀(a r)(c),c≠47->clean a=A5->clean r=A5->clean (a++c::r)=A5|[],r,c,hc,_,hr=>by unfold clean;grind|[b],r,c,hc,_,hr=>by have h0:=gm [] r c hc rfl hr;unfold clean;grind|b::d::a,r,c,hc,ha,hr=>by unfold clean at ha;rw[aY]at ha;let h0:=gm (d::a) r c hc ha.2 hr;unfold clean;grind
theorem a43:∀(l),(∀b∈l,b≠47)->clean l=A5|[],_=>rfl|b::l,h=>by have:=gm [] l b (h b (Le ..)) rfl (a43 l λx hx=>h x (G1 _ hx));grind
theorem a_b{x}(hn:x≠[])(h:∀b∈x,blank b=A9):words x=[x]:=by have:=kL x [] [] h;simp_all[List.append_nil,gB,words,this,JI]
theorem a_a{x}(r){c}(hn:x≠[])(h:∀b∈x,blank b=A9)(hc:blank c=A5):words (x++c::r)=x::words r:=by have:=kL x (c::r) [] h;simp_all[gB,words,this,JI]
def gX(x:zx):Prop:=x≠[]/\(∀b∈x,blank b=A9/\b≠10)/\clean x=A5
def aDC:∀(I),(∀x∈I,gX x)->words (join 32 I)=I|[],_=>rfl|[a],h=>by have:=h a AD;exact a_b this.1 λb hb=>(this.2.1 b hb).1|a::b::r,h=>by let ha:=h a AD;rw[join,a_a _ ha.1 (λc hc=>(ha.2.1 c hc).1) Ac,aDC (b::r) λx hx=>h x (G1 _ hx)]
def a42:∀(I),(∀x∈I,gX x)->clean (join 32 I)=A5|[],_=>rfl|[a],h=>(h a AD).2.2|a::b::r,h=>by exact gm a _ 32 Ac (h a AD).2.2 (a42 (b::r) λx hx=>h x (G1 _ hx))
theorem jE(c):∀(I)(b),b∈join c I->b=c∨∃x∈I,b∈x
 |[],b,h=>by trivial
 |[a],b,h=>AF ⟨a,AD,h⟩
 |a::d::r,b,h=>by
  rcases E8.1 h with h|h;.grind
  rcases DO.1 h with h|h;.grind
  rcases jE c (d::r) b h with h|⟨x,hx,hb⟩;.exact AA h
  grind
theorem yl:∀(l),(pieces 47 l).tail.all (·!=[])=A5->clean l=A5/\l.getLast?≠Z 47
 |[],_=>⟨rfl,AD⟩
 |b::r,h=>by
  have hne:=pZ 47 r;rw[pieces]at h;cases hp:pieces 47 r with
  |nil=>grind
  |cons q N=>
   rw[hp]at h;by_cases hb:b=47
   .subst hb;rw[if_pos Ac]at h;simp only[List.tail_cons,List.all_cons,aY]at h;have I:=yl r (As hp h.2);cases r with
    |nil=>cases hp;simp at h
    |cons d s=>
     let hd:d≠47:=by intro e;subst e;cases hp;simp at h
     refine⟨?_,Ai I.2⟩;unfold clean;rw[I.1,Bool.and_true,kk];simp[List.isPrefixOf];intro e;exact absurd e.symm hd
   rw[if_neg (Ai hb)]at h;have I:=yl r (Ar hp);refine⟨?_,?_⟩;.have:=gm [] r b hb rfl I.1;simpa using this
   cases r with|nil=>simpa using hb|cons d s=>simpa using I.2
theorem aUA(c):∀(l)(b),b∈l->b=c∨∃q∈pieces c l,b∈q:=by intro l b hb;have:=jE c (pieces c l) b;grind[ov]
theorem aU'(b)(h:O9 b=A5):blank b=A9/\b≠10/\b≠40/\b≠41/\b≠61/\b≠47:=by have:=a3p (p:=λb=>!O9 b||!blank b&&b !=10&&b !=40&&b !=41&&b !=61&&b !=47) (q:=λ_=>A5) Rw b;grind
def aS3(b)(h:Mf b=A5):blank b=A9/\b≠10/\b≠40/\b≠41/\b≠61/\b≠47:=by have:=a3p (p:=λb=>!Mf b||!blank b&&b !=10&&b !=40&&b !=41&&b !=61&&b !=47) (q:=λ_=>A5) Rw b;simp only[h,Bool.not_true,Bool.false_or,aY,kk,bne_iff_ne]at this;let⟨⟨⟨⟨⟨h1,h2⟩,h3⟩,h4⟩,h5⟩,h6⟩:=this;exact⟨h1,h2,h3,h4,h5,h6⟩
structure a2f(x:zx):Prop where
 VZ:gX x
 kind:kind x=0
 last:x.getLast?≠Z 47
 short:x.length<=60
theorem oz{x}(hn:x≠[])(h:∀b∈x,b≠40/\b≠41/\b≠61):kind x=0:=by unfold kind;grind
theorem NI(h:path p=A5):a2f p:=by
 unfold path at h;rw[aY,decide_eq_true_eq,Ha]at h;let U:∀q∈pieces 47 p,q≠[]/\∀b∈q,O9 b=A5:=by intro q hq;have:=h.2 q hq;unfold RH at this;simp at this;exact⟨this.2.1,this.1⟩
 let hne:p≠[]:=by intro e;subst e;exact(U [] (by trivial)).1 rfl
 let hb:∀b∈p,blank b=A9/\b≠10/\b≠40/\b≠41/\b≠61:=by
  intro b hb;rcases aUA 47 p b hb with rfl|⟨q,hq,N⟩;.decide
  have:=aU' b ((U q hq).2 b N);grind
 let ht:=yl p (by rw[Ha];intro q hq;have:=(U q (aHg hq)).1;grind);exact⟨⟨hne,λb I=>⟨(hb b I).1,(hb b I).2.1⟩,ht.1⟩,oz hne λb I=>(hb b I).2.2,ht.2,h.1⟩
theorem aS4{l}(h:mark l=A5):∀b∈l,Mf b=A5:=by
 unfold mark at h;split at h;.rename_i hd;unfold digits at hd;simp at hd;intro b hb;unfold Mf;rw[hd.1 b hb];rfl
 grind
def aTS{l}(h:number l=A5):∀b∈l,Mf b=A5:=by unfold number digits at h;simp at h;intro b hb;unfold Mf;rw[h.1.1 b hb];rfl
def aZv{l}(h:AI l=A5):∀b∈l,b=118∨b=45∨b=46∨Mf b=A5:=by
 intro b hb;rw[aCu h]at hb;let hv:=h;unfold AI at hv;simp at hv;rcases DO.1 hb with hb|hb;.exact AA hb
 rcases E8.1 hb with hb|hb
 .rcases jE 46 _ b hb with hb|⟨q,hq,hb⟩;.exact AF (AF (AA hb))
  exact AF (AF (AF (aTS (hv.2.2.1.2 q hq) b hb)))
 split at hb;.simp at hb
 rcases DO.1 hb with hb|hb;.exact AF (AA hb)
 rcases jE 46 _ b hb with hb|⟨q,hq,hb⟩;.exact AF (AF (AA hb))
 exact AF (AF (AF (aS4 (hv.2.2.2 q hq) b hb)))
def QJ{v}(h:AI v=A5):a2f v:=by
 let hb:∀b∈v,blank b=A9/\b≠10/\b≠40/\b≠41/\b≠61/\b≠47:=by
  intro b hb;rcases aZv h b hb with rfl|rfl|rfl|hb;.decide
  .decide
  .decide
  exact aS3 b hb
 let hne:v≠[]:=by intro e;subst e;exact absurd (aCw h) AD
 have hl:=by unfold AI at h;simp at h;exact h.1
 exact⟨⟨hne,λb I=>⟨(hb b I).1,(hb b I).2.1⟩,a43 v λb I=>(hb b I).2.2.2.2.2⟩,oz hne λb I=>⟨(hb b I).2.2.1,(hb b I).2.2.2.1,(hb b I).2.2.2.2.1⟩,λe=>(hb 47 (List.mem_of_getLast? e)).2.2.2.2.2 rfl,A'⟩
def wd(fs:List zz)(i:Nat):zx:=fs.getD i B7
def HI(t:Nat)(fs:List zz):List (zx):=if t==123 then[[109,111,100,117,108,101],wd fs 0]else if t==221 then[[114,101,113,117,105,114,101],wd fs 0,wd fs 1]else if t==222 then[[101,120,99,108,117,100,101],wd fs 0,wd fs 1]else if wd fs 1==[]then[[114,101,112,108,97,99,101],wd fs 0,[61,62],wd fs 2,wd fs 3]else[[114,101,112,108,97,99,101],wd fs 0,wd fs 1,[61,62],wd fs 2,wd fs 3]
def IJ(t:Nat)(fs:List zz):zx:=join 32 (HI t fs)
def G6(l:List (Nat×List zz)):zx:=l.flatMap λx=>IJ x.1 x.2++[10]
def Valid(t:Nat)(fs:List zz):Prop:=Qi (0,t,fs)/\cF t fs=J
theorem vV{p:zz}(h:MP p=J):path p=A5:=by grind[MP]
theorem aLe{p:zz}(h:TM p=J):AI p=A5:=by grind[TM]
theorem gz{p:zz}(h:IF p v=J):path p=A5/\AI v=A5:=by unfold IF at h;cases hp:MP p with|some f=>grind|none=>rw[hp]at h;exact⟨vV hp,aLe h⟩
theorem toList_nil(h:v.toList=[]):v.data.toList=[]:=by grind[QS]
def aLd{p:zz}(h:TL p v=J):path p=A5/\(v.data.toList=[]∨AI v=A5):=by
 unfold TL at h;split at h;.rename_i hv;exact⟨vV h,AA (toList_nil (tZ hv))⟩
 exact⟨(gz h).1,AF (gz h).2⟩
def Xf(h:Valid t fs):(t=123/\∃a,fs=[a]/\path a=A5)∨(t=221/\∃a b,fs=[a,b]/\path a=A5/\AI b=A5)∨(t=222/\∃a b,fs=[a,b]/\path a=A5/\AI b=A5)∨t=224/\∃a b c d,fs=[a,b,c,d]/\path a=A5/\(b.data.toList=[]∨AI b=A5)/\path c=A5/\AI d=A5:=by
 let⟨hs,hw⟩:=h;rcases hs with⟨I,a,h2⟩|⟨I,a,b,h2⟩|⟨I,a,b,h2⟩|⟨I,a,b,c,d,h2⟩;all_goals subst I h2
 .exact AA ⟨rfl,a,rfl,vV hw⟩
 .exact AF (AA ⟨rfl,a,b,rfl,gz hw⟩)
 .exact AF (AF (AA ⟨rfl,a,b,rfl,gz hw⟩))
 let hw':Wd a b c d=J:=hw;unfold Wd at hw';cases hr:TL a b with|some f=>rw[hr]at hw';cases hw'|none=>rw[hr]at hw';let I:=aLd hr;let h2:=gz hw';exact AF (AF (AF ⟨rfl,a,b,c,d,rfl,I.1,I.2,h2.1,h2.2⟩))
def aDE{x}(h:(x !=[]&&x.all (λb=>!blank b&&b !=10)&&clean x)=A5):gX x:=by simp at h;exact⟨h.1.1,h.1.2,h.2⟩
theorem aCs(h:Valid t fs):∀x∈HI t fs,gX x:=by
 rcases Xf h with⟨rfl,a,rfl,I⟩|⟨rfl,a,b,rfl,I,h2⟩|⟨rfl,a,b,rfl,I,h2⟩|⟨rfl,a,b,c,d,rfl,I,h2,h3,h4⟩
 .intro x hx;rcases by simpa[HI,wd]using hx with rfl|rfl;.trivial
  exact(NI I).VZ
 .intro x hx;rcases by simpa[HI,wd]using hx with rfl|rfl|rfl;.trivial
  .exact(NI I).VZ
  exact(QJ h2).VZ
 .intro x hx;rcases by simpa[HI,wd]using hx with rfl|rfl|rfl;.trivial
  .exact(NI I).VZ
  exact(QJ h2).VZ
 intro x hx;let N:x=[114,101,112,108,97,99,101]∨x=a∨x=b/\b.data.toList≠[]∨x=[61,62]∨x=c∨x=d:=by
  unfold HI at hx;simp only[show(224==123)=A9 from rfl,show(224==221)=A9 from rfl,show(224==222)=A9 from rfl,Ev,if_false]at hx;split at hx
  .simp at hx;rcases hx with h|h|h|h|h;.grind
   .exact AF (AA h)
   .grind
   .exact AF (AF (AF (AF (AA h))))
   exact AF (AF (AF (AF (AF h))))
  rename_i hb;simp at hx;rcases hx with h|h|h|h|h|h;.exact AA h
  .exact AF (AA h)
  .exact AF (AF (AA ⟨h,λe=>hb (Ar beq_iff_eq)⟩))
  .exact AF (AF (AF (AA h)))
  .exact AF (AF (AF (AF (AA h))))
  exact AF (AF (AF (AF (AF h))))
 rcases N with rfl|rfl|⟨rfl,hb⟩|rfl|rfl|rfl;.exact aDE Ac
 .exact(NI I).VZ
 .rcases h2 with h2|h2;.exact absurd h2 hb
  exact(QJ h2).VZ
 .exact aDE Ac
 .exact(NI h3).VZ
 exact(QJ h4).VZ
def back(a):(⟨a.data.toList.toArray⟩:zz)=a:=BA
def aKz{b:zz}(h:b.data.toList=[]):b=⟨#[]⟩:=by rw[<-back b,h]
def eB(n)(x)(rest)(st h)(l):D_ n (x::rest) st h l=if st==2 then NP n (x::rest) h l else if GW x==1&&st !=0 then(A9,st,h,l)else if opens (GW x) rest then(A5,2,GW x,l)else((added n (GW x) rest l).1,1,h,(added n (GW x) rest l).2):=rfl
def aCh(n t fs st U l)(h:Valid t fs)(hst:st=0∨st=1)(hm:t=123->st=0):D_ n (texts (HI t fs)) st U l=(A5,1,U,l++[(n,t,fs)]):=by
 let r:(st==2)=A9:=by rcases hst with rfl|rfl<;>rfl
 rcases Xf h with⟨rfl,a,rfl,N⟩|⟨rfl,a,b,rfl,N,h2⟩|⟨rfl,a,b,rfl,N,h2⟩|⟨rfl,a,b,c,d,rfl,N,h2,h3,h4⟩
 .let I:=(NI N).kind;have:=hm rfl;subst this;let e:texts (HI 123 [a])=[⟨#[109,111,100,117,108,101]⟩,a]:=by show[_,(⟨a.data.toList.toArray⟩:zz)]=_;rw[back]
  rw[e,eB,show GW (⟨#[109,111,100,117,108,101]⟩:zz)=1 from by decide];let f:fit [a] [0]=A5:=by unfold fit;simp[I]
  let m:Eu 1 [a]=Z (123,[a]):=by unfold Eu;rw[f];rfl
  simp[added,m,opens]
 .let I:=(NI N).kind;let k2:=(QJ h2).kind;let e:texts (HI 221 [a,b])=[⟨#[114,101,113,117,105,114,101]⟩,a,b]:=by show[_,⟨a.data.toList.toArray⟩,(⟨b.data.toList.toArray⟩:zz)]=_;rw[back,back]
  rw[e,eB,show GW (⟨#[114,101,113,117,105,114,101]⟩:zz)=2 from by decide];let f:fit [a,b] [0,0]=A5:=by unfold fit;simp[I,k2]
  let g:fit [a,b] [1]=A9:=by unfold fit;simp
  let m:Eu 2 [a,b]=Z (221,[a,b]):=by unfold Eu;rw[f];rfl
  simp[added,m,opens,g,r]
 .let I:=(NI N).kind;let k2:=(QJ h2).kind;let e:texts (HI 222 [a,b])=[⟨#[101,120,99,108,117,100,101]⟩,a,b]:=by show[_,⟨a.data.toList.toArray⟩,(⟨b.data.toList.toArray⟩:zz)]=_;rw[back,back]
  rw[e,eB,show GW (⟨#[101,120,99,108,117,100,101]⟩:zz)=3 from by decide];let f:fit [a,b] [0,0]=A5:=by unfold fit;simp[I,k2]
  let g:fit [a,b] [1]=A9:=by unfold fit;simp
  let m:Eu 3 [a,b]=Z (222,[a,b]):=by unfold Eu;rw[f];rfl
  simp[added,m,opens,g,r]
 let I:=(NI N).kind;let F5:=(NI h3).kind;let k4:=(QJ h4).kind;let ke:kind [61,62]=3:=Ac;by_cases hb:b.data.toList=[]
 .have u:=aKz hb;subst u;let e:texts (HI 224 [a,⟨#[]⟩,c,d])=[⟨#[114,101,112,108,97,99,101]⟩,a,⟨#[61,62]⟩,c,d]:=by show[_,⟨a.data.toList.toArray⟩,_,⟨c.data.toList.toArray⟩,(⟨d.data.toList.toArray⟩:zz)]=_;rw[back,back,back]
  rw[e,eB,show GW (⟨#[114,101,112,108,97,99,101]⟩:zz)=4 from by decide];let f:fit [a,⟨#[61,62]⟩,c,d] [0,3,0,0]=A5:=by unfold fit;simp[I,F5,k4,ke]
  let g:fit [a,⟨#[61,62]⟩,c,d] [1]=A9:=by unfold fit;simp
  let m:Eu 4 [a,⟨#[61,62]⟩,c,d]=Z (224,[a,⟨#[]⟩,c,d]):=by unfold Eu;rw[f];rfl
  simp[added,m,opens,g,r]
 let k2:kind b=0:=by
  rcases h2 with h2|h2;.exact absurd h2 hb
  exact(QJ h2).kind
 let e:texts (HI 224 [a,b,c,d])=[⟨#[114,101,112,108,97,99,101]⟩,a,b,⟨#[61,62]⟩,c,d]:=by
  have:HI 224 [a,b,c,d]=[[114,101,112,108,97,99,101],a,b,[61,62],c,d.data.toList]:=by unfold HI;have:(wd [a,b,c,d] 1==[])=A9:=Ar beq_eq_false_iff_ne;rw[this];rfl
  rw[this];show[_,⟨a.data.toList.toArray⟩,⟨b.data.toList.toArray⟩,_,⟨c.data.toList.toArray⟩,(⟨d.data.toList.toArray⟩:zz)]=_;rw[back,back,back,back]
 rw[e,eB,show GW (⟨#[114,101,112,108,97,99,101]⟩:zz)=4 from by decide];let f:fit [a,b,⟨#[61,62]⟩,c,d] [0,0,3,0,0]=A5:=by unfold fit;simp[I,k2,F5,k4,ke]
 let f':fit [a,b,⟨#[61,62]⟩,c,d] [0,3,0,0]=A9:=by unfold fit;simp
 let g:fit [a,b,⟨#[61,62]⟩,c,d] [1]=A9:=by unfold fit;simp
 let m:Eu 4 [a,b,⟨#[61,62]⟩,c,d]=Z (224,[a,b,c,d]):=by unfold Eu;rw[f,f'];rfl
 simp[added,m,opens,g,r]
def aCg(h:Valid t fs):Jf ⟨(IJ t fs).toArray⟩=texts (HI t fs):=by let hw:=aCs h;unfold Jf;rw[tn,IJ,aBx _ (a42 _ hw),aDC _ hw]
theorem aR'(h:Valid t fs)(k:Nat):(IJ t fs)[k]?≠Z 10:=by
 intro e;rcases jE 32 _ _ (Jq e)with I|⟨x,hx,hb⟩;.grind
 exact((aCs h x hx).2.1 10 hb).2 rfl
def aCd:∀(l),(∀x∈l,Valid x.1 x.2)->pieces 10 (G6 l)=l.map (λx=>IJ x.1 x.2)++[[]]
 |[],_=>rfl
 |x::xs,h=>by
  have e:G6 (x::xs)=IJ x.1 x.2++10::G6 xs:=by unfold G6;rw[a2_,T1];rfl
  rw[e,aU9 10 _ _ (aR' (h x (Le ..))),aCd xs λy hy=>h y (G1 _ hy)];rfl
def num:Nat->List (Nat×List zz)->List (Nat×Nat×List zz)|_,[]=>[]|n,x::xs=>(n,x)::num (n+1) xs
def aAG:∀(n)(l),(num n l).map (·.2)=l|_,[]=>rfl|n,x::xs=>by rw[num,Ee,aAG]
theorem aAd:∀(l)(n)(I)(N),(∀x∈l,Valid x.1 x.2/\x.1≠123)->may 1 N=A5->Hq n (texts (l.map (λx=>IJ x.1 x.2)++[[]])) 1 I N=(N++num (n+1) l,0)
 |[],n,I,N,_,hm=>by
  show Hq n [⟨#[]⟩] 1 I N=(N++[],0);rw[Hq,Hq];have e:Jf ⟨#[]⟩=[]:=by rfl
  simp_all[e,D_]
 |x::xs,n,I,N,h,hm=>by
  let hx:=h x (Le ..);show Hq n (⟨(IJ x.1 x.2).toArray⟩::texts (xs.map (λx=>IJ x.1 x.2)++[[]])) 1 I N=_;rw[Hq,aCg hx.1,aCh (n+1) x.1 x.2 1 I N hx.1 (AF rfl) λe=>absurd e hx.2];rw[aAd xs (n+1) I (N++[(n+1,x.1,x.2)]) λy hy=>h y (G1 _ hy)];.rw[T1];rfl
  cases N with|nil=>cases hm|cons y ys=>exact hm
def aTx(p l)(hp:Valid 123 [p])(h:∀x∈l,Valid x.1 x.2/\x.1≠123):parse ⟨(G6 ((123,[p])::l)).toArray⟩=(num 1 ((123,[p])::l),0):=by
 unfold parse lines;rw[tn,aCd _ (by
  intro x hx;rcases DO.1 hx with rfl|hx;.exact hp
  exact(h x hx).1)];show Hq 0 (⟨(IJ 123 [p]).toArray⟩::texts (l.map (λx=>IJ x.1 x.2)++[[]])) 0 0 []=_;rw[Hq,aCg hp,aCh 1 123 [p] 0 0 [] hp (AA rfl) λ_=>rfl];rw[aAd l 1 0 _ h rfl];rfl
theorem a4D:IZ KI:=by
 refine⟨λx y=>?_,λx y=>?_,λx y z=>?_⟩
 .unfold KI;split;.exact AA rfl
  split;.exact AF (AF rfl)
  exact AF (AA rfl)
 .unfold KI;all_goals omega
 grind[KI]
theorem aKE:Good KI:=⟨a4D,λx y h=>by grind[KI]⟩
def QL(a b:zx):Int:=if a==[]||b==[]then Gl a b else order a b
theorem a_4(a b):QL a b=JF (λx y=>Gl (if x==[]then 0 else 1) (if y==[]then 0 else 1)) order a b:=by
 unfold QL JF;cases a with
 |nil=>
  cases b with
  |nil=>rfl
  |cons c cs=>rfl
 |cons d h=>grind[Gl]
def aTj:IZ order:=⟨aAT,aAU,aAS⟩
def a_6:IZ QL:=As (funext λa=>funext λb=>a_4 a b) (IZ.then (Yn.back λx:zx=>if x==[]then 0 else 1) aTj)
theorem a_7{a b}(ha:a=[]∨AI a=A5)(hb:b=[]∨AI b=A5)(h:QL a b=0):a=b:=by
 let I:AI []=A9:=Ac;unfold QL at h;rcases ha with rfl|ha;.have:=uv.2 _ _ h;grind
 rcases hb with rfl|hb;.rw[if_pos AD]at h;have:=uv.2 _ _ h;grind
 rw[if_neg]at h;.exact(aTl ha hb).1 h
 grind
def ord(p q:Int×zz×zz):Int:=JF (λx y=>KI x.1 y.1) (JF (λx y=>Fx x.2.1 y.2.1) λx y=>QL x.2.2 y.2.2) p q
def P3:IZ ord:=IZ.then (a4D.back λx:Int×zz×zz=>x.1) (IZ.then (c7.1.back λx:Int×zz×zz=>x.2.1) (a_6.back λx:Int×zz×zz=>x.2.2))
def bytes_inj{a b:zz}(h:a.data.toList=b):a=b:=by rw[<-back a,<-back b,h]
def u0(p:Int×zz×zz):Prop:=p.2.2.data.toList=[]∨AI p.2.2=A5
theorem aTg{p q}(hp:u0 p)(hq:u0 q)(h:ord p q=0):p=q:=by
 unfold ord at h;rcases QH (λx y:Int×zz×zz=>KI x.1 y.1) (JF (λx y=>Fx x.2.1 y.2.1) λx y=>QL x.2.2 y.2.2) p q with⟨N,e⟩|⟨N,e⟩;.grind
 rw[e]at h;rcases QH (λx y:Int×zz×zz=>Fx x.2.1 y.2.1) (λx y=>QL x.2.2 y.2.2) p q with⟨h2,I⟩|⟨h2,I⟩;.grind
 rw[I]at h;exact Ro (aKE.2 _ _ N) (Ro (bytes_inj (c7.2 _ _ h2)) (bytes_inj (a_7 hp hq h)))
def a'2(h:Valid t fs):u0 (place t fs):=by
 rcases Xf h with⟨rfl,a,rfl,I⟩|⟨rfl,a,b,rfl,I,h2⟩|⟨rfl,a,b,rfl,I,h2⟩|⟨rfl,a,b,c,d,rfl,I,h2,h3,h4⟩;.exact AA rfl
 .exact AA rfl
 .exact AF h2
 trivial
theorem uk:∀(l)(seen),Jx l seen=J↔(∀x∈l,cF x.2.1 x.2.2=J)/\(l.map λx=>place x.2.1 x.2.2).Nodup/\∀x∈l,∀y∈seen,y.1≠place x.2.1 x.2.2
 |[],seen=>by simp[Jx]
 |x::xs,seen=>by
  rw[Jx];cases hf:cF x.2.1 x.2.2 with
  |some f=>grind
  |none=>
   by_cases ha:seen.any (λy=>BK (y.1=place x.2.1 x.2.2))=A5
   .simp only[ha,if_true];constructor;.intro h;cases h
    intro h;let⟨y,hy,he⟩:=a2W.1 ha;exact absurd (of_decide_eq_true he) (h.2.2 x (Le ..) y hy)
   simp only[ha,Ev,if_false];rw[uk xs];have N:=by exact λy hy e=>ha (a2W.2 ⟨y,hy,decide_eq_true e⟩)
   constructor
   .rintro⟨I,h2,h3⟩;refine⟨?_,?_,?_⟩
    .intro z hz;rcases DO.1 hz with rfl|hz;.exact hf
     exact I z hz
    .rw[Ee,gD];refine⟨?_,h2⟩;intro hm;let⟨z,hz,he⟩:=Bt.1 hm;exact h3 z hz (place x.2.1 x.2.2,x.1) AD he.symm
    intro z hz y hy;rcases DO.1 hz with rfl|hz;.exact N y hy
    exact h3 z hz y (ti _ hy)
   rintro⟨I,h2,h3⟩;rw[Ee,gD]at h2;refine⟨λz hz=>I z (G1 _ hz),h2.2,?_⟩;intro z hz y hy;rcases E8.1 hy with hy|hy;.exact h3 z (G1 _ hz) y hy
   rw[ES.1 hy];exact λe=>h2.1 (Bt.2 ⟨z,hz,e.symm⟩)
def PY(l:List (Nat×List zz)):Prop:=l.Pairwise λx y=>¬ord (place y.1 y.2) (place x.1 x.2)<0
theorem aPw{l r}(hp:l.Perm r)(hv:∀x∈l,Valid x.1 x.2)(hn:(l.map λx=>place x.1 x.2).Nodup)(hl:PY l)(hr:PY r):l=r:=by refine aHG ?_ hl hr hp;intro a b ha hb N h2;have h:=hp.mem_iff.2 hb;let e1:=P3.2.1 (place a.1 a.2) (place b.1 b.2);let I:=aTg (a'2 (hv a ha)) (a'2 (hv b h)) A';let⟨i,hi,ei⟩:=Rk ha;let⟨j,hj,ej⟩:=Rk h;let hw:=List.pairwise_iff_getElem.1 hn;grind
structure Whole(l:List (Nat×List zz)):Prop where
 valid:∀x∈l,Valid x.1 x.2
 nodup:(l.map λx=>place x.1 x.2).Nodup
 first:∃p r,l=(123,[p])::r/\∀x∈r,x.1≠123
def aTd{p q}(h:p.1<q.1):ord p q<0:=by
 unfold ord JF;have:KI p.1 q.1=-1:=by unfold KI;rw[if_pos h]
 simp[this]
def a_P{l}(h:Whole l):(parse ⟨(G6 l).toArray⟩).2=0/\Jx (parse ⟨(G6 l).toArray⟩).1 []=J/\(parse ⟨(G6 l).toArray⟩).1.map (·.2)=l:=by
 obtain⟨p,s,rfl,hs⟩:=h.first;let I:=aAG 1 ((123,[p])::s);rw[aTx p s (h.valid _ (Le ..)) λx hx=>⟨h.valid x (G1 _ hx),hs x hx⟩];refine⟨rfl,?_,I⟩;rw[uk];refine⟨?_,?_,λ_ _ _ hy=>absurd hy (IX)⟩;.intro x hx;have:x.2∈(123,[p])::s:=As I.symm (Bt.2 ⟨x,hx,rfl⟩);exact(h.valid _ this).2
 have:((num 1 ((123,[p])::s)).map λx=>place x.2.1 x.2.2)=((123,[p])::s).map λx=>place x.1 x.2:=by
  conv=>rhs;rw[<-I]
  rw[Ld];rfl
 rw[this];exact h.nodup
theorem qg(M):∀(l cur),cur.length+l.length<=M->∀w∈JI cur l,w.length<=M
 |[],cur,h,w,hw=>by grind[JI,ES]
 |b::r,cur,h,w,hw=>by
  rw[JI]at hw;split at hw
  .split at hw;.exact qg M r [] BA w hw
   rcases DO.1 hw with rfl|hw;.omega
   exact qg M r [] BA w hw
  exact qg M r (cur++[b]) BA w hw
theorem aXT(l):(said l).length<=l:=by grind[said,Gv]
def aZV(h:s<=M):∀w∈Jf s,w<=M:=by intro w hw;obtain⟨x,hx,rfl⟩:=Bt.1 hw;let e:s.data.toList=s.size:=AD;let I:=aXT s;have:=qg M (said s) [] Av x hx;assumption
theorem aMI(h:∀w∈em,w<=M)(i):em.getD i B7<=M:=by
 by_cases hi:i<em;.rw[getD_at _ _ hi];exact h _ (Ci hi)
 simp_all
def YR(M:Nat)(x:Nat×Nat×List zz):Prop:=Qi x/\x.1≠0/\∀a∈x.2.2,a<=M
theorem aSJ(hn:n≠0)(hw:∀w∈em,w<=M)(h:Eu kw em=Z (t,fs)):YR M (n,t,fs)/\(kw≠1->t≠123):=by
 let g:=aMI hw;unfold Eu at h;split at h
 .rename_i hk;cases h;refine⟨⟨AA ⟨rfl,_,rfl⟩,hn,?_⟩,?_⟩;.intro a ha;rw[ES.1 ha];exact g 0
  intro e;exfalso;apply e;simp at hk;exact hk.1
 split at h
 .cases h;refine⟨⟨AF (AA ⟨rfl,_,_,rfl⟩),hn,?_⟩,λ_=>Ac⟩;intro a ha;simp at ha;rcases ha with rfl|rfl;.exact g 0
  exact g 1
 split at h
 .cases h;refine⟨⟨AF (AF (AA ⟨rfl,_,_,rfl⟩)),hn,?_⟩,λ_=>Ac⟩;intro a ha;simp at ha;rcases ha with rfl|rfl;.exact g 0
  exact g 1
 split at h
 .cases h;refine⟨⟨AF (AF (AF ⟨rfl,_,_,_,_,rfl⟩)),hn,?_⟩,λ_=>Ac⟩;intro a ha;simp at ha;rcases ha with rfl|rfl|rfl|rfl;.exact g 0
  .exact JS _
  .exact g 2
  exact g 3
 split at h
 .cases h;refine⟨⟨AF (AF (AF ⟨rfl,_,_,_,_,rfl⟩)),hn,?_⟩,λ_=>Ac⟩;intro a ha;simp at ha;rcases ha with rfl|rfl|rfl|rfl;.exact g 0
  .exact g 1
  .exact g 3
  exact g 4
 grind
def pN:¬(1:Int)=0:=Ac
def aAA:¬(1:Int)=2:=Ac
def aAB:¬(2:Int)=0:=Ac
def Stood(M:Nat)(st h:Int)(l:List (Nat×Nat×List zz)):Prop:=(st=0->l=[])/\(st=2->h≠1)/\(∀x∈l.tail,x.2.1≠123)/\∀x∈l,YR M x
theorem aYu{l}{x y:α}(h:y∈(l++[x]).tail):y∈l.tail∨y=x/\l≠[]:=by grind
theorem a3M(hn:n≠0)(hw:∀w∈em,w<=M)(hk:kw=1->l=[])(h:∀x∈l.tail,x.2.1≠123)(h2:∀x∈l,YR M x):(∀x∈(added n kw em l).2.tail,x.2.1≠123)/\∀x∈(added n kw em l).2,YR M x:=by
 unfold added;split
 .rename_i y hy;let hm:=aSJ hn hw hy;refine⟨λx hx=>?_,λx hx=>?_⟩
  .rcases aYu hx with hx|⟨rfl,hne⟩;.exact h x hx
   exact hm.2 λe=>hne (hk e)
  rcases E8.1 hx with hx|hx;.exact h2 x hx
  rw[ES.1 hx];exact hm.1
 grind
def aZ_{st blk:Int}(hn:n≠0)(hw:∀w∈em,w<=M)(h:Stood M st blk l):Stood M (D_ n em st blk l).2.1 (D_ n em st blk l).2.2.1 (D_ n em st blk l).2.2.2:=by
 let⟨h0,hb,h1,h2⟩:=h;cases em with
 |nil=>assumption
 |cons x rest=>
  rw[eB];split
  .rename_i hs;unfold NP;split;.exact⟨λe=>absurd e pN,λe=>absurd e aAA,h1,h2⟩
   have:=a3M hn hw (λe=>absurd e (hb (Ai hs))) h1 h2;exact⟨λe=>absurd e aAB,λ_=>hb (Ai hs),this.1,this.2⟩
  split;.exact⟨h0,hb,h1,h2⟩
  rename_i hk;split;.rename_i ho;refine⟨λe=>absurd e aAB,λ_ e=>?_,h1,h2⟩;unfold opens at ho;simp only at e;rw[e]at ho;simp at ho
  have:=a3M (kw:=GW x) hn (λw hw'=>hw w (G1 _ hw')) (λe=>by apply h0;rw[e]at hk;simpa using hk) h1 h2;exact⟨λe=>absurd e pN,λe=>absurd e aAA,this.1,this.2⟩
theorem ye{M}:∀(ls)(n)(st I)(l),(∀x∈ls,x.size<=M)->Stood M st I l->(∀x∈(Hq n ls st I l).1.tail,x.2.1≠123)/\(∀x∈(Hq n ls st I l).1,YR M x)/\((Hq n ls st I l).2=0->n≠0∨ls≠[]->∃y ys,(Hq n ls st I l).1=y::ys/\y.2.1=123)
 |[],n,st,I,l,_,h=>by
  refine⟨h.2.2.1,h.2.2.2,λe hne=>?_⟩;rw[Hq]at e⊢;cases hm:may st l;.grind
  cases l with|nil=>cases hm|cons y ys=>grind[may]
 |x::xs,n,st,I,l,hs,h=>by
  have ht:=aZ_ (n:=n+1) A' (aZV (hs x (Le ..))) h;rw[Hq];split;.let N:=ye xs (n+1) _ _ _ (λy hy=>hs y (G1 _ hy)) ht;exact⟨N.1,N.2.1,λe _=>N.2.2 e (AA A')⟩
  exact⟨ht.2.2.1,ht.2.2.2,λe _=>absurd e AD⟩
theorem aAm(c):∀(l),(pieces c l).length<=l.length+1|[]=>by simp[pieces]|b::r=>by have h:=aAm c r;grind[pieces]
def a8x(s):∀x∈lines s,x.size<=s:=by intro x hx;obtain⟨q,hq,rfl⟩:=Bt.1 hx;have:=jc 10 _ _ hq;assumption
theorem aR2(s):lines s<=s.size+1:=by unfold lines texts;have:=aAm 10 s;simp_all
theorem aZW(n)(U)(st I)(l):(D_ n U st I l).2.2.2.length<=l+1:=by
 let ha:∀N h,(added n N h l).2.length<=l+1:=by intro N h;unfold added;split<;>simp
 unfold D_ NP;grind
theorem aAc:∀(ls)(n)(st h)(l),(Hq n ls st h l).1.length<=l.length+ls.length
 |[],n,st,h,l=>by grind[Hq]
 |x::xs,n,st,h,l=>by
  have:=aZW (n+1) (Jf x) st h l;rw[Hq,T3];split;.have:=aAc xs (n+1) (D_ (n+1) (Jf x) st h l).2.1 (D_ (n+1) (Jf x) st h l).2.2.1 (D_ (n+1) (Jf x) st h l).2.2.2;omega
  grind
def aTw(s):∀x∈(parse s).1,YR s x:=(ye (lines s) 0 0 0 [] (a8x s) ⟨λ_=>rfl,λe=>absurd e Ac,λx hx=>absurd hx AD,λx hx=>absurd hx AD⟩).2.1
theorem aTv(s):(parse s).1.length<=s+1:=by have:=aAc (lines s) 0 0 0 [];have:=aR2 s;grind[parse]
def aR3(s):lines s≠[]:=by exact λe=>pZ 10 _ (List.map_eq_nil_iff.1 e)
def aTy(h0:(parse s).2=0)(N:Jx (parse s).1 []=J):Whole ((parse s).1.map (·.2)):=by
 let hp:=ye (lines s) 0 0 0 [] (a8x s) ⟨λ_=>rfl,λe=>absurd e Ac,λx hx=>absurd hx AD,λx hx=>absurd hx AD⟩;let⟨hw,hn,_⟩:=(uk ..).1 N;let⟨y,ys,hy,hk⟩:=hp.2.2 h0 (AF (aR3 s));let hv:∀x∈(parse s).1.map (·.2),Valid x.1 x.2:=by intro x hx;obtain⟨z,hz,rfl⟩:=Bt.1 hx;exact⟨(hp.2.1 z hz).1,hw z hz⟩
 refine⟨hv,?_,?_⟩;.rwa[Ld]
 let hy':(parse s).1=y::ys:=hy;rw[hy',Ee];have I:=hv y.2 (by rw[hy'];simp);let⟨yn,yt,yf⟩:=y;simp only at hk I;subst hk;rcases Xf I with⟨_,a,rfl,_⟩|⟨h,_⟩|⟨h,_⟩|⟨h,_⟩;.refine⟨a,ys.map (·.2),rfl,λx hx=>?_⟩;obtain⟨z,hz,rfl⟩:=Bt.1 hx;exact hp.1 z (by show z∈(parse s).1.tail;rwa[hy'])
 .exact absurd h Ac
 .exact absurd h Ac
 exact absurd h Ac
theorem a8O(c):∀(I:List (zx))(M:Nat),(∀w∈I,w.length<=M)->(join c I).length<=I.length*(M+1)|[],_,_=>by simp[join]|[a],M,h=>by grind[join]|a::b::r,M,h=>by have N:=a8O c (b::r) M λw hw=>h w (G1 _ hw);grind[join,DV,T3,aHz]
def a__(t)(fs):(HI t fs).length<=6:=by
 unfold HI;repeat' split
 all_goals simp
def aT4(h:Valid t fs):∀x∈HI t fs,x.length<=60:=by
 let h0:([]:zx).length<=60:=Ac;intro x hx;rcases Xf h with⟨rfl,a,rfl,I⟩|⟨rfl,a,b,rfl,I,h2⟩|⟨rfl,a,b,rfl,I,h2⟩|⟨rfl,a,b,c,d,rfl,I,h2,h3,h4⟩
 .rcases by simpa[HI,wd]using hx with rfl|rfl;.decide
  exact(NI I).short
 .rcases by simpa[HI,wd]using hx with rfl|rfl|rfl;.decide
  .exact(NI I).short
  exact(QJ h2).short
 .rcases by simpa[HI,wd]using hx with rfl|rfl|rfl;.decide
  .exact(NI I).short
  exact(QJ h2).short
 let N:x=[114,101,112,108,97,99,101]∨x=a∨x=b∨x=[61,62]∨x=c∨x=d:=by
  unfold HI at hx;simp at hx;split at hx
  .simp at hx;rcases hx with h|h|h|h|h;.exact AA h
   .exact AF (AA h)
   .exact AF (AF (AF (AA h)))
   .exact AF (AF (AF (AF (AA h))))
   exact AF (AF (AF (AF (AF h))))
  simp at hx;exact hx
 rcases N with rfl|rfl|rfl|rfl|rfl|rfl;.decide
 .exact(NI I).short
 .rcases h2 with h2|h2;.rwa[h2]
  exact(QJ h2).short
 .decide
 .exact(NI h3).short
 exact(QJ h4).short
theorem aR0(h:Valid t fs):(IJ t fs).length<=366:=by let I:=a8O 32 (HI t fs) 60 (aT4 h);let h2:=a__ t fs;grind[IJ]
theorem aCe:∀(l),(∀x∈l,Valid x.1 x.2)->(G6 l).length<=l.length*367
 |[],_=>by trivial
 |x::xs,h=>by
  have I:=aR0 (h x (Le ..));let N:=aCe xs λy hy=>h y (G1 _ hy);let e:G6 (x::xs)=IJ x.1 x.2++[10]++G6 xs:=by unfold G6;rw[a2_]
  grind
def Je(q:Nat):zx:=[109,47,UU (97+q)]
def LO(n:Nat):zx:=if n%3==0 then[118,49,46,Jy (n/3),46,48,45,114,99]else[118,49,46,Jy (n/3),46,Jy (n%3-1)]
def mp(q:Nat):zz:=⟨(Je q).toArray⟩
def CY(n:Nat):zz:=⟨(LO n).toArray⟩
def FX(x:Nat×Nat):Nat×List zz:=(221,[mp x.1,CY x.2])
def FY:zz:=⟨#[114,111,111,116]⟩
def jw(l:List (Nat×Nat)):List (Nat×List zz):=(123,[FY])::l.map FX
def Qe(l:List (Nat×Nat)):Prop:=(∀x∈l,x.1<5/\x.2<30)/\l.Pairwise λx y=>x.1<y.1
theorem yM{q}(h:q<5):path (Je q)=A5:=by have:∀n:Fin 5,path (Je n.val)=A5:=Ac;exact this ⟨q,h⟩
theorem a9s(h:n<30):AI (LO n)=A5:=by have:∀n:Fin 30,AI (LO n.val)=A5:=Rw;exact this ⟨n,h⟩
theorem XN(q):mp q=Je q:=by rfl
theorem Zq(q):CY q=LO q:=by rfl
theorem aA1{x}(h:x.1<5/\x.2<30):Valid (FX x).1 (FX x).2:=by refine⟨AF (AA ⟨rfl,_,_,rfl⟩),?_⟩;show IF (mp x.1) (CY x.2)=J;unfold IF MP TM;grind[XN,Zq,yM,a9s]
def aWG:Valid 123 [FY]:=⟨AA ⟨rfl,_,rfl⟩,Ac⟩
def aT0{q r}(hq:q<5)(hr:r<5)(h:q<r):Fx (Je q) (Je r)=-1:=by have:∀a b:Fin 5,a.val<b.val->Fx (Je a.val) (Je b.val)=-1:=Ac;exact this ⟨q,hq⟩ ⟨r,hr⟩ h
def yP{x y}(hx:x.1<5)(hy:y.1<5)(h:x.1<y.1):ord (place (FX x).1 (FX x).2) (place (FX y).1 (FX y).2)=-1:=by
 have:Fx (mp x.1) (mp y.1)=-1:=by exact aT0 hx hy h
 show(if KI 1 1 !=0 then KI 1 1 else if Fx (mp x.1) (mp y.1)!=0 then Fx (mp x.1) (mp y.1)else _)=-1;rw[this];rfl
def aTb{p q}(h:ord p q=-1):¬ord q p<0:=BO (P3.2.1 p q)
def aWD{l}(h:Qe l):PY (jw l):=by
 unfold PY jw;rw[bX];refine⟨?_,?_⟩;.intro y hy;obtain⟨x,hx,rfl⟩:=Bt.1 hy;have:=aTd (p:=place 123 [FY]) (q:=place (FX x).1 (FX x).2) (by show 0<1;decide);let e:=P3.2.1 (place 123 [FY]) (place (FX x).1 (FX x).2);show¬ord (place (FX x).1 (FX x).2) (place 123 [FY])<0;omega
 rw[I8];refine bV ?_ h.2;intro a b ha hb hab;exact aTb (yP (h.1 a ha).1 (h.1 b hb).1 hab)
def zG{l}(h:∀x∈l,x.1<5/\x.2<30):∀x∈jw l,Valid x.1 x.2:=by
 intro x hx;rcases DO.1 hx with rfl|hx;.exact aWG
 obtain⟨y,hy,rfl⟩:=Bt.1 hx;exact aA1 (h y hy)
def aWE{l}(h:Qe l):Whole (jw l):=by
 refine⟨zG h.1,?_,⟨FY,_,rfl,λx hx=>?_⟩⟩
 .unfold jw;rw[Ee,gD];refine⟨?_,?_⟩;.intro hm;rw[Ld]at hm;let⟨x,_,hx⟩:=Bt.1 hm;have:=congrArg Ya hx;exact absurd (show(1:Int)=0 from this) Ac
  rw[Ld];unfold Lc;rw[I8];refine bV ?_ h.2;intro a b ha hb hab e;let I:=yP (h.1 a ha).1 (h.1 b hb).1 hab;let N:place (FX a).1 (FX a).2=place (FX b).1 (FX b).2:=e;rw[N,P3.refl]at I;cases I
 obtain⟨y,_,rfl⟩:=Bt.1 hx;show 221≠123;decide
end V
def GH(h:A3->Prop)(w:A1)(s:Nat)(v:A3)(n:Nat):Prop:=∀g cap cur e p,v=A0 (Z ⟨g,0,J⟩) n cap->w.heap[g]?=Z (A7 cur e p)->∀j u,n*s<=j->cur[j]?=Z u->h u
def GH.nil(I)(w)(s):GH I w s (A0 J 0 0) 0:=λg cap cur e p h=>BA
theorem GH.same{c w w' s v}(h:GH c w s v n)(hb:∀g cap,v=A0 (Z ⟨g,0,J⟩) n cap->w'.heap[g]?=w.heap[g]?):GH c w' s v n:=λg cap cur e p hv hc=>h g cap cur e p hv BA
section
variable{P:Program}(w:A1)
theorem aBl(U:A3->Prop)(I:Nat)(t ty e:BL)(i:TypeInfo)(z:A3)(size bytes:Nat)(ht:P.underlying t=Z (.slice e))(hi:P.info? e=i)(hz:i.zero=z)(X:i.size=size)(Y:i.bytes=bytes)(D:z.cells=size)(li:0<size)(iH:∀u∈z.cells.toList,U u)(v:A3)(n:Nat)(xs:List A3)(hown:w.ownsRow I e size v n xs)(hsp:GH U w size v n)(a:An)(m c:Nat)(h:List A3)(hl:h=m*size)(d:∀j u,h[j]?=Z u->w.cell? (a.add j)=Z u)(h1:∀u∈h,u.oneCell'=A5)(MZ:0<m)(F:n+m<=BZ)(Q:(n+m)*bytes<=140737488355328)(hbase:I<=w):∃v' w',(U1 #[t,t] ty #[v,A0 (Z a) m c]).run P w=.ok v' w'/\w'.ownsRow I e size v' (n+m) (xs++h)/\w.grownBy w' v.ownBlock/\GH U w' size v' (n+m):=by
 subst X;subst Y;let j5:n+m<=9223372036854775807:=by simp only[BZ]at F;omega
 let hlen:(xs++h).length=(n+m)*i.size:=by rw[DV,hown.1,hl,a2h]
 let N:∀(old:Nat),old<n+m->∀(row:Option Nat),(w.drew.alloc (A7 (xs.toArray++h.toArray++Mo z.cells (fP w (n+m) old e-(n+m))) e)).ownsRow I e i.size (BG (AR w) 0 (n+m) (fP w (n+m) old e)) (n+m) (xs++h)/\w.grownBy (w.drew.alloc (A7 (xs.toArray++h.toArray++Mo z.cells (fP w (n+m) old e-(n+m))) e)) row/\GH U (w.drew.alloc (A7 (xs.toArray++h.toArray++Mo z.cells (fP w (n+m) old e-(n+m))) e)) i.size (BG (AR w) 0 (n+m) (fP w (n+m) old e)) (n+m):=by
  intro old ho row;let K3:=grownCap_ge w (n+m) old e;have f:=grownCap_le_maxLen w (n+m) old e F;refine⟨⟨hlen,AF ⟨AR w,_,_,rfl,hbase,OS w.drew _,K3,f,?_,?_⟩⟩,⟨rfl,rfl,rfl,AD,λk hk _=>heap_alloc_old w.drew _ (h:=hk)⟩,?_⟩;.simp only[eP,Rm,size_zeroCells,D,hown.1,hl,<-a2h];grind
  .grind
  intro g cap cur e' p hv hc j u hj hu;injection hv with h2 _ _;injection h2 with h2;injection h2 with h2;subst h2;let h3:=OS w.drew (A7 (xs.toArray++h.toArray++Mo z.cells (fP w (n+m) old e-(n+m))) e);let h4:w.drew=AR w:=rfl;rw[h4,hc]at h3;injection h3 with h3;injection h3 with h3 _ _;subst h3;rw[Array.getElem?_append_right (by simp only[eP,Rm,<-DV,hlen];exact hj)]at hu;let r:=Array.mem_of_getElem? hu;simp only[Mo]at r;rw[Array.mem_iff_getElem]at r;obtain⟨x,hx,rfl⟩:=r;refine iH _ ?_;simp at hx⊢;let hlt:x%z.cells.size<z.cells:=Nat.mod_lt _ (Ar D);rw[getElem!_pos z.cells (x%z.cells) hlt];exact Array.getElem_mem hlt
 rcases hown.2 with⟨rfl,rfl⟩|⟨g,cap,cur,rfl,y,hg,acd,f,FU,S⟩;.have hx:=aHO (Ai hown.1);subst hx;let hgr:=N 0 A' (Kt (A0 J 0 0));simp at hgr⊢;exact⟨_,_,run_append_nil w t ty e i z ht hi hz a m c h hl d A' A' (by simp at Q;omega),hgr.1,hgr.2⟩
 by_cases A:n+m<=cap
 .let LB:n*i.size+h<=cur:=by rw[hl,FU,<-a2h];exact Nat.mul_le_mul_right _ A
  refine⟨_,_,run_append_room w t ty e i ht hi g n cap cur hg a m c h hl d h1 A LB,⟨hlen,AF ⟨g,cap,_,rfl,y,aG2 w g cur _ e _ hg,A,f,?_,?_⟩⟩,⟨rfl,rfl,rfl,AD,λk _ hk=>setRow_other w g k _ λe=>hk (by simp[Kt,e])⟩,?_⟩;.simp;omega
  .rw[S,<-hlen];exact List.take_left
  intro g' TH abI e' p hv hc j u hj hu;injection hv with h2 _ _;injection h2 with h2;injection h2 with h2;subst h2;rw[aG2 w g cur _ e _ hg]at hc;injection hc with hc;injection hc with hc _ _;subst hc;rw[S,List.getElem?_toArray,Rj (Ar hlen),List.getElem?_drop]at hu;exact hsp g cap cur e (0,0) rfl hg (n*i.size+h.length+(j-(xs++h).length)) u A' (Ar (eO).symm)
 let hgr:=N cap A' (Kt (BG g 0 n cap));exact⟨_,_,run_append_grow w t ty e i z ht hi hz ⟨g,0,J⟩ n cap xs hown.1 (hown.cells rfl) a m c h hl d A' A' (growslice_fits A' Q),hgr.1,hgr.2⟩
def aDG{ops:Array Oper}{rest:List Oper}{o:Oper}{a:Act}{Q:Exit->Act->A1->Prop}(U)(d:o.guard=J)(s x)(t)(ho:o.op=.call {callee:=.builtin .append,args:=#[s,x],argTypes:=#[t,t]})(I)(e)(i)(z)(size bytes:Nat)(ht:P.underlying t=Z (.slice e))(hi:P.info? e=Z i)(hz:i.zero=Z z)(f:i.size=size)(r:i.bytes=bytes)(y:z.cells=size)(A:0<size)(D:∀u∈z.cells.toList,U u)(v:A3)(n:Nat)(xs:List A3)(hs:a.eval s=v)(hown:w.ownsRow I e size v n xs)(hsp:GH U w size v n)(ad:An)(m c:Nat)(N:List A3)(hx:a.eval x=A0 (Z ad) m c)(hl:N=m*size)(F:∀j u,N[j]?=Z u->w.cell? (ad.add j)=Z u)(h1:∀u∈N,u.oneCell'=A5)(S:0<m)(X:n+m<=BZ)(Y:(n+m)*bytes<=140737488355328)(hbase:I<=w)(h:∀v' w',w'.ownsRow I e size v' (n+m) (xs++N)->w.grownBy w' v.ownBlock->GH U w' size v' (n+m)->wpList P ops Q rest (a.put o.dst v') w'):wpList P ops Q (o::rest) a w:=by refine wpList_plain d λK hK=>?_;let⟨v',w',hr,h2,h3,h4⟩:=aBl w U I t o.type e i z size bytes ht hi hz f r y A D v n xs hown hsp ad m c N hl F h1 S X Y hbase;unfold Oper.wp execOp;simp only[ho,resolve,invoke,builtin,Sem.run_bind,Sem.run_pure,Result.andThen_ok,List.map_toArray,Ee,Iw,hs,hx,hr];exact hK _ _ (h v' w' h2 h3 h4)
end
inductive EF(E:List (List Nat))(s:Nat):zy|here:EF E s s|on{j k:Nat}:EF E s j->k∈E.getD j []->EF E s k
def GD(M:List Int)(j:Nat):Prop:=∃v,M[j]?=Z v/\v≠0
def cost:List (List Nat)->List Int->Nat|e::E,m::M=>(if m=0 then e.length+1 else 0)+cost E M|_,_=>0
theorem a4J:∀(E)(M)(j)(mark),mark≠0->j<E.length->M[j]?=Z 0->cost E (M.set j mark)+(E.getD j []).length+1=cost E M|[],_,_,_,_,h,_=>BA|_::_,[],_,_,_,_,h=>BA|e::E,m::M,0,mark,hm,_,h=>by grind[cost]|e::E,m::M,j+1,mark,hm,hj,h=>by have I:=a4J E M j mark hm (Ai hj) (Ai h);grind[cost,td]
structure H'(E:List (List Nat))(mark:Int)(s:Nat)(M:List Int)(st:List Nat)(M':List Int):Prop where
 len:M'.length=M
 val:∀j,M'[j]?=M[j]?∨M[j]?=Z 0/\M'[j]?=Z mark/\EF E s j
 qN:∀j∈st,j<E/\EF E s j
 start:s∈st∨GD M' s
 ur:∀j,M[j]?=Z 0->M'[j]?≠Z 0->∀k∈E.getD j [],k∈st∨GD M' k
section
variable{E:List (List Nat)}{mark:Int}{s:Nat}{M M':List Int}{st:List Nat}
def H'.begin(hs:s<E):H' E mark s M [s] M:=⟨rfl,λ_=>AA rfl,λj hj=>by rw[ES]at hj;subst hj;exact⟨hs,.here⟩,AA AD,λj h h2=>absurd h h2⟩
theorem H'.pass{j}(h:H' E mark s M (st++[j]) M')(hj:GD M' j):H' E mark s M st M':=by
 let go:∀k,k∈st++[j]∨GD M' k->k∈st∨GD M' k:=λk hk=>by grind
 exact⟨h.len,h.val,λk hk=>h.qN k (ti _ hk),go _ h.start,λi I h2 k hk=>go _ (h.ur i I h2 k hk)⟩
def aS6{j k}(hm:mark≠0)(hk:GD M' k):GD (M'.set j mark) k:=by
 let⟨v,h1,h2⟩:=hk;by_cases e:j=k;.exact⟨mark,BA,hm⟩
 exact⟨v,BA,h2⟩
theorem H'.put{j:Nat}(hm:mark≠0)(hE:∀j,∀k∈E.getD j [],k<E)(h:H' E mark s M (st++[j]) M')(hj:M'[j]?=Z 0):H' E mark s M (st++E.getD j []) (M'.set j mark):=by
 let N:=h.qN j AD;let U:(M'.set j mark)[j]?=Z mark:=BA;let I:M[j]?=Z 0:=by
  rcases h.val j with e|⟨e,_⟩;.grind
  grind
 let go:∀k,k∈st++[j]∨GD M' k->k∈st++E.getD j []∨GD (M'.set j mark) k:=λk hk=>by
  rcases hk with hk|hk
  .rcases E8.1 hk with hk|hk;.grind
   rw[ES]at hk;subst hk;exact AF ⟨mark,U,hm⟩
  exact AF (aS6 hm hk)
 refine⟨As List.length_set h.len,λi=>?_,λk hk=>?_,go _ h.start,λi h1 h2 k hk=>?_⟩
 .by_cases e:j=i;.subst e;exact AF ⟨I,U,N.2⟩
  rw[aHX e];exact h.val i
 .rcases E8.1 hk with hk|hk;.exact h.qN k (ti _ hk)
  exact⟨hE j k hk,.on N.2 hk⟩
 by_cases e:j=i;.subst e;exact AA (List.mem_append_right _ hk)
 rw[aHX e]at h2;exact go _ (h.ur i h1 h2 k hk)
theorem H'.done(h:H' E mark s M [] M')(hM:∀j,GD M j->∀k∈E.getD j [],GD M k)(hm:mark≠0)(hlen:M.length=E)(hE:∀j,∀k∈E.getD j [],k<E)(hs:s<E):∀j,j<E.length->(EF E s j∨GD M j↔GD M' j):=by
 let U:∀j,GD M j->GD M' j:=λj⟨v,h1,h2⟩=>by
  rcases h.val j with e|⟨e,_⟩;.exact⟨v,Ar e,h2⟩
  grind
 let c:∀j,EF E s j->GD M' j:=λj hj=>by
  induction hj with
  |here=>
   rcases h.start with h|h;.simp at h
   grind
  |@on i k hi hk I=>
   by_cases h0:M[i]?=Z 0
   .have:M'[i]?≠Z 0:=λe=>by let⟨v,h1,h2⟩:=I;rw[e]at h1;exact h2 (CP h1).symm
    rcases h.ur i h0 this k hk with h|h;.simp at h
    grind
   let d:i<E:=by let⟨v,h1,_⟩:=I;have:=Po h1;rw[h.len]at this;omega
   have:GD M i:=by refine⟨M[i]' A',En A',λe=>h0 ?_⟩;rw[En A',e]
   grind
 intro j hj;constructor;.grind
 intro N;rcases h.val j with e|⟨_,_,e⟩;.let⟨v,h1,h2⟩:=N;exact AF ⟨v,Ar e.symm,h2⟩
 grind
end
def push(L:List (List Nat))(e:Nat×Nat):List (List Nat):=L.set e.1 (L.getD e.1 []++[e.2])
def rowsOf(n:Nat)(q:List (Nat×Nat)):List (List Nat):=q.foldl push (Dt n [])
def zI(n)(q)(e):rowsOf n (q++[e])=push (rowsOf n q) e:=by simp[rowsOf]
theorem dk(n)(q):rowsOf n q=n:=by
 unfold rowsOf;have:∀L:List (List Nat),(q.foldl push L).length=L:=by induction q with|nil=>exact λ_=>rfl|cons e q h=>exact λL=>(h _).trans (by simp[push])
 grind
theorem mem_push{L:List (List Nat)}{e:Nat×Nat}(he:e.1<L)(j k):k∈(push L e).getD j []↔k∈L.getD j []∨(j,k)=e:=by unfold push;grind
theorem aSQ:∀{L},(∀e∈q,e.1<L.length)->∀j k,k∈(q.foldl push L).getD j []↔k∈L.getD j []∨(j,k)∈q:=by
 induction q with
 |nil=>grind
 |cons e q I=>
  intro L h j k;let hl:(push L e).length=L:=by simp[push]
  rw[List.foldl_cons,I λx hx=>As hl (h x (G1 _ hx)),mem_push (h e (Le ..)),DO,or_assoc]
theorem pL(h:∀e∈q,e.1<n)(j k):k∈(rowsOf n q).getD j []↔(j,k)∈q:=by unfold rowsOf;rw[aSQ (Ai h)];grind
def LS(E:List (List Nat)):Nat:=(E.map λl=>l.length+1).sum
theorem a4K:∀(E)(M),cost E M<=LS E|[],_=>by simp[cost]|_::_,[]=>by simp[cost]|e::E,m::M=>by have:=a4K E M;grind[cost,LS]
theorem zt:∀(E)(j k),LS (E.set j (E.getD j []++[k]))<=LS E+1|[],_,_=>AD|e::E,0,k=>by grind[LS]|e::E,j+1,k=>by have:=zt E j k;grind[td,LS]
theorem ux(n)(q)(M):cost (rowsOf n q) M<=n+q:=by
 refine Dn (a4K ..) ?_;have:∀L:List (List Nat),LS (q.foldl push L)<=LS L+q:=by induction q with|nil=>grind|cons e q I=>intro L;let h:=I (push L e);let h2:=zt L e.1 e.2;simp;unfold push at h;unfold push;omega
 let h:=this (Dt n []);let h2:LS (Dt n [])=n:=by simp[LS]
 rwa[h2]at h
theorem aQk{E a b c}(I:EF E a b)(h2:EF E b c):EF E a c:=by induction h2 with|here=>grind|on _ hk h=>exact .on h hk
def a8k{E F}(h:∀j k,k∈F.getD j []->j∈E.getD k []){a b}(hl:EF F a b):EF E b a:=by induction hl with|here=>exact .here|@on j k _ hk I=>exact aQk (.on .here (h j k hk)) I
def Shut(E:List (List Nat))(M:List Int):Prop:=∀j,GD M j->∀k∈E.getD j [],GD M k
theorem Shut.leads{E M}(h:Shut E M){a b}(ha:GD M a)(hl:EF E a b):GD M b:=by induction hl with|here=>grind|on _ hk I=>exact h _ I _ hk
theorem a9R{M:List Int}{j:Nat}(h:GD M j):j<M:=by let⟨v,h,_⟩:=h;grind
theorem jO(n j):¬GD (Dt n 0) j:=λ⟨v,h1,h2⟩=>by grind
section
variable{E:List (List Nat)}{mark:Int}{s:Nat}{M M':List Int}
theorem H'.at(h:H' E mark s M [] M')(hM:Shut E M)(hm:mark≠0)(hlen:M.length=E)(hE:∀j,∀k∈E.getD j [],k<E)(hs:s<E)(j):GD M' j↔EF E s j∨GD M j:=by
 let hl:EF E s j->j<E:=λhl=>by cases hl with|here=>grind|on _ hk=>grind
 constructor;.exact λhj=>(h.done hM hm hlen hE hs j (by have:=a9R hj;grind[h.len])).2 hj
 exact λhj=>(h.done hM hm hlen hE hs j (hj.elim hl λhj=>BO (a9R hj))).1 hj
def H'.shut(h:H' E mark s M [] M')(hM:Shut E M)(hm:mark≠0)(hlen:M.length=E)(hE:∀j,∀k∈E.getD j [],k<E)(hs:s<E):Shut E M':=λj hj k hk=>by rw[h.at hM hm hlen hE hs]at hj⊢;exact hj.imp (λh=>.on h hk) λh=>hM j h k hk
end
structure PX(E:List (List Nat))(ps:List Nat)(i:Nat)(M:List Int):Prop where
 len:M.length=E
 shut:Shut E M
 has:∀fm p,i<=fm->ps[fm]?=Z p->GD M p
 val:∀(j:Nat)(v:Int),M[j]?=Z v->v=0∨∃(fm:Nat)(p:Nat),ps[fm]?=Z p/\v=fm+1/\EF E p j
section
variable{E:List (List Nat)}{ps:List Nat}{i:Nat}{M M':List Int}
theorem PX.start:PX E ps ps (Dt E 0):=by
 refine⟨AD,λj hj=>absurd hj (jO _ _),λN p I h2=>?_,λj v h=>?_⟩;.have:=Po h2;omega
 grind
def PX.next{p:Nat}(h:PX E ps (i+1) M)(hp:ps[i]?=Z p)(hE:∀j,∀k∈E.getD j [],k<E)(hs:p<E)(hsp:H' E (i+1:Int) p M [] M'):PX E ps i M':=by
 let hm:(i+1:Int)≠0:=A';refine⟨hsp.len.trans h.len,hsp.shut h.shut hm h.len hE hs,λI q N h2=>?_,λj v hv=>?_⟩
 .rw[hsp.at h.shut hm h.len hE hs];by_cases e:I=i;.subst e;rw[hp]at h2;cases h2;exact AA .here
  exact AF (h.has I q A' h2)
 rcases hsp.val j with e|⟨_,e,hl⟩;.exact h.val j v (e▸hv)
 rw[hv]at e;exact AF ⟨i,p,hp,CP e,hl⟩
theorem PX.Fo(h:PX E ps 0 M){p x}(hp:p∈ps)(hl:EF E p x):∃(i:Nat)(q:Nat),ps[i]?=Z q/\M[x]?=Z (i+1:Int)/\EF E q x:=by
 let⟨k,hk⟩:=List.mem_iff_getElem?.1 hp;let⟨v,h1,h2⟩:=h.shut.leads (h.has k p A' hk) hl;rcases h.val x v h1 with e|⟨i,q,h3,rfl,h4⟩;.exact absurd e h2
 grind
end
structure Pg{α:Type}(E:List (List Nat))(pl:α->Nat)(R:List α)(H:List (List Nat))(i:Nat)(K:List α)(M:List Int):Prop where
 sub:K.Sublist (R.take i)
 len:M.length=E
 shut:Shut E M
 mark:∀j,GD M j->∃r∈K,EF E (pl r) j
 done:∀fm x,fm<i->x∈H.getD fm []->GD M x
section
variable{α:Type}{E:List (List Nat)}{pl:α->Nat}{R:List α}{H:List (List Nat)}{i:Nat}{K:List α}{M M':List Int}
def Pg.start:Pg E pl R H 0 [] (Dt E 0):=⟨AD,AD,λj hj=>absurd hj (jO _ _),λj hj=>absurd hj (jO _ _),λI x h=>absurd h A'⟩
theorem aCX{r}(hr:R[i]?=Z r):R.take (i+1)=R.take i++[r]:=by grind[List.take_add_one]
def Pg.pass{r}(h:Pg E pl R H i K M)(hr:R[i]?=Z r)(hx:∀x∈H.getD i [],GD M x):Pg E pl R H (i+1) K M:=by
 refine⟨As (aCX hr) (h.sub.trans (List.sublist_append_left ..)),h.len,h.shut,h.mark,λI x N h2=>?_⟩;by_cases e:I=i;.subst e;exact hx x h2
 exact h.done I x A' h2
def Pg.put{r:α}(h:Pg E pl R H i K M)(hr:R[i]?=Z r)(hE:∀j,∀k∈E.getD j [],k<E)(hs:pl r<E)(hsp:H' E 1 (pl r) M [] M')(hx:∀x∈H.getD i [],EF E (pl r) x):Pg E pl R H (i+1) (K++[r]) M':=by
 let I:=hsp.at h.shut Ac h.len hE hs;refine⟨As (aCX hr) (h.sub.append (.refl _)),hsp.len.trans h.len,hsp.shut h.shut Ac h.len hE hs,λj hj=>?_,λU x N h2=>?_⟩
 .rcases(I j).1 hj with hl|hj;.exact⟨r,AD,hl⟩
  let⟨q,N,h2⟩:=h.mark j hj;exact⟨q,ti _ N,h2⟩
 rw[I];by_cases e:U=i;.subst e;exact AA (hx x h2)
 exact AF (h.done U x A' h2)
end
structure Ri(E:List (List Nat))(UZ:zy)(i:Nat)(M:List Int):Prop where
 len:M.length=E
 shut:Shut E M
 mark:∀j,GD M j↔∃b,b<i/\UZ b/\EF E b j
section
variable{E:List (List Nat)}{UZ:zy}{i:Nat}{M M':List Int}
def Ri.start:Ri E UZ 0 (Dt E 0):=⟨AD,λj hj=>absurd hj (jO _ _),λj=>⟨λhj=>absurd hj (jO _ _),λ⟨b,h,_⟩=>absurd h A'⟩⟩
theorem Ri.pass(h:Ri E UZ i M)(hb:¬UZ i):Ri E UZ (i+1) M:=by refine⟨h.len,h.shut,λj=>(h.mark j).trans ⟨λ⟨b,h1,h2⟩=>⟨b,A',h2⟩,λ⟨b,h1,h2⟩=>⟨b,?_,h2⟩⟩⟩;grind
theorem Ri.put(h:Ri E UZ i M)(hb:UZ i)(hE:∀j,∀k∈E.getD j [],k<E)(hs:i<E)(hsp:H' E 1 i M [] M'):Ri E UZ (i+1) M':=by refine⟨hsp.len.trans h.len,hsp.shut h.shut Ac h.len hE hs,λj=>?_⟩;rw[hsp.at h.shut Ac h.len hE hs,h.mark j];grind
end
def aTM:aFT.checked.prog.headLifts.contains "ownunsafe"=A9:=by kernel_rfl
def aSy:PO.laidByTextAt .later aFT [Y5,Y5,Y5,Y5,.pinned] A5:=aaA rfl rfl (aaC (laid:=[("math/bits.deBruijn32tab",Rows.laid_math_bits_deBruijn32tab),("math/bits.deBruijn64tab",Rows.laid_math_bits_deBruijn64tab),("internal/strconv.uint64pow10",Rows.laid_internal_strconv_uint64pow10),("unicode/utf8.acceptRanges",Rows.laid_unicode_utf8_acceptRanges)]) (kinds:=[Y5,Y5,Y5,Y5]) (tests:=A5) 34 8 65 (by kernel_rfl) (by kernel_rfl) (by kernel_rfl) (by kernel_rfl) (by kernel_rfl) (by kernel_rfl) λ_ _=>by kernel_rfl) rfl rfl rfl rfl (λy hy e=>by simp only[PO,List.zip_cons_cons,List.zip_nil_right,DO,List.mem_nil_iff,or_false]at hy;rcases hy with rfl|rfl|rfl|rfl|rfl<;>first|(cases e;done)|exact⟨by kernel_rfl,by kernel_rfl⟩) (by unfold aaD;rw[aTM];kernel_rfl)
section
open Go.RowKit
variable{W w w' w1:A1}{rv v x0 x1 x2 x3:A3}{C:zw}{e t:BL}{DS a:zz}{blk:Int}{L:List (zx)}{l:List (Nat×Nat)}{xs:List A3}{em:List zz}{HD:List Int}{B a9 b g hH i j k n s:Nat}{T:zy}
def EN{a b}(h:a=b):AV (Ag a)=AV (Ag b):=by rw[h]
def I0{k a b}(h:a=b):AV (AB k a)=AV (AB k b):=by rw[h]
def dN(b w):Ab A6 243 #[AB Gc (b.toNat:Int)] w λe w'=>e=AV (Ag (V.V7 b))/\w'=w:=by by_cases h:48<=(b.toNat:Int)<;>by_cases h2:(b.toNat:Int)<=57;all_goals go_enter Tryz.func243,Tryz.ntmps243;go_wp2;go_ret;exact⟨EN (by simp[V.V7];omega),rfl⟩
def ot(b w):Ab A6 244 #[AB Gc (b.toNat:Int)] w λe w'=>e=AV (Ag (V.isLet b))/\w'=w:=by by_cases h:97<=b.toNat<;>by_cases h2:(b.toNat:Int)<=122<;>by_cases h3:65<=(b.toNat:Int)<;>by_cases h4:(b.toNat:Int)<=90;all_goals first|omega|(go_enter Tryz.func244,Tryz.ntmps244;go_wp2;go_ret;exact⟨EN (by simp[V.isLet];omega),rfl⟩)
def qR(s:zz)(k:Nat)(h:k<s):s.data.toList.take (k+1)=s.data.toList.take k++[s[k]]:=by rw[T4 (by simpa using h)];rfl
def dO(s:zz)(w:A1)(hs:s<=BZ):Ab A6 176 #[s] w λe w'=>e=AV (Ag (V.digits s))/\w'=w:=by
 unfold BZ at hs;go_enter Tryz.func176,Tryz.ntmps176;go_wp2;go_loop[6]λi=>∃k:Nat,k<=s/\i=AX k/\AE ((s.data.toList.take k).all V.V7=A5)(λi=>s-(M9 i).toNat);case atStart=>exact⟨0,JS _,rfl,A2 AD⟩
 case round=>
  obtain⟨k,hk,rfl,H⟩:=hrel;by_cases hlt:k<s
  .cases hd:V.V7 s[k];.go_wp2_with(go_at_call 243;refine(dN _ _).mono ?_;rintro e w'⟨rfl,rfl⟩);go_ret;exact⟨EN (V.aKi s k (Ai hlt) hd).symm,rfl⟩
   go_wp2_with(go_at_call 243;refine(dN _ _).mono ?_;rintro e w'⟨rfl,rfl⟩);go_round;case rel=>exact⟨k+1,A',BV,A2 (by rw[qR s k hlt,t_,H.o];simp[hd])⟩
   case measure=>simp[M9];omega
  go_wp2;go_ret;exact⟨EN (by rw[V.digits,Y9,<-bY (l:=s.data.toList) (i:=k) Av,H.o];simp),rfl⟩
def aNw(s:zz)(h):s.data.toList.head?=Z s[0]:=by have:=Lib.data_getElem? s 0 h;rw[<-this,List.head?_eq_getElem?]
theorem a9z(b)(n)(c:UInt8)(h:c.toNat=n):((b.toNat:Int)!=(n:Int))=(b !=c):=by
 rw[Xl];simp;constructor;.grind
 intro h e;exact h (uI.1 A')
theorem xr(s:zz)(w:A1)(hs:s<=BZ):Ab A6 170 #[s] w λe w'=>e=AV (Ag (V.number s))/\w'=w:=by
 cases hd:V.digits s;.go_enter Tryz.func170,Tryz.ntmps170;go_wp2_with(go_at_call 176;refine(dO _ _ hs).mono ?_;rintro e w'⟨rfl,rfl⟩;rw[hd]);go_ret;simp_all[V.number]
 have hne:=by have:=V.aKh hd;have:=YW.2 this;simpa using this
 have hh:=aNw s hne;have h:AE (V.number s=(s.toList==[48]||(s[0].toNat:Int)!=48)):=by refine A2 ?_;unfold V.number;rw[hd,hh,Y9,show 48=((48:Nat):Int)from rfl,a9z s[0] 48 48 rfl];simp[bne]
 clear hh;cases h0:s.toList==[48];all_goals go_enter Tryz.func170,Tryz.ntmps170;go_wp2_with(go_at_call 176;refine(dO _ _ hs).mono ?_;rintro e w'⟨rfl,rfl⟩;rw[hd]);go_ret;exact⟨EN (by rw[h.o,h0];simp),rfl⟩
def a8J(s:zz)(w:A1)(hs:s<=BZ):Ab A6 171 #[s] w λe w'=>e=AV (Ag (V.mark s))/\w'=w:=by
 have c:=hs;unfold BZ at c;cases hd:V.digits s
 .have I:AE (V.mark s=(s.data.toList.all V.Mf&&!s.data.toList.isEmpty)):=by unfold V.mark;rw[hd];rfl
  go_enter Tryz.func171,Tryz.ntmps171;go_wp2_with(go_at_call 176;refine(dO _ _ hs).mono ?_;rintro e w'⟨rfl,rfl⟩;rw[hd]);go_loop[10]λi=>∃k:Nat,k<=s/\i=AX k/\AE ((s.data.toList.take k).all V.Mf=A5)(λi=>s-(M9 i).toNat);case atStart=>exact⟨0,JS _,rfl,A2 AD⟩
  case round=>
   obtain⟨k,hk,rfl,H⟩:=hrel;by_cases hlt:k<s
   .have h:AE (V.Mf s[k]=(V.V7 s[k]||V.isLet s[k]||!(s[k].toNat:Int)!=45)):=by refine A2 ?_;unfold V.Mf;rw[show 45=((45:Nat):Int)from rfl,a9z s[k] 45 45 rfl];simp[bne]
    have d:AE (V.Mf s[k]=A9->s.data.toList.all V.Mf=A9):=by intro hf;rw[ta];exact⟨s[k],As (show s[k]=s.data.toList[k]'(by simpa using hlt)from rfl) (Ci _),by simp[hf]⟩
    have U:AE (V.Mf s[k]=A5->(s.data.toList.take (k+1)).all V.Mf=A5):=by intro ht;rw[qR s k hlt,t_,H.o];simp[ht]
    cases N:V.V7 s[k]
    .cases h2:V.isLet s[k]
     .cases h3:(s[k].toNat:Int)!=45
      .go_wp2_with(first|(go_at_call 243;refine(dN _ _).mono ?_;rintro e w'⟨rfl,rfl⟩)|(go_at_call 244;refine(ot _ _).mono ?_;rintro e w'⟨rfl,rfl⟩));go_round;case rel=>exact⟨k+1,A',BV,U.o (by rw[h.o,N,h2,h3];rfl)⟩
       case measure=>simp[M9];omega
      go_wp2_with(first|(go_at_call 243;refine(dN _ _).mono ?_;rintro e w'⟨rfl,rfl⟩)|(go_at_call 244;refine(ot _ _).mono ?_;rintro e w'⟨rfl,rfl⟩));go_ret;exact⟨EN (by rw[I.o,d.o (by rw[h.o,N,h2,h3];rfl)];rfl),rfl⟩
     go_wp2_with(first|(go_at_call 243;refine(dN _ _).mono ?_;rintro e w'⟨rfl,rfl⟩)|(go_at_call 244;refine(ot _ _).mono ?_;rintro e w'⟨rfl,rfl⟩));go_round;case rel=>exact⟨k+1,A',BV,U.o (by rw[h.o,N,h2];rfl)⟩
     case measure=>simp[M9];omega
    go_wp2_with(first|(go_at_call 243;refine(dN _ _).mono ?_;rintro e w'⟨rfl,rfl⟩)|(go_at_call 244;refine(ot _ _).mono ?_;rintro e w'⟨rfl,rfl⟩));go_round;case rel=>exact⟨k+1,A',BV,U.o (by rw[h.o,N];rfl)⟩
    case measure=>simp[M9];omega
   have Au:AE (s.data.toList.all V.Mf=A5):=by rwa[<-bY (l:=s.data.toList) (i:=k) Av]
   go_wp2;go_ret;exact⟨EN (by rw[I.o,Au.o,Y9];simp),rfl⟩
 have I:AE (V.mark s=V.number s):=by unfold V.mark;rw[hd];rfl
 go_enter Tryz.func171,Tryz.ntmps171;go_wp2_with(first|(go_at_call 176;refine(dO _ _ hs).mono ?_;rintro e w'⟨rfl,rfl⟩;rw[hd])|(go_at_call 170;refine(xr _ _ hs).mono ?_;rintro e w'⟨rfl,rfl⟩));go_ret;exact⟨EN I.o.symm,rfl⟩
theorem gq(a b:Nat):KI (a:Int) (b:Int)=V.Gl a b:=by grind[KI,V.Gl]
theorem uw(a b:zz)(w:A1):Ab A6 89 #[a,b] w λe w'=>e=AV (V.KW a.data.toList b.data.toList)/\w'=w:=by
 have I:AE (V.KW a b=if V.Gl a b !=0 then V.Gl a b else Fx a b):=by refine A2 ?_;unfold V.KW;simp_all
 cases h:V.Gl a b !=0;all_goals go_enter Tryz.func89,Tryz.ntmps89;go_wp2_with(first|(go_at_call 90;refine(Tryz.cmp_Compare_int _ _ _).mono ?_;rintro e w'⟨rfl,rfl⟩;rw[gq])|(go_at_call 153;refine(Tryz.strings_Compare _ _ _).mono ?_;rintro e w'⟨rfl,rfl⟩));go_ret;simp_all[I.o]
def a4E(a b:zz)(w:A1)(ha:a<=BZ)(hb:b<=BZ):Ab A6 91 #[a,b] w λe w'=>e=AV (V.Oh a.data.toList b.data.toList)/\w'=w:=by cases h:V.digits a<;>cases h2:V.digits b;all_goals go_enter Tryz.func91,Tryz.ntmps91;go_wp2_with fail;refine(dO _ _ ha).mono ?_;rintro e w'⟨rfl,rfl⟩;rw[h];go_wp2_with fail;refine(dO _ _ hb).mono ?_;rintro e w'⟨rfl,rfl⟩;rw[h2];go_wp2_with(first|(go_at_call 89;refine(uw _ _ _).mono ?_;rintro e w'⟨rfl,rfl⟩)|(go_at_call 153;refine(Tryz.strings_Compare _ _ _).mono ?_;rintro e w'⟨rfl,rfl⟩));go_ret;exact⟨I0 (by unfold V.Oh;rw[h,h2];rfl),rfl⟩
def nD(b c:Nat)(ls:List zz)(w:A1)(hl:ls<=BZ)(N:∀x∈ls,x<=BZ)(hc:∀j,j<ls.length->w.cell? ⟨b,j,J⟩=Z (A4 (ls.getD j B7))):Ab A6 169 #[A0 (Z ⟨b,0,J⟩) ls c,Br (Bo 170) #[] #[]] w λe w'=>e=AV (Ag (V.Ns V.number ls))/\w'=w:=by
 unfold BZ at hl;go_enter Tryz.func169,Tryz.ntmps169;go_wp2;go_loop[9]λi=>∃k:Nat,k<=ls/\i=AX k/\AE (V.Ns V.number (ls.take k)=A5)(λi=>ls-(M9 i).toNat);case atStart=>exact⟨0,JS _,rfl,rfl⟩
 case round=>
  obtain⟨k,hk,rfl,H⟩:=hrel;by_cases hlt:k<ls
  .have U:=hc k hlt;have h:ls.getD k B7<=BZ:=As (V.getD_at _ _ hlt) (N _ (Ci hlt));generalize hx:ls.getD k B7=x at U h;have I:AE (ls.getD k B7=x):=hx;clear hx hc N;cases hd:V.number x;.go_wp2_with(go_at_call 170;refine(xr _ _ h).mono ?_;rintro e w'⟨rfl,rfl⟩;rw[hd]);go_ret;exact⟨EN (V.a3P _ ls k hlt (by rw[I.o,hd])).symm,rfl⟩
   go_wp2_with(go_at_call 170;refine(xr _ _ h).mono ?_;rintro e w'⟨rfl,rfl⟩;rw[hd]);go_round;case rel=>exact⟨k+1,A',BV,V.a3Q _ ls k hlt H.o (by rw[I.o,hd])⟩
   case measure=>simp[M9];omega
  go_wp2;go_ret;exact⟨EN (As (bY (l:=ls) (i:=k) A').symm H.o.symm),rfl⟩
def aIx(b c:Nat)(ls:List zz)(w:A1)(hl:ls<=BZ)(N:∀x∈ls,x<=BZ)(hc:∀j,j<ls.length->w.cell? ⟨b,j,J⟩=Z (A4 (ls.getD j B7))):Ab A6 169 #[A0 (Z ⟨b,0,J⟩) ls c,Br (Bo 171) #[] #[]] w λe w'=>e=AV (Ag (V.Ns V.mark ls))/\w'=w:=by
 unfold BZ at hl;go_enter Tryz.func169,Tryz.ntmps169;go_wp2;go_loop[9]λi=>∃k:Nat,k<=ls/\i=AX k/\AE (V.Ns V.mark (ls.take k)=A5)(λi=>ls-(M9 i).toNat);case atStart=>exact⟨0,JS _,rfl,rfl⟩
 case round=>
  obtain⟨k,hk,rfl,H⟩:=hrel;by_cases hlt:k<ls
  .have U:=hc k hlt;have h:ls.getD k B7<=BZ:=As (V.getD_at _ _ hlt) (N _ (Ci hlt));generalize hx:ls.getD k B7=x at U h;have I:AE (ls.getD k B7=x):=hx;clear hx hc N;cases hd:V.mark x;.go_wp2_with(go_at_call 171;refine(a8J _ _ h).mono ?_;rintro e w'⟨rfl,rfl⟩;rw[hd]);go_ret;exact⟨EN (V.a3P _ ls k hlt (by rw[I.o,hd])).symm,rfl⟩
   go_wp2_with(go_at_call 171;refine(a8J _ _ h).mono ?_;rintro e w'⟨rfl,rfl⟩;rw[hd]);go_round;case rel=>exact⟨k+1,A',BV,V.a3Q _ ls k hlt H.o (by rw[I.o,hd])⟩
   case measure=>simp[M9];omega
  go_wp2;go_ret;exact⟨EN (As (bY (l:=ls) (i:=k) A').symm H.o.symm),rfl⟩
def aIy(w):Ab A6 169 #[A0 J 0 0,Br (Bo 171) #[] #[]] w λe w'=>e=AV (Ag A5)/\w'=w:=by go_wp2;refine St 1 ?_;rw[Nf];go_wp2;go_ret;exact⟨rfl,rfl⟩
def a4C(y c1 b2 c2:Nat)(h I:List zz)(w:A1)(z:h<=BZ)(A:I<=BZ)(c:∀x∈h,x<=BZ)(d:∀x∈I,x<=BZ)(f:∀j,j<h.length->w.cell? ⟨y,j,J⟩=Z (A4 (h.getD j B7)))(m:∀j,j<I.length->w.cell? ⟨b2,j,J⟩=Z (A4 (I.getD j B7))):Ab A6 88 #[A0 (Z ⟨y,0,J⟩) h c1,A0 (Z ⟨b2,0,J⟩) I c2,Br (Bo 89) #[] #[]] w λe w'=>e=AV (V.lexB V.KW h I)/\w'=w:=by
 unfold BZ at z A;go_enter Tryz.func88,Tryz.ntmps88;go_wp2;go_loop[13]λi=>∃k:Nat,k<=h/\k<=I/\i=AX k/\AE (V.lexB V.KW h I=V.lexB V.KW (h.drop k) (I.drop k))(λi=>h-(M9 i).toNat);case atStart=>exact⟨0,JS _,JS _,rfl,rfl⟩
 case round=>
  obtain⟨k,Q,S,rfl,H⟩:=hrel;by_cases N:k<h
  .have D:=f k N;have hz1:h.getD k B7<=BZ:=As (V.getD_at _ _ N) (c _ (Ci N));generalize hx1:h.getD k B7=x1 at D hz1;have r:AE (h.getD k B7=x1):=hx1;clear hx1;by_cases U:k<I
   .have F:=m k U;have hz2:I.getD k B7<=BZ:=As (V.getD_at _ _ U) (d _ (Ci U));generalize hx2:I.getD k B7=x2 at F hz2;have u:AE (I.getD k B7=x2):=hx2;clear hx2 f m c d;cases hd:V.KW x1 x2 !=0
    .go_wp2_with(go_at_call 89;refine(uw _ _ _).mono ?_;rintro e w'⟨rfl,rfl⟩);go_round;case rel=>exact⟨k+1,A',A',BV,H.o.trans (V.a8p _ h I k N U (by rw[r.o,u.o];exact hd))⟩
     case measure=>simp[M9];omega
    go_wp2_with(go_at_call 89;refine(uw _ _ _).mono ?_;rintro e w'⟨rfl,rfl⟩);go_ret;exact⟨I0 (by rw[H.o,V.a8l _ h I k N U (by rw[r.o,u.o];exact hd),r.o,u.o]),rfl⟩
   clear f m c d;go_wp2;go_ret;exact⟨I0 (by rw[H.o,V.a8n _ h I k N A']),rfl⟩
  by_cases U:h.length<I;.go_wp2;go_ret;exact⟨I0 (by rw[H.o,V.a8m _ h I k A' A']),rfl⟩
  go_wp2;go_ret;exact⟨I0 (by rw[H.o,V.a8o _ h I k A' A']),rfl⟩
def aKD(y c1 b2 c2:Nat)(h I:List zz)(w:A1)(z:h<=BZ)(A:I<=BZ)(c:∀x∈h,x<=BZ)(d:∀x∈I,x<=BZ)(f:∀j,j<h.length->w.cell? ⟨y,j,J⟩=Z (A4 (h.getD j B7)))(m:∀j,j<I.length->w.cell? ⟨b2,j,J⟩=Z (A4 (I.getD j B7))):Ab A6 88 #[A0 (Z ⟨y,0,J⟩) h c1,A0 (Z ⟨b2,0,J⟩) I c2,Br (Bo 91) #[] #[]] w λe w'=>e=AV (V.lexB V.Oh h I)/\w'=w:=by
 unfold BZ at z A;go_enter Tryz.func88,Tryz.ntmps88;go_wp2;go_loop[13]λi=>∃k:Nat,k<=h/\k<=I/\i=AX k/\AE (V.lexB V.Oh h I=V.lexB V.Oh (h.drop k) (I.drop k))(λi=>h-(M9 i).toNat);case atStart=>exact⟨0,JS _,JS _,rfl,rfl⟩
 case round=>
  obtain⟨k,Q,S,rfl,H⟩:=hrel;by_cases N:k<h
  .have D:=f k N;have hz1:h.getD k B7<=BZ:=As (V.getD_at _ _ N) (c _ (Ci N));generalize hx1:h.getD k B7=x1 at D hz1;have r:AE (h.getD k B7=x1):=hx1;clear hx1;by_cases U:k<I
   .have F:=m k U;have hz2:I.getD k B7<=BZ:=As (V.getD_at _ _ U) (d _ (Ci U));generalize hx2:I.getD k B7=x2 at F hz2;have u:AE (I.getD k B7=x2):=hx2;clear hx2 f m c d;cases hd:V.Oh x1 x2 !=0
    .go_wp2_with(go_at_call 91;refine(a4E _ _ _ hz1 hz2).mono ?_;rintro e w'⟨rfl,rfl⟩);go_round;case rel=>exact⟨k+1,A',A',BV,H.o.trans (V.a8p _ h I k N U (by rw[r.o,u.o];exact hd))⟩
     case measure=>simp[M9];omega
    go_wp2_with(go_at_call 91;refine(a4E _ _ _ hz1 hz2).mono ?_;rintro e w'⟨rfl,rfl⟩);go_ret;exact⟨I0 (by rw[H.o,V.a8l _ h I k N U (by rw[r.o,u.o];exact hd),r.o,u.o]),rfl⟩
   clear f m c d;go_wp2;go_ret;exact⟨I0 (by rw[H.o,V.a8n _ h I k N A']),rfl⟩
  by_cases U:h.length<I;.go_wp2;go_ret;exact⟨I0 (by rw[H.o,V.a8m _ h I k A' A']),rfl⟩
  go_wp2;go_ret;exact⟨I0 (by rw[H.o,V.a8o _ h I k A' A']),rfl⟩
def Jv(B:Nat)(w:A1)(v:A3)(L:List (zx)):Prop:=∃(b c:Nat)(ls:List zz),v=A0 (Z ⟨b,0,J⟩) ls c/\ls.map (·.data.toList)=L/\B<=b/\b<w/\ls<=BZ/\(∀x∈ls,x<=BZ)/\∀j,j<ls.length->w.cell? ⟨b,j,J⟩=Z (A4 (ls.getD j B7))
def Jv.later(h:Jv B w v L)(hb:AO w w w'):Jv B w' v L:=by
 let⟨b,c,ls,e1,e2,hB,hlt,h1,h2,h3⟩:=h;refine⟨b,c,ls,e1,e2,hB,?_,h1,h2,λj hj=>?_⟩;.have:=hb.size;omega
 rw[<-h3 j hj];exact hb.cell hlt
def Jv.mono{B'}(h:Jv B w v L)(hB:B'<=B):Jv B' w v L:=by let⟨b,c,ls,e1,e2,h0,h1⟩:=h;exact⟨b,c,ls,e1,e2,A',h1⟩
theorem Jv.setCell{B w v L}(h:Jv B w v L)(a o)(u)(ha:a<B):Jv B (w.setCell ⟨a,o,J⟩ u) v L:=by
 let⟨b,c,ls,e1,e2,hB,hlt,h1,h2,h3⟩:=h;refine⟨b,c,ls,e1,e2,hB,?_,h1,h2,λj hj=>?_⟩;.simp_all
 rw[<-h3 j hj];exact Vz w ⟨a,o,J⟩ ⟨b,j,J⟩ u λe=>by injection e;omega
def Jv.alloc{B w v L}(h:Jv B w v L)(o):Jv B (w.alloc o) v L:=h.later ((Az ..).alloc (Ad _) _)
theorem aZh(s)(w):Ab A6 173 #[A4 s,A4 ⟨#[118]⟩] w λe w'=>∃t:zz,e=AV t/\t=Sk s [118]/\w'=w:=by refine(Tryz.strings_TrimPrefix s ⟨#[118]⟩ w).mono ?_;grind
def aKO(s)(m)(w)(hs:s.size<4294967281)(hm:w.cell? ⟨0,0,J⟩=Z (AB AJ m)):Ab A6 118 #[A4 s,A4 ⟨#[45]⟩] w λe w'=>∃(x y:zz)(f:Bool),e=AV (Aj #[x,y,Ag f])/\x=(Gv s [45]).1/\y=(Gv s [45]).2.1/\f=(Gv s [45]).2.2/\AO w w w'/\w.drawn<=w'.drawn:=by refine(Tryz.strings_Cut s ⟨#[45]⟩ m w hs hm).mono ?_;rintro e w'⟨rfl,n,rfl⟩;exact⟨_,_,_,rfl,rfl,rfl,rfl,KP (Az ..) n,Nat.le_add_right ..⟩
theorem aCG(s)(m)(w)(hs:s.size<=40)(hm:w.cell? ⟨0,0,J⟩=Z (AB AJ m)):Ab A6 174 #[A4 s,A4 ⟨#[46]⟩] w λe w'=>∃v:A3,e=AV v/\Jv w w' v (V.pieces 46 s)/\AO w w w'/\w.drawn<=w'.drawn:=by
 refine(Tryz.strings_Split s ⟨#[46]⟩ m w A' hm Ac).mono ?_;rintro e w'⟨rfl,rfl⟩;let hp:=V.zk s ⟨#[46]⟩ 46 rfl;let hlen:=a0k ⟨#[46]⟩ Ac 0 _ s rfl;refine⟨_,rfl,⟨AR w,Y6 s ⟨#[46]⟩+1,s6 ⟨#[46]⟩ 0 (Y6 s ⟨#[46]⟩) s,?_,hp,Ad _,AD,?_,?_,?_⟩,(Az ..).alloc (Ad _) _,Ad _⟩;.rw[hlen]
 .have:=a0j ⟨#[46]⟩ Ac s s (Ad _);unfold BZ;omega
 .intro x hx;have:=V.jc 46 _ _ (As hp.symm (Bt.2 ⟨x,hx,rfl⟩));let e1:x.data.toList=x.size:=AD;let e2:s.data.toList=s.size:=AD;unfold BZ;omega
 simp_all
def drawn_alloc(w:A1)(o):(w.alloc o).drawn=w.drawn:=rfl
theorem drawn_setCell(w:A1)(a)(v):(w.setCell a v).drawn=w.drawn:=by simp_all
theorem Jv.len(h:Jv B w v L):∃(b c:Nat),v=A0 (Z ⟨b,0,J⟩) L c:=by let⟨b,c,ls,e1,e2,_⟩:=h;grind
def keep(hb:AO W W w1){o:Nat}(h:W.cell? ⟨b,o,J⟩=v):w1.cell? ⟨b,o,J⟩=v:=Ar (hb.cell (Cn (h:=h)))
theorem V9(hb:AO W W w1){o:Nat}(hlt:b<W)(h:W.frozen? ⟨b,o,J⟩=A9):w1.frozen? ⟨b,o,J⟩=A9:=by grind[hb.frozen]
def BR{o:Nat}(h:W.cell? ⟨b,o,J⟩=v)(x):(W.alloc x).cell? ⟨b,o,J⟩=v:=keep ((Az _ W).alloc (Ad _) x) h
def a8P{o:Nat}(hlt:b<W)(h:W.frozen? ⟨b,o,J⟩=A9)(x):(W.alloc x).frozen? ⟨b,o,J⟩=A9:=V9 ((Az _ W).alloc (Ad _) x) hlt h
def aZl{d c:A3}(I:w.cell? ⟨n,0,J⟩=d)(h2:w.cell? ⟨n,1,J⟩=c)(x y):((w.setCell ⟨n,0,J⟩ x).setCell ⟨n,1,J⟩ y).cell? ⟨n,0,J⟩=x/\((w.setCell ⟨n,0,J⟩ x).setCell ⟨n,1,J⟩ y).cell? ⟨n,1,J⟩=y:=by
 let e0:Cf (w.setCell ⟨n,0,J⟩ x) n 0 x:=lf _ _ _ I;let e1:(w.setCell ⟨n,0,J⟩ x).cell? ⟨n,1,J⟩=c:=by rwa[Vz (h:=λe=>by injection e;omega)]
 refine⟨?_,lf _ _ _ e1⟩;rwa[Vz (h:=λe=>by injection e;omega)]
def pa{o:Nat}(h:w.cell? ⟨0,o,J⟩=v):0<w.heap.size:=by
 by_cases hp:0<w.heap.size;.exact hp
 have:w.heap[0]?=J:=by rw[Array.getElem?_eq_none_iff];omega
 simp[World.cell?,this]at h
def zl(s:zz)(m:Int)(w:A1)(hs:s.size<=40)(hm:w.cell? ⟨0,0,J⟩=Z (AB AJ m)):Ab A6 87 #[s] w λe w'=>∃El A:A3,e=AV (AH #[El,A])/\Jv w w' El (V.parts s).1/\(A=A0 J 0 0/\(V.parts s).2=[]∨Jv w w' A (V.parts s).2)/\AO w w w'/\w.drawn<=w'.drawn:=by
 have h0:=pa hm;have D:AE (V.parts s=(V.pieces 46 (Gv (Sk s [118]) [45]).1,if(Gv (Sk s [118]) [45]).2.2 then V.pieces 46 (Gv (Sk s [118]) [45]).2.1 else[])):=rfl;go_enter Tryz.func87,Tryz.ntmps87;go_wp2_with fail;refine(aZh _ _).mono ?_;rintro e N⟨t,rfl,ht,rfl⟩;have xR:=V.aZi ht hs;have Au:=A2 ht;clear ht;go_wp2_with fail;refine(aKO t m _ A' (Ar (lb _ _ _ h0))).mono ?_;rintro e N⟨x,y,f,rfl,hx,hy,hf,hb,Qp⟩;have c:w.drawn<=N.drawn:=Qp;have fV:=A2 c;clear Qp c;obtain⟨aPj,aPl⟩:=V.v7 hx hy xR;have Cl:=A2 hx;have Dm:=A2 hy;have v5:=A2 hf;clear hx hy hf;have hz:w.heap.size<N:=by have:=hb.size;simp at this;omega
 have F:Cf N 0 0 (AX m):=keep hb (Ar (lb _ _ _ h0));have Q:Cf N (AR w) 0 (A0 J 0 0):=keep hb AD;have S:Cf N (AR w) 1 (A0 J 0 0):=keep hb AD;have X:N.frozen? ⟨w,0,J⟩=A9:=V9 hb AD AD;have Y:N.frozen? ⟨w,1,J⟩=A9:=V9 hb AD AD;have eq:=A2 hb;clear hb;go_wp2_with fail;refine(aCG x m _ aPj F).mono ?_;rintro e w2⟨El,rfl,Kd,hb2,ZA⟩;have W8:=A2 (Dn fV ZA);clear ZA;obtain⟨CW,c1,e1⟩:=Kd.len;have d:=A2 Kd;clear Kd;subst e1;have hz2:w.heap.size<w2:=BO hb2.size;have r:AO w w w2:=(((Az _ w).alloc (Ad _) _).trans (eq.o.mono AD)).trans (hb2.mono (gI hz));have u:=A2 r;clear r;replace F:=keep hb2 F;replace Q:=keep hb2 Q;replace S:=keep hb2 S;replace X:=V9 hb2 hz X;replace Y:=V9 hb2 hz Y;have v2:=A2 hb2;clear hb2;cases f
 .obtain⟨q1,q2⟩:=aZl Q S (BG CW 0 (V.pieces 46 x.data.toList) c1) (A0 J 0 0);replace q1:=λo=>BR q1 o;replace q2:=λo=>BR q2 o;go_wp2;refine IT (v:=AH #[BG CW 0 (V.pieces 46 x.data.toList) c1,A0 J 0 0]) (by simp[D5,aFO,go_sem,q1,q2]) rfl ⟨_,_,rfl,?_,AA ⟨rfl,?_⟩,?_,?_⟩;.rw[D.o,<-Au.o,<-Cl.o];exact(((d.o.setCell _ 0 _ hz).setCell _ 1 _ hz).alloc _).mono A'
  .rw[D.o,<-Au.o,<-v5.o];rfl
  .exact((u.o.setCell (Ad _) _).setCell (Ad _) _).alloc Av _
  rwa[drawn_alloc,drawn_setCell,drawn_setCell]
 go_wp2_with fail;refine(aCG y m _ aPl (by rwa[lb _ _ _ A'])).mono ?_;rintro e I⟨A,rfl,Jc,h,ZB⟩;have mE:=A2 (Dn W8 (ZB));clear ZB;obtain⟨b2,c2,e2⟩:=Jc.len;have aH':=A2 Jc;clear Jc;subst e2;have j9:w.heap.size<I:=by have:=h.size;simp at this;omega
 have adD:w2.heap.size<I:=by have:=h.size;simp at this;omega
 have ack:I.frozen? ⟨w,0,J⟩=A9:=V9 h Av (a8P hz2 X _);have acm:I.frozen? ⟨w,1,J⟩=A9:=V9 h Av (a8P hz2 Y _);have aP5:Cf I (AR w) 0 (A0 J 0 0):=keep h (by rwa[lb _ _ _ hz2]);have aP7:Cf I (AR w) 1 (A0 J 0 0):=keep h (by rwa[lb _ _ _ hz2]);have Dc:Cf I (AR w2) 0 (BG CW 0 (V.pieces 46 x.data.toList) c1):=keep h AD;have HB:Cf I (AR w2) 1 (A0 J 0 0):=keep h AD;have ad0:I.frozen? ⟨w2,0,J⟩=A9:=V9 h AD AD;have dJ:I.frozen? ⟨w2,1,J⟩=A9:=V9 h AD AD;have Cs:=A2 h;clear h Q S X Y F;have z:AO w2 w2 I:=((Az _ w2).alloc (Ad _) _).trans (Cs.o.mono AD);have U:=A2 z;clear z;go_wp2;refine IT (v:=AH #[BG CW 0 (V.pieces 46 x.data.toList) c1,BG b2 0 (V.pieces 46 y.data.toList) c2]) (by simp[D5,aFO,go_sem,aP5,aP7]) rfl ⟨_,_,rfl,?_,AF ?_,?_,?_⟩;.rw[D.o,<-Au.o,<-Cl.o];exact(((d.o.later (U.o.setCell (Ad _) _)).setCell _ 0 _ hz).setCell _ 1 _ hz).mono A'
 .rw[D.o,<-Au.o,<-v5.o,if_pos rfl,<-Dm.o];exact(((aH'.o.setCell _ 1 _ AD).setCell _ 0 _ Av).setCell _ 1 _ Av).mono Av
 .exact(((u.o.trans (U.o.mono A')).setCell Av _).setCell (Ad _) _).setCell (Ad _) _
 rwa[drawn_setCell,drawn_setCell,drawn_setCell]
def aYC(s)(m)(w)(hs:s.size<=40)(hm:w.cell? ⟨0,0,J⟩=Z (AB AJ m)):Ab A6 87 #[A4 s] w λe w'=>∃I h:A3,e=AV (AH #[I,h])/\Jv w w' I (V.parts s).1/\(h=A0 J 0 0/\(V.parts s).2=[]∨Jv w w' h (V.parts s).2)/\AO w w w':=(zl s m w hs hm).mono λ_ _⟨I,h,h1,h2,h3,h4,_⟩=>⟨I,h,h1,h2,h3,h4⟩
theorem aCv{l}(h:40<l.length):V.AI l=A9:=by simp_all[V.AI,decide_eq_false,]
theorem aZy{l}(h:l.length<=40):V.AI l=(Y7 l [118]&&((V.parts l).1.length==3&&(V.parts l).1.all V.number&&(V.parts l).2.all V.mark)):=by grind[V.AI,decide_eq_true]
def a8N(s:zz)(m:Int)(w:A1)(Q:s<=BZ)(hm:w.cell? ⟨0,0,J⟩=Z (AB AJ m)):Ab A6 85 #[s] w λe w'=>e=AV (Ag (V.AI s))/\AO w w w':=by
 have hlen:s.data.toList=s.size:=AD;by_cases S:40<s.size;.have N:=A2 (aCv (l:=s) A');clear hlen;go_enter Tryz.func85,Tryz.ntmps85;go_wp2;go_ret;exact⟨EN N.o.symm,Az _ _⟩
 have N:=A2 (aZy (l:=s) A');clear hlen;cases hp:Y7 s [118];.go_enter Tryz.func85,Tryz.ntmps85;go_wp2_with(go_at_call 168;refine(Tryz.strings_HasPrefix _ _ _).mono ?_;rintro e w'⟨rfl,rfl⟩;rw[show Y7 s _=A9 from hp]);go_ret;exact⟨EN (by rw[N.o,hp];rfl),Az _ _⟩
 go_enter Tryz.func85,Tryz.ntmps85;go_wp2_with(go_at_call 168;refine(Tryz.strings_HasPrefix _ _ _).mono ?_;rintro e w'⟨rfl,rfl⟩;rw[show Y7 s _=A5 from hp]);refine(aYC s m _ A' hm).mono ?_;rintro e w1⟨El,EP,rfl,X,Y,hb⟩;have U:=A2 hb;obtain⟨f,c1,I,e1,z,Ez,MY,r,hz1,A⟩:=X;have D:=A2 z;have u:=A2 A;have x:=A2 hz1;clear z A hz1 hb;subst e1;have h:AE (((V.parts s).1.length==3)=((I:Int)==3)/\(V.parts s).1.all V.number=V.Ns V.number I):=by
  refine A2 ⟨?_,?_⟩;.rw[<-D.o,Gf,Xl,beq_iff_eq,beq_iff_eq];omega
  rw[<-D.o,V.a3O]
 rcases Y with⟨rfl,c⟩|⟨b2,c2,d,e2,c,Hj,Nz,Qt,hz2,F⟩
 .have y:=A2 c;clear c;cases h3:(I:Int)==3;.go_wp2;go_ret;exact⟨EN (by rw[N.o,h.o.1,h3,hp];rfl),U.o.alloc A' _⟩
  cases hn:V.Ns V.number I;.go_wp2_with(go_at_call 169;refine(nD f c1 I _ r x λj hj=>BR (u j hj) _).mono ?_;rintro e w'⟨rfl,rfl⟩;rw[hn]);go_ret;exact⟨EN (by rw[N.o,h.o.1,h.o.2,h3,hn,hp];rfl),U.o.alloc A' _⟩
  go_wp2_with fail;refine(nD f c1 I _ r x λj hj=>BR (u j hj) _).mono ?_;rintro e w'⟨rfl,rfl⟩;rw[hn];go_wp2_with fail;refine(aIy _).mono ?_;rintro e w'⟨rfl,rfl⟩;go_wp2;go_ret;exact⟨EN (by rw[N.o,h.o.1,h.o.2,h3,hn,y.o,hp];rfl),U.o.alloc A' _⟩
 have wt:AE ((V.parts s).2.all V.mark=V.Ns V.mark d):=by exact A2 (by rw[<-c,V.a3O])
 have mC:=A2 F;have WC:=A2 hz2;clear c F hz2;subst e2;cases h3:(I:Int)==3;.go_wp2;go_ret;exact⟨EN (by rw[N.o,h.o.1,h3,hp];rfl),U.o.alloc A' _⟩
 cases hn:V.Ns V.number I;.go_wp2_with(go_at_call 169;refine(nD f c1 I _ r x λj hj=>BR (u j hj) _).mono ?_;rintro e w'⟨rfl,rfl⟩;rw[hn]);go_ret;exact⟨EN (by rw[N.o,h.o.1,h.o.2,h3,hn,hp];rfl),U.o.alloc A' _⟩
 go_wp2_with fail;refine(nD f c1 I _ r x λj hj=>BR (u j hj) _).mono ?_;rintro e w'⟨rfl,rfl⟩;rw[hn];go_wp2_with fail;refine(aIx b2 c2 d _ Qt WC λj hj=>BR (mC j hj) _).mono ?_;rintro e w'⟨rfl,rfl⟩;go_wp2;go_ret;exact⟨EN (by rw[N.o,h.o.1,h.o.2,h3,hn,wt.o,hp];rfl),U.o.alloc A' _⟩
def uq(s)(m)(w)(hs:s.size<=BZ)(hm:w.cell? ⟨0,0,J⟩=Z (AB AJ m))(hv:V.AI s.data.toList=A5):Ab A6 43 #[A4 s] w λe w'=>e=AV (B2 J)/\AO w w w':=by go_enter Tryz.func43,Tryz.ntmps43;go_wp2_with fail;refine(a8N s m _ hs hm).mono ?_;rintro e h⟨rfl,hb⟩;go_wp2;go_ret;trivial
def nO(s)(w)(h:s.size<=281474976710656):Ab A6 86 #[A4 s] w λe w'=>e=AV s/\AO w w w':=by go_enter Tryz.func86,Tryz.ntmps86;go_wp2_with fail;refine(Tryz.stringslite_Clone s _ h).mono ?_;rintro e I⟨rfl,hb⟩;go_wp2;go_ret;trivial
theorem aTh{a b}(h:(V.lex V.KW (V.parts a).1 (V.parts b).1 !=0)=A5):V.order a b=V.lex V.KW (V.parts a).1 (V.parts b).1:=by simp_all[V.order,if_pos]
theorem aTk{a b}(h:(V.lex V.KW (V.parts a).1 (V.parts b).1 !=0)=A9):V.order a b=if(V.parts a).2.isEmpty||(V.parts b).2.isEmpty then V.Gl (V.parts b).2.length (V.parts a).2.length else V.lex V.Oh (V.parts a).2 (V.parts b).2:=by simp_all[V.order,if_neg,]
theorem a4f(L:List (zx)):L.isEmpty=((L:Int)==0):=by cases L with|nil=>rfl|cons x r=>grind
theorem a9T(h:v=A0 J 0 0/\L=[]∨Jv B w v L):∃(a:Option An)(c:Nat)(ls:List zz),v=A0 a ls c/\ls.map (·.data.toList)=L/\ls<=BZ/\(∀x∈ls,x<=BZ)/\(ls.length≠0->∃b,a=Z ⟨b,0,J⟩/\∀j,j<ls.length->w.cell? ⟨b,j,J⟩=Z (A4 (ls.getD j B7))):=by
 rcases h with⟨rfl,rfl⟩|⟨b,c,ls,e1,e2,_,_,I,h2,h3⟩;.exact⟨J,0,[],rfl,rfl,JS _,AD,λh=>absurd rfl h⟩
 grind
def qV(a b:zz)(m:Int)(w:A1)(ha:a.size<=40)(hb:b.size<=40)(hm:w.cell? ⟨0,0,J⟩=Z (AB AJ m)):Ab A6 44 #[a,b] w λe w'=>e=AV (V.order a.data.toList b.data.toList)/\AO w w w'/\w.drawn<=w'.drawn:=by
 go_enter Tryz.func44,Tryz.ntmps44;go_wp2_with fail;refine(zl a m _ ha hm).mono ?_;rintro e w1⟨El,EP,rfl,D,f,hb1,Qp⟩;have fV:=A2 Qp;clear Qp;have n3:=A2 hb1;have Ec:=keep hb1 hm;clear hb1;go_wp2_with fail;refine(zl b m _ hb Ec).mono ?_;rintro e w2⟨OE,JH,rfl,F,c,hb2,ZA⟩;have r:=A2 (Dn fV ZA);clear ZA;have v2:=A2 hb2;replace D:=D.later hb2;replace f:EP=A0 J 0 0/\(V.parts a).2=[]∨Jv (AR w) w2 EP (V.parts a).2:=by
  rcases f with h|h;.exact AA h
  exact AF (h.later hb2)
 clear hb2 Ec hm;have Q:AO w w w2:=n3.o.trans (v2.o.mono n3.o.size);have W7:=A2 Q;have li:w.heap.size<=w2:=Q.size;clear Q;obtain⟨CW,c1,u,e1,Ul,Ez,MY,Py,hz1,Eh⟩:=D;obtain⟨b2,c2,x,e2,Qo,Hj,Nz,Qt,hz2,Oo⟩:=F;have S:AE (V.lex V.KW (V.parts a).1 (V.parts b).1=V.lexB V.KW u x):=by refine A2 ?_;rw[<-Ul,<-Qo];rfl
 have Su:=A2 Eh;have mC:=A2 Oo;have YO:=A2 hz1;have WC:=A2 hz2;clear Ul Qo Eh Oo hz1 hz2;subst e1 e2;have y:AE (∀o1 o2,AO w w ((w2.alloc o1).alloc o2)):=λo1 o2=>(W7.o.alloc li _).alloc Av _;obtain⟨a3,c3,z,e3,cR,Eb,j9,U⟩:=a9T f;obtain⟨a4,c4,A,e4,N,wb,oe,d⟩:=a9T c;have X:=A2 cR;have Y:=A2 N;have aGJ:=A2 U;have aGL:=A2 d;have aH2:=A2 j9;have aH3:=A2 oe;clear f c cR N U d j9 oe;subst e3 e4;have KS:AE (((V.parts a).2.isEmpty||(V.parts b).2.isEmpty)=((z:Int)==0||(A:Int)==0)):=by refine A2 ?_;rw[a4f,a4f,<-X.o,<-Y.o,Gf,Gf]
 have I5:AE (V.Gl (V.parts b).2.length (V.parts a).2.length=V.Gl A z):=by refine A2 ?_;rw[<-X.o,<-Y.o,Gf,Gf]
 cases hx:V.lexB V.KW u x !=0
 .have I:=A2 (aTk (a:=a) (b:=b) (Ar S));go_wp2_with fail;refine(a4C CW c1 b2 c2 u x _ Py Qt YO WC (λj hj=>BR (BR (Su j hj) _) _) λj hj=>BR (BR (mC j hj) _) _).mono ?_;rintro e w'⟨rfl,rfl⟩;cases h3:(z:Int)==0
  .cases h4:(A:Int)==0;.obtain⟨C_,e3,U⟩:=aGJ (BO (beq_eq_false_iff_ne.1 h3));obtain⟨UY,e4,d⟩:=aGL (BO (beq_eq_false_iff_ne.1 h4));have aGK:=A2 U;have aGM:=A2 d;clear U d;subst e3 e4;go_wp2_with fail;refine(aKD C_ c3 UY c4 z A _ Eb wb aH2 aH3 (λj hj=>BR (BR (aGK j hj) _) _) λj hj=>BR (BR (aGM j hj) _) _).mono ?_;rintro e w'⟨rfl,rfl⟩;go_wp2;go_ret;exact⟨I0 (by rw[I.o,KS.o,h3,h4,if_neg Ac,<-X.o,<-Y.o];rfl),y _ _,r⟩
   go_wp2_with(go_at_call 90;refine(Tryz.cmp_Compare_int _ _ _).mono ?_;rintro e w'⟨rfl,rfl⟩;rw[gq]);go_ret;exact⟨I0 (by rw[I.o,KS.o,h3,h4,if_pos Ac,I5.o]),y _ _,r⟩
  go_wp2_with(go_at_call 90;refine(Tryz.cmp_Compare_int _ _ _).mono ?_;rintro e w'⟨rfl,rfl⟩;rw[gq]);go_ret;exact⟨I0 (by rw[I.o,KS.o,h3,if_pos AD,I5.o]),y _ _,r⟩
 have I:=A2 (aTh (a:=a) (b:=b) (Ar S));go_wp2_with fail;refine(a4C CW c1 b2 c2 u x _ Py Qt YO WC (λj hj=>BR (BR (Su j hj) _) _) λj hj=>BR (BR (mC j hj) _) _).mono ?_;rintro e w'⟨rfl,rfl⟩;go_wp2;go_ret;exact⟨I0 (by rw[I.o,S.o]),y _ _,r⟩
def aCt(a b)(m)(w)(ha:a.size<=40)(hb:b.size<=40)(hm:w.cell? ⟨0,0,J⟩=Z (AB AJ m)):Ab A6 44 #[A4 a,A4 b] w λe w'=>e=AV (V.order a.data.toList b.data.toList)/\AO w w w':=(qV a b m w ha hb hm).mono λ_ _⟨h1,h2,_⟩=>⟨h1,h2⟩
theorem a'3{s:zz}(h:V.AI s=A5):s.size<=40:=by
 let hlen:s.data.toList.length=s:=AD;by_cases I:s.data.toList.length<=40;.omega
 simp_all[aCv,]
def aZ1(a b:zz)(m:Int)(w:A1)(hm:w.cell? ⟨0,0,J⟩=Z (AB AJ m))(c:V.AI a=A5)(d:V.AI b=A5):Ab A6 14 #[a,b] w λe w'=>e=AV (Aj #[V.order a.data.toList b.data.toList,CN])/\AO w w w':=by have ha:=a'3 c;have hb:=a'3 d;go_enter Tryz.func14,Tryz.ntmps14;go_wp2_with fail;refine(uq a m _ DQ hm c).mono ?_;rintro e w1⟨rfl,hb1⟩;have h:=A2 hb1;have U:=keep hb1 hm;clear hb1;go_wp2_with fail;refine(uq b m _ DQ U d).mono ?_;rintro e w2⟨rfl,hb2⟩;have I:=A2 hb2;have f:=keep hb2 U;clear hb2;go_wp2_with fail;refine(aCt a b m _ ha hb f).mono ?_;rintro e w3⟨rfl,N⟩;have r:=A2 N;clear N;go_wp2;go_ret2;exact⟨rfl,(h.o.trans (I.o.mono h.o.size)).trans (r.o.mono (Dn h.o.size I.o.size))⟩
def Ue(f n:Nat):zz:=⟨(V.Uf f n).toArray⟩
def aI{b}(h:a=b):AV (A4 a)=AV (A4 b):=by rw[h]
def vA(n)(h:n<10):(Ji #[48,49,50,51,52,53,54,55,56,57]).extract n (n+1)=⟨#[V.Jy n]⟩:=by have:∀n:Fin 10,(Ji #[48,49,50,51,52,53,54,55,56,57]).extract n.val (n.val+1)=⟨#[V.Jy n.val]⟩:=Ac;exact this ⟨n,h⟩
def aKZ(f:Nat)(hf:f<=1000):∀(x:Int)(w:A1),0<=x->x<10^(f+1)->x<=1000000->Ab A6 16 #[x] w λe w'=>e=AV (A4 (Ue f x.toNat))/\∃q,w'=w.drewN q:=by
 induction f with
 |zero=>intro x w h0 N _;have U:x<10:=Ai N;obtain⟨n,rfl⟩:=a2S h0;have hn:n<10:=A';clear N;go_enter Tryz.func16,Tryz.ntmps16;go_wp2_with fail;go_ret;refine⟨aI ?_,0,rfl⟩;rw[vA n hn];rfl
 |succ f ih=>
  intro x w h0 N h6;obtain⟨n,rfl⟩:=a2S h0;have m:=A2 (ih A');have u:=A2 hf;clear ih hf;by_cases U:n<10;.have hx:n<10:=A';clear N;go_enter Tryz.func16,Tryz.ntmps16;go_wp2_with fail;go_ret;refine⟨aI ?_,0,rfl⟩;rw[vA n U,bS,Ue,V.Uf,if_pos U]
  have hx:¬n<10:=A';have hq:(n:Int)/10<10^(f+1):=by rw[Int.ediv_lt_iff_lt_mul A'];rwa[Int.pow_succ]at N
  have y:=A2 hq;clear N hq;have D:AJ.wrap (n/10)=n/10:=by rw[RU];omega
  obtain⟨r,hr,c⟩:∃r:Nat,n%10=r/\r<10:=⟨n%10,rfl,A'⟩;have BC:=A2 hr;have ht:(n:Int).tmod 10=r:=by rw[aH6 A'];omega
  have z:AJ.wrap (r+1)=r+1:=by rw[RU];omega
  have F:∀I:A1,(lG 9 (A4 ⟨#[48,49,50,51,52,53,54,55,56,57]⟩) (Z (AX r)) (Z (AX (r+1))) J).run A6 I=.ok (A4 ⟨#[V.Jy r]⟩) I:=by intro I;have h:=aG0 I 9 ⟨#[48,49,50,51,52,53,54,55,56,57]⟩ AJ AJ (r:Int) ((r:Int)+1) fI A' A' (by show _<=(10:Int);omega);rwa[show((r:Int)+1).toNat=r+1 from A',bS,vA r c]at h
  clear hr;have d:(Ue f ((n:Int)/10).toNat).size+1<=9223372036854775807:=by have:=(V.a4Q f ((n:Int)/10).toNat).2;have e:(Ue f ((n:Int)/10).toNat).size=V.Uf f ((n:Int)/10).toNat:=rfl;have Q:=u.o;omega
  have A:∀I:A1,(sF .add (Ue f ((n:Int)/10).toNat) ⟨#[V.Jy r]⟩).run A6 I=.ok (A4 (Ue f ((n:Int)/10).toNat++⟨#[V.Jy r]⟩)) I:=by exact λI=>aG1 (P:=A6) I (Ue f ((n:Int)/10).toNat) ⟨#[V.Jy r]⟩ d
  clear d;go_enter Tryz.func16,Tryz.ntmps16;go_wp2_with fail;go_quiet((go_at_call 16;exact kx (m.o _ _ A' y.o A')));go_wp2_with fail;go_ret;refine⟨aI ?_,_,rfl⟩;rw[bS,Ue,Ue,V.Uf,if_neg U,BC.o];exact aDo _ _
def sizeBuilder:(A6.info? 190).map (·.size)=Z 2:=rfl
def liesBuilder:liesAt A6 A6.depth 190 (2/A6.cellsOf 190) 0 190 1=A5:=rfl
def infoByte:(A6.info? 5).map (λi=>(i.zero,i.size,i.bytes))=Z (Z (AB Gc 0),1,1):=rfl
def aKL(b w)(h0:w.cell? ⟨b,0,J⟩=Z (B2 (Z ⟨b,0,J⟩))):Ab A6 184 #[B2 (Z ⟨b,0,J⟩)] w λe w'=>e=AV (Aj #[])/\w'=w:=by let⟨j,hj,_⟩:=Qf.1 sizeBuilder;go_enter Tryz.func184,Tryz.ntmps184;go_wp2;rw[Lib.run_neq_ptr_same w _ a1B hj];go_wp2;go_end0;exact⟨rfl,rfl⟩
def aKK(b w)(h0:w.cell? ⟨b,0,J⟩=Z (B2 J))(h:w.shape? b=Z (190,2))(N:w.frozen? ⟨b,0,J⟩=A9):Ab A6 184 #[B2 (Z ⟨b,0,J⟩)] w λe w'=>e=AV (Aj #[])/\w'=w.setCell ⟨b,0,J⟩ (B2 (Z ⟨b,0,J⟩)):=by obtain⟨j,hj,I⟩:=Qf.1 sizeBuilder;go_enter Tryz.func184,Tryz.ntmps184;go_wp2;rw[Lib.run_to_unsafe w ⟨b,0,J⟩ a1B aFR hj (by rw[I];decide) h (Nat.zero_lt_succ 1)];simp only[KO];rw[a0y];go_wp2;rw[run_callFunc_extern Tryz.func267 A8 A8 A8 (e:=rj) A8];rw[Lib.run_noEscape];simp only[KO];rw[a0y];go_wp2;rw[Lib.run_from_unsafe w ⟨b,0,J⟩ aFR a1B hj h liesBuilder];simp only[KO];rw[a0y];go_wp2;go_end0;exact⟨rfl,rfl⟩
def a4H(B b)(I)(w)(h:Mq 190 5 B b I w):Ab A6 184 #[B2 (Z ⟨b,0,J⟩)] w λe w'=>e=AV (Aj #[])/\Vt 190 5 B b (B2 (Z ⟨b,0,J⟩)) I w'/\AO B w w':=by
 rcases h with h|h;.refine(aKK b w h.cell0 h.shape h.frozen0).mono ?_;rintro e w'⟨rfl,rfl⟩;exact⟨rfl,h.used _,(Az B w).setCell h.1 _⟩
 refine(aKL b w h.cell0).mono ?_;rintro e w'⟨rfl,rfl⟩;exact⟨rfl,h,Az B _⟩
def aDI(B b:Nat)(N:List A3)(c:Int)(w:A1)(h:Mq 190 5 B b N w)(hlen:N.length+1<=140737488355328)(f:B<=w):Ab A6 102 #[B2 (Z ⟨b,0,J⟩),AB Gc c] w λe w'=>e=AV CN/\Vt 190 5 B b (B2 (Z ⟨b,0,J⟩)) (N++[AB Gc c]) w'/\AO B w w':=by
 obtain⟨i0,hi,hz0,hz1,hz2⟩:=FJ infoByte;go_enter Tryz.func102,Tryz.ntmps102;go_wp2_with(go_at_call 184;refine(a4H B b N _ h).mono ?_);rintro e I⟨rfl,h1,hb1⟩;obtain⟨hB,v,hbk,hown,hne⟩:=h1;have c0:I.cell? ⟨b,0,J⟩=Z (B2 (Z ⟨b,0,J⟩)):=Af (A_ hbk);have c1:I.cell? ⟨b,1,J⟩=Z v:=Af (A_ hbk);go_wp2_with(at_builtin;refine IU _ rfl _ _ 188 rfl B 5 i0 (AB Gc 0) 1 1 aFP hi hz0 hz1 hz2 rfl Ac _ _ _ rfl (hown.alloc _) ⟨AR I,0,J⟩ 1 1 [AB Gc c] rfl rfl ?c1 uh DQ A' ?c5 ?_);case c1=>intro j u hj;match j,hj with|0,hj=>simp at hj;subst hj;simp[Sc]
 case c5=>have:=hb1.size;simp;omega
 intro v' w2 d BN _;have hlt:b<I:=by
  rcases JR b I with U|U;.exact U
  simp[Ml U]at hbk
 have hb2:w2.heap[b]?=Z (A7 #[B2 (Z ⟨b,0,J⟩),v] 190 (0,0)):=by rwa[BN.block b Av λe=>hne e.symm,lH I _ b hlt]
 have m:w2.cell? ⟨b,0,J⟩=Z (B2 (Z ⟨b,0,J⟩)):=Af (A_ hb2);have d1:w2.cell? ⟨b,1,J⟩=Z v:=Af (A_ hb2);have f1:=C' hb2 1;obtain⟨g,cap,rfl⟩:∃g cap,v'=BG g 0 (N+1) cap:=by
  rcases d.2 with⟨_,h0⟩|⟨g,cap,cur,hv,_⟩;.omega
  exact⟨_,_,hv⟩
 go_wp2;go_ret;refine⟨rfl,?_,?_⟩;.exact aEm hB hb2 (Ai d) Ac
 exact((hb1.alloc (BO hb1.size) _).grown BN (by have:=hb1.size;simp;omega) λk hk=>(hown.lt k hk).1).setCell hB _
def a'D(B b:Nat)(N:List A3)(s:zz)(w:A1)(h:Mq 190 5 B b N w)(hlen:N+s.size<=140737488355328)(f:B<=w):Ab A6 101 #[B2 (Z ⟨b,0,J⟩),s] w λe w'=>e=AV (Aj #[s.size,CN])/\Vt 190 5 B b (B2 (Z ⟨b,0,J⟩)) (N++Lib.strCells s) w'/\AO B w w':=by
 let⟨i0,hi,hz0,hz1,hz2⟩:=FJ infoByte;go_enter Tryz.func101,Tryz.ntmps101;go_wp2_with(go_at_call 184;refine(a4H B b N _ h).mono ?_);rintro e U⟨rfl,h1,hb1⟩;let⟨hB,v,hbk,hown,hne⟩:=h1;have c0:U.cell? ⟨b,0,J⟩=Z (B2 (Z ⟨b,0,J⟩)):=Af (A_ hbk);have c1:U.cell? ⟨b,1,J⟩=v:=Af (A_ hbk);go_wp2_with(at_builtin;refine Lib.wpList_append_own_string _ rfl _ _ 188 9 rfl B 5 i0 aFP fI hi hz0 hz1 hz2 _ _ _ rfl hown s rfl DQ A' ?c5 ?_);case c5=>have:=hb1.size;omega
 intro v' w2 d BN _;have hlt:b<AR U:=by
  rcases JR b (AR U)with c|c;.exact c
  simp[Ml c]at hbk
 have hb2:w2.heap[b]?=Z (A7 #[B2 (Z ⟨b,0,J⟩),v] 190 (0,0)):=Ar (BN.block b hlt λe=>hne e.symm);have m:w2.cell? ⟨b,0,J⟩=Z (B2 (Z ⟨b,0,J⟩)):=Af (A_ hb2);have d1:w2.cell? ⟨b,1,J⟩=v:=Af (A_ hb2);have f1:=C' hb2 1;obtain⟨I,n',cap,rfl⟩:∃I n' cap,v'=A0 I n' cap:=by
  rcases d.2 with⟨hv,_⟩|⟨g,cap,cur,hv,_⟩;.exact⟨_,_,_,hv⟩
  exact⟨_,_,_,hv⟩
 go_wp2;go_ret2;refine⟨rfl,?_,?_⟩;.exact aEm hB hb2 (by simpa[Lib.strCells_length]using d) Ac
 exact(hb1.grown BN (BO hb1.size) λk hk=>(hown.lt k hk).1).setCell hB _
def zT:zz:=⟨#[109,111,100,117,108,101,32,97]⟩
def dn:zz:=⟨#[97]⟩
def bu(x:Nat):Bool:=x==32||x==9
def aQB(x:Nat)(w):Ab A6 252 #[AB .i32 (x:Int)] w λe w'=>e=AV (Ag (bu x))/\w'=w:=by
 cases I:(x:Int)==32<;>cases h2:(x:Int)==9;all_goals
  have h:AE (bu x=((x:Int)==32||(x:Int)==9)):=by refine A2 ?_;unfold bu;rw[Xl];simp;omega
  go_enter Tryz.func252,Tryz.ntmps252;go_wp2;go_ret;exact⟨EN (by rw[h.o,I,h2];rfl),rfl⟩
def aJO(w):PredAtRunes A6 252 #[] bu w:=by intro W x _ _;refine(aQB x W).mono ?_;rintro e w'⟨rfl,rfl⟩;exact⟨rfl,0,rfl⟩
theorem aL6:∀h w,(callFunc 252 h).run A6 w=.ok (.enter 252 h) w:=by simp_all
def aQ2:(A6.info? 371).map (λi=>(i.zero,i.size,i.bytes))=Z (Z (AH #[AB AJ 0,A4 B7]),2,24):=rfl
def aQN(s:zz)(w:A1):Ab A6 253 #[s] w λe w'=>e=AV (V.kind s.data.toList)/\w'=w:=by
 have h:AE (V.kind s=if s.toList==[40]then 1 else if s.toList==[41]then 2 else if s.toList==[61,62]then 3 else 0):=by refine A2 ?_;rw[Y9];rfl
 cases I:s.toList==[40]<;>cases h2:s.toList==[41]<;>cases h3:s.toList==[61,62];all_goals go_enter Tryz.func253,Tryz.ntmps253;go_wp2;go_ret;exact⟨I0 (by rw[h.o,I,h2,h3];rfl),rfl⟩
theorem a8T(s:zz)(w:A1):Ab A6 248 #[s] w λe w'=>e=AV (V.GW s.data.toList)/\w'=w:=by
 have h:AE (V.GW s=if s.toList==[109,111,100,117,108,101]then 1 else if s.toList==[114,101,113,117,105,114,101]then 2 else if s.toList==[101,120,99,108,117,100,101]then 3 else if s.toList==[114,101,112,108,97,99,101]then 4 else 0):=by refine A2 ?_;rw[Y9];rfl
 cases I:s.toList==[109,111,100,117,108,101]
 .cases h2:s.toList==[114,101,113,117,105,114,101]
  .cases h3:s.toList==[101,120,99,108,117,100,101];.cases h4:s.toList==[114,101,112,108,97,99,101];all_goals go_enter Tryz.func248,Tryz.ntmps248;go_wp2;go_ret;simp_all[h.o]
   go_enter Tryz.func248,Tryz.ntmps248;go_wp2;go_ret;exact⟨I0 (by rw[h.o,I,h2,h3];rfl),rfl⟩
  go_enter Tryz.func248,Tryz.ntmps248;go_wp2;go_ret;exact⟨I0 (by rw[h.o,I,h2];rfl),rfl⟩
 go_enter Tryz.func248,Tryz.ntmps248;go_wp2;go_ret;exact⟨I0 (by rw[h.o,I];rfl),rfl⟩
theorem V.qf:∀(l cur),(V.JI cur l).length<=l.length+if cur.isEmpty then 0 else 1
 |[],cur=>by grind[V.JI]
 |b::r,cur=>by
  rw[V.JI];split
  .split;.have:=V.qf r [];grind
   have:=V.qf r [];grind
  have:=V.qf r (cur++[b]);grind
def V.aDD(l):(V.words l).length<=l:=by have:=V.qf l [];assumption
def aKP(s)(m)(w)(hs:s.size<4294967281)(hm:w.cell? ⟨0,0,J⟩=Z (AB AJ m)):Ab A6 118 #[A4 s,A4 ⟨#[47,47]⟩] w λe w'=>∃(x y:zz)(f:Bool),e=AV (Aj #[x,y,Ag f])/\x=V.said s/\x.size<=s/\AO w w w':=by refine(Tryz.strings_Cut s ⟨#[47,47]⟩ m w hs hm).mono ?_;rintro e w'⟨rfl,n,rfl⟩;exact⟨_,_,_,rfl,rfl,(V.v7 (x:=⟨(Gv s [47,47]).1.toArray⟩) (y:=⟨(Gv s [47,47]).2.1.toArray⟩) rfl rfl (Ad _)).1,KP (Az ..) n⟩
theorem Ea(A j):(⟨A,0,J⟩:An).add j=⟨A,j,J⟩:=by cases j<;>simp[Sc]
theorem aLs(s)(w)(hs:s.size<=4294967296):Ab A6 251 #[A4 s,Br (Bo 252) #[] #[]] w λe w'=>∃(A:Nat)(h:List zz),e=AV (A0 (Z ⟨A,0,J⟩) h h)/\h.map (·.data.toList)=V.words s/\(∀j,j<h.length->w'.cell? ⟨A,j,J⟩=Z (A4 (h.getD j B7)))/\AO w w w':=by refine(Tryz.strings_FieldsFunc_runes 252 #[] aL6 bu s w hs (aJO w)).mono ?_;rintro e w'⟨A,rfl,I,hown,hb⟩;have hc:=hown.cells rfl;refine⟨A,Vu bu s,rfl,V.aLt s,λj hj=>?_,hb⟩;simp_all[List.getElem?_map,En,V.getD_at,Ea]
def Tr(h:List zz):List A3:=h.flatMap λs=>[V.kind s.data.toList,A4 s]
theorem aZS(I:List zz)(k:Nat)(h:k<I):Tr (I.take (k+1))=Tr (I.take k)++[AB AJ (V.kind (I.getD k B7).data.toList),A4 (I.getD k B7)]:=by grind[Tr,T4,V.getD_at]
def aZT(s:zz)(m:Int)(w:A1)(hs:s.size<4294967281)(hm:w.cell? ⟨0,0,J⟩=Z (AB AJ m)):Ab A6 178 #[s] w λe w'=>∃(v:A3)(I:List zz),e=AV v/\I.map (·.data.toList)=V.words (V.said s)/\w'.ownsRow w 371 2 v I (Tr I)/\AO w w w':=by
 obtain⟨i0,hi,hz0,hz1,hz2⟩:=FJ aQ2;go_enter Tryz.func178,Tryz.ntmps178;go_wp2_with fail;refine(aKP s m _ hs hm).mono ?_;rintro e w1⟨x,y,f,rfl,hx,Zc,hb1⟩;have U:=A2 hb1;have F:=A2 hx;clear hb1 hx;go_wp2_with fail;refine(aLs x _ A').mono ?_;rintro e w2⟨A,I,rfl,c,d,hb2⟩;have r:=A2 (U.o.trans (hb2.mono U.o.size));have Q:I.length<=4294967281:=by have h1:=V.aDD x;rw[<-c,Gf]at h1;have e:x.data.toList.length=x:=AD;omega
 have S:AE (I.map (·.data.toList)=V.words (V.said s)):=A2 (by rw[c,F.o]);have X:=A2 d;clear hb2 U c d;have Y:=r.o.size;go_wp2;go_loopw[6,18]λv i wr=>∃k:Nat,k<=I/\i=AX k/\wr.ownsRow w2 371 2 v k (Tr (I.take k))/\AO w2 w2 wr(λ_ i _=>I-(B0 i).toNat);case atStart=>exact⟨0,A',rfl,⟨rfl,AA ⟨rfl,rfl⟩⟩,Az ..⟩
 case round=>
  obtain⟨k,hk,rfl,hown,N⟩:=hrel;have li:=N.size;by_cases hlt:k<I
  .have LA:=keep N (X.o k hlt);have D:=A2 (aZS I k hlt);generalize hx:I.getD k B7=z at LA D;clear hx;go_wp2_with(first|(go_at_call 253;refine(aQN _ _).mono ?_;rintro e w'⟨rfl,hw'⟩;rw[hw'];clear hw' w')|(at_builtin;refine IU _ rfl _ _ 297 rfl w2 371 i0 (AH #[AX 0,A4 B7]) 2 24 Tryz.underlying297 hi hz0 hz1 hz2 rfl Ac _ _ _ rfl (hown.alloc _) ⟨wr,0,J⟩ 1 1 [AX (V.kind z),A4 z] rfl rfl ?c1 Of DQ A' Av ?_));case c1=>intro j u hj;match j,hj with|0,hj=>simp at hj;subst hj;simp[Sc]|1,hj=>simp at hj;subst hj;simp[Sc]
   intro v' w3 C2 BN _;have m5:AO w2.heap.size w2 w3:=(N.alloc li _).grown BN Av λj hj=>(hown.lt j hj).1;clear BN;go_wp2;go_roundw;case rel=>exact⟨k+1,A',BV,Ar D.o,m5⟩
   case measure=>simp[B0];omega
  have Es:k=I.length:=A';go_wp2;go_ret;rw[Es,Hb]at hown;refine⟨_,I,rfl,S.o,⟨hown.1,?_⟩,r.o.trans (N.mono Y)⟩;rcases hown.2 with h|⟨g,cap,cur,e,hb,hr⟩;.exact AA h
  exact AF ⟨g,cap,cur,e,A',hr⟩
def aQ1:(A6.info? 301).map (λi=>(i.zero,i.size,i.bytes))=Z (Z (AH #[AB AJ 0,CN]),2,24):=rfl
def Hx(w:A1)(g h:Nat)(I:List zz):Prop:=∀j,j<I.length->w.cell? ⟨g,h+j*2,J⟩=Z (AB AJ (V.kind (I.getD j B7).data.toList))/\w.cell? ⟨g,h+j*2+1,J⟩=Z (A4 (I.getD j B7))
def Hx.later{off:Nat}(h:Hx w g off em)(hb:AO w w w'):Hx w' g off em:=λj hj=>⟨keep hb (h j hj).1,keep hb (h j hj).2⟩
def Hx.alloc{w g off em}(h:Hx w g off em)(o):Hx (w.alloc o) g off em:=h.later ((Az ..).alloc (Ad _) _)
theorem aM1(h:em.length≠HD):V.fit em HD=A9:=by unfold V.fit;grind
theorem aM0(N:k<em)(I:k<HD)(h:V.kind (em.getD k B7)≠HD.getD k 0):V.fit em HD=A9:=by unfold V.fit;grind
theorem aM'(hl:em.length=HD)(h:∀j,j<HD.length->V.kind (em.getD j B7)=HD.getD j 0):V.fit em HD=A5:=by
 unfold V.fit;rw[beq_iff_eq];apply List.ext_getElem;.simpa using hl
 grind
def N7(g U c b kc:Nat)(I:List zz)(h:List Int)(w:A1)(r:I.length<=1000000000000)(u:h.length<=100)(ht:Hx w g U I)(hk:∀j,j<h.length->w.cell? ⟨b,j,J⟩=Z (AB AJ (h.getD j 0))):Ab A6 342 #[A0 (Z ⟨g,U,J⟩) I c,A0 (Z ⟨b,0,J⟩) h kc] w λe w'=>e=AV (Ag (V.fit I h))/\w'=w:=by
 cases hne:I.length !=h.length
 .have hlen:=by have:=bne_eq_false_iff_eq.1 hne;omega
  have d:=A2 hlen;have Au:=A2 ht;have z:=A2 hk;have i0:=A';have i1:h.length<=I:=A';clear hlen ht hk;go_enter Tryz.func342,Tryz.ntmps342;go_wp2;go_loop[14]λi=>∃k:Nat,k<=h/\i=AX k/\AE (∀j,j<k->V.kind (I.getD j B7)=h.getD j 0)(λi=>h-(B0 i).toNat);case atStart=>exact⟨0,A',rfl,λj hj=>A'⟩
  case round=>
   obtain⟨k,hk,rfl,H⟩:=hrel;by_cases hlt:k<h
   .have A:=(Au k A').1;have k0:=z k hlt;generalize hx:V.kind (I.getD k B7)=x at A;generalize hy:h.getD k 0=y at k0;have f:=A2 hx;have N:=A2 hy;clear hx hy;cases m:x !=y
    .go_wp2;go_round;case rel=>
      refine⟨k+1,A',BV,λj hj=>?_⟩;by_cases e:j=k;.subst e;rw[f.o,N.o];exact bne_eq_false_iff_eq.1 m
      exact H j A'
     case measure=>simp[B0];omega
    go_wp2;go_ret;exact⟨EN (aM0 A' hlt (by rw[f.o,N.o];exact bne_iff_ne.1 m)).symm,rfl⟩
   go_wp2;go_ret;exact⟨EN (aM' d λj hj=>H j A').symm,rfl⟩
 have D:=A2 (aM1 (BO (bne_iff_ne.1 hne)));go_enter Tryz.func342,Tryz.ntmps342;go_wp2;go_ret;exact⟨EN D.o.symm,rfl⟩
def Xb:Option (Nat×List zz)->A3|Z (t,fs)=>Aj #[DD t (AH (fs.map A4).toArray),Ag A5]|J=>Aj #[CN,Ag A9]
theorem hA(h:V.fit em HD=A5):em.length=HD:=by unfold V.fit at h;grind
def aSN(g I c:Nat)(h:List zz)(w:A1)(hl:h.length<=1000000000000)(ht:Hx w g I h):Ab A6 343 #[AB AJ 2,A0 (Z ⟨g,I,J⟩) h c] w λe w'=>e=AV (Xb (V.Eu 2 h))/\AO w w w':=by
 cases hf:V.fit h [0,0]
 .have N:AE (V.Eu 2 h=J):=by refine A2 ?_;unfold V.Eu;rw[hf];rfl
  have Au:=A2 ht;clear ht;go_enter Tryz.func343,Tryz.ntmps343;go_wp2_with fail;refine(N7 g I c _ 2 h [0,0] _ hl Ac (Au.o.alloc _) λj hj=>by match j,hj with|0,_=>simp|1,_=>simp).mono ?_;rintro e w1⟨rfl,U⟩;rw[U,hf];clear U w1;go_wp2;go_ret2;exact⟨Af N,(Az _ _).alloc (Ad _) _⟩
 have hlen:=hA hf;have N:AE (V.Eu 2 h=Z (221,[h.getD 0 B7,h.getD 1 B7])):=by refine A2 ?_;unfold V.Eu;rw[hf];rfl
 have f:(2:Int)<=(h:Int):=by rw[hlen];decide
 have d:=λo=>BR (ht 0 (by rw[hlen];decide)).2 o;have t1:=λo=>BR (ht 1 (by rw[hlen];decide)).2 o;have Au:=A2 ht;clear ht hlen;generalize h.getD 0 B7=x0 at N d;generalize h.getD 1 B7=x1 at N t1;go_enter Tryz.func343,Tryz.ntmps343;go_wp2_with fail;refine(N7 g I c _ 2 h [0,0] _ hl Ac (Au.o.alloc _) λj hj=>by match j,hj with|0,_=>simp|1,_=>simp).mono ?_;rintro e w1⟨rfl,U⟩;rw[U,hf];clear U w1;go_wp2_with fail;go_quiet(fail);go_wp2;go_ret2;exact⟨Af N,KP ((Az _ _).alloc (Ad _) _) _⟩
def aSI(g I c:Nat)(h:List zz)(w:A1)(hl:h.length<=1000000000000)(ht:Hx w g I h):Ab A6 343 #[AB AJ 3,A0 (Z ⟨g,I,J⟩) h c] w λe w'=>e=AV (Xb (V.Eu 3 h))/\AO w w w':=by
 cases hf:V.fit h [0,0]
 .have N:AE (V.Eu 3 h=J):=by refine A2 ?_;unfold V.Eu;rw[hf];rfl
  have Au:=A2 ht;clear ht;go_enter Tryz.func343,Tryz.ntmps343;go_wp2_with fail;refine(N7 g I c _ 2 h [0,0] _ hl Ac (Au.o.alloc _) λj hj=>by match j,hj with|0,_=>simp|1,_=>simp).mono ?_;rintro e w1⟨rfl,U⟩;rw[U,hf];clear U w1;go_wp2;go_ret2;exact⟨Af N,(Az _ _).alloc (Ad _) _⟩
 have hlen:=hA hf;have N:AE (V.Eu 3 h=Z (222,[h.getD 0 B7,h.getD 1 B7])):=by refine A2 ?_;unfold V.Eu;rw[hf];rfl
 have f:(2:Int)<=(h:Int):=by rw[hlen];decide
 have d:=λo=>BR (ht 0 (by rw[hlen];decide)).2 o;have t1:=λo=>BR (ht 1 (by rw[hlen];decide)).2 o;have Au:=A2 ht;clear ht hlen;generalize h.getD 0 B7=x0 at N d;generalize h.getD 1 B7=x1 at N t1;go_enter Tryz.func343,Tryz.ntmps343;go_wp2_with fail;refine(N7 g I c _ 2 h [0,0] _ hl Ac (Au.o.alloc _) λj hj=>by match j,hj with|0,_=>simp|1,_=>simp).mono ?_;rintro e w1⟨rfl,U⟩;rw[U,hf];clear U w1;go_wp2_with fail;go_quiet(fail);go_wp2;go_ret2;exact⟨Af N,KP ((Az _ _).alloc (Ad _) _) _⟩
def aSK(g I c:Nat)(h:List zz)(w:A1)(hl:h.length<=1000000000000)(ht:Hx w g I h):Ab A6 343 #[AB AJ 1,A0 (Z ⟨g,I,J⟩) h c] w λe w'=>e=AV (Xb (V.Eu 1 h))/\AO w w w':=by
 cases hf:V.fit h [0]
 .have U:AE (V.Eu 1 h=J):=by refine A2 ?_;unfold V.Eu;rw[hf];rfl
  have Au:=A2 ht;clear ht;go_enter Tryz.func343,Tryz.ntmps343;go_wp2_with fail;refine(N7 g I c _ 1 h [0] _ hl Ac (Au.o.alloc _) λj hj=>by match j,hj with|0,_=>simp).mono ?_;rintro e w1⟨rfl,N⟩;rw[N,hf];clear N w1;go_wp2;go_ret2;exact⟨Af U,(Az ..).alloc (Ad _) _⟩
 have hlen:=hA hf;have U:AE (V.Eu 1 h=Z (123,[h.getD 0 B7])):=by refine A2 ?_;unfold V.Eu;rw[hf];rfl
 have f:1<=h.length:=by rw[hlen];decide
 have d:=λo=>BR (ht 0 (by rw[hlen];decide)).2 o;have Au:=A2 ht;clear ht hlen;generalize h.getD 0 B7=x0 at U d;go_enter Tryz.func343,Tryz.ntmps343;go_wp2_with fail;refine(N7 g I c _ 1 h [0] _ hl Ac (Au.o.alloc _) λj hj=>by match j,hj with|0,_=>simp).mono ?_;rintro e w1⟨rfl,N⟩;rw[N,hf];clear N w1;go_wp2;go_ret2;exact⟨Af U,(Az ..).alloc (Ad _) _⟩
def aSL(v:A3)(h:List zz)(w:A1):Ab A6 343 #[AB AJ 0,v] w λe w'=>e=AV (Xb (V.Eu 0 h))/\AO w w w':=by go_enter Tryz.func343,Tryz.ntmps343;go_wp2;go_ret2;exact⟨rfl,Az ..⟩
def aSM(g I c:Nat)(h:List zz)(w:A1)(hl:h.length<=1000000000000)(ht:Hx w g I h):Ab A6 343 #[AB AJ 4,A0 (Z ⟨g,I,J⟩) h c] w λe w'=>e=AV (Xb (V.Eu 4 h))/\AO w w w':=by
 have Au:=A2 ht;cases hf:V.fit h [0,3,0,0]
 .cases d:V.fit h [0,0,3,0,0]
  .have U:AE (V.Eu 4 h=J):=by refine A2 ?_;unfold V.Eu;rw[hf,d];rfl
   clear ht;go_enter Tryz.func343,Tryz.ntmps343;go_wp2_with fail;refine(N7 g I c _ 4 h [0,3,0,0] _ hl Ac (Au.o.alloc _) λj hj=>by match j,hj with|0,_=>simp|1,_=>simp|2,_=>simp|3,_=>simp).mono ?_;rintro e w1⟨rfl,N⟩;rw[N,hf];clear N w1;go_wp2_with fail;refine(N7 g I c _ 5 h [0,0,3,0,0] _ hl Ac ((Au.o.alloc _).alloc _) λj hj=>by match j,hj with|0,_=>simp|1,_=>simp|2,_=>simp|3,_=>simp|4,_=>simp).mono ?_;rintro e w1⟨rfl,N⟩;rw[N,d];clear N w1;go_wp2;go_ret2;exact⟨Af U,((Az _ _).alloc (Ad _) _).alloc AD _⟩
  have hlen:=hA d;have U:AE (V.Eu 4 h=Z (224,[h.getD 0 B7,h.getD 1 B7,h.getD 3 B7,h.getD 4 B7])):=by refine A2 ?_;unfold V.Eu;rw[hf,d];rfl
  have m:(5:Int)<=(h:Int):=by rw[hlen];decide
  have f:=λo1 o2=>BR (BR (ht 0 (by rw[hlen];decide)).2 o1) o2;have t1:=λo1 o2=>BR (BR (ht 1 (by rw[hlen];decide)).2 o1) o2;have t3:=λo1 o2=>BR (BR (ht 3 (by rw[hlen];decide)).2 o1) o2;have r:=λo1 o2=>BR (BR (ht 4 (by rw[hlen];decide)).2 o1) o2;clear ht hlen;generalize h.getD 0 B7=x0 at U f;generalize h.getD 1 B7=x1 at U t1;generalize h.getD 3 B7=x3 at U t3;generalize h.getD 4 B7=x4 at U r;go_enter Tryz.func343,Tryz.ntmps343;go_wp2_with fail;refine(N7 g I c _ 4 h [0,3,0,0] _ hl Ac (Au.o.alloc _) λj hj=>by match j,hj with|0,_=>simp|1,_=>simp|2,_=>simp|3,_=>simp).mono ?_;rintro e w1⟨rfl,N⟩;rw[N,hf];clear N w1;go_wp2_with fail;refine(N7 g I c _ 5 h [0,0,3,0,0] _ hl Ac ((Au.o.alloc _).alloc _) λj hj=>by match j,hj with|0,_=>simp|1,_=>simp|2,_=>simp|3,_=>simp|4,_=>simp).mono ?_;rintro e w1⟨rfl,N⟩;rw[N,d];clear N w1;go_wp2_with fail;go_quiet(fail);go_wp2;go_ret2;exact⟨Af U,KP (((Az _ _).alloc (Ad _) _).alloc AD _) _⟩
 have hlen:=hA hf;have U:AE (V.Eu 4 h=Z (224,[h.getD 0 B7,⟨#[]⟩,h.getD 2 B7,h.getD 3 B7])):=by refine A2 ?_;unfold V.Eu;rw[hf];rfl
 have u:(4:Int)<=(h:Int):=by rw[hlen];decide
 have f:=λo=>BR (ht 0 (by rw[hlen];decide)).2 o;have t2:=λo=>BR (ht 2 (by rw[hlen];decide)).2 o;have t3:=λo=>BR (ht 3 (by rw[hlen];decide)).2 o;clear ht hlen;generalize h.getD 0 B7=x0 at U f;generalize h.getD 2 B7=x2 at U t2;generalize h.getD 3 B7=x3 at U t3;go_enter Tryz.func343,Tryz.ntmps343;go_wp2_with fail;refine(N7 g I c _ 4 h [0,3,0,0] _ hl Ac (Au.o.alloc _) λj hj=>by match j,hj with|0,_=>simp|1,_=>simp|2,_=>simp|3,_=>simp).mono ?_;rintro e w1⟨rfl,N⟩;rw[N,hf];clear N w1;go_wp2_with fail;go_quiet(fail);go_wp2;go_ret2;exact⟨Af U,KP ((Az _ _).alloc (Ad _) _) _⟩
def SY(l:List (Nat×Nat×List zz)):List A3:=l.flatMap λx=>[(x.1:Int),DD x.2.1 (AH (x.2.2.map A4).toArray)]
theorem aYe(l)(x):SY (l++[x])=SY l++[AB AJ (x.1:Int),DD x.2.1 (AH (x.2.2.map A4).toArray)]:=by grind[SY]
structure F2(hH base:Nat)(w w':A1):Prop where
 below:AO hH w w'
 yK:∀k,hH<k->k<base->w'.heap[k]?=w.heap[k]?
theorem F2.refl(I h)(w):F2 I h w w:=⟨Az ..,λ_ _ _=>rfl⟩
def F2.trans{hH base a b c}(h:F2 hH base a b)(k:F2 hH base b c):F2 hH base a c:=⟨h.below.trans k.below,λi I h2=>(k.yK i I h2).trans (h.yK i I h2)⟩
def F2.new{base}(I:hH<base)(h2:base<=B)(h:AO B w w'):F2 hH base w w':=⟨h.mono A',λi _ hi=>h.block i A'⟩
def F2.alloc{hH base:Nat}{a w:A1}(h:F2 hH base a w)(I:hH<base)(h2:base<=w)(o):F2 hH base a (w.alloc o):=h.trans (F2.new I h2 ((Az ..).alloc (Ad _) o))
def F2.setCell{hH base a w}(h:F2 hH base a w)(k)(v):F2 hH base a (w.setCell ⟨hH,k,J⟩ v):=h.trans ⟨(Az ..).setCell (p:=⟨hH,k,J⟩) (Ad _) v,λi hi _=>DC _ _ _ _ BA⟩
def F2.grown{hH base:Nat}{a w w':A1}{row:Option Nat}(h:F2 hH base a w)(hg:w.grownBy w' row)(I:hH<base)(h2:base<=w)(hr:∀k,row=Z k->base<=k):F2 hH base a w':=h.trans (F2.new I (Ad _) ((Az base w).grown hg h2 hr))
def GF(w:A1)(N h:Nat)(st I:Int)(l:List (Nat×Nat×List zz)):Prop:=N<h/\h<=w/\∃v,w.heap[N]?=Z (A7 #[st,I,v] 295 (0,0))/\w.ownsRow h 301 2 v l (SY l)
def a9b(kw)(N:kw=0∨kw=1∨kw=2∨kw=3∨kw=4)(g h c)(I)(w)(hl:I.length<=1000000000000)(ht:Hx w g h I):Ab A6 343 #[AB AJ kw,A0 (Z ⟨g,h,J⟩) I c] w λe w'=>e=AV (Xb (V.Eu kw I))/\AO w w w':=by
 rcases N with rfl|rfl|rfl|rfl|rfl;.exact aSL _ I w
 .exact aSK g h c I w hl ht
 .exact aSN g h c I w hl ht
 .exact aSI g h c I w hl ht
 exact aSM g h c I w hl ht
def gZ(n:Nat)(kw st blk:Int)(A:kw=0∨kw=1∨kw=2∨kw=3∨kw=4)(g off c N I:Nat)(em:List zz)(l:List (Nat×Nat×List zz))(w:A1)(hl:em.length<=1000000000000)(Y:l.length<=1000000000000)(ht:Hx w g off em)(hp:GF w N I st blk l):Ab A6 250 #[B2 (Z ⟨N,0,J⟩),(n:Int),kw,A0 (Z ⟨g,off,J⟩) em c] w λe w'=>e=AV (Ag (V.added n kw em l).1)/\GF w' N I st blk (V.added n kw em l).2/\F2 N I w w':=by
 obtain⟨i0,hi,hz0,hz1,hz2⟩:=FJ aQ1;obtain⟨hpbb,hbase,v,hpb,hown⟩:=hp;have D:=B3 hpb;cases m:V.Eu kw em with
 |none=>
  have r:AE (V.added n kw em l=(A9,l)):=by refine A2 ?_;unfold V.added;rw[m]
  have y:=A2 hpb;have f:=A2 hown;clear hpb hown;go_enter Tryz.func250,Tryz.ntmps250;go_wp2_with fail;refine(a9b kw A g off c em _ hl ht).mono ?_;rintro e w1⟨rfl,hb1⟩;rw[m,Xb];have d:=A2 hb1;clear hb1;go_wp2;go_ret;refine⟨EN (by rw[r.o]),?_,F2.new hpbb hbase d.o⟩;rw[r.o];refine⟨hpbb,Dn hbase d.o.size,v,Ar (d.o.block N D),f.o.1,?_⟩;rcases f.o.2 with h|⟨U,cap,cur,e,hb,hg,hr⟩;.exact AA h
  exact AF ⟨U,cap,cur,e,hb,Ar (d.o.block U (B3 hg)),hr⟩
 |some x=>
  obtain⟨t,fs⟩:=x;have r:AE (V.added n kw em l=(A5,l++[(n,t,fs)])):=by refine A2 ?_;unfold V.added;rw[m]
  have y:=A2 hpb;have f:=A2 hown;clear hpb hown;go_enter Tryz.func250,Tryz.ntmps250;go_wp2_with fail;refine(a9b kw A g off c em _ hl ht).mono ?_;rintro e w1⟨rfl,hb1⟩;rw[m,Xb];have S:w1.heap[N]?=Z (A7 #[st,blk,v] 295 (0,0)):=Ar (hb1.block N D);have hown:w1.ownsRow I 301 2 v l (SY l):=by
   refine⟨f.o.1,?_⟩;rcases f.o.2 with h|⟨U,cap,cur,e,hb,hg,hr⟩;.exact AA h
   exact AF ⟨U,cap,cur,e,hb,Ar (hb1.block U (B3 hg)),hr⟩
  have hz:=hb1.size;have d:=A2 hb1;clear hb1;have c2:w1.cell? ⟨N,2,J⟩=Z v:=Af (A_ S);have F:=A2 hown;go_wp2_with(at_builtin;refine IU _ rfl _ _ 171 rfl I 301 i0 (AH #[AX 0,CN]) 2 24 Tryz.underlying171 hi hz0 hz1 hz2 rfl Ac _ _ _ rfl (F.o.alloc _) ⟨w1,0,J⟩ 1 1 [AX n,DD t (AH (fs.map A4).toArray)] rfl rfl ?c1 Of DQ A' Av ?_);case c1=>intro j u hj;match j,hj with|0,hj=>simp at hj;subst hj;simp[Sc]|1,hj=>simp at hj;subst hj;simp[Sc]
  intro v' w2 Q BN _;have hlt:=F.o.lt;have z:w2.heap[N]?=Z (A7 #[st,blk,v] 295 (0,0)):=by rwa[BN.block N Av λe=>BO ((hlt N e.symm).1),lH w1 _ N A']
  have d2:w2.cell? ⟨N,2,J⟩=Z v:=Af (A_ z);have f2:w2.frozen? ⟨N,2,J⟩=A9:=C' z 2;obtain⟨U,cap,rfl⟩:∃U cap,v'=BG U 0 (l+1) cap:=by
   rcases Q.2 with⟨_,h0⟩|⟨U,cap,cur,hv,_⟩;.omega
   exact⟨_,_,hv⟩
  go_wp2;go_ret;rw[r.o];have X:=BN.size;refine⟨rfl,⟨hpbb,by simp at X;simp[World.setCell];omega,BG U 0 (l+1) cap,?_,?_⟩,?_⟩;.rw[CO _ _ _ _ _ _ z];rfl
  .rw[aYe,DV];exact a1I Q hpbb _
  exact(((F2.new hpbb hbase d.o).alloc hpbb A' _).grown BN hpbb Av λk hk=>(hlt k hk).1).setCell 2 _
theorem GF.lt{base:Nat}{st:Int}{l:List (Nat×Nat×List zz)}(h:GF w hH base st blk l):hH<w:=by let⟨_,_,v,hpb,_⟩:=h;grind
theorem GF.later{base:Nat}{st:Int}{l:List (Nat×Nat×List zz)}(h:GF w hH base st blk l)(hb:AO w w w'):GF w' hH base st blk l:=by
 let⟨hpbb,hbase,v,hpb,ho⟩:=h;refine⟨hpbb,Dn hbase hb.size,v,Ar (hb.block hH h.lt),ho.1,?_⟩;rcases ho.2 with h|⟨I,cap,cur,e,N,hg,hr⟩;.grind
 exact AF ⟨I,cap,cur,e,N,Ar (hb.block I (B3 hg)),hr⟩
theorem GF.state{base st l}(h:GF w hH base st blk l)(x):GF (w.setCell ⟨hH,0,J⟩ (AB AJ x)) hH base x blk l:=by let⟨hpbb,hbase,v,hpb,ho⟩:=h;refine⟨hpbb,by simp_all,v,?_,a1I ho hpbb _⟩;rw[CO _ _ _ _ _ _ hpb];rfl
theorem GF.block{base st l}(h:GF w hH base st blk l)(x):GF (w.setCell ⟨hH,1,J⟩ (AB AJ x)) hH base st x l:=by let⟨hpbb,hbase,v,hpb,ho⟩:=h;refine⟨hpbb,by simp_all,v,?_,a1I ho hpbb _⟩;rw[CO _ _ _ _ _ _ hpb];rfl
def GF.cell0{base st l}(h:GF w hH base st blk l):w.cell? ⟨hH,0,J⟩=Z (AB AJ st):=by let⟨_,_,v,hpb,_⟩:=h;rw[A_ hpb];rfl
def GF.cell1{base st l}(h:GF w hH base st blk l):w.cell? ⟨hH,1,J⟩=Z (AB AJ blk):=by let⟨_,_,v,hpb,_⟩:=h;rw[A_ hpb];rfl
def GF.soft{base st l}(h:GF w hH base st blk l)(k):w.frozen? ⟨hH,k,J⟩=A9:=by let⟨_,_,v,hpb,_⟩:=h;exact C' hpb k
def Hx.set{off}(h:Hx w g off em)(hne:hH≠g):Hx (w.setCell ⟨hH,k,J⟩ v) g off em:=by
 intro j hj;refine⟨?_,?_⟩;.rw[Vz _ _ _ _ λe=>BA];exact(h j hj).1
 rw[Vz _ _ _ _ λe=>by injection e;omega];exact(h j hj).2
def pS(kw:Int)(f:kw=0∨kw=1∨kw=2∨kw=3∨kw=4)(g I c:Nat)(h:List zz)(w:A1)(hl:h.length<=1000000000000)(ht:Hx w g I h):Ab A6 249 #[kw,A0 (Z ⟨g,I,J⟩) h c] w λe w'=>e=AV (Ag (V.opens kw h))/\AO w w w':=by
 have Au:=A2 ht;clear ht;have d:AE (V.opens 2 h=V.fit h [1]/\V.opens 3 h=V.fit h [1]/\V.opens 4 h=V.fit h [1]):=A2 ⟨rfl,rfl,rfl⟩;rcases f with rfl|rfl|rfl|rfl|rfl;.go_enter Tryz.func249,Tryz.ntmps249;go_wp2;go_ret;exact⟨rfl,Az ..⟩
 .go_enter Tryz.func249,Tryz.ntmps249;go_wp2;go_ret;exact⟨rfl,Az ..⟩
 .go_enter Tryz.func249,Tryz.ntmps249;go_wp2_with fail;refine(N7 g I c _ 1 h [1] _ hl Ac (Au.o.alloc _) λj hj=>by match j,hj with|0,_=>simp).mono ?_;rintro e U⟨rfl,N⟩;rw[N];clear N U;go_wp2;go_ret;exact⟨EN d.o.1.symm,(Az ..).alloc (Ad _) _⟩
 .go_enter Tryz.func249,Tryz.ntmps249;go_wp2_with fail;refine(N7 g I c _ 1 h [1] _ hl Ac (Au.o.alloc _) λj hj=>by match j,hj with|0,_=>simp).mono ?_;rintro e U⟨rfl,N⟩;rw[N];clear N U;go_wp2;go_ret;exact⟨EN d.o.2.1.symm,(Az ..).alloc (Ad _) _⟩
 go_enter Tryz.func249,Tryz.ntmps249;go_wp2_with fail;refine(N7 g I c _ 1 h [1] _ hl Ac (Au.o.alloc _) λj hj=>by match j,hj with|0,_=>simp).mono ?_;rintro e U⟨rfl,N⟩;rw[N];clear N U;go_wp2;go_ret;exact⟨EN d.o.2.2.symm,(Az ..).alloc (Ad _) _⟩
def aYv(n:Nat)(h:Int)(r:h=0∨h=1∨h=2∨h=3∨h=4)(g c hH N:Nat)(I:List zz)(l:List (Nat×Nat×List zz))(w:A1)(hl:I.length<=1000000000000)(u:l.length<=1000000000000)(ht:Hx w g 0 I)(hp:GF w hH N 2 h l):Ab A6 247 #[B2 (Z ⟨hH,0,J⟩),(n:Int),A0 (Z ⟨g,0,J⟩) I c] w λe w'=>e=AV (Ag (V.NP n I h l).1)/\GF w' hH N (V.NP n I h l).2.1 (V.NP n I h l).2.2.1 (V.NP n I h l).2.2.2/\F2 hH N w w':=by
 have Au:=A2 ht;have U:=A2 hp;clear ht hp;cases hf:V.fit I [2]
 .have f:AE (V.NP n I h l=((V.added n h I l).1,2,h,(V.added n h I l).2)):=by refine A2 ?_;unfold V.NP;rw[hf];rfl
  have c1:=λo=>BR U.o.cell1 o;go_enter Tryz.func247,Tryz.ntmps247;go_wp2_with fail;refine(N7 g 0 c _ 1 I [2] _ hl Ac (Au.o.alloc _) λj hj=>by match j,hj with|0,_=>simp).mono ?_;rintro e w1⟨rfl,d⟩;rw[d,hf];clear d w1;go_wp2_with fail;refine(gZ n h 2 h r g 0 c hH N I l _ hl u (Au.o.alloc _) (U.o.later ((Az ..).alloc (Ad _) _))).mono ?_;rintro e w2⟨rfl,m,hb2⟩;have x:=A2 m;have y:=A2 hb2;clear m hb2;go_wp2;go_ret;rw[f.o];exact⟨rfl,x.o,((F2.refl ..).alloc U.o.1 U.o.2.1 _).trans y.o⟩
 have f:AE (V.NP n I h l=(A5,1,h,l)):=by refine A2 ?_;unfold V.NP;rw[hf];rfl
 have c0:=λo=>BR U.o.cell0 o;have f0:=λo=>(U.o.later ((Az ..).alloc (Ad _) o)).soft 0;go_enter Tryz.func247,Tryz.ntmps247;go_wp2_with fail;refine(N7 g 0 c _ 1 I [2] _ hl Ac (Au.o.alloc _) λj hj=>by match j,hj with|0,_=>simp).mono ?_;rintro e w1⟨rfl,d⟩;rw[d,hf];clear d w1;go_wp2;go_ret;rw[f.o];exact⟨rfl,(U.o.later ((Az ..).alloc (Ad _) _)).state 1,((F2.refl ..).alloc U.o.1 U.o.2.1 _).setCell 0 _⟩
theorem a8S(l):V.GW l=0∨V.GW l=1∨V.GW l=2∨V.GW l=3∨V.GW l=4:=by grind[V.GW]
theorem Hx.tail{x rest}(h:Hx w g 0 (x::rest)):Hx w g 2 rest:=by intro j hj;have:=h (j+1) Av;grind
def aCY(n:Nat)(st h:Int)(hst:st=0∨st=1)(g c N U:Nat)(x:zz)(rest:List zz)(l:List (Nat×Nat×List zz))(w:A1)(hl:rest.length<=100000000000)(hc:rest+1<=c)(GO:l.length<=1000000000000)(a6n:N≠g)(ht:Hx w g 0 (x::rest))(hp:GF w N U st h l):Ab A6 177 #[B2 (Z ⟨N,0,J⟩),(n:Int),A0 (Z ⟨g,0,J⟩) (rest+1) c] w λe w'=>e=AV (Ag (V.D_ n (x::rest) st h l).1)/\GF w' N U (V.D_ n (x::rest) st h l).2.1 (V.D_ n (x::rest) st h l).2.2.1 (V.D_ n (x::rest) st h l).2.2.2/\F2 N U w w':=by
 have Ma:=hp.lt;have h1:=Ai ((ht 0 AD).2);have p4:=hp.cell0;have Au:=A2 ht.tail;have S:=A2 hp;clear ht hp;have hk:=a8S x;have Q:=A2 hk;have y:AE (V.D_ n (x::rest) st h l=if V.GW x==1&&st !=0 then(A9,st,h,l)else if V.opens (V.GW x) rest then(A5,2,V.GW x,l)else((V.added n (V.GW x) rest l).1,1,h,(V.added n (V.GW x) rest l).2)):=by refine A2 ?_;rcases hst with rfl|rfl<;>rfl
 have j6:(st==2)=A9:=by rcases hst with rfl|rfl<;>rfl
 have q1:=A';clear hk;by_cases Eh:c=1
 .subst Eh;have BC:AE (rest=[]):=aHO A';go_enter Tryz.func177,Tryz.ntmps177;go_wp2_with fail;go_quiet((go_at_call 248;exact Vh (a8T _ _)));have f:AE (GF (w.drewN nq) N U st h l):=S.o.later (KP (Az _ w) nq);have X:Cf (w.drewN nq) N 0 (AX st):=f.o.cell0;have r:AE (Hx (w.drewN nq) g 2 rest):=Au.o.later (KP (Az _ w) nq);have u:=A2 (F2.new S.o.1 S.o.2.1 (KP (Az _ w) nq));have xF:N<AR (w.drewN nq):=f.o.lt;clear h1 p4 Au S Ma;generalize w.drewN nq=CU at f X r u xF⊢;generalize V.GW x=I at Q y⊢;cases Y:I==1
  .have z:AE ((I==1&&st !=0)=A9):=Af Y;go_wp2_with fail;refine(pS I Q g 0 0 [] _ (by first|decide|omega) λj hj=>absurd hj (gJ j)).mono ?_;rintro e w2⟨rfl,hb2⟩;have d:=A2 (f.o.later hb2);have fj:=A2 (r.o.later hb2);have e0:Cf w2 N 0 (AX st):=d.o.cell0;have e1:Cf w2 N 1 (AX h):=d.o.cell1;have f0:w2.frozen? ⟨N,0,J⟩=A9:=d.o.soft 0;have f1:w2.frozen? ⟨N,1,J⟩=A9:=d.o.soft 1;have A:=A2 (u.o.trans (F2.new f.o.1 f.o.2.1 hb2));clear hb2 X f r u;cases ho:V.opens I []
   .have m:AE (V.D_ n (x::rest) st h l=((V.added n I [] l).1,1,h,(V.added n I [] l).2)):=by refine A2 ?_;rw[y.o,BC.o,ho,z.o];rfl
    go_wp2_with fail;refine(gZ n I 1 h Q g 0 0 N U [] l _ (by first|decide|omega) GO (λj hj=>absurd hj (gJ j)) (d.o.state 1)).mono ?_;rintro e w3⟨rfl,D,F⟩;have Rf:=A2 D;have Cs:=A2 ((A.o.setCell 0 (AX 1)).trans F);clear D F;go_wp2;go_ret;rw[m.o];exact⟨rfl,Rf,Cs⟩
   have m:AE (V.D_ n (x::rest) st h l=(A5,2,I,l)):=by refine A2 ?_;rw[y.o,BC.o,ho,z.o];rfl
   go_wp2;go_ret;rw[m.o];exact⟨rfl,(d.o.state 2).block I,(A.o.setCell 0 (AX 2)).setCell 1 (AX I)⟩
  cases XB:st !=0
  .have z:AE ((I==1&&st !=0)=A9):=(by rw[Y,XB];rfl);go_wp2_with fail;refine(pS I Q g 0 0 [] _ (by first|decide|omega) λj hj=>absurd hj (gJ j)).mono ?_;rintro e w2⟨rfl,hb2⟩;have d:=A2 (f.o.later hb2);have fj:=A2 (r.o.later hb2);have e0:Cf w2 N 0 (AX st):=d.o.cell0;have e1:Cf w2 N 1 (AX h):=d.o.cell1;have f0:w2.frozen? ⟨N,0,J⟩=A9:=d.o.soft 0;have f1:w2.frozen? ⟨N,1,J⟩=A9:=d.o.soft 1;have A:=A2 (u.o.trans (F2.new f.o.1 f.o.2.1 hb2));clear hb2 X f r u;cases ho:V.opens I []
   .have m:AE (V.D_ n (x::rest) st h l=((V.added n I [] l).1,1,h,(V.added n I [] l).2)):=by refine A2 ?_;rw[y.o,BC.o,ho,z.o];rfl
    go_wp2_with fail;refine(gZ n I 1 h Q g 0 0 N U [] l _ (by first|decide|omega) GO (λj hj=>absurd hj (gJ j)) (d.o.state 1)).mono ?_;rintro e w3⟨rfl,D,F⟩;have Rf:=A2 D;have Cs:=A2 ((A.o.setCell 0 (AX 1)).trans F);clear D F;go_wp2;go_ret;rw[m.o];exact⟨rfl,Rf,Cs⟩
   have m:AE (V.D_ n (x::rest) st h l=(A5,2,I,l)):=by refine A2 ?_;rw[y.o,BC.o,ho,z.o];rfl
   go_wp2;go_ret;rw[m.o];exact⟨rfl,(d.o.state 2).block I,(A.o.setCell 0 (AX 2)).setCell 1 (AX I)⟩
  have m:AE (V.D_ n (x::rest) st h l=(A9,st,h,l)):=by refine A2 ?_;rw[y.o,Y,XB];rfl
  go_wp2;go_ret;rw[m.o];exact⟨rfl,f,u⟩
 skip;go_enter Tryz.func177,Tryz.ntmps177;go_wp2_with fail;go_quiet((go_at_call 248;exact Vh (a8T _ _)));have f:AE (GF (w.drewN nq) N U st h l):=S.o.later (KP (Az _ w) nq);have X:Cf (w.drewN nq) N 0 (AX st):=f.o.cell0;have r:AE (Hx (w.drewN nq) g 2 rest):=Au.o.later (KP (Az _ w) nq);have u:=A2 (F2.new S.o.1 S.o.2.1 (KP (Az _ w) nq));have xF:N<AR (w.drewN nq):=f.o.lt;clear h1 p4 Au S Ma;generalize w.drewN nq=CU at f X r u xF⊢;generalize V.GW x=I at Q y⊢;cases Y:I==1
 .have z:AE ((I==1&&st !=0)=A9):=Af Y;go_wp2_with fail;refine(pS I Q g 2 (c-1) rest _ (by first|decide|omega) r).mono ?_;rintro e w2⟨rfl,hb2⟩;have d:=A2 (f.o.later hb2);have fj:=A2 (r.o.later hb2);have e0:Cf w2 N 0 (AX st):=d.o.cell0;have e1:Cf w2 N 1 (AX h):=d.o.cell1;have f0:w2.frozen? ⟨N,0,J⟩=A9:=d.o.soft 0;have f1:w2.frozen? ⟨N,1,J⟩=A9:=d.o.soft 1;have A:=A2 (u.o.trans (F2.new f.o.1 f.o.2.1 hb2));clear hb2 X f r u;cases ho:V.opens I rest
  .have m:AE (V.D_ n (x::rest) st h l=((V.added n I rest l).1,1,h,(V.added n I rest l).2)):=by refine A2 ?_;rw[y.o,ho,z.o];rfl
   go_wp2_with fail;refine(gZ n I 1 h Q g 2 (c-1) N U rest l _ (by first|decide|omega) GO (fj.o.set a6n) (d.o.state 1)).mono ?_;rintro e w3⟨rfl,D,F⟩;have Rf:=A2 D;have Cs:=A2 ((A.o.setCell 0 (AX 1)).trans F);clear D F;go_wp2;go_ret;rw[m.o];exact⟨rfl,Rf,Cs⟩
  have m:AE (V.D_ n (x::rest) st h l=(A5,2,I,l)):=by refine A2 ?_;rw[y.o,ho,z.o];rfl
  go_wp2;go_ret;rw[m.o];exact⟨rfl,(d.o.state 2).block I,(A.o.setCell 0 (AX 2)).setCell 1 (AX I)⟩
 cases XB:st !=0
 .have z:AE ((I==1&&st !=0)=A9):=(by rw[Y,XB];rfl);go_wp2_with fail;refine(pS I Q g 2 (c-1) rest _ (by first|decide|omega) r).mono ?_;rintro e w2⟨rfl,hb2⟩;have d:=A2 (f.o.later hb2);have fj:=A2 (r.o.later hb2);have e0:Cf w2 N 0 (AX st):=d.o.cell0;have e1:Cf w2 N 1 (AX h):=d.o.cell1;have f0:w2.frozen? ⟨N,0,J⟩=A9:=d.o.soft 0;have f1:w2.frozen? ⟨N,1,J⟩=A9:=d.o.soft 1;have A:=A2 (u.o.trans (F2.new f.o.1 f.o.2.1 hb2));clear hb2 X f r u;cases ho:V.opens I rest
  .have m:AE (V.D_ n (x::rest) st h l=((V.added n I rest l).1,1,h,(V.added n I rest l).2)):=by refine A2 ?_;rw[y.o,ho,z.o];rfl
   go_wp2_with fail;refine(gZ n I 1 h Q g 2 (c-1) N U rest l _ (by first|decide|omega) GO (fj.o.set a6n) (d.o.state 1)).mono ?_;rintro e w3⟨rfl,D,F⟩;have Rf:=A2 D;have Cs:=A2 ((A.o.setCell 0 (AX 1)).trans F);clear D F;go_wp2;go_ret;rw[m.o];exact⟨rfl,Rf,Cs⟩
  have m:AE (V.D_ n (x::rest) st h l=(A5,2,I,l)):=by refine A2 ?_;rw[y.o,ho,z.o];rfl
  go_wp2;go_ret;rw[m.o];exact⟨rfl,(d.o.state 2).block I,(A.o.setCell 0 (AX 2)).setCell 1 (AX I)⟩
 have m:AE (V.D_ n (x::rest) st h l=(A9,st,h,l)):=by refine A2 ?_;rw[y.o,Y,XB];rfl
 go_wp2;go_ret;rw[m.o];exact⟨rfl,f,u⟩
def aYx(n:Nat)(h:Int)(d:h=0∨h=1∨h=2∨h=3∨h=4)(g c N I:Nat)(x:zz)(rest:List zz)(l:List (Nat×Nat×List zz))(w:A1)(hl:rest.length<=100000000000)(f:l.length<=1000000000000)(ht:Hx w g 0 (x::rest))(hp:GF w N I 2 h l):Ab A6 177 #[B2 (Z ⟨N,0,J⟩),(n:Int),A0 (Z ⟨g,0,J⟩) (rest+1) c] w λe w'=>e=AV (Ag (V.D_ n (x::rest) 2 h l).1)/\GF w' N I (V.D_ n (x::rest) 2 h l).2.1 (V.D_ n (x::rest) 2 h l).2.2.1 (V.D_ n (x::rest) 2 h l).2.2.2/\F2 N I w w':=by have z:=hp.cell0;have Au:=A2 ht;have m:=A2 hp;clear ht hp;have r:AE (V.D_ n (x::rest) 2 h l=V.NP n (x::rest) h l):=rfl;go_enter Tryz.func177,Tryz.ntmps177;go_wp2_with fail;refine(aYv n h d g c N I (x::rest) l w Av f Au m).mono ?_;rintro e w1⟨rfl,U,hb1⟩;have u:=A2 U;have y:=A2 hb1;clear U hb1;go_wp2;go_ret;rw[r.o];exact⟨rfl,u,y⟩
def aYy(n I:Nat)(h:Option An)(cap:Nat)(w:A1):Ab A6 177 #[B2 (Z ⟨I,0,J⟩),(n:Int),A0 h 0 cap] w λe w'=>e=AV (Ag A5)/\w'=w:=by go_wp2;go_ret;exact⟨rfl,rfl⟩
def V.aSO{kw t fs}(h:V.Eu kw em=Z (t,fs)):V.Qi (n,t,fs):=by
 unfold V.Eu at h;split at h;.cases h;exact AA ⟨rfl,_,rfl⟩
 split at h;.cases h;exact AF (AA ⟨rfl,_,_,rfl⟩)
 split at h;.cases h;exact AF (AF (AA ⟨rfl,_,_,rfl⟩))
 split at h;.cases h;exact AF (AF (AF ⟨rfl,_,_,_,_,rfl⟩))
 split at h;.cases h;exact AF (AF (AF ⟨rfl,_,_,_,_,rfl⟩))
 cases h
theorem V.aIr{kw l}(h:∀x∈l,V.Qi x):∀x∈(V.added n kw em l).2,V.Qi x:=by
 unfold V.added;split
 .rename_i y hy;intro x hx;rcases E8.1 hx with hx|hx;.exact h x hx
  rw[ES.1 hx];exact V.aSO hy
 grind
theorem V.aIq(n)(kw)(h)(l):(V.added n kw h l).2.length<=l+1:=by grind[V.added]
def V.aZY{st l}(h:∀x∈l,V.Qi x):∀x∈(V.D_ n em st blk l).2.2.2,V.Qi x:=by
 unfold V.D_ V.NP;repeat' split
 all_goals first|exact h|exact V.aIr h
def V.aZX(n)(I)(st h)(l):(V.D_ n I st h l).2.2.2.length<=l+1:=by
 unfold V.D_ V.NP;repeat' split
 all_goals first|exact Nat.le_succ _|exact V.aIq ..
def V.aZZ{st l}(h:V.gV st blk):V.gV (V.D_ n em st blk l).2.1 (V.D_ n em st blk l).2.2.1:=by
 unfold V.D_ V.NP;repeat' split
 all_goals first|exact h|exact⟨AF (AA rfl),h.2⟩|exact⟨AF (AF rfl),h.2⟩|exact⟨AF (AF rfl),a8S _⟩
def ga(v)(w):(PK (DD 123 v) 179 123 A5).run A6 w=.ok (Aj #[v,Ag A5]) w:=rfl
def gb(v)(w):(PK (DD 221 v) 179 123 A5).run A6 w=.ok (Aj #[AH #[A4 ⟨#[]⟩],Ag A9]) w:=rfl
def uS(v)(w):(PK (DD 222 v) 179 123 A5).run A6 w=.ok (Aj #[AH #[A4 ⟨#[]⟩],Ag A9]) w:=rfl
def uT(v)(w):(PK (DD 224 v) 179 123 A5).run A6 w=.ok (Aj #[AH #[A4 ⟨#[]⟩],Ag A9]) w:=rfl
def aS8(hH base:Nat)(st blk:Int)(l:List (Nat×Nat×List zz))(w:A1)(u:V.gV st blk)(hl:∀x∈l,V.Qi x)(f:l.length<=1000000000000)(hp:GF w hH base st blk l):Ab A6 179 #[B2 (Z ⟨hH,0,J⟩)] w λe w'=>e=AV (Ag (V.may st l))/\AO w w w':=by
 have A:=hp.cell0;obtain⟨_,_,v,hpb,hown⟩:=hp;have d2:w.cell? ⟨hH,2,J⟩=Z v:=Af (A_ hpb);clear hpb;cases hs:st==2
 .match l,hl,f,hown with
  |[],_,_,hown=>
   obtain⟨a,cap,rfl⟩:∃a cap,v=A0 a 0 cap:=by
    rcases hown.2 with⟨h,_⟩|⟨U,cap,cur,h,_⟩;.exact⟨_,_,h⟩
    exact⟨_,_,h⟩
   clear hown;go_enter Tryz.func179,Tryz.ntmps179;go_wp2;go_ret;exact⟨rfl,Az ..⟩
  |x::xs,hl,f,hown=>
   obtain⟨U,cap,rfl,D⟩:∃U cap,v=BG U 0 (xs+1) cap/\Cf w U 1 (DD x.2.1 (AH (x.2.2.map A4).toArray)):=by
    have hc:=λg=>hown.cells (g:=g);rcases hown.2 with⟨_,h⟩|⟨U,cap,cur,h,_⟩;.simp at h
    refine⟨U,cap,h,?_⟩;have:=hc U (Af h) 1 (DD x.2.1 (AH (x.2.2.map A4).toArray)) rfl;simpa[Sc]using this
   have y:=A2 (hl x (Le ..));have z:=by simp at f;omega
   clear hown hl f;obtain⟨m,xt,r⟩:=x;rcases y.o with⟨I,a,h2⟩|⟨I,a,b,h2⟩|⟨I,a,b,h2⟩|⟨I,a,b,c,d,h2⟩;.have N:AE (V.may st ((m,xt,r)::xs)=A5):=A2 (by unfold V.may;simp only at I;simp only[hs,I];rfl);simp only at I h2;subst I h2;have ha:=ga;go_enter Tryz.func179,Tryz.ntmps179;go_wp2;go_ret;exact⟨EN N.o.symm,(Az ..).alloc (Ad _) _⟩
   .have N:AE (V.may st ((m,xt,r)::xs)=A9):=A2 (by unfold V.may;simp only at I;simp only[hs,I];rfl);simp only at I h2;subst I h2;have ha:=gb;go_enter Tryz.func179,Tryz.ntmps179;go_wp2;go_ret;exact⟨EN N.o.symm,(Az ..).alloc (Ad _) _⟩
   .have N:AE (V.may st ((m,xt,r)::xs)=A9):=A2 (by unfold V.may;simp only at I;simp only[hs,I];rfl);simp only at I h2;subst I h2;have ha:=uS;go_enter Tryz.func179,Tryz.ntmps179;go_wp2;go_ret;exact⟨EN N.o.symm,(Az ..).alloc (Ad _) _⟩
   have N:AE (V.may st ((m,xt,r)::xs)=A9):=A2 (by unfold V.may;simp only at I;simp only[hs,I];rfl);simp only at I h2;subst I h2;have ha:=uT;go_enter Tryz.func179,Tryz.ntmps179;go_wp2;go_ret;exact⟨EN N.o.symm,(Az ..).alloc (Ad _) _⟩
 have N:AE (V.may st l=A9):=by
  refine A2 ?_;unfold V.may;split;.rfl
  rw[hs];rfl
 clear hown;go_enter Tryz.func179,Tryz.ntmps179;go_wp2;go_ret;exact⟨EN N.o.symm,Az ..⟩
theorem V.zr{ls}(h:em.map (·.data.toList)=ls):em=V.texts ls:=by
 subst h;unfold V.texts;have:((λl=>⟨l.toArray⟩)∘λx:zz=>x.data.toList)=id:=by funext x;simp
 simp_all
def V.aXS(l):(V.said l).length<=l:=by let h:=(V.v7 (t:=⟨l.toArray⟩) (x:=⟨(Gv l [47,47]).1.toArray⟩) (y:=⟨(Gv l [47,47]).2.1.toArray⟩) rfl rfl (Ad _)).1;assumption
theorem V.aZU(s):V.Jf s<=s.size:=by let h:=V.aDD (V.said s);let h2:=V.aXS s;let e:s.data.toList=s.size:=AD;grind[V.Jf,V.texts,Gf]
def V.aR4(s):∀x∈V.lines s,x.size<=s:=by intro x hx;obtain⟨q,hq,rfl⟩:=Bt.1 hx;have:=V.jc 10 _ _ hq;assumption
theorem aYA(s)(m)(w)(hs:s.size<4294967281)(hm:w.cell? ⟨0,0,J⟩=Z (AB AJ m)):Ab A6 174 #[A4 s,A4 ⟨#[10]⟩] w λe w'=>e=AV (A0 (Z ⟨w,0,J⟩) (V.lines s) (V.lines s))/\V.lines s<=s.size+1/\(∀j,j<(V.lines s).length->w'.cell? ⟨w,j,J⟩=Z (A4 ((V.lines s).getD j B7)))/\w'.heap.size=w+1/\AO w w w':=by refine(Tryz.strings_Split s ⟨#[10]⟩ m w A' hm Ac).mono ?_;rintro e w'⟨rfl,rfl⟩;let hp:s6 ⟨#[10]⟩ 0 (Y6 s ⟨#[10]⟩) s=V.lines s:=V.zr (V.zk s ⟨#[10]⟩ 10 rfl);let hlen:=a0k ⟨#[10]⟩ Ac 0 _ s rfl;let hc:=a0j ⟨#[10]⟩ Ac s s (Ad _);rw[hp]at hlen⊢;refine⟨by rw[hlen],A',?_,AD,(Az ..).alloc (Ad _) _⟩;simp_all
theorem aZR(h):∀j,j<h.length->(Tr h)[j*2]?=Z (AB AJ (V.kind (h.getD j B7).data.toList))/\(Tr h)[j*2+1]?=Z (A4 (h.getD j B7)):=by
 induction h with
 |nil=>grind
 |cons x xs I=>
  intro j hj;let e:Tr (x::xs)=[AX (V.kind x),x]++Tr xs:=rfl;match j with
  |0=>exact⟨rfl,rfl⟩
  |j+1=>
   have:=I j (by simp at hj;omega);rw[e];refine⟨?_,?_⟩;.rw[Rj Av,td,<-this.1];congr 1;simp;omega
   rw[Rj Av,td,<-this.2];congr 1;simp;omega
theorem aYw(n:Nat)(st N)(hst:V.gV st N)(g0 U I)(tv)(em)(l:List (Nat×Nat×List zz))(w:A1)(hl:em.length<=100000000000)(c:l.length<=1000000000000)(hg:U<g0)(hown:w.ownsRow g0 371 2 tv em.length (Tr em))(hp:GF w U I st N l):Ab A6 177 #[B2 (Z ⟨U,0,J⟩),(n:Int),tv] w λe w'=>e=AV (Ag (V.D_ n em st N l).1)/\GF w' U I (V.D_ n em st N l).2.1 (V.D_ n em st N l).2.2.1 (V.D_ n em st N l).2.2.2/\F2 U I w w':=by
 let hc:=λg=>hown.cells (g:=g);match em,hl,hown,hc with
 |[],_,hown,_=>
  obtain⟨a,cap,rfl⟩:∃a cap,tv=A0 a 0 cap:=by
   rcases hown.2 with⟨h,_⟩|⟨m,cap,cur,h,_⟩;.exact⟨_,_,h⟩
   grind
  refine(aYy n U a cap w).mono ?_;rintro e w'⟨rfl,rfl⟩;exact⟨rfl,hp,F2.refl ..⟩
 |x::rest,hl,hown,hc=>
  rcases hown.2 with⟨_,h⟩|⟨g,cap,cur,h,r,_,f,_⟩;.grind
  let ht:Hx w g 0 (x::rest):=by intro j hj;let h1:=aZR (x::rest) j hj;let h2:=hc g (Af h);let a1:=h2 _ _ h1.1;let a2:=h2 _ _ h1.2;rw[Ea]at a1 a2;rw[Nat.zero_add];exact⟨a1,a2⟩
  rw[h];let d:rest.length<=100000000000:=by simp at hl;omega
  rcases hst.1 with rfl|rfl|rfl;.exact aCY n 0 N (AA rfl) g cap U I x rest l w d (Ai f) c A' ht hp
  .exact aCY n 1 N (AF rfl) g cap U I x rest l w d (Ai f) c A' ht hp
  exact aYx n N hst.2 g cap U I x rest l w d c ht hp
def a2n(N:Nat)(h:List zz)(w1:A1)(k:Nat)(wr:A1):Prop:=∃(st I:Int)(l:List (Nat×Nat×List zz)),V.gV st I/\(∀x∈l,V.Qi x)/\l<=k/\GF wr N (N+2) st I l/\F2 N (N+2) w1 wr/\V.Hq 0 h 0 0 []=V.Hq k (h.drop k) st I l
theorem drop_at(ls:List zz)(k)(h:k<ls.length):ls.drop k=ls.getD k B7::ls.drop (k+1):=by simp_all
def aTu(s:zz)(m:Int)(w:A1)(hs:s.size<4294967281)(hm:w.cell? ⟨0,0,J⟩=Z (AB AJ m)):Ab A6 92 #[s] w λe w'=>∃v,e=AV (Aj #[v,((V.parse s).2:Int)])/\w'.ownsRow (w+2) 301 2 v (V.parse s).1.length (SY (V.parse s).1)/\AO w w w':=by
 have h0:=pa hm;have z9:=A2 (V.aR4 s);have A:AE (V.parse s=V.Hq 0 (V.lines s) 0 0 []):=rfl;go_enter Tryz.func92,Tryz.ntmps92;go_wp2_with fail;refine(aYA s m _ hs (BR hm _)).mono ?_;rintro e w1⟨rfl,GO,hcells,li,hb1⟩;have LF:w1.heap[w.heap.size]?=Z (A7 #[AB AJ 0,AB AJ 0,A0 J 0 0] 295 (0,0)):=As (hb1.block w AD) (OS w _);have Ec:=keep hb1 (BR hm _);have dI:w1.heap.size=w+2:=by rw[li];simp
 have fZ:=A2 Ec;have n3:=A2 (((Az _ w).alloc (Ad _) _).trans (hb1.mono AD));have Cg:AE (∀j,j<(V.lines s).length->Cf w1 (AR w+1) j (A4 ((V.lines s).getD j B7))):=by exact λj hj=>Ai (hcells j hj)
 have tN:AE (GF w1 w (w+2) 0 0 []):=A2 ⟨A',A',_,LF,PR ..⟩;have Kv:=A2 dI;clear hb1 hcells li Ec LF dI;generalize hL:V.lines s=L at GO Cg z9 A⊢;clear hL;have aN':L.length<=5000000000:=A';clear GO;go_wp2;go_loopw[12]λi wr=>∃k:Nat,k<=L/\i=AX k/\AE (a2n w L w1 k wr)(λi _=>L.length-(B0 i).toNat);case atStart=>exact⟨0,A',rfl,A2 ⟨0,0,[],⟨AA rfl,AA rfl⟩,λx hx=>absurd hx (IX),Ad _,tN,F2.refl ..,by rw[aHN]⟩⟩
 case round=>
  obtain⟨k,hk,rfl,H⟩:=hrel;obtain⟨st,h,l,hst,Ii,hlen,d,o5,hgo⟩:=H.o;have D:=A2 hst;have f:=A2 Ii;have U:=A2 d;have z:=A2 o5;have F:=A2 hgo;clear H hst Ii d o5 hgo;have oN:l.length<=1000000000000:=A';by_cases hlt:k<L
  .have c0:wr.cell? ⟨w+1,k,J⟩=Z (A4 (L.getD k B7)):=by rw[<-Cg.o k hlt];exact C8 (z.o.yK _ (by show w.heap.size<w+1;omega) (by show w.heap.size+1<w+2;omega))
   have Q:=A2 (drop_at L k hlt);have S:AE ((L.getD k B7).size<=s):=As (V.getD_at _ _ hlt) (z9.o _ (Ci hlt));generalize L.getD k B7=N at c0 Q S;have X:AE (wr.cell? ⟨0,0,J⟩=Z (AB AJ m)):=by refine A2 ?_;rw[<-fZ.o];exact z.o.below.cell h0
   go_wp2_with fail;refine(aZT N m wr (BO S.o) X).mono ?_;rintro e w2⟨tv,em,rfl,Dd,hown,hb2⟩;have hw:=V.zr Dd;have Bh:AE (em=V.Jf N):=hw;have m3:=A2 hown;have v2:=A2 hb2;clear Dd hw hown hb2;go_wp2_with fail;have Y:em.length<=100000000000:=by rw[Bh.o];have:=V.aZU N;have:=S.o;omega
   have T:=aYw (k+1) st h D wr w (w.heap.size+2) tv em l w2 Y oN U.o.lt m3 (U.o.later v2);rw[show(k+1:Nat)=k+1 from by omega]at T;refine T.mono ?_;rintro e w3⟨rfl,Ov,m5⟩;have Rf:=A2 Ov;have Cs:=A2 ((z.o.trans (F2.new U.o.1 U.o.2.1 v2)).trans m5);clear Ov m5 T;rw[Bh.o]at Rf⊢;cases ht:(V.D_ (k+1) (V.Jf N) st h l).1
   .have I:AE (V.parse s=((V.D_ (k+1) (V.Jf N) st h l).2.2.2,k+1)):=by refine A2 ?_;rw[A.o,F.o,Q.o];unfold V.Hq;rw[ht];rfl
    obtain⟨_,_,c,r,u⟩:=Rf;have d2:w3.cell? ⟨w,2,J⟩=c:=Af (A_ r);have mN:=A2 u;clear r u;go_wp2;go_ret2;refine⟨c,?_,?_,n3.o.trans Cs.o.below⟩;.rw[I.o];rfl
    rwa[I.o]
   have I:AE (V.Hq 0 L 0 0 []=V.Hq (k+1) (L.drop (k+1)) (V.D_ (k+1) (V.Jf N) st h l).2.1 (V.D_ (k+1) (V.Jf N) st h l).2.2.1 (V.D_ (k+1) (V.Jf N) st h l).2.2.2):=by refine A2 ?_;rw[F.o,Q.o,V.Hq,if_pos ht]
   have R:∃k':Nat,k'<=L/\AX (k+1)=AX k'/\AE (a2n w L w1 k' w3):=by refine⟨k+1,A',BV,A2 ⟨_,_,_,V.aZZ D,V.aZY f,?_,Rf,Cs,I⟩⟩;have:=V.aZX (k+1) (V.Jf N) st h l;omega
   have BC:=A2 R;clear R;go_wp2;first
   |exact⟨BC,by simp[B0];omega⟩
   |
    (
     go_roundw;case rel=>exact BC
     case measure=>simp[B0];omega)
  have Es:k=L:=A';have aGY:=A2 Es;clear Es;go_wp2_with fail;refine(aS8 w (w+2) st h l wr D f oN U).mono ?_;rintro e w4⟨rfl,Cz⟩;have mO:=A2 (U.o.later Cz);have Dg:=A2 (n3.o.trans (z.o.below.trans (Cz.mono (gI U.o.lt))));have I:AE (V.parse s=(l,if V.may st l then 0 else L.length)):=by refine A2 ?_;rw[A.o,F.o,aGY.o,a2X,V.Hq]
  clear Cz;obtain⟨_,_,c,r,u⟩:=mO;have d2:w4.cell? ⟨w,2,J⟩=c:=Af (A_ r);have mN:=A2 u;clear r u;cases y:V.may st l
  .rw[y]at I;go_wp2;go_ret2;refine⟨c,?_,?_,Dg⟩;.rw[I.o];rfl
   rwa[I.o]
  rw[y]at I;go_wp2;go_ret2;refine⟨c,?_,?_,Dg⟩;.rw[I.o];rfl
  rwa[I.o]
theorem xp(a b:Nat):((a:Int)==(b:Int))=(a==b):=by grind
def a8K(b w):Ab A6 411 #[AB Gc (b.toNat:Int)] w λe w'=>e=AV (Ag (V.O9 b))/\w'=w:=by
 have h:AE (V.O9 b=((b.toNat:Int)==46||(b.toNat:Int)==45||(b.toNat:Int)==95||BK (97<=(b.toNat:Int))&&BK ((b.toNat:Int)<=122)||BK (48<=(b.toNat:Int))&&BK ((b.toNat:Int)<=57))):=by
  refine A2 ?_;unfold V.O9;rw[show(46:Int)=((46:Nat):Int)from rfl,show(45:Int)=((45:Nat):Int)from rfl,show(95:Int)=((95:Nat):Int)from rfl,xp,xp,xp];congr 2;.congr 1<;>rw[decide_eq_decide]<;>omega
  .rw[decide_eq_decide];omega
  rw[decide_eq_decide];omega
 generalize(b.toNat:Int)=x at h⊢;cases I:x==46
 .cases h2:x==45
  .cases h3:x==95;.by_cases h4:97<=x<;>by_cases h5:x<=122<;>by_cases h6:48<=x<;>by_cases h7:x<=57;all_goals go_enter Tryz.func411,Tryz.ntmps411;go_wp2;go_ret;exact⟨EN (by rw[h.o,I,h2,h3];simp[h4,h5,h6,h7]),rfl⟩
   go_enter Tryz.func411,Tryz.ntmps411;go_wp2;go_ret;exact⟨EN (by rw[h.o,I,h2,h3];rfl),rfl⟩
  go_enter Tryz.func411,Tryz.ntmps411;go_wp2;go_ret;exact⟨EN (by rw[h.o,I,h2];rfl),rfl⟩
 go_enter Tryz.func411,Tryz.ntmps411;go_wp2;go_ret;exact⟨EN (by rw[h.o,I];rfl),rfl⟩
def a8M(s:zz)(w:A1)(hs:s.size<=BZ):Ab A6 354 #[A4 s] w λe w'=>e=AV (Ag (V.RH s))/\w'=w:=by
 have c:=hs;unfold BZ at c;have I:AE (V.RH s=(s.data.toList.all V.O9&&(!s.toList==[]&&(!s.toList==[46]&&!s.toList==[46,46])))):=by refine A2 ?_;rw[Y9];rfl
 go_enter Tryz.func354,Tryz.ntmps354;go_wp2;go_loop[6]λi=>∃k:Nat,k<=s.size/\i=AX k/\AE ((s.data.toList.take k).all V.O9=A5)(λi=>s.size-(B0 i).toNat);case atStart=>exact⟨0,JS _,rfl,A2 AD⟩
 case round=>
  obtain⟨k,hk,rfl,H⟩:=hrel;by_cases hlt:k<s.size
  .have U:AE (V.O9 s[k]=A9->s.data.toList.all V.O9=A9):=by intro hf;rw[ta];exact⟨s[k],As (show s[k]=s.data.toList[k]'(by simpa using hlt)from rfl) (Ci _),by simp[hf]⟩
   have BC:AE (V.O9 s[k]=A5->(s.data.toList.take (k+1)).all V.O9=A5):=by intro ht;rw[qR s k hlt,t_,H.o];simp[ht]
   cases h:V.O9 s[k];.go_wp2_with(go_at_call 411;refine(a8K _ _).mono ?_;rintro e w'⟨rfl,rfl⟩);go_ret;exact⟨EN (by rw[I.o,U.o h];rfl),rfl⟩
   go_wp2_with(go_at_call 411;refine(a8K _ _).mono ?_;rintro e w'⟨rfl,rfl⟩);go_round;case rel=>exact⟨k+1,A',BV,A2 (BC.o h)⟩
   case measure=>simp[B0];omega
  have N:AE (s.data.toList.all V.O9=A5):=by refine A2 ?_;rwa[<-bY (l:=s.data.toList) (i:=k) Av]
  cases h0:s.toList==[]
  .cases h:s.toList==[46];.cases h2:s.toList==[46,46];all_goals go_wp2;go_ret;exact⟨EN (by rw[I.o,N.o,h0,h,h2];rfl),rfl⟩
   go_wp2;go_ret;exact⟨EN (by rw[I.o,N.o,h0,h];rfl),rfl⟩
  go_wp2;go_ret;exact⟨EN (by rw[I.o,N.o,h0];rfl),rfl⟩
def V.SU(s:zz):List zz:=V.texts (V.pieces 47 s)
def V.aXW(s):∀x∈V.SU s,x.size<=s:=by intro x hx;obtain⟨q,hq,rfl⟩:=Bt.1 hx;have:=V.jc 47 _ _ hq;assumption
def V.aU1(s):V.path s.data.toList=(BK (s.size<=60)&&(V.SU s).all λx=>V.RH x):=by unfold V.path V.SU V.texts;rw[aHJ];rfl
theorem aYB(s)(m)(w)(hs:s.size<4294967281)(hm:w.cell? ⟨0,0,J⟩=Z (AB AJ m)):Ab A6 174 #[A4 s,A4 ⟨#[47]⟩] w λe w'=>e=AV (A0 (Z ⟨w,0,J⟩) (V.SU s) (V.SU s))/\V.SU s<=s.size+1/\(∀j,j<(V.SU s).length->w'.cell? ⟨w,j,J⟩=Z (A4 ((V.SU s).getD j B7)))/\AO w w w':=by refine(Tryz.strings_Split s ⟨#[47]⟩ m w A' hm Ac).mono ?_;rintro e w'⟨rfl,rfl⟩;let hp:s6 ⟨#[47]⟩ 0 (Y6 s ⟨#[47]⟩) s=V.SU s:=V.zr (V.zk s ⟨#[47]⟩ 47 rfl);let hlen:=a0k ⟨#[47]⟩ Ac 0 _ s rfl;let hc:=a0j ⟨#[47]⟩ Ac s s (Ad _);rw[hp]at hlen⊢;refine⟨by rw[hlen],A',?_,(Az ..).alloc (Ad _) _⟩;simp_all
def a8L(s:zz)(m:Int)(w:A1)(hs:s.size<=281474976710656)(hm:w.cell? ⟨0,0,J⟩=Z (AB AJ m)):Ab A6 275 #[s] w λe w'=>e=AV (Ag (V.path s))/\AO w w w':=by
 have c:=A2 (V.aU1 s);by_cases y:s.size<=60
 .have h6:=A';have d:=A2 (V.aXW s);have h:AE (V.path s=(V.SU s).all λx=>V.RH x):=by refine A2 ?_;rw[c.o,decide_eq_true A'];rfl
  go_enter Tryz.func275,Tryz.ntmps275;go_wp2_with fail;refine(aYB s m _ A' hm).mono ?_;rintro e w1⟨rfl,f,r,hb1⟩;have N:=A2 hb1;have U:=A2 r;clear hb1 r;generalize V.SU s=L at f U d h⊢;have z:L.length<=100:=A';clear f;go_wp2;go_loop[11]λi=>∃k:Nat,k<=L/\i=AX k/\AE ((L.take k).all (λx=>V.RH x)=A5)(λi=>L-(B0 i).toNat);case atStart=>exact⟨0,A',rfl,A2 AD⟩
  case round=>
   obtain⟨k,hk,rfl,H⟩:=hrel;by_cases hlt:k<L
   .have c0:=U k hlt;have I:AE ((L.getD k B7).size<=s):=As (V.getD_at _ _ hlt) (d.o _ (Ci hlt));have u:AE (V.RH (L.getD k B7)=A9->(L.all λx=>V.RH x)=A9):=by intro hf;rw[V.getD_at _ _ hlt]at hf;rw[ta];exact⟨L[k],Ci _,by simp[hf]⟩
    have BC:AE (V.RH (L.getD k B7)=A5->((L.take (k+1)).all λx=>V.RH x)=A5):=by intro ht;rw[V.getD_at _ _ hlt]at ht;rw[T4 hlt,t_,H.o];simp[ht]
    generalize L.getD k B7=x at c0 I u BC;cases h1:V.RH x;.go_wp2_with(go_at_call 354;refine(a8M _ _ (by have:=I.o;unfold BZ;omega)).mono ?_;rintro e w'⟨rfl,rfl⟩);go_ret;exact⟨EN (by rw[h.o,u.o h1]),N.o⟩
    go_wp2_with(go_at_call 354;refine(a8M _ _ (by have:=I.o;unfold BZ;omega)).mono ?_;rintro e w'⟨rfl,rfl⟩);go_round;case rel=>exact⟨k+1,A',BV,A2 (BC.o h1)⟩
    case measure=>simp[B0];omega
   go_wp2;go_ret;exact⟨EN (by rw[h.o,<-H.o,bY A']),N.o⟩
 have h6:=A';have h:AE (V.path s.data.toList=A9):=by refine A2 ?_;rw[c.o,decide_eq_false A'];rfl
 go_enter Tryz.func275,Tryz.ntmps275;go_wp2;go_ret;exact⟨EN h.o.symm,Az ..⟩
def aU0(s)(m)(w)(hs:s.size<=281474976710656)(hm:w.cell? ⟨0,0,J⟩=Z (AB AJ m))(hv:V.path s.data.toList=A5):Ab A6 196 #[A4 s] w λe w'=>e=AV (B2 J)/\AO w w w':=by go_enter Tryz.func196,Tryz.ntmps196;go_wp2_with fail;refine(a8L s m _ hs hm).mono ?_;rintro e h⟨rfl,hb⟩;go_wp2;go_ret;trivial
def HK(B:Nat)(w:A1)(v:A3):Option (Int×Int×zz×zz)->Prop|J=>v=B2 J|Z (k,n,p,q)=>∃b,B<=b/\v=B2 (Z ⟨b,0,J⟩)/\w.heap[b]?=Z (A7 #[k,n,p,q] 150 (0,0))
def HK.mono{B' f}(h:HK B w v f)(hB:B'<=B):HK B' w v f:=by cases f with|none=>exact h|some x=>let⟨b,h1,h2⟩:=h;exact⟨b,A',h2⟩
def pX(s:zz)(m:Int)(w:A1)(hs:s.size<=281474976710656)(hm:w.cell? ⟨0,0,J⟩=Z (AB AJ m)):Ab A6 196 #[s] w λe w'=>∃v,e=AV v/\HK w w' v (V.MP s)/\AO w w w':=by
 cases hv:V.path s;.have N:AE (V.MP s=Z (3,0,s,⟨#[]⟩)):=(by unfold V.MP;rw[hv];rfl);go_enter Tryz.func196,Tryz.ntmps196;go_wp2_with fail;refine(a8L s m _ hs hm).mono ?_;rintro e U⟨rfl,hb⟩;have h:=A2 hb;clear hb;rw[hv];go_wp2_with fail;refine(nO s _ hs).mono ?_;rintro e w2⟨rfl,hb⟩;have I:=A2 hb;clear hb;go_wp2;go_ret;refine⟨_,rfl,?_,(h.o.trans (I.o.mono h.o.size)).alloc (RB h.o.size I.o.size) _⟩;rw[N.o];exact⟨AR w2,Dn h.o.size I.o.size,rfl,OS w2 _⟩
 refine(aU0 s m w hs hm hv).mono ?_;rintro e U⟨rfl,hb⟩;exact⟨_,rfl,by unfold V.MP;rw[hv];rfl,hb⟩
def aZu(s:zz)(m:Int)(w:A1)(hs:s.size<=281474976710656)(hm:w.cell? ⟨0,0,J⟩=Z (AB AJ m)):Ab A6 43 #[s] w λe w'=>∃v,e=AV v/\HK w w' v (V.TM s)/\AO w w w':=by
 cases hv:V.AI s;.have N:AE (V.TM s=Z (2,0,⟨#[]⟩,s)):=(by unfold V.TM;rw[hv];rfl);go_enter Tryz.func43,Tryz.ntmps43;go_wp2_with fail;refine(a8N s m _ DQ hm).mono ?_;rintro e U⟨rfl,hb⟩;have h:=A2 hb;clear hb;rw[hv];go_wp2_with fail;refine(nO s _ hs).mono ?_;rintro e w2⟨rfl,hb⟩;have I:=A2 hb;clear hb;go_wp2;go_ret;refine⟨_,rfl,?_,(h.o.trans (I.o.mono h.o.size)).alloc (RB h.o.size I.o.size) _⟩;rw[N.o];exact⟨AR w2,Dn h.o.size I.o.size,rfl,OS w2 _⟩
 refine(uq s m w DQ hm hv).mono ?_;rintro e U⟨rfl,hb⟩;exact⟨_,rfl,by unfold V.TM;rw[hv];rfl,hb⟩
def yF(p v:zz)(m:Int)(w:A1)(hp:p.size<=281474976710656)(hv:v.size<=281474976710656)(hm:w.cell? ⟨0,0,J⟩=Z (AB AJ m)):Ab A6 123 #[AH #[p,v]] w λe w'=>∃r,e=AV r/\HK w w' r (V.IF p v)/\AO w w w':=by cases hf:V.MP p with|none=>have I:AE (V.IF p v=V.TM v):=A2 (by unfold V.IF;rw[hf]);go_enter Tryz.func123,Tryz.ntmps123;go_wp2_with fail;refine(pX p m _ hp (BR hm _)).mono ?_;rintro e w1⟨r,rfl,hr,hb⟩;rw[hf]at hr;obtain rfl:r=B2 J:=hr;have y:Cf w1 (AR w) 1 v:=keep hb AD;have d:=keep hb (BR hm _);have h:=A2 (((Az _ w).alloc (Ad _) _).trans (hb.mono AD));clear hb;go_wp2_with fail;refine(aZu v m _ hv d).mono ?_;rintro e w2⟨r,rfl,hr,hb2⟩;have N:=A2 hr;have u:=A2 hb2;clear hr hb2;go_wp2;go_ret;exact⟨r,rfl,As I (N.o.mono h.o.size),h.o.trans (u.o.mono h.o.size)⟩|some f=>have I:AE (V.IF p v=f):=A2 (by unfold V.IF;rw[hf]);let⟨k,n,fp,fq⟩:=f;go_enter Tryz.func123,Tryz.ntmps123;go_wp2_with fail;refine(pX p m _ hp (BR hm _)).mono ?_;rintro e w1⟨r,rfl,hr,hb⟩;rw[hf]at hr;obtain⟨c,U,rfl,h3⟩:=hr;have h:=A2 (((Az _ w).alloc (Ad _) _).trans (hb.mono AD));have N:=A2 h3;have x:AE (w<=c):=A2 (by simp at U;omega);clear hb U h3;go_wp2;go_ret;exact⟨_,rfl,by rw[I.o];exact⟨c,x,rfl,N⟩,h⟩
def nN(p v:zz)(m:Int)(w:A1)(hp:p.size<=281474976710656)(hv:v.size<=281474976710656)(hm:w.cell? ⟨0,0,J⟩=Z (AB AJ m)):Ab A6 254 #[p,v] w λe w'=>∃r,e=AV r/\HK w w' r (V.IF p v)/\AO w w w':=by go_enter Tryz.func254,Tryz.ntmps254;go_wp2_with fail;refine(yF p v m _ hp hv hm).mono ?_;rintro e N⟨r,rfl,hr,hb⟩;have I:=A2 hr;have h:=A2 hb;clear hr hb;go_wp2;go_ret;exact⟨r,rfl,I,h⟩
def a3V(v)(w):(PK (DD 221 v) 179 221 A5).run A6 w=.ok (Aj #[v,Ag A5]) w:=rfl
def a3W(v)(w):(PK (DD 222 v) 179 221 A5).run A6 w=.ok (Aj #[AH #[A4 ⟨#[]⟩,A4 ⟨#[]⟩],Ag A9]) w:=rfl
def a3X(v)(w):(PK (DD 222 v) 179 222 A5).run A6 w=.ok (Aj #[v,Ag A5]) w:=rfl
def a3Y(v)(w):(PK (DD 224 v) 179 221 A5).run A6 w=.ok (Aj #[AH #[A4 ⟨#[]⟩,A4 ⟨#[]⟩],Ag A9]) w:=rfl
def a3Z(v)(w):(PK (DD 224 v) 179 222 A5).run A6 w=.ok (Aj #[AH #[A4 ⟨#[]⟩,A4 ⟨#[]⟩],Ag A9]) w:=rfl
def a3_(v)(w):(PK (DD 224 v) 179 224 A5).run A6 w=.ok (Aj #[v,Ag A5]) w:=rfl
def a3z(a b c d:zz)(m:Int)(w:A1)(ha:a.size<=281474976710656)(hb:b.size<=281474976710656)(hm:w.cell? ⟨0,0,J⟩=Z (AB AJ m)):Ab A6 255 #[AH #[a,b,c,d]] w λe w'=>∃r,e=AV r/\HK w w' r (V.TL a b)/\AO w w w':=by
 cases he:b.toList==[];.have I:AE (V.TL a b=V.IF a b):=(by unfold V.TL;rw[he];rfl);go_enter Tryz.func255,Tryz.ntmps255;go_wp2_with fail;refine(nN a b m _ ha hb (BR hm _)).mono ?_;rintro e U⟨r,rfl,hr,hb1⟩;have N:=A2 (hr.mono (B':=AR w) AD);have h:=A2 (((Az _ w).alloc (Ad _) _).trans (hb1.mono AD));clear hr hb1;go_wp2;go_ret;exact⟨r,rfl,Ar I,h⟩
 have I:AE (V.TL a b=V.MP a):=(by unfold V.TL;rw[he];rfl);go_enter Tryz.func255,Tryz.ntmps255;go_wp2_with fail;refine(pX a m _ ha (BR hm _)).mono ?_;rintro e U⟨r,rfl,hr,hb1⟩;have N:=A2 (hr.mono (B':=AR w) AD);have h:=A2 (((Az _ w).alloc (Ad _) _).trans (hb1.mono AD));clear hr hb1;go_wp2;go_ret;exact⟨r,rfl,Ar I,h⟩
def a_W(a:zz)(m:Int)(w:A1)(ha:a.size<=281474976710656)(hm:w.cell? ⟨0,0,J⟩=Z (AB AJ m)):Ab A6 180 #[DD 123 (AH #[a])] w λe w'=>∃r,e=AV r/\HK w w' r (V.MP a)/\AO w w w':=by have N:=ga;go_enter Tryz.func180,Tryz.ntmps180;go_wp2_with fail;refine(pX a m _ ha (BR hm _)).mono ?_;rintro e U⟨r,rfl,hr,hb1⟩;have I:=A2 (hr.mono (B':=AR w) AD);have h:=A2 (((Az _ w).alloc (Ad _) _).trans (hb1.mono AD));clear hr hb1;go_wp2;go_ret;exact⟨r,rfl,I,h⟩
def a_X(a b:zz)(m:Int)(w:A1)(ha:a.size<=281474976710656)(hb:b.size<=281474976710656)(hm:w.cell? ⟨0,0,J⟩=Z (AB AJ m)):Ab A6 180 #[DD 221 (AH #[a,b])] w λe w'=>∃r,e=AV r/\HK w w' r (V.IF a b)/\AO w w w':=by have N:=gb;have h2:=a3V;go_enter Tryz.func180,Tryz.ntmps180;go_wp2_with fail;refine(nN a b m _ ha hb (BR hm _)).mono ?_;rintro e U⟨r,rfl,hr,hb1⟩;have I:=A2 (hr.mono (B':=AR w) AD);have h:=A2 (((Az _ w).alloc (Ad _) _).trans (hb1.mono AD));clear hr hb1;go_wp2;go_ret;exact⟨r,rfl,I,h⟩
def a_Y(a b:zz)(m:Int)(w:A1)(ha:a.size<=281474976710656)(hb:b.size<=281474976710656)(hm:w.cell? ⟨0,0,J⟩=Z (AB AJ m)):Ab A6 180 #[DD 222 (AH #[a,b])] w λe w'=>∃r,e=AV r/\HK w w' r (V.IF a b)/\AO w w w':=by have N:=uS;have h2:=a3W;have h3:=a3X;go_enter Tryz.func180,Tryz.ntmps180;go_wp2_with fail;refine(nN a b m _ ha hb (BR hm _)).mono ?_;rintro e U⟨r,rfl,hr,hb1⟩;have I:=A2 (hr.mono (B':=AR w) AD);have h:=A2 (((Az _ w).alloc (Ad _) _).trans (hb1.mono AD));clear hr hb1;go_wp2;go_ret;exact⟨r,rfl,I,h⟩
def a_Z(a b c d:zz)(m:Int)(w:A1)(ha:a.size<=281474976710656)(hb:b.size<=281474976710656)(hc:c.size<=281474976710656)(hd:d.size<=281474976710656)(hm:w.cell? ⟨0,0,J⟩=Z (AB AJ m)):Ab A6 180 #[DD 224 (AH #[a,b,c,d])] w λe w'=>∃r,e=AV r/\HK w w' r (V.Wd a b c d)/\AO w w w':=by have h1:=uT;have h2:=a3Y;have h3:=a3Z;have h4:=a3_;cases hf:V.TL a b with|none=>have I:AE (V.Wd a b c d=V.IF c d):=A2 (by unfold V.Wd;rw[hf]);go_enter Tryz.func180,Tryz.ntmps180;go_wp2_with fail;refine(a3z a b c d m _ ha hb (BR hm _)).mono ?_;rintro e N⟨r,rfl,hr,hb1⟩;rw[hf]at hr;obtain rfl:r=B2 J:=hr;have s2:Cf N (AR w) 2 c:=keep hb1 AD;have D:Cf N (AR w) 3 d:=keep hb1 AD;have y:=keep hb1 (BR hm _);have h:=A2 (((Az _ w).alloc (Ad _) _).trans (hb1.mono AD));clear hb1;go_wp2_with fail;refine(nN c d m _ hc hd y).mono ?_;rintro e w2⟨r,rfl,hr,hb2⟩;have U:=A2 (hr.mono h.o.size);have z:=A2 (h.o.trans (hb2.mono h.o.size));clear hr hb2;go_wp2;go_ret;exact⟨r,rfl,Ar I,z⟩|some f=>have I:AE (V.Wd a b c d=f):=A2 (by unfold V.Wd;rw[hf]);let⟨k,n,fp,fq⟩:=f;go_enter Tryz.func180,Tryz.ntmps180;go_wp2_with fail;refine(a3z a b c d m _ ha hb (BR hm _)).mono ?_;rintro e N⟨r,rfl,hr,hb1⟩;rw[hf]at hr;obtain⟨u,x,rfl,h3'⟩:=hr;have h:=A2 (((Az _ w).alloc (Ad _) _).trans (hb1.mono AD));have U:=A2 h3';have A:AE (w<=u):=A2 (by simp at x;omega);clear hb1 h3' x;go_wp2;go_ret;exact⟨_,rfl,by rw[I.o];exact⟨u,A,rfl,U⟩,h⟩
def aJr(n t)(fs)(m)(w)(hx:V.Qi (n,t,fs))(hs:∀a∈fs,a.size<=281474976710656)(hm:w.cell? ⟨0,0,J⟩=Z (AB AJ m)):Ab A6 180 #[DD t (AH (fs.map A4).toArray)] w λe w'=>∃r,e=AV r/\HK w w' r (V.cF t fs)/\AO w w w':=by
 rcases hx with⟨h,a,h2⟩|⟨h,a,b,h2⟩|⟨h,a,b,h2⟩|⟨h,a,b,c,d,h2⟩;.subst h h2;exact a_W a m w (hs a AD) hm
 .subst h h2;exact a_X a b m w (hs a AD) (hs b AD) hm
 .subst h h2;exact a_Y a b m w (hs a AD) (hs b AD) hm
 subst h h2;exact a_Z a b c d m w (hs a AD) (hs b AD) (hs c AD) (hs d AD) hm
def JC(p:Int×zz×zz):A3:=AH #[p.1,p.2.1,p.2.2]
def ym(n t:Nat)(fs:List zz)(w:A1)(hx:V.Qi (n,t,fs)):Ab A6 100 #[DD t (AH (fs.map A4).toArray)] w λe w'=>e=AV (JC (V.place t fs))/\AO w w w'/\w.drawn<=w'.drawn:=by
 rcases hx with⟨h,a,h2⟩|⟨h,a,b,h2⟩|⟨h,a,b,h2⟩|⟨h,a,b,c,d,h2⟩;.simp only at h h2;subst h h2;have ha:=ga;go_enter Tryz.func100,Tryz.ntmps100;go_wp2;refine IT (v:=AH #[AX 0,a,A4 ⟨#[]⟩]) (by simp[D5,sN,go_sem]) rfl ⟨rfl,?_,Ad _⟩;exact((Az _ _).alloc (Ad _) _).alloc AD _
 .simp only at h h2;subst h h2;have ha:=gb;have hb:=a3V;go_enter Tryz.func100,Tryz.ntmps100;go_wp2;refine IT (v:=AH #[AX 1,a,A4 ⟨#[]⟩]) (by simp[D5,sN,go_sem]) rfl ⟨rfl,?_,Ad _⟩;exact((Az _ _).alloc (Ad _) _).alloc AD _
 .simp only at h h2;subst h h2;have ha:=uS;have hb:=a3W;have hc:=a3X;go_enter Tryz.func100,Tryz.ntmps100;go_wp2;refine IT (v:=AH #[AX 2,a,b]) (by simp[D5,sN,go_sem]) rfl ⟨rfl,?_,Ad _⟩;exact((Az _ _).alloc (Ad _) _).alloc AD _
 simp only at h h2;subst h h2;have ha:=uT;have hb:=a3Y;have hc:=a3Z;have hd:=a3_;go_enter Tryz.func100,Tryz.ntmps100;go_wp2;refine IT (v:=AH #[AX 3,a,b]) (by simp[D5,sN,go_sem]) rfl ⟨rfl,?_,Ad _⟩;exact((Az _ _).alloc (Ad _) _).alloc AD _
theorem aQD(x)(w):Ab A6 266 #[AB AJ x] w λe w'=>e=AV (Ag A9)/\w'=w:=by go_wp2;go_ret;simp_all
def gr(x y:Int)(w:A1):Ab A6 183 #[x,y] w λe w'=>e=AV (KI x y)/\w'=w:=by
 have h:AE (KI x y=if x<y then-1 else if x>y then 1 else 0):=rfl;go_enter Tryz.func183,Tryz.ntmps183;go_wp2_with(go_at_call 266;refine(aQD _ _).mono ?_;rintro e w'⟨rfl,rfl⟩);all_goals
  go_ret;refine⟨I0 ?_,rfl⟩;rw[h.o];repeat' split
  all_goals omega
theorem aTe{p q}(h:(KI p.1 q.1 !=0)=A5):V.ord p q=KI p.1 q.1:=by simp_all[V.ord,V.JF,if_pos]
theorem aTc{p q:Int×zz×zz}(h:(KI p.1 q.1 !=0)=A9)(h2:(Fx p.2.1 q.2.1 !=0)=A5):V.ord p q=Fx p.2.1 q.2.1:=by unfold V.ord V.JF;grind
theorem aTf{p q:Int×zz×zz}(h:(KI p.1 q.1 !=0)=A9)(h2:(Fx p.2.1 q.2.1 !=0)=A9):V.ord p q=V.QL p.2.2 q.2.2:=by simp_all[V.ord,V.JF,if_neg,]
theorem aCx{b:zz}(h:(a.toList==[])=A5∨(b.toList==[])=A5):V.QL a b=V.Gl a b:=by let e1:a.data.toList=a:=AD;let e2:b.data.toList=b:=AD;unfold V.QL;simp_all[e1,e2,if_pos,Bool.or_eq_true,QS]
theorem a_5{b:zz}(h:(a.toList==[])=A9)(h2:(b.toList==[])=A9):V.QL a b=V.order a b:=by simp_all[V.QL,if_neg,QS]
def aKF(p q:Int×zz×zz)(m:Int)(w:A1)(hp:p.2.2.size<=40)(hq:q.2.2.size<=40)(hm:w.cell? ⟨0,0,J⟩=Z (AB AJ m)):Ab A6 99 #[JC p,JC q] w λe w'=>e=AV (V.ord p q)/\AO w w w'/\w.drawn<=w'.drawn:=by
 have I:AE (∀o1 o2,AO w w ((w.alloc o1).alloc o2)):=λo1 o2=>((Az _ w).alloc (Ad _) o1).alloc AD o2;have h1:=@aTe p q;have h2:=@aTc p q;have h3:=@aTf p q;obtain⟨r,u,U⟩:=p;obtain⟨c,d,f⟩:=q;simp only at hp hq h1 h2 h3;rw[JC,JC];simp only;generalize V.ord (r,u,U) (c,d,f)=R at h1 h2 h3⊢;have H1:=A2 h1;have A:=A2 h2;have D:=A2 h3;clear h1 h2 h3;cases hr:KI r c !=0
 .cases x:Fx u d !=0
  .have h:=A2 (D hr x);cases hv:U.toList==[]
   .cases hu:f.toList==[];.have N:=A2 (a_5 hv hu);go_enter Tryz.func99,Tryz.ntmps99;go_wp2_with fail;refine(gr _ _ _).mono ?_;rintro e w'⟨rfl,rfl⟩;go_wp2_with fail;refine(Tryz.strings_Compare _ _ _).mono ?_;rintro e w'⟨rfl,rfl⟩;go_wp2_with fail;refine(qV U f m _ hp hq (BR (BR hm _) _)).mono ?_;rintro e w3⟨rfl,y,z⟩;have F:=A2 ((I _ _).trans (y.mono Av));have Q:AE (w.drawn<=w3.drawn):=z;clear y z;go_wp2;go_ret;exact⟨I0 (by rw[h.o,N.o]),F,Q⟩
    have N:=A2 (aCx (a:=U) (b:=f) (AF hu));go_enter Tryz.func99,Tryz.ntmps99;go_wp2_with fail;refine(gr _ _ _).mono ?_;rintro e w'⟨rfl,rfl⟩;go_wp2_with fail;refine(Tryz.strings_Compare _ _ _).mono ?_;rintro e w'⟨rfl,rfl⟩;go_wp2_with(go_at_call 90;refine(Tryz.cmp_Compare_int _ _ _).mono ?_;rintro e w'⟨rfl,rfl⟩;rw[gq]);go_ret;exact⟨I0 (by rw[h.o,N.o]),I _ _,Ad _⟩
   have N:=A2 (aCx (a:=U) (b:=f) (AA hv));go_enter Tryz.func99,Tryz.ntmps99;go_wp2_with fail;refine(gr _ _ _).mono ?_;rintro e w'⟨rfl,rfl⟩;go_wp2_with fail;refine(Tryz.strings_Compare _ _ _).mono ?_;rintro e w'⟨rfl,rfl⟩;go_wp2_with(go_at_call 90;refine(Tryz.cmp_Compare_int _ _ _).mono ?_;rintro e w'⟨rfl,rfl⟩;rw[gq]);go_ret;exact⟨I0 (by rw[h.o,N.o]),I _ _,Ad _⟩
  have h:=A2 (A hr x);go_enter Tryz.func99,Tryz.ntmps99;go_wp2_with fail;refine(gr _ _ _).mono ?_;rintro e w'⟨rfl,rfl⟩;go_wp2_with fail;refine(Tryz.strings_Compare _ _ _).mono ?_;rintro e w'⟨rfl,rfl⟩;go_wp2;go_ret;exact⟨I0 h.o.symm,I _ _,Ad _⟩
 have h:=A2 (H1 hr);go_enter Tryz.func99,Tryz.ntmps99;go_wp2_with fail;refine(gr _ _ _).mono ?_;rintro e w'⟨rfl,rfl⟩;go_wp2;go_ret;exact⟨I0 h.o.symm,I _ _,Ad _⟩
theorem V.aAn{t fs}(h:V.Valid t fs):(V.place t fs).2.2.size<=40:=by
 let e:(V.place t fs).2.2.data.toList.length=(V.place t fs).2.2.size:=AD;rcases V.a'2 h with h|h;.grind
 exact a'3 h
def aK3(x y:Nat×List zz)(m:Int)(w:A1)(hx:V.Valid x.1 x.2)(hy:V.Valid y.1 y.2)(hm:w.cell? ⟨0,0,J⟩=Z (AB AJ m)):Ab A6 98 #[DD x.1 (AH (x.2.map A4).toArray),DD y.1 (AH (y.2.map A4).toArray)] w λe w'=>e=AV (V.ord (V.place x.1 x.2) (V.place y.1 y.2))/\AO w w w'/\w.drawn<=w'.drawn:=by let⟨t,fs⟩:=x;let⟨u,gs⟩:=y;go_enter Tryz.func98,Tryz.ntmps98;go_wp2_with fail;refine(ym 0 t fs _ hx.1).mono ?_;rintro e w1⟨rfl,hb1,c⟩;have h:=A2 hb1;have U:=A2 c;have d:=keep hb1 hm;go_wp2_with fail;refine(ym 0 u gs _ hy.1).mono ?_;rintro e w2⟨rfl,hb2,f⟩;have I:=A2 (h.o.trans (hb2.mono h.o.size));have r:=A2 (Dn U f);have z:=keep hb2 d;go_wp2_with fail;refine(aKF _ _ m _ (V.aAn hx) (V.aAn hy) z).mono ?_;rintro e w3⟨rfl,A,D⟩;have N:=A2 (I.o.trans (A.mono I.o.size));have F:=A2 (Dn r D);go_wp2;go_ret;exact⟨rfl,N,F⟩
def Gk(x y)(h:x.size+y.size<=1000000)(w):(sF .add x y).run A6 w=.ok (A4 (x++y)) w:=aG1 w x y A'
def EO(x y:zz):(x++y).size=x+y:=AD
def aZ2(a:zz)(w:A1)(ha:a.size<=60):Ab A6 472 #[AH #[a]] w λe w'=>e=AV (A4 (⟨#[109,111,100,117,108,101,32]⟩++a))/\AO w w w':=by go_wp2;go_ret;exact⟨rfl,(Az ..).alloc (Ad _) _⟩
def aZ3(a b:zz)(w:A1)(ha:a.size<=60)(hb:b.size<=60):Ab A6 474 #[AH #[a,b]] w λe w'=>e=AV (A4 (⟨#[114,101,113,117,105,114,101,32]⟩++a++⟨#[32]⟩++b))/\AO w w w':=by have e1:(Ji #[114,101,113,117,105,114,101,32]).size=8:=rfl;have e2:(Ji #[32]).size=1:=rfl;have h:=Gk ⟨#[114,101,113,117,105,114,101,32]⟩ a A';have h2:=Gk (⟨#[114,101,113,117,105,114,101,32]⟩++a) ⟨#[32]⟩ (by rw[EO];omega);have h3:=Gk (⟨#[114,101,113,117,105,114,101,32]⟩++a++⟨#[32]⟩) b (by rw[EO,EO];omega);go_wp2;go_ret;exact⟨rfl,(Az ..).alloc (Ad _) _⟩
def aZ4(a b:zz)(w:A1)(ha:a.size<=60)(hb:b.size<=60):Ab A6 475 #[AH #[a,b]] w λe w'=>e=AV (A4 (⟨#[101,120,99,108,117,100,101,32]⟩++a++⟨#[32]⟩++b))/\AO w w w':=by have e1:(Ji #[101,120,99,108,117,100,101,32]).size=8:=rfl;have e2:(Ji #[32]).size=1:=rfl;have h:=Gk ⟨#[101,120,99,108,117,100,101,32]⟩ a A';have h2:=Gk (⟨#[101,120,99,108,117,100,101,32]⟩++a) ⟨#[32]⟩ (by rw[EO];omega);have h3:=Gk (⟨#[101,120,99,108,117,100,101,32]⟩++a++⟨#[32]⟩) b (by rw[EO,EO];omega);go_wp2;go_ret;exact⟨rfl,(Az ..).alloc (Ad _) _⟩
def P1(a b:zz):zz:=if b.toList==[]then a else a++(⟨#[32]⟩++b)
def aZ5(a b c d:zz)(w:A1)(ha:a.size<=60)(hb:b.size<=60)(hc:c.size<=60)(hd:d.size<=60):Ab A6 476 #[AH #[a,b,c,d]] w λe w'=>e=AV (A4 (⟨#[114,101,112,108,97,99,101,32]⟩++P1 a b++⟨#[32,61,62,32]⟩++c++⟨#[32]⟩++d))/\AO w w w':=by
 have e1:(Ji #[114,101,112,108,97,99,101,32]).size=8:=rfl;have e2:(Ji #[32]).size=1:=rfl;have e3:(Ji #[32,61,62,32]).size=4:=rfl;have g1:=Gk ⟨#[32]⟩ b A';have g2:=Gk a (⟨#[32]⟩++b) (by rw[EO];omega);have ho:(P1 a b).size<=121:=by
  unfold P1;split;.omega
  rw[EO,EO];omega
 have h:=Gk ⟨#[114,101,112,108,97,99,101,32]⟩ (P1 a b) A';have h2:=Gk (⟨#[114,101,112,108,97,99,101,32]⟩++P1 a b) ⟨#[32,61,62,32]⟩ (by rw[EO];omega);have h3:=Gk (⟨#[114,101,112,108,97,99,101,32]⟩++P1 a b++⟨#[32,61,62,32]⟩) c (by rw[EO,EO];omega);have h4:=Gk (⟨#[114,101,112,108,97,99,101,32]⟩++P1 a b++⟨#[32,61,62,32]⟩++c) ⟨#[32]⟩ (by rw[EO,EO,EO];omega);have h5:=Gk (⟨#[114,101,112,108,97,99,101,32]⟩++P1 a b++⟨#[32,61,62,32]⟩++c++⟨#[32]⟩) d (by rw[EO,EO,EO,EO];omega);clear ho;cases he:b.toList==[]
 .have ho:P1 a b=a++(⟨#[32]⟩++b):=by unfold P1;rw[he];rfl
  rw[ho]at h h2 h3 h4 h5⊢;have hne:(b.toList !=[])=A5:=by rw[bne,he];rfl
  clear ho;go_enter Tryz.func476,Tryz.ntmps476;go_wp2;go_ret;exact⟨rfl,(Az ..).alloc (Ad _) _⟩
 have ho:P1 a b=a:=by unfold P1;rw[he];rfl
 rw[ho]at h h2 h3 h4 h5⊢;have hne:(b.toList !=[])=A9:=by rw[bne,he];rfl
 clear ho;go_enter Tryz.func476,Tryz.ntmps476;go_wp2;go_ret;exact⟨rfl,(Az ..).alloc (Ad _) _⟩
def aSU(v)(w):(se 654 123 v "Text").run A6 w=.ok (472,v) w:=rfl
def aSV(v)(w):(se 654 221 v "Text").run A6 w=.ok (474,v) w:=rfl
def aSW(v)(w):(se 654 222 v "Text").run A6 w=.ok (475,v) w:=rfl
def kG(t:Nat):Nat:=if t==123 then 472 else if t==221 then 474 else if t==222 then 475 else 476
def XG(x:Nat×List zz):zz:=⟨(V.IJ x.1 x.2).toArray⟩
theorem k9(h:V.path a=A5):a.size<=60:=by have:=(V.NI h).short;simp_all
theorem qJ(h:V.AI a=A5):a.size<=60:=by have:=(V.QJ h).short;simp_all
theorem aXl(h:a.data.toList=[]∨V.AI a=A5):a.size<=60:=by
 rcases h with h|h;.let e:a.data.toList=a.size:=AD;grind
 exact qJ h
def aSX{t fs}(h:V.Valid t fs)(v)(w):(se 654 t v "Text").run A6 w=.ok (kG t,v) w:=by
 rcases V.Xf h with⟨rfl,_⟩|⟨rfl,_⟩|⟨rfl,_⟩|⟨rfl,_⟩;.exact aSU v w
 .exact aSV v w
 .exact aSW v w
 rfl
def Pl(x y:zz):(x++y).data.toList=x++y:=AD
theorem aZ8{t:Nat}{fs:List zz}(h:V.Valid t fs)(w:A1):Ab A6 (kG t) #[AH (fs.map A4).toArray] w λe w'=>e=AV (A4 (XG (t,fs)))/\AO w w w':=by
 rcases V.Xf h with⟨rfl,a,rfl,I⟩|⟨rfl,a,b,rfl,I,h2⟩|⟨rfl,a,b,rfl,I,h2⟩|⟨rfl,a,b,c,d,rfl,I,h2,h3,h4⟩;.let e:XG (123,[a])=⟨#[109,111,100,117,108,101,32]⟩++a:=V.bytes_inj (by rfl);rw[e];exact aZ2 a w (k9 I)
 .let e:XG (221,[a,b])=⟨#[114,101,113,117,105,114,101,32]⟩++a++⟨#[32]⟩++b:=V.bytes_inj (by rw[Pl,Pl,Pl];show V.IJ 221 [a,b]=_;simp_all[V.IJ,V.HI,V.wd,V.join]);rw[e];exact aZ3 a b w (k9 I) (qJ h2)
 .let e:XG (222,[a,b])=⟨#[101,120,99,108,117,100,101,32]⟩++a++⟨#[32]⟩++b:=V.bytes_inj (by rw[Pl,Pl,Pl];show V.IJ 222 [a,b]=_;simp_all[V.IJ,V.HI,V.wd,V.join]);rw[e];exact aZ4 a b w (k9 I) (qJ h2)
 let e:XG (224,[a,b,c,d])=⟨#[114,101,112,108,97,99,101,32]⟩++P1 a b++⟨#[32,61,62,32]⟩++c++⟨#[32]⟩++d:=V.bytes_inj (by
  show V.IJ 224 [a,b,c,d]=_;unfold V.IJ P1;by_cases hb:b.data.toList=[]
  .let h5:(b.toList==[])=A5:=by rw[QS,hb];rfl
   let hw:V.HI 224 [a,b,c,d]=[[114,101,112,108,97,99,101],a,[61,62],c,d.data.toList]:=by unfold V.HI;rw[show(V.wd [a,b,c,d] 1==[])=A5 from Ar beq_iff_eq];rfl
   rw[hw];simp[V.join,h5]
  let h5:(b.toList==[])=A9:=by rwa[QS,beq_eq_false_iff_ne]
  let hw:V.HI 224 [a,b,c,d]=[[114,101,112,108,97,99,101],a.data.toList,b,[61,62],c,d.data.toList]:=by unfold V.HI;rw[show(V.wd [a,b,c,d] 1==[])=A9 from Ar beq_eq_false_iff_ne];rfl
  rw[hw];simp[V.join,h5]);rw[e];exact aZ5 a b c d w (k9 I) (aXl h2) (k9 h3) (qJ h4)
structure Kept(T:zy)(w w':A1):Prop where
 os:w'.os=w.os
 tape:w'.tape=w.tape
 output:w'.output=w.output
 size:w.heap.size<=w'
 block:∀k,k<w.heap.size->¬T k->w'.heap[k]?=w.heap[k]?
theorem Kept.refl(T)(w):Kept T w w:=⟨rfl,rfl,rfl,Ad _,λ_ _ _=>rfl⟩
def Kept.trans{T a b c}(h:Kept T a b)(k:Kept T b c):Kept T a c:=⟨k.os.trans h.os,k.tape.trans h.tape,k.output.trans h.output,Dn h.size k.size,λi I h2=>(k.block i (Hw I h.size) h2).trans (h.block i I h2)⟩
def Kept.below{a b:A1}(h:Kept T a b)(hB:B<=a)(ht:∀k,k<B->¬T k):AO B a b:=⟨h.os,h.tape,h.output,h.size,λi I=>h.block i A' (ht i I)⟩
def Kept.cell{T:zy}{a b:A1}(h:Kept T a b){k o:Nat}{v:A3}(ht:¬T k)(hc:a.cell? ⟨k,o,J⟩=v):b.cell? ⟨k,o,J⟩=v:=As hc.symm (C8 (h.block k (Cn (h:=hc)) ht))
def N0(w:A1)(a9:Nat)(rv:A3)(n:Nat)(j:Int):Prop:=w.heap[a9]?=Z (A7 #[rv,j] 110 (0,0))/\0<=j/\j<=n
def Oc(w:A1)(a9:Nat)(rv:A3)(n:Nat):Prop:=∃d c,rv=A0 d n c/\(n=0∨∃I h,d=Z ⟨I,h,J⟩/\I≠a9/\∀j,j<n->∃x,w.cell? ⟨I,h+j,J⟩=Z (AB AJ x)/\-9223372036854775808<=x/\x<=9223372036854775807)
theorem Oc.kept(h:Oc w a9 rv n)(hk:Kept (λk=>k=a9) w w'):Oc w' a9 rv n:=by
 obtain⟨d,c,rfl,h⟩:=h;refine⟨d,c,rfl,?_⟩;rcases h with h|⟨U,I,N,h2,h3⟩;.grind
 refine AF ⟨U,I,N,h2,λj hj=>?_⟩;let⟨x,hx,hr⟩:=h3 j hj;exact⟨x,hk.cell h2 hx,hr⟩
def Zw(x:Int):Int:=if x<0 then-(x+1)%3 else x%3
theorem aU7(x):∃r:Nat,Zw x=(r:Int)/\r<3:=by refine⟨(Zw x).toNat,?_⟩;grind[Zw]
theorem yi(x:Int)(w:A1)(I:-9223372036854775808<=x)(h2:x<=9223372036854775807):Ab A6 15 #[x,AB AJ 3] w λe w'=>e=AV (Zw x)/\w'=w:=by
 by_cases h:x<0;.go_enter Tryz.func15,Tryz.ntmps15;go_wp2;go_ret;exact⟨I0 (by unfold Zw;grind),rfl⟩
 go_wp2;go_ret;simp_all[Zw,if_neg,]
def aTJ(a9 n:Nat)(d:Option An)(c:Nat)(w:A1)(h:n<=4611686018427387904)(h0:w.heap[a9]?=Z (A7 #[A0 d n c,(n:Int)] 110 (0,0))):Ab A6 49 #[B2 (Z ⟨a9,0,J⟩),AB AJ 3] w λe w'=>e=AV (AB AJ 0)/\∃q,w'=w.drewN q:=by have c0:w.cell? ⟨a9,0,J⟩=Z (A0 d n c):=Af (A_ h0);have c1:w.cell? ⟨a9,1,J⟩=n:=Af (A_ h0);clear h0;go_enter Tryz.func49,Tryz.ntmps49;go_wp2_with fail;go_quiet(fail);go_wp2_with fail;go_ret;exact⟨rfl,_,rfl⟩
def aTK(a9 n N I c k:Nat)(x:Int)(w:A1)(hn:n<=4611686018427387904)(hk:k<n)(hne:N≠a9)(h0:w.heap[a9]?=Z (A7 #[A0 (Z ⟨N,I,J⟩) n c,(k:Int)] 110 (0,0)))(hx:w.cell? ⟨N,I+k,J⟩=Z (AB AJ x))(hx1:-9223372036854775808<=x)(hx2:x<=9223372036854775807):Ab A6 49 #[B2 (Z ⟨a9,0,J⟩),AB AJ 3] w λe w'=>e=AV (Zw x)/\∃q q',w'=((w.drewN q).setCell ⟨a9,1,J⟩ (AB AJ ((k:Int)+1))).drewN q':=by
 have c0:w.cell? ⟨a9,0,J⟩=Z (A0 (Z ⟨N,I,J⟩) n c):=Af (A_ h0);have c1:w.cell? ⟨a9,1,J⟩=k:=Af (A_ h0);have f1:w.frozen? ⟨a9,1,J⟩=A9:=C' h0 1;clear h0;let m:¬n<=k:=A';let hp:=yi x;go_enter Tryz.func49,Tryz.ntmps49;go_wp2_with fail;go_quiet(fail);go_wp2_with fail;have d:((w.drewN nq).setCell ⟨a9,1,J⟩ (AB AJ ((k:Int)+1))).cell? ⟨a9,0,J⟩=Z (A0 (Z ⟨N,I,J⟩) n c):=by rwa[Vz (h:=λe=>by injection e;omega)]
 have d1:((w.drewN nq).setCell ⟨a9,1,J⟩ (AB AJ ((k:Int)+1))).cell? ⟨a9,1,J⟩=Z ((k:Int)+1):=lf _ _ _ (u:=AB AJ (k:Int)) c1;have d2:((w.drewN nq).setCell ⟨a9,1,J⟩ (AB AJ ((k:Int)+1))).cell? ⟨N,I+k,J⟩=x:=by rwa[Vz (h:=λe=>by injection e;omega)]
 generalize U:(w.drewN nq).setCell ⟨a9,1,J⟩ (AB AJ ((k:Int)+1))=W at d d1 d2⊢;have f:=A2 U;clear U c0 c1 f1 hx;go_quiet((go_at_call 15;exact Vh (hp _ hx1 hx2)));go_wp2_with fail;go_ret;exact⟨rfl,_,nq,by rw[<-f.o]⟩
def yT(a9 n)(rv)(j)(w)(hn:n<=4611686018427387904)(h0:N0 w a9 rv n j)(h1:Oc w a9 rv n):Ab A6 49 #[B2 (Z ⟨a9,0,J⟩),AB AJ 3] w λe w'=>∃r:Nat,e=AV (r:Int)/\r<3/\(∃j',N0 w' a9 rv n j')/\Kept (λk=>k=a9) w w'/\w'.heap.size=w:=by
 let⟨hh,hj0,hjn⟩:=h0;obtain⟨k,rfl⟩:=a2S hj0;obtain⟨d,c,rfl,hr⟩:=h1;by_cases hk:k=n;.subst hk;refine(aTJ a9 k d c w hn hh).mono ?_;rintro e w'⟨rfl,q,rfl⟩;exact⟨0,rfl,A',⟨_,hh,A',A'⟩,⟨rfl,rfl,rfl,Ad _,λ_ _ _=>rfl⟩,rfl⟩
 rcases hr with h|⟨U,I,rfl,hne,hx⟩;.omega
 let⟨x,hc,hx1,hx2⟩:=hx k A';refine(aTK a9 n U I c k x w hn A' hne hh hc hx1 hx2).mono ?_;rintro e w'⟨rfl,q,q',rfl⟩;let⟨r,hr,hr3⟩:=aU7 x;let hs:((w.drewN q).setCell ⟨a9,1,J⟩ (AB AJ (k+1))).heap[a9]?=Z (A7 #[A0 (Z ⟨U,I,J⟩) n c,AB AJ (k+1)] 110 (0,0)):=Af (CO (w.drewN q) _ _ _ _ _ hh);let N:((w.drewN q).setCell ⟨a9,1,J⟩ (AB AJ (k+1))).heap.size=w:=Af World.size_setCell;let hbl:=(Az 0 (w.drewN q)).setCell (p:=⟨a9,1,J⟩) (JS _) (AB AJ (k+1));exact⟨r,by rw[hr],hr3,⟨k+1,hs,A',A'⟩,⟨hbl.os,hbl.tape,hbl.output,Nat.le_of_eq N.symm,λi _ hi=>DC (w.drewN q) _ _ _ hi⟩,N⟩
def Kept.grown(h:Kept (λk=>k=a9) w w'):w.grownBy w' (Z a9):=⟨h.os,h.tape,h.output,h.size,λk hk hne=>h.block k hk λe=>hne (by rw[e])⟩
theorem aTs{base}(h:w.ownsRow base e s v n xs)(hk:Kept (λk=>k=a9) w w')(hb:a9<base):w'.ownsRow base e s v n xs:=h.kept hk.grown (by cases hv:v.ownBlock with|none=>grind|some b=>refine AF λI=>?_;have:=(h.lt b hv).1;grind)
def GX(l:List (Nat×Nat)):List A3:=l.flatMap λx=>[(x.1:Int),(x.2:Int)]
theorem aTA(l)(x):GX (l++[x])=GX l++[AB AJ (x.1:Int),AB AJ (x.2:Int)]:=by grind[GX]
def tY(v:A3):Prop:=∃k n,v=AB k n
def Kz(w:A1)(B:Nat)(v:A3)(l:List (Nat×Nat)):Prop:=w.ownsRow B 45 2 v l (GX l)/\GH tY w 2 v l
theorem Kz.of(h:Kz w B v l)(k:w'.ownsRow B 45 2 v l (GX l))(e:∀g,B<=g->g<w->w'.heap[g]?=w.heap[g]?):Kz w' B v l:=by
 refine⟨k,h.2.same λg cap hv=>?_⟩;rcases h.1.2 with⟨I,_⟩|⟨N,c,cur,I,h2,h3,_⟩;.rw[I]at hv;cases hv
 grind
def aAX{base}(h:Kz w base v l)(hk:Kept (λk=>k=a9) w w')(hb:a9<base):Kz w' base v l:=h.of (aTs h.1 hk hb) λg I h2=>hk.block g h2 A'
structure TC(C:zw):Prop where
 size:C.size=31
 AI:∀q k,q<5->k<3->∃v:Nat,C[q*3+k]?=Z (AB AJ (v:Int))/\1<=v/\v<=9
 aJ:∀q k(a b:Int),q<5->k<2->C[q*3+k]?=Z (AB AJ a)->C[q*3+(k+1)]?=Z (AB AJ b)->a<b
def PH(C:zw)(p:Int)(l:List (Nat×Nat)):Prop:=(∀x∈l,x.1<5/\(x.1:Int)≠p/\x.2<=9/\∃k,k<3/\C[x.1*3+k]?=Z (AB AJ (x.2:Int)))/\l.Pairwise λx y=>x.1<y.1
def uE(C:zw)(p:Int)(a9 n:Nat)(rv:A3)(w:A1)(k:Nat)(v:A3)(wr:A1):Prop:=∃l,PH C p l/\(∀x∈l,x.1<k)/\l<=k/\Kz wr w v l/\(∃j,N0 wr a9 rv n j)/\Kept (λk=>k=a9) w wr
def a8E:(A6.info? 45).map (λi=>(i.zero,i.size,i.bytes))=Z (Z (AH #[AB AJ 0,AB AJ 0]),2,16):=rfl
def aCA(c a9 n:Nat)(rv:A3)(p:Int)(C:zw)(w:A1)(hn:n<=4611686018427387904)(hC:TC C)(hm:w.heap[c]?=Z (A7 C 43 (0,0)))(hne:c≠a9)(hr:∃j,N0 w a9 rv n j)(Y:Oc w a9 rv n):Ab A6 50 #[B2 (Z ⟨c,0,J⟩),B2 (Z ⟨a9,0,J⟩),p] w λe w'=>∃v l,e=AV v/\PH C p l/\Kz w' w v l/\(∃j,N0 w' a9 rv n j)/\Kept (λk=>k=a9) w w':=by
 obtain⟨i0,hi,hz0,hz1,hz2⟩:=FJ a8E;have wt:=A2 hm;have BC:=A2 hr;have Bh:=A2 Y;have Cg:=A2 hC;have z:a9<w:=by
  obtain⟨j,h,_⟩:=hr;rcases JR a9 w with N|N;.exact N
  rw[Ml N]at h;cases h
 clear hm hr Y hC;go_enter Tryz.func50,Tryz.ntmps50;go_wp2;go_loopw[7,8]λv i wr=>∃k:Nat,k<=5/\i=k/\AE (uE C p a9 n rv w k v wr)(λ_ i _=>5-(B0 i).toNat);case atStart=>exact⟨0,A',rfl,A2 ⟨[],⟨λx hx=>absurd hx (IX),aad⟩,λx hx=>absurd hx (IX),Ad _,⟨PR _ _ _ _,GH.nil _ _ _⟩,BC,Kept.refl _ _⟩⟩
 case round=>
  obtain⟨k,hk,rfl,H⟩:=hrel;obtain⟨l,hfr,GN,GO,hown,XA,If⟩:=H.o;have r:=A2 hfr;have A:=A2 GN;have m3:=A2 hown;have GC:=A2 XA;have D:=A2 If;clear H hfr GN hown XA If;by_cases hlt:k<5
  .obtain⟨F,hj0⟩:=GC.o;go_wp2_with fail;refine(yT a9 n rv F _ hn hj0 (Bh.o.kept D)).mono ?_;rintro e w1⟨r1,rfl,EX,⟨Q,iV⟩,S,-⟩;have mI:=A2 (D.o.trans S);have Nh:=A2 (aAX m3 S z);clear S;go_wp2_with fail;refine(yT a9 n rv Q _ hn iV (Bh.o.kept mI)).mono ?_;rintro e w2⟨r2,rfl,Dv,d,X,-⟩;have I:=A2 (mI.o.trans X);have f:=A2 (aAX Nh X z);have m:=A2 d;let y:AE (uE C p a9 n rv w (k+1) u7 w2):=A2 ⟨l,r,λx hx=>aHs (A x hx),A',f,m,I⟩;clear X d hj0 iV;cases h0:(r1:Int)==0
   .cases hp:k==p
    .obtain⟨v,hv,Kd,Jc⟩:=Cg.o.AI k r2 hlt Dv;let NF:w2.heap[c]?=Z (A7 C 43 (0,0)):=by
      rwa[I.o.block c (by
       rcases JR c w with N|N;.exact N
       have:=wt;rw[Ml N]at this;cases this) hne]
     have abJ:w2.cell? ⟨c,k*3+r2,J⟩=v:=Ar (A_ NF);have v3:=A2 hv;clear NF hv;have li:w.heap.size<=w2:=I.o.size;have Rg:∀{o:Cq},AE (GH tY (w2.alloc o) 2 u7 l):=λ{o}=>(f.o.of (f.o.1.alloc o) λg _ h2=>lH w2 o g h2).2;go_wp2_with(at_builtin;refine aDG _ tY rfl _ _ 39 rfl w 45 i0 (AH #[AB AJ 0,AB AJ 0]) 2 16 Tryz.underlying39 hi hz0 hz1 hz2 rfl Ac (λu hu=>by simp[lZ]at hu;exact⟨_,_,hu⟩) _ _ _ rfl (f.o.1.alloc _) Rg ⟨w2,0,J⟩ 1 1 [k,v] rfl rfl ?c1 Of A' DQ A' Av ?_);case c1=>intro j u hj;match j,hj with|0,hj=>simp at hj;subst hj;simp[Sc]|1,hj=>simp at hj;subst hj;simp[Sc]
     intro v' w3 C2 U dH;have R:AE (uE C p a9 n rv w (k+1) v' w3):=by
      have C1:∀i,i<w.heap.size->w3.heap[i]?=w2.heap[i]?:=by intro i h1;rw[U.block i Av λe=>by have:=(f.o.1.lt i e.symm).1;omega,lH w2 _ i A']
      have Qs:Kept (λk=>k=a9) w w3:=⟨U.os.trans I.o.os,U.tape.trans I.o.tape,U.output.trans I.o.output,by have:=U.size;simp at this;omega,λi h1 h2=>(C1 i h1).trans (I.o.block i h1 h2)⟩;obtain⟨j2,d⟩:=m;refine A2 ⟨l++[(k,v)],⟨?_,?_⟩,?_,?_,?_,?_,Qs⟩
      .intro x hx;rcases E8.1 hx with hx|hx;.exact r.o.1 x hx
       rw[ES.1 hx];exact⟨hlt,beq_eq_false_iff_ne.1 hp,Jc,r2,Dv,v3⟩
      .rw[List.pairwise_append];refine⟨r.o.2,List.pairwise_singleton _ _,λa ha b hb=>?_⟩;rw[ES.1 hb];exact A a ha
      .intro x hx;rcases E8.1 hx with hx|hx;.exact aHs (A x hx)
       rw[ES.1 hx];exact Nat.lt_succ_self k
      .simp;omega
      .exact⟨by rwa[aTA,DV],by rwa[DV]⟩
      exact⟨j2,(C1 a9 z).trans d.1,d.2⟩
     clear U C2 dH Rg;go_wp2;exact Jz
    go_wp2;first
    |exact⟨⟨k+1,A',BV,y⟩,by simp[B0];omega⟩
    |
     (
      go_roundw;case rel=>exact⟨k+1,A',BV,y⟩
      case measure=>simp[B0];omega)
   go_wp2;first
   |exact⟨⟨k+1,A',BV,y⟩,by simp[B0];omega⟩
   |
    (
     go_roundw;case rel=>exact⟨k+1,A',BV,y⟩
     case measure=>simp[B0];omega)
  go_wp2;go_ret;exact⟨_,l,rfl,r,m3,GC,D⟩
theorem aTr{base}(h:w.ownsRow base e s v n xs)(hk:Kept T w w')(hT:∀k,base<=k->¬T k):w'.ownsRow base e s v n xs:=by
 refine⟨h.1,?_⟩;rcases h.2 with I|⟨g,cap,cur,N,h2,h3,h4⟩;.grind
 let hlt:g<w:=by
  rcases JR g w with I|I;.grind
  grind
 exact AF ⟨g,cap,cur,N,h2,Ar (hk.block g hlt (hT g h2)),h4⟩
theorem aTt{base c}(h:w.ownsRow base e s v n xs)(hb:c<=base):w.ownsRow c e s v n xs:=by
 refine⟨h.1,?_⟩;rcases h.2 with N|⟨g,cap,cur,I,h2,h3⟩;.grind
 exact AF ⟨g,cap,cur,I,Dn hb h2,h3⟩
def af(C:zw)(k j:Nat):Prop:=C.size=31/\(∀i,15<=i->i<31->C[i]?=Z (A0 J 0 0))/\(∀i,i<15->∃v:Int,C[i]?=Z (AB AJ v))/\(∀q r,q<5->r<3->q<k∨q=k/\r<j->∃v:Nat,C[q*3+r]?=Z (AB AJ (v:Int))/\1<=v/\v<=9)/\∀q r(a b:Int),q<5->r<2->q<k∨q=k/\r+1<j->C[q*3+r]?=Z (AB AJ a)->C[q*3+(r+1)]?=Z (AB AJ b)->a<b
def MI(a9 n:Nat)(rv:A3)(w:A1)(k j:Nat)(wr:A1):Prop:=∃C,wr.heap[a9+1]?=Z (A7 C 43 (0,0))/\af C k j/\(∃i,N0 wr a9 rv n i)/\AO w w wr
def pW{base}(h:Kz w base v l)(hk:Kept T w w')(hT:∀k,base<=k->¬T k):Kz w' base v l:=h.of (aTr h.1 hk hT) λg I h2=>hk.block g h2 (hT g I)
def aAY{base c}(h:Kz w base v l)(hb:c<=base):Kz w c v l:=⟨aTt h.1 hb,h.2⟩
theorem Oc.later(h:Oc w a9 rv n)(hb:AO w w w'):Oc w' a9 rv n:=by
 obtain⟨d,c,rfl,h⟩:=h;refine⟨d,c,rfl,?_⟩;rcases h with h|⟨U,I,N,h2,h3⟩;.grind
 refine AF ⟨U,I,N,h2,λj hj=>?_⟩;let⟨x,hx,hr⟩:=h3 j hj;exact⟨x,keep hb hx,hr⟩
def qH(w)(b o)(v):Kept (λk=>k=b) w (w.setCell ⟨b,o,J⟩ v):=by let h:=(Az 0 w).setCell (p:=⟨b,o,J⟩) (JS _) v;exact⟨h.os,h.tape,h.output,h.size,λi _ hi=>DC w _ _ _ hi⟩
theorem aLu{v:Nat}(h:af C k j)(hk:k<5)(hj:j<3)(U:1<=v)(c:v<=9)(I:0<j->∀a:Int,C[k*3+(j-1)]?=Z (AB AJ a)->a<(v:Int)):af (C.setIfInBounds (k*3+j) (v:Int)) k (j+1):=by
 let⟨h1,h2,h3,h4,h5⟩:=h;refine⟨BA,λi hi1 d=>?_,λi hi=>?_,λq r hq hr N=>?_,λq r a b hq hr N ha hb=>?_⟩;.grind
 .grind
 .by_cases e:k*3+j=q*3+r;.rw[e,Va A'];exact⟨v,rfl,U,c⟩
  rw[Mm e];exact h4 q r hq hr A'
 rw[Mm A']at ha;by_cases e:k*3+j=q*3+(r+1);.rw[e,Va A']at hb;injection hb with hb;injection hb with _ hb;rw[<-hb];let e2:q*3+r=k*3+(j-1):=A';rw[e2]at ha;exact I A' a ha
 rw[Mm e]at hb;exact h5 q r a b hq hr A' ha hb
def aLv(h:af C k 3):af C (k+1) 0:=⟨h.1,h.2.1,h.2.2.1,λq r hq hr I=>h.2.2.2.1 q r hq hr A',λq r a b hq hr I=>h.2.2.2.2 q r a b hq hr A'⟩
def aLw(h:af C 5 0):TC C:=⟨h.1,λq k hq hk=>h.2.2.2.1 q k hq hk A',λq k a b hq hk=>h.2.2.2.2 q k a b hq hk A'⟩
def mX(wr:A1)(c k j v:Nat):Prop:=0<j->wr.cell? ⟨c,k*3+(j-1),J⟩=Z (AB AJ (v:Int))
theorem aS'{v c:Nat}{wr:A1}(h:MI a9 n rv w k j wr)(f:a9=w)(hk:k<5)(hj:j<3)(U:1<=v)(d:v<=9)(hl:mX wr (a9+1) k j c)(m:c<v):MI a9 n rv w k (j+1) (wr.setCell ⟨a9+1,k*3+j,J⟩ (v:Int)):=by
 let⟨C,h1,h2,⟨i,h3,h3'⟩,h4⟩:=h;let hlt:a9+1<wr:=by
  rcases JR (a9+1) wr with I|I;.grind
  grind
 let N:0<j->∀a:Int,C[k*3+(j-1)]?=a->a<v:=λh0 a ha=>by have:=hl h0;rw[A_ h1,ha]at this;injection this with this;injection this with _ this;omega
 refine⟨_,CO wr _ _ _ _ _ h1,aLu h2 hk hj U d N,⟨i,?_,h3'⟩,h4.setCell (by show w<=a9+1;omega) _⟩;rwa[(qH wr (a9+1) (k*3+j) v).block a9 A' A']
def MI.raw{wr}(h:MI a9 n rv w k j wr):∃i,N0 wr a9 rv n i:=h.elim λ_ x=>x.2.2.1
def MI.below{wr:A1}(h:MI a9 n rv w k j wr):AO w w wr:=h.elim λ_ x=>x.2.2.2
def MI.store{wr}(h:MI a9 n rv w k j wr)(hi:i<15):(∃x:Int,wr.cell? ⟨a9+1,i,J⟩=Z (AB AJ x))/\wr.frozen? ⟨a9+1,i,J⟩=A9:=by let⟨C,h1,h2,_,_⟩:=h;let⟨x,hx⟩:=h2.2.2.1 i hi;exact⟨⟨x,Ar (A_ h1)⟩,C' h1 i⟩
theorem aS0{wr:A1}(h:MI a9 n rv w k j wr)(N:a9=w)(hk:Kept (λi=>i=a9) wr w1)(hr:∃i,N0 w1 a9 rv n i):MI a9 n rv w k j w1:=by
 let⟨C,h1,h2,_,h4⟩:=h;let hlt:a9+1<wr:=by
  rcases JR (a9+1) wr with I|I;.grind
  grind
 refine⟨C,Ar (hk.block (a9+1) hlt A'),h2,hr,h4.trans (hk.below A' λi hi=>A')⟩
def aS1{wr}(h:MI a9 n rv w k 3 wr):MI a9 n rv w (k+1) 0 wr:=by let⟨C,h1,h2,h3,h4⟩:=h;exact⟨C,h1,aLv h2,h3,h4⟩
def aCK:∀i:Fin 31,(i.val<15->(#[AB AJ 0,AB AJ 0,AB AJ 0,AB AJ 0,AB AJ 0,AB AJ 0,AB AJ 0,AB AJ 0,AB AJ 0,AB AJ 0,AB AJ 0,AB AJ 0,AB AJ 0,AB AJ 0,AB AJ 0,A0 J 0 0,A0 J 0 0,A0 J 0 0,A0 J 0 0,A0 J 0 0,A0 J 0 0,A0 J 0 0,A0 J 0 0,A0 J 0 0,A0 J 0 0,A0 J 0 0,A0 J 0 0,A0 J 0 0,A0 J 0 0,A0 J 0 0,A0 J 0 0]:zw)[i.val]?=Z (AB AJ 0))/\(15<=i.val->(#[AB AJ 0,AB AJ 0,AB AJ 0,AB AJ 0,AB AJ 0,AB AJ 0,AB AJ 0,AB AJ 0,AB AJ 0,AB AJ 0,AB AJ 0,AB AJ 0,AB AJ 0,AB AJ 0,AB AJ 0,A0 J 0 0,A0 J 0 0,A0 J 0 0,A0 J 0 0,A0 J 0 0,A0 J 0 0,A0 J 0 0,A0 J 0 0,A0 J 0 0,A0 J 0 0,A0 J 0 0,A0 J 0 0,A0 J 0 0,A0 J 0 0,A0 J 0 0,A0 J 0 0]:zw)[i.val]?=Z (A0 J 0 0)):=by
 intro⟨i,hi⟩;refine⟨λh=>?_,λh=>?_⟩;.simp only at h⊢;match i,h with|0,_=>rfl|1,_=>rfl|2,_=>rfl|3,_=>rfl|4,_=>rfl|5,_=>rfl|6,_=>rfl|7,_=>rfl|8,_=>rfl|9,_=>rfl|10,_=>rfl|11,_=>rfl|12,_=>rfl|13,_=>rfl|14,_=>rfl|n+15,h=>omega
 simp only at h hi⊢;match i,h,hi with|15,_,_=>rfl|16,_,_=>rfl|17,_,_=>rfl|18,_,_=>rfl|19,_,_=>rfl|20,_,_=>rfl|21,_,_=>rfl|22,_,_=>rfl|23,_,_=>rfl|24,_,_=>rfl|25,_,_=>rfl|26,_,_=>rfl|27,_,_=>rfl|28,_,_=>rfl|29,_,_=>rfl|30,_,_=>rfl|n+31,_,h=>omega|0,h,_=>omega|1,h,_=>omega|2,h,_=>omega|3,h,_=>omega|4,h,_=>omega|5,h,_=>omega|6,h,_=>omega|7,h,_=>omega|8,h,_=>omega|9,h,_=>omega|10,h,_=>omega|11,h,_=>omega|12,h,_=>omega|13,h,_=>omega|14,h,_=>omega
def aS2(w)(rv)(n):MI w.heap.size n rv w 0 0 ((w.alloc (A7 #[rv,AB AJ 0] 110)).alloc (A7 #[AB AJ 0,AB AJ 0,AB AJ 0,AB AJ 0,AB AJ 0,AB AJ 0,AB AJ 0,AB AJ 0,AB AJ 0,AB AJ 0,AB AJ 0,AB AJ 0,AB AJ 0,AB AJ 0,AB AJ 0,A0 J 0 0,A0 J 0 0,A0 J 0 0,A0 J 0 0,A0 J 0 0,A0 J 0 0,A0 J 0 0,A0 J 0 0,A0 J 0 0,A0 J 0 0,A0 J 0 0,A0 J 0 0,A0 J 0 0,A0 J 0 0,A0 J 0 0,A0 J 0 0] 43)):=by
 let e:(w.alloc (A7 #[rv,AB AJ 0] 110)).heap.size=w+1:=AD;refine⟨_,?_,⟨rfl,λi I h2=>(aCK ⟨i,h2⟩).2 I,λi I=>⟨0,(aCK ⟨i,A'⟩).1 I⟩,λq r _ _ h=>A',λq r a b _ _ h=>A'⟩,⟨0,?_,A',A'⟩,((Az _ w).alloc (Ad _) _).alloc AD _⟩;.rw[<-e];exact OS ..
 rw[lH _ _ _ AD];exact OS w _
def bc(B:Nat)(w:A1)(C:zw)(q r:Nat):Prop:=∃v l,C[15+q*3+r]?=Z v/\PH C (q:Int) l/\Kz w B v l
def WE(a9 n:Nat)(rv:A3)(w:A1)(k j:Nat)(wr:A1):Prop:=∃C,wr.heap[a9+1]?=Z (A7 C 43 (0,0))/\TC C/\(∀i,15<=i->i<31->∃a m c,C[i]?=Z (A0 a m c))/\(∀q r,q<5->r<3->q<k∨q=k/\r<j->bc (a9+2) wr C q r)/\(∃i,N0 wr a9 rv n i)/\AO w w wr
def aNi{wr}(h:MI a9 n rv w 5 0 wr):WE a9 n rv w 0 0 wr:=by let⟨C,h1,h2,h3,h4⟩:=h;exact⟨C,h1,aLw h2,λi hi1 I=>⟨_,_,_,h2.2.1 i hi1 I⟩,λq r _ _ h=>A',h3,h4⟩
def aNh{wr}(h:WE a9 n rv w k 3 wr):WE a9 n rv w (k+1) 0 wr:=by let⟨C,h1,h2,h3,h4,h5⟩:=h;exact⟨C,h1,h2,h3,λq r hq hr I=>h4 q r hq hr A',h5⟩
def vb{p}(h:PH C p l)(hi:15<=i)(v):PH (C.setIfInBounds i v) p l:=by refine⟨λx hx=>?_,h.2⟩;let⟨h1,h2,h3,k,h4,h5⟩:=h.1 x hx;exact⟨h1,h2,h3,k,h4,BA⟩
theorem aZz(h:TC C)(hi:15<=i)(v):TC (C.setIfInBounds i v):=⟨Ai h.size,λq k hq hk=>by let⟨x,h1,h2⟩:=h.AI q k hq hk;grind,λq k a b hq hk ha hb=>by rw[Mm A']at ha hb;exact h.aJ q k a b hq hk ha hb⟩
theorem a63{wr:A1}(z:a9=w)(h1:wr.heap[a9+1]?=Z (A7 C 43 (0,0)))(h2:TC C)(h3:∀i,15<=i->i<31->∃a m c,C[i]?=Z (A0 a m c))(h4:∀q r,q<5->r<3->q<k∨q=k/\r<j->bc (a9+2) wr C q r)(h5:AO w w wr)(hk:Kept (λi=>i=a9) wr w1)(hr:∃i,N0 w1 a9 rv n i)(a:Option An)(m c:Nat)(hi1:15<=i)(d:i<31)(I:∀q r,q<5->r<3->q<k∨q=k/\r<j->15+q*3+r≠i):(w1.setCell ⟨a9+1,i,J⟩ (A0 a m c)).heap[a9+1]?=Z (A7 (C.setIfInBounds i (A0 a m c)) 43 (0,0))/\TC (C.setIfInBounds i (A0 a m c))/\(∀h,15<=h->h<31->∃a' m' c',(C.setIfInBounds i (A0 a m c))[h]?=Z (A0 a' m' c'))/\(∀q r,q<5->r<3->q<k∨q=k/\r<j->bc (a9+2) (w1.setCell ⟨a9+1,i,J⟩ (A0 a m c)) (C.setIfInBounds i (A0 a m c)) q r)/\(∃h,N0 (w1.setCell ⟨a9+1,i,J⟩ (A0 a m c)) a9 rv n h)/\AO w w (w1.setCell ⟨a9+1,i,J⟩ (A0 a m c)):=by
 let hlt:a9+1<wr:=by
  rcases JR (a9+1) wr with f|f;.grind
  grind
 let A:=hk.size;let N:=qH w1 (a9+1) i (A0 a m c);refine⟨CO w1 _ _ _ _ _ (Ar (hk.block (a9+1) hlt A')),aZz h2 hi1 _,λh u y=>?_,λq r hq hr' U=>?_,?_,?_⟩
 .by_cases e:i=h;.subst e;exact⟨a,m,c,Va (by rw[h2.size];omega)⟩
  rw[Mm e];exact h3 h u y
 .let⟨v,l,g1,g2,g3⟩:=h4 q r hq hr' U;refine⟨v,l,Ar (Mm λe=>I q r hq hr' U e.symm),vb g2 hi1 _,?_⟩;exact pW (pW g3 hk λx hx=>A') N λx hx=>A'
 .let⟨h,r1,r2⟩:=hr;exact⟨h,Ar (N.block a9 A' A'),r2⟩
 exact(h5.trans (hk.below A' λx hx=>A')).setCell (by show w<=a9+1;omega) _
def a65{a9 n:Nat}{rv:A3}{w wr w1:A1}{k j:Nat}{C:zw}{v:A3}{l:List (Nat×Nat)}(d:a9=w)(f:k<5)(u:j<3)(N:wr.heap[a9+1]?=Z (A7 C 43 (0,0)))(h2:TC C)(h3:∀i,15<=i->i<31->∃a m c,C[i]?=Z (A0 a m c))(h4:∀q r,q<5->r<3->q<k∨q=k/\r<j->bc (a9+2) wr C q r)(h5:AO w w wr)(hfr:PH C (k:Int) l)(hown:Kz w1 wr v l)(hr:∃i,N0 w1 a9 rv n i)(hk:Kept (λi=>i=a9) wr w1):(∃a m c,v=A0 a m c)/\(∃a m c,w1.cell? ⟨a9+1,15+k*3+j,J⟩=Z (A0 a m c))/\w1.frozen? ⟨a9+1,15+k*3+j,J⟩=A9/\WE a9 n rv w k (j+1) (w1.setCell ⟨a9+1,15+k*3+j,J⟩ v):=by
 let hlt:a9+1<wr:=by
  rcases JR (a9+1) wr with I|I;.exact I
  rw[Ml I]at N;cases N
 let e1:w1.heap[a9+1]?=Z (A7 C 43 (0,0)):=Ar (hk.block (a9+1) hlt A');let hv:∃a m c,v=A0 a m c:=by
  rcases hown.1.2 with⟨h,_⟩|⟨g,cp,cur,h,_⟩;.exact⟨_,_,_,h⟩
  exact⟨_,_,_,h⟩
 let⟨a0,m0,c0,hc⟩:=h3 (15+k*3+j) A' A';refine⟨hv,⟨a0,m0,c0,Ar (A_ e1)⟩,C' e1 _,?_⟩;obtain⟨a,m,c,rfl⟩:=hv;let⟨g1,g2,g3,g4,g5,g6⟩:=a63 (i:=15+k*3+j) d N h2 h3 h4 h5 hk hr a m c A' A' λq r hq hr' U=>A';refine⟨_,g1,g2,g3,λq r hq hr' U=>?_,g5,g6⟩;by_cases e:q=k/\r=j;.obtain⟨rfl,rfl⟩:=e;refine⟨_,l,Va (by rw[h2.size];omega),vb hfr A' _,?_⟩;exact aAY (pW hown (qH w1 (a9+1) ..) λx hx=>A') A'
 exact g4 q r hq hr' A'
def WI(w:A1)(B c:Nat)(C:zw)(rt:List (Nat×Nat)):Prop:=w.heap[c]?=Z (A7 C 43 (0,0))/\TC C/\(∀q r,q<5->r<3->bc B w C q r)/\∃v,C[30]?=Z v/\PH C (-1) rt/\Kz w B v rt
def aNg{wr:A1}(d:a9=w)(N:wr.heap[a9+1]?=Z (A7 C 43 (0,0)))(h2:TC C)(h3:∀i,15<=i->i<31->∃a m c,C[i]?=Z (A0 a m c))(h4:∀q r,q<5->r<3->q<5∨q=5/\r<0->bc (a9+2) wr C q r)(h5:AO w w wr)(hfr:PH C (-1) l)(hown:Kz w1 wr v l)(hr:∃i,N0 w1 a9 rv n i)(hk:Kept (λi=>i=a9) wr w1):(∃a m c,v=A0 a m c)/\(∃a m c,w1.cell? ⟨a9+1,30,J⟩=Z (A0 a m c))/\w1.frozen? ⟨a9+1,30,J⟩=A9/\(∃U,WI (w1.setCell ⟨a9+1,30,J⟩ v) (a9+2) (a9+1) U l)/\AO w w (w1.setCell ⟨a9+1,30,J⟩ v):=by
 let hlt:a9+1<wr:=by
  rcases JR (a9+1) wr with I|I;.exact I
  rw[Ml I]at N;cases N
 let e1:w1.heap[a9+1]?=Z (A7 C 43 (0,0)):=Ar (hk.block (a9+1) hlt A');let hv:∃a m c,v=A0 a m c:=by
  rcases hown.1.2 with⟨h,_⟩|⟨g,cp,cur,h,_⟩;.exact⟨_,_,_,h⟩
  exact⟨_,_,_,h⟩
 let⟨a0,m0,c0,hc⟩:=h3 30 A' A';refine⟨hv,⟨a0,m0,c0,Ar (A_ e1)⟩,C' e1 _,?_⟩;obtain⟨a,m,c,rfl⟩:=hv;let⟨g1,g2,g3,g4,g5,g6⟩:=a63 (i:=30) d N h2 h3 h4 h5 hk hr a m c A' A' λq r hq hr' f=>A';refine⟨⟨_,g1,g2,λq r hq hr'=>g4 q r hq hr' (AA hq),_,Va (by rw[h2.size];omega),vb hfr A' _,?_⟩,g6⟩;exact aAY (pW hown (qH w1 (a9+1) ..) λx hx=>A') A'
def aRw(n c:Nat)(d:Option An)(w:A1)(hn:n<=4611686018427387904)(EM:Oc w w (A0 d n c) n):Ab A6 19 #[A0 d n c] w λe w'=>∃C rt,e=AV (B2 (Z ⟨w+1,0,J⟩))/\WI w' (w+2) (w+1) C rt/\AO w w w':=by
 have D:=A2 EM;clear EM;go_enter Tryz.func19,Tryz.ntmps19;go_wp2;go_loopw[5]λi wr=>∃k:Nat,k<=5/\i=k/\AE (MI w n (A0 d n c) w k 0 wr)(λi _=>5-(B0 i).toNat);case atStart=>exact⟨0,A',rfl,aS2 w (A0 d n c) n⟩
 case round=>
  obtain⟨k,hk,rfl,H⟩:=hrel;by_cases hlt:k<5
  .go_wp2;rw[show BK ((k:Int)<5)=A5 from decide_eq_true A'];go_loopw[6,7]λa i z=>∃j:Nat,j<=3/\i=j/\∃v:Nat,a=v/\j<=v/\v<=3*j/\AE (MI w n (A0 d n c) w k j z/\mX z (w+1) k j v)(λ_ i _=>3-(B0 i).toNat);case atStart=>exact⟨0,A',rfl,0,rfl,A',A',A2 ⟨H,λh=>absurd h A'⟩⟩
   case round=>
    obtain⟨j,hj,rfl,v,rfl,Kd,Jc,F⟩:=hrel;have N:=A2 F.o.1;have Q:=A2 F.o.2;clear F;by_cases S:j<3
    .obtain⟨i0,K4⟩:=N.o.raw;go_wp2_with fail;refine(yT w n _ i0 _ hn K4 (D.o.later N.o.below)).mono ?_;rintro e w1⟨r,rfl,hr3,iV,X,-⟩;have u:=A2 (aS0 N rfl X iV);have mJ:AE (mX w1 (w+1) k j v):=λh0=>(C8 (X.block (w+1) (Cn (h:=Q h0)) A')).trans (Q h0);clear X iV K4 N Q;have hst:=u.o.store (i:=k*3+j) A';obtain⟨x,hc⟩:=hst.1;have hf:=hst.2;have R:AE (MI w n (A0 d n c) w k (j+1) (w1.setCell ⟨w+1,k*3+j,J⟩ ((v:Int)+1+(r:Int)))/\mX (w1.setCell ⟨w+1,k*3+j,J⟩ ((v:Int)+1+(r:Int))) (w+1) k (j+1) (v+1+r)):=by refine A2 ?_;rw[show(v:Int)+1+(r:Int)=((v+1+r:Nat):Int)from by omega];have hm:=aS' (v:=v+1+r) u rfl hlt S A' A' mJ A';refine⟨hm,λ_=>?_⟩;obtain⟨C,h1,h2,_⟩:=u;have e1:=CO w1 (w+1) (k*3+j) _ _ ((v+1+r:Nat):Int) h1;rw[show k*3+(j+1-1)=k*3+j by omega,A_ e1];exact Va (by rw[h2.1];omega)
     clear hst u;go_wp2;first
     |exact⟨⟨j+1,A',BV,v+1+r,BV,A',A',R⟩,by simp[B0];omega⟩
     |
      (
       go_roundw;case rel=>exact⟨j+1,A',BV,v+1+r,BV,A',A',R⟩
       case measure=>simp[B0];omega)
    have Y:j=3:=A';subst Y;have R:=A2 (aS1 N);go_wp2;exact Jz
  have y:k=5:=A';have ss:=A2 (aNi (y▸H));have acM:¬(k:Int)<5:=A';clear H y hk hlt;go_wp2;go_loopw[8]λi wr=>∃k:Nat,k<=5/\i=k/\AE (WE w n (A0 d n c) w k 0 wr)(λi _=>5-(B0 i).toNat);case atStart=>exact⟨0,A',rfl,ss⟩
  case round=>
   obtain⟨k,hk,rfl,H⟩:=hrel;by_cases hlt:k<5
   .go_wp2;rw[show BK ((k:Int)<5)=A5 from decide_eq_true A'];go_loopw[9]λi z=>∃j:Nat,j<=3/\i=j/\AE (WE w n (A0 d n c) w k j z)(λi _=>3-(B0 i).toNat);case atStart=>exact⟨0,A',rfl,H⟩
    case round=>
     obtain⟨j,hj,rfl,N⟩:=hrel;by_cases S:j<3
     .obtain⟨C,h1,h2,h3,h4,h5,h6⟩:=N.o;have H1:=A2 h1;have A:=A2 h2;have u:=A2 h3;have aGE:=A2 h4;have ss:=A2 h5;have f:=A2 h6;clear N h1 h2 h3 h4 h5 h6;go_wp2_with fail;have aDZ:AE (wr.drew.heap[w.heap.size+1]?=Z (A7 C 43 (0,0))):=H1;have aDb:AE (∃i,N0 wr.drew w (A0 d n c) n i):=ss;have G9:AE (AO w w wr.drew):=A2 ⟨f.o.os,f.o.tape,f.o.output,f.o.size,f.o.block⟩;have z9:=@a65 w n (A0 d n c) w wr;have tT:AE (∀(w1:A1)(v:A3)(l:List (Nat×Nat)),PH C (k:Int) l->Kz w1 wr.drew v l->(∃i,N0 w1 w (A0 d n c) n i)->Kept (λi=>i=w) wr.drew w1->(∃a m c,v=A0 a m c)/\(∃a m c,w1.cell? ⟨w+1,15+k*3+j,J⟩=Z (A0 a m c))/\w1.frozen? ⟨w+1,15+k*3+j,J⟩=A9/\WE w n (A0 d n c) w k (j+1) (w1.setCell ⟨w+1,15+k*3+j,J⟩ v)):=λw1 v l hfr hown U I=>a65 rfl hlt S H1 A u aGE f hfr hown U ⟨I.os,I.tape,I.output,I.size,I.block⟩;clear z9;go_region_with(go_at_call 50;refine(aCA (w+1) w n (A0 d n c) (k:Int) C wr.drew hn A aDZ A' aDb (D.o.later G9)).mono ?_;rintro e w1⟨v,l,rfl,hfr,hown,U,I⟩;obtain⟨⟨a,m,cc,rfl⟩,⟨a0,m0,c0,hc⟩,hf,R⟩:=tT w1 v l hfr hown U I;have R':=A2 R;clear R hfr hown U I);go_wp2;first
      |exact⟨⟨j+1,A',BV,R'⟩,by simp[B0];omega⟩
      |
       (
        go_roundw;case rel=>exact⟨j+1,A',BV,R'⟩
        case measure=>simp[B0];omega)
     have Y:j=3:=A';have R:=A2 (aNh (Y▸N));go_wp2;exact Jz
   have y:k=5:=A';obtain⟨C,h1,h2,h3,h4,h5,h6⟩:=(y▸H:WE w n (A0 d n c) w 5 0 wr);have tT:AE (∀(w1:A1)(v:A3)(l:List (Nat×Nat)),PH C (-1) l->Kz w1 wr v l->(∃i,N0 w1 w (A0 d n c) n i)->Kept (λi=>i=w) wr w1->(∃a m c,v=A0 a m c)/\(∃a m c,w1.cell? ⟨w+1,30,J⟩=Z (A0 a m c))/\w1.frozen? ⟨w+1,30,J⟩=A9/\(∃eU,WI (w1.setCell ⟨w+1,30,J⟩ v) (w+2) (w+1) eU l)/\AO w w (w1.setCell ⟨w+1,30,J⟩ v)):=λw1 v l hfr hown U I=>aNg rfl h1 h2 h3 h4 h6 hfr hown U I;have H1:=A2 h1;have A:=A2 h2;have aGF:=A2 h5;have f:=A2 h6;clear H h1 h2 h3 h4 h5 h6 y;go_wp2_with fail;refine(aCA (w+1) w n (A0 d n c) (-1) C _ hn A H1 A' aGF (D.o.later f)).mono ?_;rintro e w1⟨v,l,rfl,hfr,hown,U,I⟩;obtain⟨⟨a,m,cc,rfl⟩,⟨a0,m0,c0,hc⟩,hf,⟨eU,hM⟩,hB⟩:=tT w1 v l hfr hown U I;have wt:=A2 hM;have W7:=A2 hB;clear hfr hown U I hM hB;go_wp2;go_ret;exact⟨eU,l,rfl,wt,W7⟩
def aQw(n)(h:n<5):(Ji #[97,98,99,100,101]).extract n (n+1)=⟨#[UU (97+n)]⟩:=by have:∀n:Fin 5,(Ji #[97,98,99,100,101]).extract n.val (n.val+1)=⟨#[UU (97+n.val)]⟩:=Ac;exact this ⟨n,h⟩
def pY(q:Nat)(h:q<5)(w:A1):Ab A6 21 #[(q:Int)] w λe w'=>e=AV (A4 (V.mp q))/\w'=w:=by
 let hw:AJ.wrap (q+1)=q+1:=by rw[RU];omega
 have d:∀I:A1,(lG 9 (A4 ⟨#[97,98,99,100,101]⟩) (Z q) (Z (AB AJ (q+1))) J).run A6 I=.ok (A4 ⟨#[UU (97+q)]⟩) I:=by intro I;let f:=aG0 I 9 ⟨#[97,98,99,100,101]⟩ AJ AJ q (q+1) fI A' A' (by show _<=5;omega);rwa[show((q:Int)+1).toNat=q+1 from A',bS,aQw q h]at f
 let N:=Gk ⟨#[109,47]⟩ ⟨#[UU (97+q)]⟩ (by show 2+1<=_;omega);have U:AE (⟨#[109,47]⟩++⟨#[UU (97+q)]⟩=V.mp q):=aDo ..;generalize UU (97+q)=c at d N U;go_wp2;go_ret;exact⟨aI U,rfl⟩
def nR(n:Nat)(h:n<10)(w):Ab A6 16 #[(n:Int)] w λe w'=>e=AV (A4 ⟨#[V.Jy n]⟩)/\∃q,w'=w.drewN q:=by refine(aKZ 0 A' n w A' A' A').mono ?_;rintro e w'⟨rfl,hq⟩;trivial
def qW(n:Nat)(h:n<30)(w:A1):Ab A6 22 #[(n:Int)] w λe w'=>e=AV (A4 (V.CY n))/\∃q,w'=w.drewN q:=by
 obtain⟨a,ha⟩:∃a,n/3=a:=⟨_,rfl⟩;obtain⟨b,hb⟩:∃b,n%3=b:=⟨_,rfl⟩;have ht:(n:Int).tmod 3=b:=by rw[aH6 A'];omega
 have hd:(n:Int).tdiv 3=a:=by rw[Int.tdiv_eq_ediv_of_nonneg A'];omega
 have m:n/3=a:=A';have r:n%3=b:=A';have I:a<10:=A';let u:wrap64 a=a:=by unfold wrap64;omega
 let h1:=Gk ⟨#[118,49,46]⟩ ⟨#[V.Jy a]⟩ (by show 3+1<=_;omega);by_cases c:b=0
 .let h2:=Gk (⟨#[118,49,46]⟩++⟨#[V.Jy a]⟩) ⟨#[46,48,45,114,99]⟩ (by rw[EO];show 3+1+5<=_;omega);have U:AE (⟨#[118,49,46]⟩++⟨#[V.Jy a]⟩++⟨#[46,48,45,114,99]⟩=V.CY n):=by refine A2 ?_;unfold V.CY V.LO;rw[hb,c,ha];rfl
  subst c;clear ha hb h;go_enter Tryz.func22,Tryz.ntmps22;go_wp2_with fail;refine(nR a I _).mono ?_;rintro e w1⟨rfl,q1,rfl⟩;go_wp2;go_ret;exact⟨aI U,q1,rfl⟩
 obtain⟨d,f⟩:∃d,b=d+1:=⟨b-1,A'⟩;let h2:=Gk (⟨#[118,49,46]⟩++⟨#[V.Jy a]⟩) ⟨#[46]⟩ (by rw[EO];show 3+1+1<=_;omega);let h3:=Gk (⟨#[118,49,46]⟩++⟨#[V.Jy a]⟩++⟨#[46]⟩) ⟨#[V.Jy d]⟩ (by rw[EO,EO];show 3+1+1+1<=_;omega);have U:AE (⟨#[118,49,46]⟩++⟨#[V.Jy a]⟩++⟨#[46]⟩++⟨#[V.Jy d]⟩=V.CY n):=by refine A2 ?_;unfold V.CY V.LO;rw[hb,f,ha];rfl
 have N:d<10:=A';have x:(b==0)=A9:=by rw[beq_eq_false_iff_ne];omega
 have y:(b:Int)-1=(d:Int):=A';clear ha hb h f c;go_enter Tryz.func22,Tryz.ntmps22;go_wp2_with fail;refine(nR a I _).mono ?_;rintro e w1⟨rfl,q1,rfl⟩;go_wp2_with fail;first|refine(nR d N _).mono ?_|(rw[y];refine(nR d N _).mono ?_)
 rintro e w2⟨rfl,q2,rfl⟩;go_wp2;go_ret;exact⟨aI U,q1+q2,rfl⟩
def Nl(w:A1)(v:A3)(l:List (Nat×Nat)):Prop:=v=A0 J 0 0/\l=[]∨∃g c,v=A0 (Z ⟨g,0,J⟩) l c/\∀j(h:j<l.length),w.cell? ⟨g,j*2,J⟩=Z (AB AJ (l[j].1:Int))/\w.cell? ⟨g,j*2+1,J⟩=Z (AB AJ (l[j].2:Int))
theorem aA'(l):∀j(h:j<l.length),(GX l)[j*2]?=Z (AB AJ (l[j].1:Int))/\(GX l)[j*2+1]?=Z (AB AJ (l[j].2:Int)):=by
 induction l with
 |nil=>grind
 |cons x xs I=>
  intro j hj;let e:GX (x::xs)=[AB AJ x.1,AB AJ x.2]++GX xs:=rfl;match j with
  |0=>exact⟨rfl,rfl⟩
  |j+1=>
   have:=I j (by simp at hj;omega);rw[e];refine⟨?_,?_⟩;.rw[Rj Av,gA,<-this.1];congr 1;simp;omega
   rw[Rj Av,gA,<-this.2];congr 1;simp;omega
theorem aA0(h:w.ownsRow B 45 2 v l (GX l)):Nl w v l:=by
 rcases h.2 with⟨I,h2⟩|⟨N,c,cur,I,_⟩;.exact AA ⟨I,List.length_eq_zero_iff.1 h2⟩
 refine AF ⟨N,c,I,λj hj=>?_⟩;let h2:=(λg=>h.cells (g:=g)) N (Af I);let h3:=aA' l j hj;grind[Ea]
def Nl.later(h:Nl w v l)(hb:AO w w w'):Nl w' v l:=by
 rcases h with h|⟨g,c,I,h2⟩;.exact AA h
 exact AF ⟨g,c,I,λj hj=>⟨keep hb (h2 j hj).1,keep hb (h2 j hj).2⟩⟩
theorem a5E{p}(h:PH C p l):V.Qe l/\l.length<=5:=by
 refine⟨⟨λx hx=>⟨(h.1 x hx).1,BO ((h.1 x hx).2.2.1)⟩,h.2⟩,?_⟩;let I:∀(l:List (Nat×Nat))(m:Nat),(∀x∈l,m<=x.1/\x.1<5)->l.Pairwise (λx y=>x.1<y.1)->l+m<=5∨l=[]:=by
  intro l;induction l with
  |nil=>intro m _ _;exact AF rfl
  |cons x xs U=>
   intro m hm hp;rw[bX]at hp;let hx:=hm x (Le ..);have:=U (x.1+1) (λy hy=>⟨hp.1 y hy,(hm y (G1 _ hy)).2⟩) hp.2;rcases this with h|h;.exact AA Av
   exact AA (by rw[h];simp;omega)
 rcases I l 0 (λx hx=>⟨JS _,(h.1 x hx).1⟩) h.2 with N|N;.omega
 grind
def df(x:Nat×Nat):zx:=[114,101,113,117,105,114,101,32]++V.Je x.1++[32]++V.LO x.2++[10]
def a9r(n):(V.LO n).length<=9:=by unfold V.LO;split<;>simp
theorem aW6(x):(df x).length<=22:=by have:=a9r x.2;simp_all[df,V.Je]
theorem a5A{α:Type}(f:α->zx)(M)(h:∀x,(f x).length<=M):∀l:List α,(l.flatMap f).length<=l.length*M|[]=>AD|x::xs=>by have:=a5A f M h xs;grind[DV,T3,aHz]
def XO(q):(V.mp q).size=3:=rfl
def dV(n):(V.CY n).size<=9:=by exact a9r n
def aJ3:A6.keyTypeAt 3 184=A5:=A8
def aZH:A6.tiled 3 184=A5:=A8
theorem aQQ:a1U A6 184:=deep_law A' aJ3 aZH (by simp_all)
def aQI:A6.keyType 184=A5:=A8
def aJm:A6.cellsOf 184=3:=rfl
def aM8(a b c):(AH #[a,b,c]).formed A6 184=A5:=by rfl
def V.Sz(p:Int×zz×zz):Prop:=(s7 AJ p.1).wf=A5/\p.2.1<=BZ/\p.2.2<=BZ
def aJk:A6.cellsOf 182=1:=rfl
def a3x:A6.cellsOf 9=1:=rfl
def size_pos:0<A6.types.size:=of_decide_eq_true (rfl)
def a8R(p)(h:V.Sz p):∃l,sc A6 184 (JC p)=Z l:=by
 obtain⟨I,h2,h3⟩:=h;let hl:∃ls,A6.keyLits (A6.types+1) 184 [AX p.1,p.2.1,p.2.2]=Z ls:=by obtain⟨d,hd⟩:∃d,A6.types.size=d+1:=⟨A6.types.size-1,BO size_pos⟩;rw[hd];simp only[aF8,aJm];simp[aJk,a3x,I,h2,h3]
 obtain⟨ls,hl⟩:=hl;refine⟨.string (keyBytes ls),?_⟩;unfold sc JC;rw[Tryz.underlying184];simp only[aQI,aM8,Bool.and_self,if_true];show(A6.keyLits (A6.types.size+1) 184 [AX p.1,A4 p.2.1,A4 p.2.2]).map _=_;rw[hl];rfl
theorem aUB{p q}(h:JC p=JC q):p=q:=by grind[JC]
def NO(l:List ((Int×zz×zz)×Nat)):Array Fy:=(l.zipIdx.map λx=>({key:=JC x.1.1,val:=(x.1.2:Int),born:=x.2}:Fy)).toArray
theorem a3i{a}(h:AO B a w)(hk:B<=k)(o):AO B a {w with heap:=w.heap.setIfInBounds k o}:=⟨h.os,h.tape,h.output,Ai h.size,λj hj=>by rw[<-h.block j hj];grind⟩
def om:(A6.info? 179).map (λi=>(i.zero,i.size,i.bytes))=Z (Z CN,1,16):=rfl
theorem aCb{l:List ((Int×zz×zz)×Nat)}{e:Fy}(h:e∈(NO l).toList):∃x∈l,e.key=JC x.1/\e.val=(x.2:Int):=by unfold NO at h;grind
def aYz{l x}(h:x∈l):∃e∈(NO l).toList,e.key=JC x.1:=by obtain⟨k,hk,rfl⟩:=Mw.1 h;exact⟨_,Bt.2 ⟨(l[k],k),As (List.mem_zipIdx_iff_getElem?) (En hk),rfl⟩,rfl⟩
theorem aZ'(l)(p)(n:Nat):NO (l++[(p,n)])=(NO l).push {key:=JC p,val:=(n:Int),born:=l}:=by grind[NO]
def a5'(l)(p)(w)(hp:V.Sz p)(hl:∀x∈l,V.Sz x.1):((Vs 184 (JC p) (NO l).toList).run A6 w=.ok J w/\∀x∈l,x.1≠p)∨∃x∈l,x.1=p/\∃j,(Vs 184 (JC p) (NO l).toList).run A6 w=.ok (Z (j,(x.2:Int))) w:=by
 let⟨lx,hlx⟩:=a8R p hp;rcases aQQ.find w hlx (NO l).toList λe he=>by let⟨x,hx,hk,_⟩:=aCb he;rw[hk];exact a8R _ (hl x hx)with⟨h,h2⟩|⟨j,e,h,h2,h3⟩;.refine AA ⟨h,λx hx I=>?_⟩;let⟨e,he,hk⟩:=aYz hx;exact h2 e he (by rw[hk,I])
 let⟨x,hx,hk,hv⟩:=aCb (Jq h2);exact AF ⟨x,hx,aUB (hk.symm.trans h3),j,by rw[h,hv]⟩
def um(p)(hp:V.Sz p)(e)(w):(rq e 10000 184 (JC p)).run A6 w=.ok () w:=by rfl
def aRJ(r c:Nat)(l:List ((Int×zz×zz)×Nat))(p:Int×zz×zz)(w:A1)(hp:V.Sz p)(hl:∀x∈l,V.Sz x.1)(hb:w.heap[r]?=Z (B4 (NO l) c)):((Fb 299 (AL (Z r)) (JC p) A9).run A6 w=.ok (AB AJ 0) w/\∀x∈l,x.1≠p)∨∃x∈l,x.1=p/\(Fb 299 (AL (Z r)) (JC p) A9).run A6 w=.ok (x.2:Int) w:=by
 rcases a5' l p w hp hl with⟨h,h2⟩|⟨x,hx,I,j,h⟩;.refine AA ⟨?_,h2⟩;simp[Fb,OO hb,um p hp,h,KO]
 refine AF ⟨x,hx,I,?_⟩;simp[Fb,OO hb,um p hp,h,KO]
theorem aUT(r)(l)(p)(n:Nat)(w)(hp:V.Sz p)(hl:∀x∈l,V.Sz x.1)(hn:∀x∈l,x.1≠p)(hb:w.heap[r]?=Z (B4 (NO l) l)):(Y3 299 (AL (Z r)) (JC p) (n:Int)).run A6 w=.ok () {w with heap:=w.heap.setIfInBounds r (B4 (NO (l++[(p,n)])) (l+1))}:=by
 rcases a5' l p w hp hl with⟨h,h2⟩|⟨x,hx,I,j,h⟩;.rw[aZ'];simp[Y3,OO hb,um p hp,h,fA _ hb,KO]
 grind
def aJ4:A6.keyTypeAt 3 85=A5:=A8
def aZI:A6.tiled 3 85=A5:=A8
theorem a8d:a1U A6 85:=deep_law A' aJ4 aZI (by simp_all)
def aQJ:A6.keyType 85=A5:=A8
def aJn:A6.cellsOf 85=2:=rfl
abbrev AW:=zz×zz
def EH(p:AW):A3:=AH #[p.1,p.2]
def D6(p:AW):Prop:=p.1<=BZ/\p.2<=BZ
def xu(p)(h:D6 p):∃l,sc A6 85 (EH p)=Z l:=by
 let⟨h1,h2⟩:=h;let hl:∃ls,A6.keyLits (A6.types+1) 85 [p.1,p.2]=Z ls:=by obtain⟨d,hd⟩:∃d,A6.types.size=d+1:=⟨A6.types.size-1,BO size_pos⟩;rw[hd];simp only[aF8,aJn];simp[a3x,h1,h2]
 let⟨ls,hl⟩:=hl;refine⟨.string (keyBytes ls),?_⟩;unfold sc EH;rw[fH];simp only[aQJ,if_true];show(A6.keyLits (A6.types.size+1) 85 [A4 p.1,A4 p.2]).map _=_;rw[hl];rfl
theorem aSD{p q}(h:EH p=EH q):p=q:=by grind[EH]
def WY(p)(hp:D6 p)(e)(w):(rq e 10000 85 (EH p)).run A6 w=.ok () w:=by rfl
def Ba(l:List (AW×Nat)):Array Fy:=(l.zipIdx.map λx=>({key:=EH x.1.1,val:=(x.1.2:Int),born:=x.2}:Fy)).toArray
theorem a9W{l:List (AW×Nat)}{e:Fy}(h:e∈(Ba l).toList):∃x∈l,e.key=EH x.1/\e.val=(x.2:Int):=by unfold Ba at h;grind
def jS(l):(Ba l).size=l:=by simp[Ba]
theorem VF{l:List (AW×Nat)}(j)(hj:j<l.length):(Ba l)[j]?=Z {key:=EH l[j].1,val:=(l[j].2:Int),born:=j}:=by grind[Ba,En]
theorem a9X(l)(p)(n:Nat):Ba (l++[(p,n)])=(Ba l).push {key:=EH p,val:=(n:Int),born:=l}:=by grind[Ba]
def cG(l)(p)(w)(hp:D6 p)(hl:∀x∈l,D6 x.1):((Vs 85 (EH p) (Ba l).toList).run A6 w=.ok J w/\∀x∈l,x.1≠p)∨∃j,∃hj:j<l.length,l[j].1=p/\(Vs 85 (EH p) (Ba l).toList).run A6 w=.ok (Z (j,(l[j].2:Int))) w:=by
 let⟨lx,hlx⟩:=xu p hp;rcases a8d.find w hlx (Ba l).toList λe he=>by let⟨x,hx,hk,_⟩:=a9W he;rw[hk];exact xu _ (hl x hx)with⟨h,h2⟩|⟨j,e,h,h2,h3⟩;.refine AA ⟨h,λx hx I=>?_⟩;obtain⟨j,hj,rfl⟩:=Mw.1 hx;let h4:=VF j hj;rw[<-eO]at h4;exact h2 _ (Jq h4) (by rw[I])
 have hj:=by have:=Po h2;rwa[Array.length_toList,jS]at this
 let h4:=VF j hj;rw[<-eO,h2]at h4;injection h4 with h4;subst h4;exact AF ⟨j,hj,aSD h3,h⟩
def Zk(r c:Nat)(l:List (AW×Nat))(p:AW)(w:A1)(hp:D6 p)(hl:∀x∈l,D6 x.1)(hb:w.heap[r]?=Z (B4 (Ba l) c)):((Fb 131 (AL (Z r)) (EH p) A9).run A6 w=.ok (AB AJ 0) w/\∀x∈l,x.1≠p)∨∃x∈l,x.1=p/\(Fb 131 (AL (Z r)) (EH p) A9).run A6 w=.ok (x.2:Int) w:=by
 rcases cG l p w hp hl with⟨h,h2⟩|⟨j,hj,I,h⟩;.refine AA ⟨?_,h2⟩;simp[Fb,OO hb,WY p hp,h,KO]
 refine AF ⟨l[j],Ci hj,I,?_⟩;simp[Fb,OO hb,WY p hp,h,KO]
def y0(r c:Nat)(l:List (AW×Nat))(p:AW)(w:A1)(hp:D6 p)(hl:∀x∈l,D6 x.1)(hb:w.heap[r]?=Z (B4 (Ba l) c)):((Fb 131 (AL (Z r)) (EH p) A5).run A6 w=.ok (Aj #[AB AJ 0,Ag A9]) w/\∀x∈l,x.1≠p)∨∃x∈l,x.1=p/\(Fb 131 (AL (Z r)) (EH p) A5).run A6 w=.ok (Aj #[(x.2:Int),Ag A5]) w:=by
 rcases cG l p w hp hl with⟨h,h2⟩|⟨j,hj,I,h⟩;.refine AA ⟨?_,h2⟩;simp[Fb,OO hb,WY p hp,h,KO]
 refine AF ⟨l[j],Ci hj,I,?_⟩;simp[Fb,OO hb,WY p hp,h,KO]
theorem aAq(r)(l)(p)(n:Nat)(w)(hp:D6 p)(hl:∀x∈l,D6 x.1)(hn:∀x∈l,x.1≠p)(hb:w.heap[r]?=Z (B4 (Ba l) l)):(Y3 131 (AL (Z r)) (EH p) (n:Int)).run A6 w=.ok () {w with heap:=w.heap.setIfInBounds r (B4 (Ba (l++[(p,n)])) (l+1))}:=by
 rcases cG l p w hp hl with⟨h,_⟩|⟨j,hj,I,h⟩;.rw[a9X];simp[Y3,OO hb,WY p hp,h,fA _ hb,KO]
 grind
theorem aRI(r c)(p)(w)(hp:D6 p)(hb:w.heap[r]?=Z (B4 #[] c)):(Fb 131 (AL (Z r)) (EH p) A9).run A6 w=.ok (AB AJ 0) w:=by
 rcases Zk r c [] p w hp (λx hx=>absurd hx IX) hb with⟨h,_⟩|⟨x,hx,_⟩;.exact h
 grind
theorem a8z(r c)(p)(w)(hp:D6 p)(hb:w.heap[r]?=Z (B4 #[] c)):(Fb 132 (AL (Z r)) (EH p) A5).run A6 w=.ok (Aj #[AH #[A4 ⟨#[]⟩,A4 ⟨#[]⟩],Ag A9]) w:=by
 rcases cG [] p w hp λx hx=>absurd hx IX with⟨h,_⟩|⟨j,hj,_⟩;.let h:(Vs 85 (EH p) []).run A6 w=.ok J w:=h;simp[Fb,OO hb,WY p hp,h,KO]
 grind
def bn(w:A1)(I:Nat)(l:List (Nat×Nat×List zz)):Prop:=∀j(h:j<l.length),w.cell? ⟨I,j*2,J⟩=Z (AB AJ (l[j].1:Int))/\w.cell? ⟨I,j*2+1,J⟩=Z (DD l[j].2.1 (AH (l[j].2.2.map A4).toArray))
def V.kp(x:Nat×Nat×List zz):Prop:=V.Qi x/\x.1≠0/\∀a∈x.2.2,a.size<=281474976710656
def V.kp.aQK{x}(h:V.kp x):V.Sz (V.place x.2.1 x.2.2):=by
 let⟨hx,_,hs⟩:=h;let⟨n,t,fs⟩:=x;let e0:(⟨#[]⟩:zz)<=BZ:=Ac;rcases hx with⟨I,a,h2⟩|⟨I,a,b,h2⟩|⟨I,a,b,h2⟩|⟨I,a,b,c,d,h2⟩;all_goals subst I h2
 .exact⟨by rfl,by have:=hs a AD;show a<=BZ;unfold BZ;omega,e0⟩
 .exact⟨by show(s7 AJ 1).wf=A5;decide,by have:=hs a AD;show a<=BZ;unfold BZ;omega,e0⟩
 .exact⟨by show(s7 AJ 2).wf=A5;decide,by have:=hs a AD;show a<=BZ;unfold BZ;omega,by have:=hs b AD;show b<=BZ;unfold BZ;omega⟩
 exact⟨by show(s7 AJ 3).wf=A5;decide,by have:=hs a AD;show a<=BZ;unfold BZ;omega,by have:=hs b AD;show b<=BZ;unfold BZ;omega⟩
def a04(l:List (Nat×Nat×List zz))(w:A1)(k:Nat)(wr:A1):Prop:=∃seen:List ((Int×zz×zz)×Nat),wr.heap[w.heap.size]?=Z (B4 (NO seen) seen)/\(∀y∈seen,V.Sz y.1/\y.2≠0)/\AO w w wr/\V.Jx l []=V.Jx (l.drop k) seen
def aJs(Bv c:Nat)(m:Int)(l:List (Nat×Nat×List zz))(w:A1)(hm:w.cell? ⟨0,0,J⟩=Z (AB AJ m))(hl:l.length<=1000000000000)(ht:bn w Bv l)(hf:∀x∈l,V.kp x):Ab A6 93 #[A0 (Z ⟨Bv,0,J⟩) l c] w λe w'=>∃r,e=AV r/\HK w w' r (V.Jx l [])/\AO w w w':=by
 have Uz:=@aFZ A6;have Au:=A2 ht;have v5:=A2 hf;clear ht hf;go_enter Tryz.func93,Tryz.ntmps93;go_wp2;go_loopw[11]λi wr=>∃k:Nat,k<=l/\i=AX k/\AE (a04 l w k wr)(λi _=>l-(B0 i).toNat);case atStart=>exact⟨0,A',rfl,A2 ⟨[],OS w _,λy hy=>absurd hy (IX),(Az _ _).alloc (Ad _) _,by rw[aHN]⟩⟩
 case round=>
  obtain⟨k,hk,rfl,H⟩:=hrel;obtain⟨seen,E5,z,hb,hgo⟩:=H.o;have a2E:=A2 E5;have Y:=A2 z;have A:=A2 hb;have YF:=A2 hgo;have D:w.heap.size<wr:=B3 E5;clear H E5 z hb hgo;by_cases hlt:k<l
  .have c0:=keep A.o (Au.o k hlt).1;have c1:=keep A.o (Au.o k hlt).2;have u:=A2 (v5.o l[k] (Ci hlt));have Fe:AE (l.drop k=l[k]::l.drop (k+1)):=tb hlt;have ac7:Bv<wr:=Cn (h:=c0);generalize l[k]=x at c0 c1 u Fe;obtain⟨n,t,fs⟩:=x;simp only at c0 c1;go_wp2_with fail;refine(aJr n t fs m _ u.o.1 u.o.2.2 (BR (keep A hm) _)).mono ?_;rintro e w2⟨r,rfl,hr,hb2⟩;have G5:Cf w2 (AR wr) 0 (AX n):=keep hb2 AD;have Gs:w2.cell? ⟨wr,1,J⟩=Z (DD t (AH (fs.map A4).toArray)):=keep hb2 AD;have HB:wr.heap.size+1<=w2:=Ai hb2.size;have aaY:AE (w2.heap[w.heap.size]?=Z (B4 (NO seen) seen)):=by refine A2 ?_;rwa[hb2.block w Av,aFY _ _ _ D]
   have v2:=A2 ((A.o.alloc (gI D) _).trans (hb2.mono Av));clear hb2 c0 c1;cases F:V.cF t fs with
   |some f=>
    obtain⟨aM2,fn,fp,fq⟩:=f;have d:AE (V.Jx l []=Z (aM2,(n:Int),fp,fq)):=by refine A2 ?_;rw[YF.o,Fe.o,V.Jx];simp only[F]
    rw[F]at hr;obtain⟨b,hbl,rfl,D'⟩:=hr;have d1:w2.cell? ⟨b,1,J⟩=fn:=Af (A_ D');have f1:w2.frozen? ⟨b,1,J⟩=A9:=C' D' 1;have Cg:=A2 D';have ac4:wr+1<=b:=Ai hbl;clear D' hbl;go_wp2;go_ret;refine⟨_,rfl,?_,v2.o.setCell (p:=⟨b,1,J⟩) (by show w<=b;omega) _⟩;rw[d.o];refine⟨b,A',rfl,?_⟩;rw[CO _ _ _ _ _ _ Cg.o];rfl
   |none=>
    rw[F]at hr;obtain rfl:r=B2 J:=hr;have Bh:=A2 F;clear F;go_wp2_with fail;refine(ym n t fs _ u.o.1).mono ?_;rintro e w3⟨rfl,Q,_⟩;have S:=A2 u.o.aQK;have aOr:n≠0:=u.o.2.1;have IW:AE (V.Jx l []=if seen.any λy=>BK (y.1=V.place t fs)then Z (4,(n:Int),⟨#[]⟩,⟨#[]⟩)else V.Jx (l.drop (k+1)) (seen++[(V.place t fs,n)])):=by refine A2 ?_;rw[YF.o,Fe.o,V.Jx];simp only[Bh.o]
    simp only at S;generalize V.place t fs=pl at S IW⊢;obtain⟨N,I,U⟩:=pl;rw[JC];simp only;have Mc:w2.heap.size<=w3:=Q.size;have X:(w3.alloc (A7 #[N,I,U] 184)).heap[w.heap.size]?=Z (B4 (NO seen) seen):=by rwa[aFY _ _ _ A',Q.block w A']
    have aXP:=keep Q G5;have adR:=BR aXP (A7 #[AX N,I,U] 184);have Cs:=A2 (v2.o.trans (Q.mono v2.o.size));have Dg:=A2 (Cs.o.alloc Cs.o.size (A7 #[AX N,I,U] 184));clear Q G5 Gs;rcases aRJ w seen seen (N,I,U) _ S (λy hy=>(Y y hy).1) X with⟨GN,Qu⟩|⟨y,hy,oc,GN⟩
    .have j7:=aUT w seen (N,I,U) n _ S (λy hy=>(Y y hy).1) Qu X;have d:AE (V.Jx l []=V.Jx (l.drop (k+1)) (seen++[((N,I,U),n)])):=by refine A2 ?_;rw[IW.o,if_neg];rw[Bool.not_eq_true,List.any_eq_false];intro y hy;simpa using Qu y hy
     have R:AE (a04 l w (k+1) {w3.alloc (A7 #[AX N,I,U] 184)with heap:=(w3.alloc (A7 #[AX N,I,U] 184)).heap.setIfInBounds w (B4 (NO (seen++[((N,I,U),n)])) (seen+1))}):=by
      refine A2 ⟨seen++[((N,I,U),n)],?_,?_,a3i Dg (Ad _) _,d⟩;.rw[DV];exact Va (B3 X)
      intro y hy;rcases E8.1 hy with hy|hy;.exact Y y hy
      rw[ES.1 hy];exact⟨S,aOr⟩
     simp only[JC]at GN j7;clear Qu X;go_wp2;exact Jz
    have hy2:((y.2:Int)!=0)=A5:=by have:=(Y y hy).2;rw[bne_iff_ne];omega
    have d:AE (V.Jx l []=Z (4,(n:Int),⟨#[]⟩,⟨#[]⟩)):=by refine A2 ?_;rw[IW.o,if_pos];rw[a2W];exact⟨y,hy,Ai oc⟩
    simp only[JC]at GN;clear X oc hy;go_wp2;go_ret;refine⟨_,rfl,?_,Dg.o.alloc Dg.o.size _⟩;rw[d.o];refine⟨w3+1,Nat.le_succ_of_le Cs.o.size,rfl,?_⟩;have h:=OS (w3.alloc (A7 #[AX N,I,U] 184)) (A7 #[AX 4,AX (n:Int),A4 ⟨#[]⟩,A4 ⟨#[]⟩] 150);rwa[show(w3.alloc (A7 #[N,I,U] 184)).heap.size=w3+1 from by simp]at h
  have d:AE (V.Jx l []=J):=by refine A2 ?_;rw[YF.o,List.drop_of_length_le A'];rfl
  go_wp2;go_ret;exact⟨_,rfl,Af d,A⟩
theorem a_S(N c n:Nat)(l:List (Nat×Nat×List zz))(w:A1)(hl:l.length<=1000000000000)(hc:l<=c)(hne:l≠[])(ht:bn w N l):Ab A6 94 #[A0 (Z ⟨N,0,J⟩) l c,(n:Int)] w λe w'=>e=AV (A0 (Z ⟨N,0,J⟩) (V.M1 l n) c)/\w'=w:=by
 obtain⟨q,hq⟩:∃q,l.length=q+1:=⟨l.length-1,BO (YW.2 hne)⟩;have hlt:q<l.length:=A';have c0:=(ht q hlt).1;have I:AE (V.M1 l n=if l[q].1=n then l.dropLast else l):=by refine A2 ?_;unfold V.M1;grind
 have U:AE (l.dropLast.length=q):=A2 (by rw[List.length_dropLast];omega);have d:=A2 hq;clear ht;generalize l[q].1=k at c0 I;rw[hq]at hl hc hlt⊢;clear hq;cases hk:k==n
 .have h:AE ((V.M1 l n).length=q+1):=by refine A2 ?_;rwa[I.o,if_neg (by intro e;subst e;simp at hk)]
  rw[h.o];go_enter Tryz.func94,Tryz.ntmps94;go_wp2;go_ret;exact⟨rfl,rfl⟩
 have h:AE (V.M1 l n=q):=by refine A2 ?_;rwa[I.o,if_pos (BO (tZ hk))]
 rw[h.o];go_enter Tryz.func94,Tryz.ntmps94;go_wp2;go_ret;exact⟨rfl,rfl⟩
def LM(x:Nat×List zz):A3:=DD x.1 (AH (x.2.map A4).toArray)
def Kh(l:List (Nat×Nat×List zz)):List A3:=l.map λx=>LM x.2
theorem aQz(l:List (Nat×Nat×List zz))(k)(h):Kh (l.take (k+1))=Kh (l.take k)++[LM l[k].2]:=by grind[Kh,T4]
def aR1(d c:Nat)(l:List (Nat×Nat×List zz))(w:A1)(hl:l.length<=1000000000000)(ht:bn w d l):Ab A6 95 #[A0 (Z ⟨d,0,J⟩) l c] w λe w'=>∃v,e=AV v/\w'.ownsRow w 179 1 v l (Kh l)/\AO w w w':=by
 obtain⟨i0,hi,hz0,hz1,hz2⟩:=FJ om;obtain⟨w1,D,N,f⟩:=run_make_own w (AR w) 99 179 i0 CN 1 lV hi hz0 hz1 AJ AJ l (by rw[hz2];omega) DQ (Ad _);have Au:=A2 ht;have m:=A2 N;have r:=A2 ((Az _ w).grown f (Ad _) λk hk=>by cases hk);have F:=(N.lt _ rfl).2;clear ht N f;go_enter Tryz.func95,Tryz.ntmps95;go_wp2;go_loopw[3,11]λv i wr=>∃k:Nat,k<=l/\i=AX k/\AE (wr.ownsRow w 179 1 v k (Kh (l.take k))/\AO w w wr)(λ_ i _=>l-(B0 i).toNat);case atStart=>exact⟨0,A',rfl,A2 ⟨m,r⟩⟩
 case round=>
  obtain⟨k,hk,rfl,H⟩:=hrel;obtain⟨hown,hb⟩:=H.o;have I:=A2 hown;have h:=A2 hb;clear H hown hb;by_cases hlt:k<l
  .have c0:=keep h.o (Au k hlt).1;have c1:=keep h (Au.o k hlt).2;have U:=A2 (aQz l k hlt);have y:=h.o.size;generalize l[k]=x at c0 c1 U;obtain⟨n,t,fs⟩:=x;simp only at c0 c1;go_wp2_with(at_builtin;refine IU _ rfl _ _ 99 rfl w 179 i0 CN 1 16 lV hi hz0 hz1 hz2 rfl Ac _ _ _ rfl ((I.o.alloc _).alloc _) ⟨wr+1,0,J⟩ 1 1 [LM (t,fs)] rfl rfl ?c1 ?c2 ?c3 ?c4 ?c5 ?_);case c1=>intro j u hj;match j,hj with|0,hj=>simp at hj;subst hj;rfl
   case c2=>rfl
   case c3=>unfold BZ;omega
   case c4=>omega
   case c5=>omega
   intro v' w2 z BN _;have hb2:=((h.o.alloc y _).alloc Av _).grown BN Av λk hk=>(I.o.lt k hk).1;have R:AE (w2.ownsRow w 179 1 v' (k+1) (Kh (l.take (k+1)))/\AO w w w2):=by exact A2 ⟨Ar U.o,hb2⟩
   clear BN z hb2;go_wp2;exact Jz
  have A:k=l:=A';subst A;rw[Hb]at I;go_wp2;go_ret;exact⟨_,rfl,I.o,h.o⟩
theorem aYd(l):∀j(h:j<l.length),(SY l)[j*2]?=Z (AB AJ (l[j].1:Int))/\(SY l)[j*2+1]?=Z (DD l[j].2.1 (AH (l[j].2.2.map A4).toArray)):=by
 induction l with
 |nil=>grind
 |cons x xs I=>
  intro j hj;let e:SY (x::xs)=[AX x.1,DD x.2.1 (AH (x.2.2.map A4).toArray)]++SY xs:=rfl;match j with
  |0=>exact⟨rfl,rfl⟩
  |j+1=>
   have:=I j (by simp at hj;omega);rw[e];refine⟨?_,?_⟩;.rw[Rj Av,gA,<-this.1];congr 1;simp;omega
   rw[Rj Av,gA,<-this.2];congr 1;simp;omega
theorem aYf{l:List (Nat×Nat×List zz)}(h:w.ownsRow B 301 2 v l (SY l)):v=A0 J 0 0/\l=[]∨∃I c,v=A0 (Z ⟨I,0,J⟩) l c/\l<=c/\bn w I l:=by
 rcases h.2 with⟨N,h2⟩|⟨I,c,cur,N,_,_,h4,_⟩;.grind
 refine AF ⟨I,c,N,h4,λj hj=>?_⟩;let h2:=(λg=>h.cells (g:=g)) I (Af N);let h3:=aYd l j hj;grind[Ea]
theorem a_R(a)(c)(n)(w):Ab A6 94 #[A0 a 0 c,AB AJ n] w λe w'=>e=AV (A0 a 0 c)/\w'=w:=by go_wp2;go_ret;simp_all
def aJt(a:Option An)(c:Nat)(w:A1):Ab A6 93 #[A0 a 0 c] w λe w'=>e=AV (B2 J)/\AO w w w':=by have h:=@aFZ A6;go_enter Tryz.func93,Tryz.ntmps93;go_wp2;refine St 1 ?_;rw[Nf];go_wp2;go_ret;exact⟨rfl,(Az ..).alloc (Ad _) _⟩
def V.GL(s:zz):Prop:=(V.parse s).2=0/\V.Jx (V.parse s).1 []=J
def a2y(s:zz)(w:A1)(e:Ending)(w':A1):Prop:=(V.GL s/\∃v,e=AV (Aj #[v,CN])/\w'.ownsRow w 179 1 v (V.parse s).1.length (Kh (V.parse s).1))∨¬V.GL s/\∃b,e=AV (Aj #[A0 J 0 0,DD 96 (B2 (Z ⟨b,0,J⟩))])
def V.aO0{M}(hM:M<=281474976710656){x}(h:V.YR M x):V.kp x:=⟨h.1,h.2.1,λa ha=>Dn (h.2.2 a ha) hM⟩
theorem V.aD9(l)(n):V.M1 l n=l∨V.M1 l n=l.dropLast:=by grind[V.M1]
theorem V.a'C(l)(n):(V.M1 l n).length<=l:=by
 rcases V.aD9 l n with e|e<;>rw[e];.exact Ad _
 grind
theorem V.aDA(l)(n)(j)(h:j<(V.M1 l n).length):(V.M1 l n)[j]=l[j]'(Hw h (V.a'C l n)):=by
 rcases V.aD9 l n with e|e;.exact List.getElem_of_eq e h
 grind
theorem V.a_Q(l)(n):∀x∈V.M1 l n,x∈l:=by intro x hx;obtain⟨j,hj,rfl⟩:=Rk hx;grind[V.aDA]
theorem V.aDB{l}(h:∀x∈l,x.1≠0):V.M1 l 0=l:=by unfold V.M1;grind
def pr(s:zz)(m:Int)(w:A1)(hs:s.size<=1073741824)(hm:w.cell? ⟨0,0,J⟩=Z (AB AJ m)):Ab A6 45 #[s] w λe w'=>a2y s w e w'/\AO w w w':=by
 have u:=A2 λx hx=>V.aO0 A' (V.aTw s x hx);have y:=V.aTv s;have U:AE (V.GL s↔(V.parse s).2=0/\V.Jx (V.M1 (V.parse s).1 (V.parse s).2) []=J):=by
  refine A2 ⟨λh=>⟨h.1,?_⟩,λh=>⟨h.1,?_⟩⟩;.rw[h.1,V.aDB λx hx=>(u.o x hx).2.1];exact h.2
  have:=h.2;rwa[h.1,V.aDB λx hx=>(u.o x hx).2.1]at this
 have S:AE ((V.parse s).1=[]->(V.parse s).2≠0):=by refine λh0 h1=>?_;obtain⟨p,r,hf,_⟩:=(V.aTy h1 (Af h0)).first;rw[h0]at hf;cases hf
 unfold a2y;go_enter Tryz.func45,Tryz.ntmps45;go_wp2_with fail;refine(aTu s m _ A' hm).mono ?_;rintro e w1⟨v,rfl,hown,hb1⟩;obtain⟨l,n,X⟩:∃l n,V.parse s=(l,n):=⟨_,_,rfl⟩;rw[X]at u U S y hown⊢;simp only at u U S y hown⊢;have DL:=A2 X;clear X;have Y:l.length<=1000000000000:=A';have A:=A2 hb1;have Ec:=keep hb1 hm;clear hb1;by_cases D:l=[]
 .have hv:∃a c,v=A0 a 0 c:=by
   subst D;rcases hown.2 with⟨h,_⟩|⟨d,cap,cur,h,_⟩;.exact⟨_,_,h⟩
   exact⟨_,_,h⟩
  obtain⟨a,c,rfl⟩:=hv;have IH:=S D;have hne:(n !=0)=A5:=by rw[bne_iff_ne];omega
  have z:=A2 λh=>IH (U.o.1 h).1;clear hown;go_wp2_with fail;refine(a_R a c _ _).mono ?_;rintro e w2⟨rfl,rfl⟩;go_wp2_with fail;refine(aJt a c _).mono ?_;rintro e w3⟨rfl,N⟩;have I:=A2 (A.o.trans (N.mono A.o.size));clear N;go_wp2;go_ret2;exact⟨AF ⟨z,_,rfl⟩,I.o.alloc I.o.size _⟩
 rcases aYf hown with⟨rfl,h⟩|⟨d,c,rfl,Ux,hst⟩;.exact absurd h D
 have Lb:=A2 hst;have aGx:AE (bn w1 d (V.M1 l n)):=by refine λj hj=>?_;have:=hst j (Hw hj (V.a'C l n));rwa[V.aDA]
 clear hst hown;go_wp2_with fail;refine(a_S d c n l _ Y Ux D Lb).mono ?_;rintro e w2⟨rfl,rfl⟩;go_wp2_with fail;refine(aJs d c m (V.M1 l n) _ Ec (Dn (V.a'C l n) Y) aGx λx hx=>u x (V.a_Q l n x hx)).mono ?_;rintro e w3⟨r,rfl,hr,N⟩;have I:=A2 (A.o.trans (N.mono A.o.size));have aGy:AE (bn w3 d l):=λj hj=>⟨keep N (Lb j hj).1,keep N (Lb j hj).2⟩;clear N;cases F:V.Jx (V.M1 l n) []with
 |some f=>
  have z:AE (¬V.GL s):=λh=>by have:=(U.o.1 h).2;rw[F]at this;cases this
  rw[F]at hr;obtain⟨k,q,fp,fq⟩:=f;obtain⟨b,hbl,rfl,D'⟩:=hr;clear D';go_wp2;go_ret2;exact⟨AF ⟨z,b,rfl⟩,I⟩
 |none=>
  rw[F]at hr;obtain rfl:r=B2 J:=hr;cases hn:n !=0
  .have IH:n=0:=by rw[bne_eq_false_iff_eq]at hn;omega
   have Dm:AE (V.GL s):=U.o.2 ⟨IH,F⟩;go_wp2_with fail;refine(aR1 d c l _ Y aGy).mono ?_;rintro e w4⟨P9,rfl,Q,Cz⟩;have aaZ:AE (w4.ownsRow (AR w) 179 1 P9 l (Kh l)):=by
    refine A2 ⟨Q.1,?_⟩;rcases Q.2 with h|⟨g,cp,cur,h1,h2,h3⟩;.exact AA h
    exact AF ⟨g,cp,cur,h1,Dn I.o.size h2,h3⟩
   have Dg:=A2 (I.o.trans (Cz.mono I.o.size));obtain⟨a4,n4,c4,rfl⟩:∃a n c,P9=A0 a n c:=by
    rcases Q.2 with⟨h,_⟩|⟨g,cp,cur,h,_⟩;.exact⟨_,_,_,h⟩
    exact⟨_,_,_,h⟩
   clear Q Cz;go_wp2;go_ret2;exact⟨AA ⟨Dm,_,rfl,Ar DL⟩,Dg⟩
  have z:AE (¬V.GL s):=λh=>by have:=(U.o.1 h).1;rw[bne_iff_ne]at hn;omega
  go_wp2;go_ret2;exact⟨AF ⟨z,_,rfl⟩,I.o.alloc I.o.size _⟩
theorem CS(w:A1)(o:Cq)(n:Nat)(h:n=w):(w.alloc o).heap[n]?=o:=by subst h;show(w.heap.push o)[AR w]?=o;grind
theorem BU(w:A1)(o:Cq)(n:Nat)(h:n<w):(w.alloc o).heap[n]?=w.heap[n]?:=by show(w.heap.push o)[n]?=w.heap[n]?;grind
def Ck(w:A1)(o:Cq):(w.alloc o).heap.size=w+1:=Array.size_push _
def Q9(w)(a):AO w.heap.size w (w.alloc a):=(Az _ w).alloc (Ad _) _
theorem K9(w)(a b):AO w.heap.size w ((w.alloc a).alloc b):=(Q9 w a).alloc (by simp_all) _
def R3(w)(a b c):AO w.heap.size w (((w.alloc a).alloc b).alloc c):=(K9 w a b).alloc Av _
def De(hb:AO w w w'){x:Cq}(h:w.heap[b]?=x):w'.heap[b]?=x:=Ar (hb.block b (B3 h))
theorem VA{base:Nat}(h:w.ownsRow base e s v n xs)(hb:AO w w w'):w'.ownsRow base e s v n xs:=by
 refine⟨h.1,?_⟩;rcases h.2 with I|⟨g,cap,cur,I,h2,h3,h4⟩;.grind
 exact AF ⟨g,cap,cur,I,h2,De hb h3,h4⟩
theorem EA{base}(h:w.ownsRow base e s v n xs):∃a c,v=A0 a n c:=by
 rcases h.2 with⟨I,h2⟩|⟨g,cap,cur,I,_⟩;.exact⟨J,0,by rw[I,h2]⟩
 grind
theorem SH{base:Nat}(h:w.ownsRow base e s v n xs)(hn:0<n):∃g cap,v=A0 (Z ⟨g,0,J⟩) n cap/\base<=g/\g<w:=by
 rcases h.2 with⟨_,h2⟩|⟨g,cap,cur,I,h2,h3,_⟩;.omega
 grind
theorem Lx{base cap}(h:w.ownsRow base e s (A0 (Z ⟨g,0,J⟩) n cap) n xs)(j)(u)(hj:xs[j]?=Z u):w.cell? ⟨g,j,J⟩=Z u:=by have:=h.cells rfl j u hj;grind[Ea]
theorem Q8{base c}(h:w.ownsRow base e s v n xs)(hb:c<=base):w.ownsRow c e s v n xs:=by
 refine⟨h.1,?_⟩;rcases h.2 with I|⟨g,cap,cur,I,h2,h3⟩;.grind
 exact AF ⟨g,cap,cur,I,Dn hb h2,h3⟩
def Bb(l:List AW):List A3:=l.flatMap λp=>[p.1,p.2]
def R5(l)(p):Bb (l++[p])=Bb l++[A4 p.1,A4 p.2]:=by simp[Bb]
theorem yH(l):(Bb l).length=l*2:=by induction l with|nil=>rfl|cons x xs h=>grind[Bb]
theorem pI(l):∀j(h:j<l.length),(Bb l)[j*2]?=Z (A4 l[j].1)/\(Bb l)[j*2+1]?=Z (A4 l[j].2):=by
 induction l with
 |nil=>grind
 |cons x xs I=>
  intro j hj;let e:Bb (x::xs)=[A4 x.1,A4 x.2]++Bb xs:=rfl;match j with
  |0=>exact⟨rfl,rfl⟩
  |j+1=>
   have:=I j (by simp at hj;omega);rw[e];refine⟨?_,?_⟩;.rw[Rj Av,gA,<-this.1];congr 1;simp;omega
   rw[Rj Av,gA,<-this.2];congr 1;simp;omega
def JP(w:A1)(g:Nat)(l:List AW):Prop:=∀j(h:j<l.length),w.cell? ⟨g,j*2,J⟩=Z (A4 l[j].1)/\w.cell? ⟨g,j*2+1,J⟩=Z (A4 l[j].2)
def JP.below{l:List AW}(h:JP w g l)(hb:AO w w w'):JP w' g l:=λj hj=>⟨keep hb (h j hj).1,keep hb (h j hj).2⟩
theorem jR{e:Nat}{l:List AW}(h:w.ownsRow B e 2 v l (Bb l)):v=A0 J 0 0/\l=[]∨∃g c,v=A0 (Z ⟨g,0,J⟩) l c/\l<=c/\JP w g l/\B<=g:=by
 rcases h.2 with⟨I,h2⟩|⟨N,c,cur,I,hB,_,h4,_⟩;.grind
 refine AF ⟨N,c,I,h4,λj hj=>?_,hB⟩;rw[I]at h;let h3:=pI l j hj;exact⟨Lx h _ _ h3.1,Lx h _ _ h3.2⟩
def KA{α:Type}(l:List α)(k)(h):l.take (k+1)=l.take k++[l[k]]:=T4 h
def Ze:(A6.info? 221).map (λi=>(i.zero,i.size,i.bytes))=Z (Z (AH #[A4 ⟨#[]⟩,A4 ⟨#[]⟩]),2,32):=rfl
def jD:(A6.info? 85).map (λi=>(i.zero,i.size,i.bytes))=Z (Z (AH #[A4 ⟨#[]⟩,A4 ⟨#[]⟩]),2,32):=rfl
def a3a(v)(w):(PK (DD 221 v) 179 221 A5).run A6 w=.ok (Aj #[v,Ag A5]) w:=rfl
def Gr(x:zz)(l:List AW):List A3:=DD 123 (AH #[x])::l.map λp=>DD 221 (AH #[p.1,p.2])
def rB(x:zz)(l:List AW)(w:A1)(k:Nat)(wr:A1):Prop:=∃h,wr.heap[w.heap.size+1]?=Z (A7 #[x,h,A0 J 0 0,A0 J 0 0] 128)/\wr.heap[w.heap.size]?=Z (A7 #[A4 ⟨#[]⟩,A0 J 0 0,A0 J 0 0,A0 J 0 0] 128)/\wr.ownsRow (w+2) 221 2 h k (Bb (l.take k))/\AO w w wr
def ng(g c:Nat)(x:zz)(l:List AW)(w:A1)(hl:l.length<=1000000000)(h:∀j u,(Gr x l)[j]?=Z u->w.cell? ⟨g,j,J⟩=Z u):Ab A6 58 #[A0 (Z ⟨g,0,J⟩) (l+1) c] w λe w'=>∃BF,e=AV (AH #[x,BF,A0 J 0 0,A0 J 0 0])/\w'.ownsRow w 221 2 BF l (Bb l)/\AO w w w':=by
 have a1:=ga;have a2:=gb;have a3:=a3a;obtain⟨i0,hi,hz0,hz1,hz2⟩:=FJ Ze;have H:=A2 h;have c0:=h 0 _ rfl;have hg:=Cn (h:=c0);clear h;have A:AE (AO w w ((w.alloc (A7 #[A4 {data:=#[]},A0 J 0 0,A0 J 0 0,A0 J 0 0] 128)).alloc (A7 #[A4 {data:=#[]},A0 J 0 0,A0 J 0 0,A0 J 0 0] 128))):=K9 ..;have hx1:=keep A c0;clear c0;go_enter Tryz.func58,Tryz.ntmps58;go_wp2;go_loopw[12]λi wr=>i=AX 0/\wr=(w.alloc (A7 #[A4 {data:=#[]},A0 J 0 0,A0 J 0 0,A0 J 0 0] 128)).alloc (A7 #[A4 {data:=#[]},A0 J 0 0,A0 J 0 0,A0 J 0 0] 128)∨∃k:Nat,k<=l/\i=AX (k+1)/\AE (rB x l w k wr)(λi _=>l+1-(B0 i).toNat);case atStart=>exact AA ⟨rfl,rfl⟩
 case round=>
  rcases hrel with⟨rfl,rfl⟩|⟨k,hk,rfl,f⟩
  .have R:AE (rB x l w 0 (((w.alloc (A7 #[A4 {data:=#[]},A0 J 0 0,A0 J 0 0,A0 J 0 0] 128)).alloc (A7 #[x,A0 J 0 0,A0 J 0 0,A0 J 0 0] 128)).alloc (A7 #[x] 123))):=by
    refine A2 ⟨A0 J 0 0,?_,?_,PR ..,R3 ..⟩;.rw[BU _ _ _ (by simp only[Ck];omega)];exact CS _ _ _ (by simp only[Ck])
    rw[BU _ _ _ (by simp only[Ck];omega),BU _ _ _ (by simp only[Ck];omega)];exact CS _ _ _ rfl
   go_wp2;first
   |exact⟨AF ⟨0,A',BV,R⟩,by simp[B0]⟩
   |
    (
     go_roundw;case rel=>exact AF ⟨0,A',BV,R⟩
     case measure=>simp[B0])
  obtain⟨BF,N,I,hown,hb⟩:=f.o;have d:=A2 hown;have y:=A2 hb;have Y:=A2 N;have F:=A2 I;obtain⟨na,nc,rfl⟩:=EA hown;have li:w.heap.size+1<wr:=B3 N;clear f hown hb I;by_cases hlt:k<l
  .have c1:=keep y.o (H.o (k+1) (DD 221 (AH #[A4 l[k].1,A4 l[k].2])) (by simp[Gr,hlt]));have z:=A2 (KA l k hlt);have Q:wr.cell? ⟨w+1,1,J⟩=Z (A0 na k nc):=Af (A_ N);have z1:wr.frozen? ⟨w+1,1,J⟩=A9:=C' N 1;generalize l[k]=m at c1 z;obtain⟨p,q⟩:=m;simp only at c1;clear N;go_wp2_with(at_builtin;refine IU _ rfl _ _ 124 rfl (w+2) 221 i0 (AH #[A4 ⟨#[]⟩,A4 ⟨#[]⟩]) 2 32 Tryz.underlying124 hi hz0 hz1 hz2 rfl Ac _ _ _ rfl ((d.o.alloc _).alloc _) ⟨wr+1,0,J⟩ 1 1 [p,q] rfl rfl ?c1 Of DQ A' Av ?_);case c1=>intro j u hj;match j,hj with|0,hj=>simp at hj;subst hj;rw[Ea];simp|1,hj=>simp at hj;subst hj;rw[Ea];simp
   intro v' w2 r BN _;have hne:∀b,b<w.heap.size+2->Z b≠(A0 na k nc).ownBlock:=λb hb e=>BO ((d.o.lt b e.symm).1);have hbx:w2.heap[w.heap.size+1]?=Z (A7 #[x,A0 na k nc,A0 J 0 0,A0 J 0 0] 128):=by rwa[BN.block _ Av (hne _ A'),BU _ _ _ Av,BU _ _ _ A']
   have S:w2.heap[w.heap.size]?=Z (A7 #[A4 ⟨#[]⟩,A0 J 0 0,A0 J 0 0,A0 J 0 0] 128):=by rwa[BN.block _ Av (hne _ A'),BU _ _ _ Av,BU _ _ _ A']
   have hb2:AO w.heap.size w w2:=((y.o.alloc A' _).alloc Av _).grown BN Av λk hk=>BO ((d.o.lt k hk).1);have y1:w2.cell? ⟨w+1,1,J⟩=Z (A0 na k nc):=Af (A_ hbx);have y2:w2.frozen? ⟨w+1,1,J⟩=A9:=C' hbx 1;obtain⟨na',nc',rfl⟩:=EA r;have R:AE (rB x l w (k+1) (w2.setCell ⟨w+1,1,J⟩ (A0 na' (k+1) nc'))):=by
    refine A2 ⟨A0 na' (k+1) nc',?_,?_,?_,hb2.setCell (by show _<=w.heap.size+1;omega) _⟩;.rw[CO _ _ _ _ _ _ hbx];rfl
    .rwa[DC _ _ _ _ (by show w.heap.size≠w+1;omega)]
    rw[z.o,R5];refine⟨r.1,?_⟩;rcases r.2 with h|⟨U,cap,cur,h1,h2,h3,h4⟩;.exact AA h
    refine AF ⟨U,cap,cur,h1,h2,?_,h4⟩;rwa[DC _ _ _ _ (by show U≠w+1;omega)]
   clear BN r hb2 hbx S hne;go_wp2;first
   |exact⟨AF ⟨k+1,A',BV,R⟩,by simp[B0];omega⟩
   |
    (
     go_roundw;case rel=>exact AF ⟨k+1,A',BV,R⟩
     case measure=>simp[B0];omega)
  have X:k=l:=A';subst X;rw[Hb]at d;have E3:wr.cell? ⟨w+1,0,J⟩=Z x:=Af (A_ N);have Q:wr.cell? ⟨w+1,1,J⟩=Z (A0 na l nc):=Af (A_ N);have b2:wr.cell? ⟨w+1,2,J⟩=Z (A0 J 0 0):=Af (A_ N);have C_:wr.cell? ⟨w+1,3,J⟩=Z (A0 J 0 0):=Af (A_ N);clear N;have I:=F;have r0:wr.cell? ⟨w,0,J⟩=Z (A4 ⟨#[]⟩):=Af (A_ I);have r1:wr.cell? ⟨w,1,J⟩=Z (A0 J 0 0):=Af (A_ I);have r2:wr.cell? ⟨w,2,J⟩=Z (A0 J 0 0):=Af (A_ I);have r3:wr.cell? ⟨w,3,J⟩=Z (A0 J 0 0):=Af (A_ I);have f0:wr.frozen? ⟨w,0,J⟩=A9:=C' I 0;have f1:wr.frozen? ⟨w,1,J⟩=A9:=C' I 1;have f2:wr.frozen? ⟨w,2,J⟩=A9:=C' I 2;have f3:wr.frozen? ⟨w,3,J⟩=A9:=C' I 3;have D:=CO _ w 3 _ _ (A0 J 0 0) (CO _ w 2 _ _ (A0 J 0 0) (CO _ w 1 _ _ (A0 na l nc) (CO wr w 0 _ _ x I)));clear I;go_wp2;(try simp only[Sg,Exit.then]);refine IT (Ss rfl _ _ w 128 #[x,A0 na l nc,A0 J 0 0,A0 J 0 0] (0,0) _ rfl D Tryz.underlying128 rfl (rfl)) rfl ?_;refine⟨_,rfl,?_,(((y.o.setCell (Ad _) _).setCell (Ad _) _).setCell (Ad _) _).setCell (Ad _) _⟩;refine⟨d.o.1,?_⟩;rcases d.o.2 with h|⟨U,cap,cur,h1,h2,h3,h4⟩;.exact AA h
  refine AF ⟨U,cap,cur,h1,A',?_,h4⟩;rwa[DC _ _ _ _ (by show U≠w;omega),DC _ _ _ _ (by show U≠w;omega),DC _ _ _ _ (by show U≠w;omega),DC _ _ _ _ (by show U≠w;omega)]
theorem bytes_inj{b:zz}(h:a.toList=b.toList):a=b:=by rw[Y9,Y9]at h;cases a;simp_all
def isStr(u:A3):Prop:=∃s,u=A4 s
def EL(w:A1)(v:A3)(l:List AW):Prop:=v=A0 J 0 0/\l=[]∨∃g c,v=A0 (Z ⟨g,0,J⟩) l c/\JP w g l
def EL.below{w w':A1}{v:A3}{l:List AW}(h:EL w v l)(hb:AO w w w'):EL w' v l:=by
 rcases h with h|⟨g,c,I,h2⟩;.exact AA h
 exact AF ⟨g,c,I,h2.below hb⟩
def VG{e:Nat}{l:List AW}(h:w.ownsRow B e 2 v l (Bb l)):EL w v l:=by
 rcases jR h with h|⟨g,c,I,_,h2,_⟩;.exact AA h
 exact AF ⟨g,c,I,h2⟩
def zj{c}{e:Nat}{a}(ho:w.ownsRow B e s v n xs)(h:GH c w s v n):GH c (w.alloc a) s v n:=h.same λg cap hv=>by subst hv;exact BU _ _ _ (ho.lt g rfl).2
def aY8{d}{e:Nat}{a b c}(ho:w.ownsRow B e s v n xs)(h:GH d w s v n):GH d (((w.alloc a).alloc b).alloc c) s v n:=zj ((ho.alloc a).alloc b) (zj (ho.alloc a) (zj ho h))
def aA4(own:zz)(r1 r2 c1:Nat)(v:A3)(l:List AW)(w:A1)(A:w.heap[r1]?=Z (B4 #[] c1))(hv:EL w v l)(hl:l.length<=1000000000)(D:∀m∈l,m.1≠own/\D6 m):Ab A6 125 #[AH #[own,AL (Z r1),AL (Z r2)],v] w λe w'=>∃BF,e=AV BF/\w'.ownsRow w 85 2 BF l (Bb l)/\GH isStr w' 2 BF l/\AO w w w':=by
 obtain⟨i0,hi,hz0,hz1,hz2⟩:=FJ jD;have Sv:=A2 D;have WB:=A2 A;have r:AE (AO w w (w.alloc (A7 #[own,AL (Z r1),AL (Z r2)] 134))):=Q9 ..;obtain⟨a,c,rfl,v3⟩:∃a c,v=A0 a l c/\AE (∀k(h:k<l.length),∃g,a=Z ⟨g,0,J⟩/\Cf w g (k*2) (l[k].1)/\Cf w g (k*2+1) (l[k].2)):=by
  rcases hv with⟨rfl,rfl⟩|⟨g,c,rfl,h⟩;.exact⟨J,0,rfl,λk h=>by cases h⟩
  exact⟨_,c,rfl,λk hk=>⟨g,rfl,h k hk⟩⟩
 clear D A hv;go_enter Tryz.func125,Tryz.ntmps125;go_wp2;generalize d:w.alloc (A7 #[own,AL (Z r1),AL (Z r2)] 134)=W at r⊢;have F:W.heap.size=w+1:=by rw[<-d];simp
 have G5:W.cell? ⟨w,0,J⟩=Z own:=by rw[<-d];simp
 have Gs:W.cell? ⟨w,1,J⟩=Z (AL (Z r1)):=by rw[<-d];simp
 have N:=A2 F;clear F d;go_loopw[5,11]λv i wr=>∃k:Nat,k<=l/\i=AX k/\AE (wr.ownsRow W 85 2 v k (Bb (l.take k))/\GH isStr wr 2 v k/\AO W W wr)(λ_ i _=>l-(B0 i).toNat);case atStart=>exact⟨0,A',rfl,A2 ⟨PR ..,GH.nil _ _ _,Az ..⟩⟩
 case round=>
  obtain⟨k,hk,rfl,H⟩:=hrel;obtain⟨hown,hsp,hb⟩:=H.o;have Q:=A2 hsp;have I:=A2 hown;have U:=A2 hb;have f:=A2 (r.o.trans (hb.mono r.o.size));clear H hown hb hsp;by_cases hlt:k<l
  .obtain⟨g,rfl,S,X⟩:=v3.o k hlt;have c0:=keep f.o S;have Y:=keep f X;have G_:=keep U G5;have t1:=keep U Gs;have cj:W.heap.size<=wr:=U.o.size;have hbl:w.heap.size<wr:=BO N.o;have Dk:g<wr:=Cn (h:=c0);have z9:=A2 (KA l k hlt);obtain⟨hne,z⟩:=Sv l[k] (Ci hlt);generalize l[k]=m at c0 Y z9 hne z;obtain⟨p,q⟩:=m;simp only at c0 Y hne;have TX:¬p.toList=own.toList:=λh=>hne (bytes_inj h);have GN:∀x y,(Fb 131 (AL (Z r1)) (AH #[p,q]) A9).run A6 ((wr.alloc x).alloc y)=.ok (AX 0) ((wr.alloc x).alloc y):=by intro x y;refine aRI r1 c1 (p,q) _ z ?_;have h1:=De f WB;have h2:=B3 h1;rwa[BU _ _ _ (by simp only[Ck];omega),BU _ _ _ h2]
   clear S X z;go_wp2_with(at_builtin;refine aDG _ isStr rfl _ _ 57 rfl W 85 i0 (AH #[A4 ⟨#[]⟩,A4 ⟨#[]⟩]) 2 32 Tryz.underlying57 hi hz0 hz1 hz2 rfl Ac (λu hu=>by simp[lZ]at hu;exact⟨_,hu⟩) _ _ _ rfl (((I.o.alloc _).alloc _).alloc _) (aY8 I Q) ⟨wr.heap.size+2,0,J⟩ 1 1 [p,q] rfl rfl ?c1 Of A' DQ A' Av ?_);case roundEnd=>rename_i h;simp at h;exact absurd h TX
   case c1=>intro j u hj;have Eb:=CS ((wr.alloc (A7 #[p,q] 221)).alloc (A7 #[p,q] 85)) (A7 #[p,q] 85) (wr+2) AD;match j,hj with|0,hj=>simp at hj;subst hj;rw[Ea,A_ Eb];rfl|1,hj=>simp at hj;subst hj;rw[Ea,A_ Eb];rfl
   intro v' w2 C2 BN dH;have hb2:AO W W w2:=(((U.o.alloc cj _).alloc Av _).alloc Av _).grown BN Av λk hk=>(I.o.lt k hk).1;have R:AE (w2.ownsRow W 85 2 v' (k+1) (Bb (l.take (k+1)))/\GH isStr w2 2 v' (k+1)/\AO W W w2):=by exact A2 ⟨by rwa[z9.o,R5],dH,hb2⟩
   clear BN C2 hb2 GN dH;go_wp2;exact Jz
  have Es:k=l:=A';subst Es;rw[Hb]at I;go_wp2;go_ret;exact⟨_,rfl,Q8 I.o (BO N.o),Q,f⟩
def aPx(own:zz)(r1 r2 c2:Nat)(m:AW)(w:A1)(h:w.heap[r2]?=Z (B4 #[] c2))(hm:D6 m):Ab A6 289 #[AH #[own,AL (Z r1),AL (Z r2)],AH #[m.1,m.2]] w λe w'=>e=AV (AH #[m.1,m.2])/\AO w w w':=by
 obtain⟨p,q⟩:=m;have U:=A2 h;have hlt:=B3 h;have I:∀x y z,(Fb 132 (AL (Z r2)) (AH #[p,q]) A5).run A6 (((w.alloc x).alloc y).alloc z)=.ok (Aj #[AH #[A4 ⟨#[]⟩,A4 ⟨#[]⟩],Ag A9]) (((w.alloc x).alloc y).alloc z):=by intro x y z;refine a8z r2 c2 (p,q) _ hm ?_;rwa[BU _ _ _ Av,BU _ _ _ Av,BU _ _ _ hlt]
 have N:∀x y z u,(Fb 132 (AL (Z r2)) (AH #[p,A4 ⟨#[]⟩]) A5).run A6 ((((w.alloc x).alloc y).alloc z).alloc u)=.ok (Aj #[AH #[A4 ⟨#[]⟩,A4 ⟨#[]⟩],Ag A9]) ((((w.alloc x).alloc y).alloc z).alloc u):=by intro x y z u;refine a8z r2 c2 (p,⟨#[]⟩) _ ⟨hm.1,by show 0<=_;omega⟩ ?_;rwa[BU _ _ _ Av,BU _ _ _ Av,BU _ _ _ Av,BU _ _ _ hlt]
 clear h hm hlt;go_enter Tryz.func289,Tryz.ntmps289;go_wp2;(try simp only[Sg,Exit.then]);refine IT (Ss rfl _ _ (w+1+1) 85 #[p,q] (0,0) _ rfl ?_ fH rfl (rfl)) rfl ?_;.rw[BU _ _ _ (by simp only[Ck];omega),BU _ _ _ (by simp only[Ck];omega)];exact CS _ _ _ (by simp only[Ck])
 exact⟨rfl,((R3 w ..).alloc (by simp only[Ck];omega) _).alloc (by simp only[Ck];omega) _⟩
def results_cell_tmp{P:Program}{fn:Func}{p q:Tmp}{ty:BL}(h:fn.results=#[.cell p ty,.tmp q])(I)(w)(g)(t)(cs)(c)(d)(hp:I.getD p undef=B2 (Z ⟨g,0,J⟩))(hg:w.heap[g]?=Z (A7 cs t c))(hu:P.underlying ty=Z d)(hd:(match d with|.struct _|.array _ _=>A5|_=>A9)=A5)(hi:(P.info? ty).map (·.size)=Z cs.size):(D5 fn I).run P w=.ok (Aj #[AH cs,I.getD q undef]) w:=by simp[D5,h,Ai hp,asAddr,run_loadVar_row w g t ty cs c d hg hu hd hi]
structure Rel where
 p:zz
 v:zz
 m:zz
 fa:Option An
 Am:Nat
 fc:Nat
 Bs:List AW
def Rel.name(r:Rel):AW:=(r.p,r.v)
def Ix(w:A1)(a9:Nat)(G:List Rel):Prop:=∀i(h:i<G.length),w.cell? ⟨a9,i*4,J⟩=Z (A4 G[i].p)/\w.cell? ⟨a9,i*4+1,J⟩=Z (A4 G[i].v)/\w.cell? ⟨a9,i*4+2,J⟩=Z (A4 G[i].m)/\w.cell? ⟨a9,i*4+3,J⟩=Z (A0 G[i].fa G[i].Am G[i].fc)
def Ix.below{G:List Rel}(h:Ix w a9 G)(hb:AO w w w'):Ix w' a9 G:=λi hi=>⟨keep hb (h i hi).1,keep hb (h i hi).2.1,keep hb (h i hi).2.2.1,keep hb (h i hi).2.2.2⟩
def places(G:List Rel):List (AW×Nat):=G.zipIdx.map λx=>(x.1.name,x.2)
theorem d_{G:List Rel}{x:AW×Nat}(h:x∈places G):∃hi:x.2<G,G[x.2].name=x.1:=by obtain⟨y,hy,rfl⟩:=Bt.1 h;grind
def aUD{G}(i)(hi):(G[i].name,i)∈places G:=Bt.2 ⟨(G[i],i),BA,rfl⟩
structure Lg(G:List Rel):Prop where
 nodup:(G.map Rel.name).Nodup
 short:∀r∈G,D6 r.name
 len:G.length<=1000000
def Lg.inj{G:List Rel}(h:Lg G)(hi)(hj:j<G)(e:G[i].name=G[j].name):i=j:=by exact(List.getElem_inj (h₀:=Ai hi) (h₁:=Ai hj) h.nodup).1 BA
def Lg.keys{G}(h:Lg G):∀x∈places G,D6 x.1:=λx hx=>by let⟨hi,e⟩:=d_ hx;rw[<-e];exact h.short _ (Ci hi)
def vY(a9 cap d c:Nat)(G:List Rel)(i:Nat)(hi:i<G)(I:Lg G)(w:A1)(hp:w.heap[d]?=Z (B4 (Ba (places G)) c))(hs:Ix w a9 G):Ab A6 218 #[AH #[A0 (Z ⟨a9,0,J⟩) G cap,AL (Z d)],AH #[G[i].p,G[i].v]] w λe w'=>e=AV (Aj #[AH #[G[i].p,G[i].v,G[i].m,A0 G[i].fa G[i].Am G[i].fc],Ag A5])/\AO w w w':=by
 have f:=A2 hp;have hlt:=B3 hp;obtain⟨c0,c1,c2,c3⟩:=hs i hi;have u:=Cn (h:=c0);have N:∀x y z,(Fb 131 (AL (Z d)) (AH #[G[i].p,G[i].v]) A5).run A6 (((w.alloc x).alloc y).alloc z)=.ok (Aj #[AX i,Ag A5]) (((w.alloc x).alloc y).alloc z):=by
  intro x y z;rcases y0 d c (places G) G[i].name (((w.alloc x).alloc y).alloc z) (I.short _ (Ci hi)) I.keys (by rwa[BU _ _ _ (by simp only[Ck];omega),BU _ _ _ (by simp only[Ck];omega),BU _ _ _ hlt])with⟨_,h⟩|⟨x,hx,he,h⟩;.exact absurd rfl (h _ (aUD i hi))
  obtain⟨hj,e2⟩:=d_ hx;have:=I.inj hj hi (e2.trans he);rwa[this]at h
 have hl:=BO I.len;have U:=A';generalize hr:G[i]=r at c0 c1 c2 c3 N⊢;obtain⟨p,v,m,fa,Am,fc,nd⟩:=r;simp only at c0 c1 c2 c3 N;have k0:=λx y z=>BR (BR (BR c0 x) y) z;have k1:=λx y z=>BR (BR (BR c1 x) y) z;have k2:=λx y z=>BR (BR (BR c2 x) y) z;have F5:=λx y z=>BR (BR (BR c3 x) y) z;clear hr hp hlt I hs c0 c1 c2 c3;go_enter Tryz.func218,Tryz.ntmps218;go_wp2;(try simp only[Sg,Exit.then]);exact IT (results_cell_tmp rfl _ _ (AR w+1+1) 75 #[p,v,m,A0 fa Am fc] (0,0) _ rfl (CS _ _ _ (by simp only[Ck])) Tryz.underlying75 rfl (rfl)) rfl ⟨rfl,R3 ..⟩
theorem Zg(w:A1)(a b c:Cq):(((w.alloc a).alloc b).alloc c).heap[w.heap.size]?=a:=by rw[BU _ _ _ Av,BU _ _ _ (by simp_all)];exact CS _ _ _ rfl
theorem Zh(w:A1)(a b c:Cq):(((w.alloc a).alloc b).alloc c).heap[w.heap.size+1]?=b:=by rw[BU _ _ _ (by simp_all)];exact CS _ _ _ AD
def Zi(w:A1)(a b c:Cq):(((w.alloc a).alloc b).alloc c).heap[w.heap.size+1+1]?=c:=CS _ _ _ AD
def p6(w:A1)(a b c:Cq):(((w.alloc a).alloc b).alloc c).heap.size=w+1+1+1:=AD
def a3m{wa c:A1}{d:Cq}(h:AO n (wa.alloc d) c)(hn:wa<n):c.heap[wa.heap.size]?=d:=(h.block _ hn).trans (CS wa _ _ rfl)
def nI(h:w.heap[b]?=Z (A7 #[x0,x1,x2,x3] t)):w.cell? ⟨b,0,J⟩=x0/\w.cell? ⟨b,1,J⟩=x1/\w.cell? ⟨b,2,J⟩=x2/\w.cell? ⟨b,3,J⟩=x3/\w.frozen? ⟨b,0,J⟩=A9/\w.frozen? ⟨b,1,J⟩=A9/\w.frozen? ⟨b,2,J⟩=A9/\w.frozen? ⟨b,3,J⟩=A9/\AE (w.heap[b]?=Z (A7 #[x0,x1,x2,x3] t)):=⟨Af (A_ h),Af (A_ h),Af (A_ h),Af (A_ h),C' h 0,C' h 1,C' h 2,C' h 3,h⟩
def gf(h:AO B W w)(hb:B<=b):AO B W ((((w.setCell ⟨b,0,J⟩ x0).setCell ⟨b,1,J⟩ x1).setCell ⟨b,2,J⟩ x2).setCell ⟨b,3,J⟩ x3):=(((h.setCell hb _).setCell hb _).setCell hb _).setCell hb _
def aNx{c z1 z2 z3}(h:w.heap[b]?=Z (A7 #[c,z1,z2,z3] t))(x0 x1 x2 x3):((((w.setCell ⟨b,0,J⟩ x0).setCell ⟨b,1,J⟩ x1).setCell ⟨b,2,J⟩ x2).setCell ⟨b,3,J⟩ x3).heap[b]?=Z (A7 #[x0,x1,x2,x3] t):=CO _ b 3 _ _ x3 (CO _ b 2 _ _ x2 (CO _ b 1 _ _ x1 (CO w b 0 _ _ x0 h)))
def aJI(h:AO B W w)(hb:B<=b){x4 x5 x6 x7}:AO B W ((((((((w.setCell ⟨b,0,J⟩ x0).setCell ⟨b,1,J⟩ x1).setCell ⟨b,2,J⟩ x2).setCell ⟨b,3,J⟩ x3).setCell ⟨b,4,J⟩ x4).setCell ⟨b,5,J⟩ x5).setCell ⟨b,6,J⟩ x6).setCell ⟨b,7,J⟩ x7):=((((gf h hb).setCell hb _).setCell hb _).setCell hb _).setCell hb _
def aNy{m z1 z2 z3 z4 z5 d c}(h:w.heap[b]?=Z (A7 #[m,z1,z2,z3,z4,z5,d,c] t))(x0 x1 x2 x3 x4 x5 x6 x7):((((((((w.setCell ⟨b,0,J⟩ x0).setCell ⟨b,1,J⟩ x1).setCell ⟨b,2,J⟩ x2).setCell ⟨b,3,J⟩ x3).setCell ⟨b,4,J⟩ x4).setCell ⟨b,5,J⟩ x5).setCell ⟨b,6,J⟩ x6).setCell ⟨b,7,J⟩ x7).heap[b]?=Z (A7 #[x0,x1,x2,x3,x4,x5,x6,x7] t):=by have h0:(w.setCell ⟨b,0,J⟩ x0).heap[b]?=Z (A7 #[x0,z1,z2,z3,z4,z5,d,c] t):=Af (CO w b 0 _ _ x0 h);generalize w.setCell ⟨b,0,J⟩ x0=AU at h0⊢;have h1:(AU.setCell ⟨b,1,J⟩ x1).heap[b]?=Z (A7 #[x0,x1,z2,z3,z4,z5,d,c] t):=Af (CO AU b 1 _ _ x1 h0);generalize AU.setCell ⟨b,1,J⟩ x1=I at h1⊢;have h2:(I.setCell ⟨b,2,J⟩ x2).heap[b]?=Z (A7 #[x0,x1,x2,z3,z4,z5,d,c] t):=Af (CO I b 2 _ _ x2 h1);generalize I.setCell ⟨b,2,J⟩ x2=w2 at h2⊢;have h3:(w2.setCell ⟨b,3,J⟩ x3).heap[b]?=Z (A7 #[x0,x1,x2,x3,z4,z5,d,c] t):=Af (CO w2 b 3 _ _ x3 h2);generalize w2.setCell ⟨b,3,J⟩ x3=N at h3⊢;have h4:(N.setCell ⟨b,4,J⟩ x4).heap[b]?=Z (A7 #[x0,x1,x2,x3,x4,z5,d,c] t):=Af (CO N b 4 _ _ x4 h3);generalize N.setCell ⟨b,4,J⟩ x4=U at h4⊢;have h5:(U.setCell ⟨b,5,J⟩ x5).heap[b]?=Z (A7 #[x0,x1,x2,x3,x4,x5,d,c] t):=Af (CO U b 5 _ _ x5 h4);generalize U.setCell ⟨b,5,J⟩ x5=f at h5⊢;have h6:(f.setCell ⟨b,6,J⟩ x6).heap[b]?=Z (A7 #[x0,x1,x2,x3,x4,x5,x6,c] t):=Af (CO f b 6 _ _ x6 h5);generalize f.setCell ⟨b,6,J⟩ x6=r at h6⊢;rw[CO r b 7 _ _ x7 h6];rfl
theorem zZ(hg:g≠b)(x0 x1 x2 x3 x4 x5 x6 x7):((((((((w.setCell ⟨b,0,J⟩ x0).setCell ⟨b,1,J⟩ x1).setCell ⟨b,2,J⟩ x2).setCell ⟨b,3,J⟩ x3).setCell ⟨b,4,J⟩ x4).setCell ⟨b,5,J⟩ x5).setCell ⟨b,6,J⟩ x6).setCell ⟨b,7,J⟩ x7).heap[g]?=w.heap[g]?:=by simp_all[DC,]
def TI{o}(hg:g≠b)(x0 x1 x2 x3 x4 x5 x6 x7):((((((((w.setCell ⟨b,0,J⟩ x0).setCell ⟨b,1,J⟩ x1).setCell ⟨b,2,J⟩ x2).setCell ⟨b,3,J⟩ x3).setCell ⟨b,4,J⟩ x4).setCell ⟨b,5,J⟩ x5).setCell ⟨b,6,J⟩ x6).setCell ⟨b,7,J⟩ x7).cell? ⟨g,o,J⟩=w.cell? ⟨g,o,J⟩:=C8 (zZ hg ..)
def aJV{x4 x5 x6 x7:A3}(h:w.heap[b]?=Z (A7 #[x0,x1,x2,x3,x4,x5,x6,x7] t)):(w.cell? ⟨b,0,J⟩=x0/\w.cell? ⟨b,1,J⟩=x1/\w.cell? ⟨b,2,J⟩=x2/\w.cell? ⟨b,3,J⟩=x3/\w.cell? ⟨b,4,J⟩=x4/\w.cell? ⟨b,5,J⟩=x5/\w.cell? ⟨b,6,J⟩=x6/\w.cell? ⟨b,7,J⟩=x7)/\w.frozen? ⟨b,0,J⟩=A9/\w.frozen? ⟨b,1,J⟩=A9/\w.frozen? ⟨b,2,J⟩=A9/\w.frozen? ⟨b,3,J⟩=A9/\w.frozen? ⟨b,4,J⟩=A9/\w.frozen? ⟨b,5,J⟩=A9/\w.frozen? ⟨b,6,J⟩=A9/\w.frozen? ⟨b,7,J⟩=A9:=⟨⟨Af (A_ h),Af (A_ h),Af (A_ h),Af (A_ h),Af (A_ h),Af (A_ h),Af (A_ h),Af (A_ h)⟩,C' h 0,C' h 1,C' h 2,C' h 3,C' h 4,C' h 5,C' h 6,C' h 7⟩
structure mu(own:zz)(r:Rel):Prop where
 GL:V.GL r.m
 lines:Kh (V.parse r.m).1=Gr r.p r.Bs
 size:r.m.size<=1000000000
 Bs:∀m∈r.Bs,m.1≠own/\D6 m
 len:r.Bs.length<=1000000
structure Reads(w:A1)(own:zz)(r1 r2 a9 bi:Nat)(G:List Rel):Prop where
 Ca:∃m,w.cell? ⟨0,0,J⟩=Z (AB AJ m)
 ex:∃c,w.heap[r1]?=Z (B4 #[] c)
 SS:∃c,w.heap[r2]?=Z (B4 #[] c)
 pl:∃c,w.heap[bi]?=Z (B4 (Ba (places G)) c)
 reg:Ix w a9 G
def Reads.below{w w':A1}{own:zz}{r1 r2 a9 c:Nat}{G:List Rel}(h:Reads w own r1 r2 a9 c G)(hb:AO w w w'):Reads w' own r1 r2 a9 c G:=by let⟨⟨m,h1⟩,⟨c2,h2⟩,⟨c3,h3⟩,⟨c4,h4⟩,h5⟩:=h;exact⟨⟨m,keep hb h1⟩,⟨c2,De hb h2⟩,⟨c3,De hb h3⟩,⟨c4,De hb h4⟩,h5.below hb⟩
abbrev JD(own:zz)(r1 r2 a9 n cap bi:Nat):A3:=AH #[own,AL (Z r1),AL (Z r2),A0 (Z ⟨a9,0,J⟩) n cap,AL (Z bi)]
abbrev aF(r:Rel)(BF:A3):A3:=AH #[r.p,r.v,r.p,r.v,r.m,A0 r.fa r.Am r.fc,AB AJ 0,BF]
def aVr(own:zz)(r1 r2 a9 cap d:Nat)(G:List Rel)(i:Nat)(hi:i<G)(v1:Lg G)(hro:mu own G[i])(w:A1)(hr:Reads w own r1 r2 a9 d G):Ab A6 200 #[JD own r1 r2 a9 G cap d,AH #[G[i].p,G[i].v]] w λe w'=>∃BF,e=AV (aF G[i] BF)/\w'.ownsRow w 85 2 BF G[i].Bs.length (Bb G[i].Bs)/\GH isStr w' 2 BF G[i].Bs.length/\AO w w w':=by
 have BC:=A2 hr;have Ni:=A2 (v1.short _ (Ci hi));have v5:=A2 λI(c:Nat)hp hs=>vY a9 cap d c G i hi v1 I hp hs;have A:=A2 hro;clear v1 hro hr;generalize hg:G[i]=r at Ni v5 A⊢;obtain⟨p,v,m,fa,Am,fc,nd⟩:=r;simp only[JD,aF,Rel.name]at*;clear hg;go_enter Tryz.func200,Tryz.ntmps200;go_wp2_with fail;have MS:=R3 w (A7 #[A4 own,AL (Z r1),AL (Z r2),A0 (Z ⟨a9,0,J⟩) G cap,AL (Z d)] 138) (A7 #[A4 p,A4 v] 85) (A7 #[A4 ⟨#[]⟩,A4 ⟨#[]⟩,A4 ⟨#[]⟩,A4 ⟨#[]⟩,A4 ⟨#[]⟩,A0 J 0 0,AB AJ 0,A0 J 0 0] 234);have x0:=Zg w (A7 #[A4 own,AL (Z r1),AL (Z r2),A0 (Z ⟨a9,0,J⟩) G cap,AL (Z d)] 138) (A7 #[A4 p,A4 v] 85) (A7 #[A4 ⟨#[]⟩,A4 ⟨#[]⟩,A4 ⟨#[]⟩,A4 ⟨#[]⟩,A4 ⟨#[]⟩,A0 J 0 0,AB AJ 0,A0 J 0 0] 234);have x1:=Zh w (A7 #[A4 own,AL (Z r1),AL (Z r2),A0 (Z ⟨a9,0,J⟩) G cap,AL (Z d)] 138) (A7 #[A4 p,A4 v] 85) (A7 #[A4 ⟨#[]⟩,A4 ⟨#[]⟩,A4 ⟨#[]⟩,A4 ⟨#[]⟩,A4 ⟨#[]⟩,A0 J 0 0,AB AJ 0,A0 J 0 0] 234);have x2:=Zi w (A7 #[A4 own,AL (Z r1),AL (Z r2),A0 (Z ⟨a9,0,J⟩) G cap,AL (Z d)] 138) (A7 #[A4 p,A4 v] 85) (A7 #[A4 ⟨#[]⟩,A4 ⟨#[]⟩,A4 ⟨#[]⟩,A4 ⟨#[]⟩,A4 ⟨#[]⟩,A0 J 0 0,AB AJ 0,A0 J 0 0] 234);have hz:=p6 w (A7 #[A4 own,AL (Z r1),AL (Z r2),A0 (Z ⟨a9,0,J⟩) G cap,AL (Z d)] 138) (A7 #[A4 p,A4 v] 85) (A7 #[A4 ⟨#[]⟩,A4 ⟨#[]⟩,A4 ⟨#[]⟩,A4 ⟨#[]⟩,A4 ⟨#[]⟩,A0 J 0 0,AB AJ 0,A0 J 0 0] 234);generalize((w.alloc (A7 #[A4 own,AL (Z r1),AL (Z r2),A0 (Z ⟨a9,0,J⟩) G cap,AL (Z d)] 138)).alloc (A7 #[A4 p,A4 v] 85)).alloc (A7 #[A4 ⟨#[]⟩,A4 ⟨#[]⟩,A4 ⟨#[]⟩,A4 ⟨#[]⟩,A4 ⟨#[]⟩,A0 J 0 0,AB AJ 0,A0 J 0 0] 234)=W at MS x0 x1 x2 hz⊢;have Bh:=A2 MS;have Y:=A2 hz;have MD:=A2 x0;have G0:=A2 x1;have OV:=A2 x2;clear MS hz x0 x1 x2;let S:AE (∀I,AO W W I->I.cell? ⟨w,0,J⟩=Z (A4 own)/\I.cell? ⟨w,1,J⟩=Z (AL (Z r1))/\I.cell? ⟨w,2,J⟩=Z (AL (Z r2))/\I.cell? ⟨w,3,J⟩=Z (A0 (Z ⟨a9,0,J⟩) G cap)/\I.cell? ⟨w,4,J⟩=Z (AL (Z d))/\I.cell? ⟨w+1,0,J⟩=Z (A4 p)/\I.cell? ⟨w+1,1,J⟩=Z (A4 v)):=by refine A2 λI hb=>?_;have h0:=De hb MD.o;have h1:=De hb G0.o;exact⟨by rw[A_ h0];rfl,by rw[A_ h0];rfl,by rw[A_ h0];rfl,by rw[A_ h0];rfl,by rw[A_ h0];rfl,by rw[A_ h1];rfl,by rw[A_ h1];rfl⟩
 have GC:AE (∀I,AO W W I->Reads I own r1 r2 a9 d G):=A2 λI hb=>BC.o.below (Bh.o.trans (hb.mono Bh.o.size));have aGD:AE (∀I,AO W W I->Ab A6 289 #[AH #[A4 own,AL (Z r1),AL (Z r2)],AH #[A4 p,A4 v]] I λe w'=>e=AV (AH #[A4 p,A4 v])/\AO I I w'):=by refine A2 λI hb=>?_;obtain⟨c,hc⟩:=(GC.o I hb).SS;exact aPx own r1 r2 c (p,v) I hc Ni.o
 have aGC:AE (∀I,AO W W I->Ab A6 218 #[AH #[A0 (Z ⟨a9,0,J⟩) G cap,AL (Z d)],AH #[A4 p,A4 v]] I λe w'=>e=AV (Aj #[AH #[A4 p,A4 v,A4 m,A0 fa Am fc],Ag A5])/\AO I I w'):=by refine A2 λI hb=>?_;obtain⟨c,hc⟩:=(GC.o I hb).pl;exact v5.o I c hc (GC.o I hb).reg
 have OH:AO W W W.drew:=⟨rfl,rfl,rfl,Ad _,λ_ _=>rfl⟩;obtain⟨a0,a1,a2,a3,a4,a5,a6⟩:=S.o W (Az _ _);have XB:w.heap.size<W:=by have:=Y.o;omega
 have Dc:w.heap.size+1<W:=by have:=Y.o;omega
 have m0:w.heap.size≠W:=A';have m1:w.heap.size+1≠W:=A';go_cut[5,6]from 10fun b f I=>∃N,b=B2 (Z ⟨N,0,J⟩)/\f=Ag A5/\AE (W<=N/\I.heap[N]?=Z (A7 #[A4 p,A4 v,A4 m,A0 fa Am fc] 75)/\AO W W I);case first=>
  as_aux_lemma=>
   go_region_held2 λI=>I.cell? ⟨w,0,J⟩=Z (A4 own)/\I.cell? ⟨w,1,J⟩=Z (AL (Z r1))/\I.cell? ⟨w,2,J⟩=Z (AL (Z r2))/\I.cell? ⟨w,3,J⟩=Z (A0 (Z ⟨a9,0,J⟩) G cap)/\I.cell? ⟨w,4,J⟩=Z (AL (Z d))/\I.cell? ⟨w+1,0,J⟩=Z (A4 p)/\I.cell? ⟨w+1,1,J⟩=Z (A4 v)(first|go_keep|exact S.o _ (gf D.o x.o.size)|exact S.o _ (gf D.o (Ad _)))(first|(go_at_call 289;refine(aGD.o _ ?_).mono ?_;(first|exact OH|exact OH.alloc (Ad _) _);rintro e wa⟨rfl,Ps⟩;(first|(have X:AO W W wa:=OH.trans Ps)|(have X:AO W W wa:=(OH.alloc (Ad _) _).trans (Ps.mono AD)));(obtain⟨e0,e1,e2,e3,e4,e5,e6⟩:=S.o wa X);have x:=A2 X;(have FW:w.heap.size≠wa:=by have:=X.size;omega);(have n1:w.heap.size+1≠wa:=by have:=X.size;omega);(first|(have a1r:AE (wa.heap[W.heap.size]?=Z (A7 #[A4 ⟨#[]⟩,A4 ⟨#[]⟩,A4 ⟨#[]⟩,A0 J 0 0] 75)):=A2 (a3m (wa:=W.drew) Ps AD))|(have a1r:=A2 trivial));clear X Ps)|(go_at_call 218;refine(aGC.o _ ?_).mono ?_;(first|exact x.o|exact x.o.alloc x.o.size _);rintro e F⟨rfl,HO⟩;(first|(have hB:AO W W F:=x.o.trans (HO.mono x.o.size))|(have hB:AO W W F:=(x.o.alloc x.o.size _).trans (HO.mono (by have:=x.o.size;simp;omega))));have D:=A2 hB;(obtain⟨g0,g1,g2,g3,g4,g5,g6⟩:=S.o F hB);(have n2:w.heap.size≠F:=by have:=hB.size;omega);(have jU:w.heap.size+1≠F:=by have:=hB.size;omega);(first|(have Lq:=a3m HO AD;obtain⟨EY,z1,z2,z3,KE,y1,y2,y3,a1s⟩:=nI Lq;clear Lq)|(have Lq:F.heap[W.heap.size]?=Z (A7 #[A4 ⟨#[]⟩,A4 ⟨#[]⟩,A4 ⟨#[]⟩,A0 J 0 0] 75):=De HO a1r.o;obtain⟨EY,z1,z2,z3,KE,y1,y2,y3,a1s⟩:=nI Lq;clear Lq)|skip);clear HO hB));all_goals
    go_wp2_with fail;go_meet;case rel=>
     refine⟨_,rfl,rfl,A2 ⟨?_,?_,?_⟩⟩;.first|with_reducible exact Ad _|with_reducible exact D.o.size|exact x.o.size
     .first|with_reducible exact aNx a1s.o _ _ _ _|exact CS F _ _ rfl
     first|with_reducible exact D.o.alloc D.o.size _|with_reducible exact gf D.o x.o.size|exact gf D.o (Ad _)
 case rest=>
  obtain⟨N,rfl,rfl,Q⟩:=hcut;have LQ:wc.cell? ⟨N,0,J⟩=Z (A4 p):=by rw[A_ Q.o.2.1];rfl
  have q2:wc.cell? ⟨N,2,J⟩=Z (A4 m):=by rw[A_ Q.o.2.1];rfl
  obtain⟨mm,Uz⟩:=(GC.o wc Q.o.2.2).Ca;clear a0 a1 a2 a3 a4 a5 a6 OH;go_wp2_with fail;refine(pr m mm _ (by have:=A.o.size;simp only at this;omega) Uz).mono λe w1⟨hsay,hb1⟩=>?_;have n3:=A2 (Q.o.2.2.trans (hb1.mono Q.o.2.2.size));have fS:=A2 (De hb1 Q.o.2.1);obtain⟨Cw,Bm,rfl,Dy⟩:∃Cw Bm,e=AV (Aj #[A0 (Z ⟨Cw,0,J⟩) (nd+1) Bm,CN])/\AE (∀j u,(Gr p nd)[j]?=Z u->w1.cell? ⟨Cw,j,J⟩=Z u):=by
   rcases hsay with⟨_,v,h1,h2⟩|⟨h,_⟩
   .have Kb:=A.o.lines;simp only at Kb;rw[Kb]at h2;have hlen:(V.parse m).1.length=nd+1:=by have:=congrArg mZ Kb;simpa[Kh,Gr]using this
    rw[hlen]at h2;obtain⟨g,c,rfl,_,_⟩:=SH h2 A';exact⟨g,c,h1,A2 λj u hj=>Lx h2 j u hj⟩
   exact absurd A.o.GL h
  clear hsay hb1 LQ q2 Uz;go_wp2_with fail;refine(ng Cw Bm p nd _ (by have:=A.o.len;simp only at this;omega) Dy.o).mono ?_;rintro e w2⟨BF,rfl,hown,hb2⟩;have v2:=A2 (n3.o.trans (hb2.mono n3.o.size));have sv:=A2 (De hb2 fS.o);have tL:=A2 (VG hown);obtain⟨na,nc,rfl⟩:=EA hown;have LQ:w2.cell? ⟨N,0,J⟩=Z (A4 p):=by rw[A_ sv.o];rfl
  have EG:N<w2:=B3 sv.o;have ac':W.heap.size<=w2:=v2.o.size;clear hown hb2;go_wp2_with fail;have Kw:=A2 (Q9 w2 (A7 #[A4 p,A0 na nd nc,A0 J 0 0,A0 J 0 0] 128));have mO:=A2 (CS w2 (A7 #[A4 p,A0 na nd nc,A0 J 0 0,A0 J 0 0] 128) _ rfl);generalize w2.alloc (A7 #[A4 p,A0 na nd nc,A0 J 0 0,A0 J 0 0] 128)=U at Kw mO⊢;have z:=A2 (v2.o.trans (Kw.o.mono v2.o.size));have tS:AE (∀I,AO U U I->I.cell? ⟨w,0,J⟩=Z (A4 own)/\I.cell? ⟨w,1,J⟩=Z (AL (Z r1))/\I.cell? ⟨w,2,J⟩=Z (AL (Z r2))/\I.cell? ⟨w+1,0,J⟩=Z (A4 p)/\I.cell? ⟨w+1,1,J⟩=Z (A4 v)/\I.cell? ⟨N,0,J⟩=Z (A4 p)/\I.cell? ⟨N,1,J⟩=Z (A4 v)/\I.cell? ⟨N,2,J⟩=Z (A4 m)/\I.cell? ⟨N,3,J⟩=Z (A0 fa Am fc)/\I.cell? ⟨w2,1,J⟩=Z (A0 na nd nc)):=by refine A2 λI hb=>?_;have GM:=z.o.trans (hb.mono z.o.size);obtain⟨a0,a1,a2,a3,a4,a5,a6⟩:=S.o I GM;have hx:=De hb (De Kw.o sv.o);obtain⟨EY,z1,z2,z3,_⟩:=nI hx;have hp:=De hb mO.o;exact⟨a0,a1,a2,a5,a6,EY,z1,z2,z3,by rw[A_ hp];rfl⟩
  have eR:AO U U U.drew:=⟨rfl,rfl,rfl,Ad _,λ_ _=>rfl⟩;have aG7:AE (∀I,AO U U I->Ab A6 125 #[AH #[A4 own,AL (Z r1),AL (Z r2)],A0 na nd nc] I λe w'=>∃BF,e=AV BF/\w'.ownsRow I 85 2 BF nd (Bb nd)/\GH isStr w' 2 BF nd/\AO I I w'):=by refine A2 λI hb=>?_;have GM:=z.o.trans (hb.mono z.o.size);obtain⟨c,hc⟩:=(GC.o I GM).ex;exact aA4 own r1 r2 c _ nd I hc (tL.o.below (Kw.o.trans (hb.mono Kw.o.size))) (by have:=A.o.len;simp only at this;omega) A.o.Bs
  have mQ:AE (∀I,AO U U I->I.heap[w.heap.size+1+1]?=Z (A7 #[A4 ⟨#[]⟩,A4 ⟨#[]⟩,A4 ⟨#[]⟩,A4 ⟨#[]⟩,A4 ⟨#[]⟩,A0 J 0 0,AB AJ 0,A0 J 0 0] 234)):=A2 λI hb=>De (z.o.trans (hb.mono z.o.size)) OV.o;obtain⟨G5,Gs,s2,Xa,dm,zR,zS,adU,aXQ,adV⟩:=tS.o U (Az _ _);have k0:w.heap.size≠w+1+1:=A';have k1:w.heap.size+1≠w+1+1:=A';have k2:N≠w+1+1:=by have:=Q.o.1;have:=Y.o;omega
  have F5:w2.heap.size≠w+1+1:=by have:=Y.o;omega
  have aGv:AE (∀I,AO U U I->∀x0 x1 x2 x3 x4 x5 x6 x7:A3,(λy:A1=>y.cell? ⟨w,0,J⟩=Z (A4 own)/\y.cell? ⟨w,1,J⟩=Z (AL (Z r1))/\y.cell? ⟨w,2,J⟩=Z (AL (Z r2))/\y.cell? ⟨w+1,0,J⟩=Z (A4 p)/\y.cell? ⟨w+1,1,J⟩=Z (A4 v)/\y.cell? ⟨N,0,J⟩=Z (A4 p)/\y.cell? ⟨N,1,J⟩=Z (A4 v)/\y.cell? ⟨N,2,J⟩=Z (A4 m)/\y.cell? ⟨N,3,J⟩=Z (A0 fa Am fc)/\y.cell? ⟨w2,1,J⟩=Z (A0 na nd nc)) ((((((((I.setCell ⟨w+1+1,0,J⟩ x0).setCell ⟨w+1+1,1,J⟩ x1).setCell ⟨w+1+1,2,J⟩ x2).setCell ⟨w+1+1,3,J⟩ x3).setCell ⟨w+1+1,4,J⟩ x4).setCell ⟨w+1+1,5,J⟩ x5).setCell ⟨w+1+1,6,J⟩ x6).setCell ⟨w+1+1,7,J⟩ x7)):=by refine A2 λI hb x0 x1 x2 x3 x4 x5 x6 x7=>?_;obtain⟨e0,e1,e2,e3,e4,e5,e6,e7,JW,KX⟩:=tS.o I hb;exact⟨(TI k0 _ _ _ _ _ _ _ _).trans e0,(TI k0 _ _ _ _ _ _ _ _).trans e1,(TI k0 _ _ _ _ _ _ _ _).trans e2,(TI k1 _ _ _ _ _ _ _ _).trans e3,(TI k1 _ _ _ _ _ _ _ _).trans e4,(TI k2 _ _ _ _ _ _ _ _).trans e5,(TI k2 _ _ _ _ _ _ _ _).trans e6,(TI k2 _ _ _ _ _ _ _ _).trans e7,(TI k2 _ _ _ _ _ _ _ _).trans JW,(TI F5 _ _ _ _ _ _ _ _).trans KX⟩
  clear LQ;go_region_held2 λI=>I.cell? ⟨w,0,J⟩=Z (A4 own)/\I.cell? ⟨w,1,J⟩=Z (AL (Z r1))/\I.cell? ⟨w,2,J⟩=Z (AL (Z r2))/\I.cell? ⟨w+1,0,J⟩=Z (A4 p)/\I.cell? ⟨w+1,1,J⟩=Z (A4 v)/\I.cell? ⟨N,0,J⟩=Z (A4 p)/\I.cell? ⟨N,1,J⟩=Z (A4 v)/\I.cell? ⟨N,2,J⟩=Z (A4 m)/\I.cell? ⟨N,3,J⟩=Z (A0 fa Am fc)/\I.cell? ⟨w2,1,J⟩=Z (A0 na nd nc)(first|(go_keep;done)|exact aGv.o _ Fe.o _ _ _ _ _ _ _ _)(first|(go_at_call 125;refine(aG7.o _ eR).mono ?_;rintro e wd⟨BF,rfl,hown,hsp,MU⟩;have DX:=eR.trans MU;(obtain⟨e0,e1,e2,e3,e4,e5,e6,e7,JW,KX⟩:=tS.o wd DX);(obtain⟨⟨x0,x1,x2,x3,x4,x5,x6,x7⟩,KE,y1,y2,y3,PE,PF,ql,eJ⟩:=aJV (mQ.o wd DX));(obtain⟨DJ,C3,rfl⟩:=EA hown);have Fe:=A2 DX;have Ch:=A2 hown;have Sw:=A2 hsp;clear DX hown MU hsp));all_goals
   go_wp2_with fail;refine IT (Ss rfl _ _ (w+1+1) 234 _ (0,0) _ rfl (aNy (mQ.o wd Fe.o) _ _ _ _ _ _ _ _) Tryz.underlying234 rfl A8) rfl ?_;have aMq:AO w w wd:=Bh.o.trans ((z.o.trans (Fe.o.mono z.o.size)).mono Bh.o.size);have hn:=Ch.o;have h8:=z.o.size;have h9:=Y.o;refine⟨_,rfl,⟨hn.1,?_⟩,Sw.o.same λg cp hv=>zZ ?_ _ _ _ _ _ _ _ _,aJI aMq A'⟩
   .rcases hn.2 with h|⟨g,cp,cur,h1,h2,h3,h4⟩;.exact AA h
    have hg:U<=g:=h2;exact AF ⟨g,cp,cur,h1,A',by rwa[zZ A'],h4⟩
   have hg:U<=g:=(hn.lt g (by rw[hv];rfl)).1;omega
def XM(h:zz)(l:List (Nat×Nat)):List (Nat×List zz):=(123,[h])::l.map V.FX
theorem aSm(hnm:V.path DS=A5)(h:V.Qe l):V.Whole (XM DS l):=by
 let U:V.Valid 123 [DS]:=⟨AA ⟨rfl,_,rfl⟩,by show V.MP DS=J;grind[V.MP]⟩;refine⟨λx hx=>?_,?_,⟨DS,_,rfl,λx hx=>?_⟩⟩
 .rcases DO.1 hx with rfl|hx;.grind
  obtain⟨y,hy,rfl⟩:=Bt.1 hx;exact V.aA1 (h.1 y hy)
 .unfold XM;rw[Ee,gD];refine⟨?_,?_⟩;.intro hm;rw[Ld]at hm;let⟨x,_,hx⟩:=Bt.1 hm;have:=congrArg Ya hx;exact absurd (show(1:Int)=0 from this) Ac
  rw[Ld];unfold Lc;rw[I8];refine bV ?_ h.2;intro a b ha hb hab e;let I:=V.yP (h.1 a ha).1 (h.1 b hb).1 hab;let N:V.place (V.FX a).1 (V.FX a).2=V.place (V.FX b).1 (V.FX b).2:=e;rw[N,V.P3.refl]at I;cases I
 obtain⟨y,_,rfl⟩:=Bt.1 hx;show 221≠123;decide
def B1(x:Nat×Nat):AW:=(V.mp x.1,V.CY x.2)
def GQ(h:zz)(l:List (Nat×Nat)):zz:=⟨(V.G6 (XM h l)).toArray⟩
def a9k(hnm:V.path DS=A5)(h:V.Qe l):V.GL (GQ DS l)/\Kh (V.parse (GQ DS l)).1=Gr DS (l.map B1):=by let⟨h1,h2,h3⟩:=V.a_P (aSm hnm h);refine⟨⟨h1,h2⟩,?_⟩;let e:Kh (V.parse (GQ DS l)).1=((V.parse (GQ DS l)).1.map (·.2)).map LM:=Af Ld;rw[e];show((V.parse ⟨(V.G6 (XM DS l)).toArray⟩).1.map (·.2)).map LM=_;rw[h3];unfold XM Gr;rw[Ee,Ld,Ld];rfl
def P4(h:zz)(l:List (Nat×Nat))(k:Nat):zz:=⟨([109,111,100,117,108,101,32]++h.data.toList++[10]++(l.take k).flatMap df).toArray⟩
def aAf(h)(hnm:h.size<=60)(l)(k)(hl:l.length<=5):(P4 h l k).size<=182:=by
 let I:=a5A df 22 aW6 (l.take k);let h2:(l.take k).length<=5:=by rw[UK];omega
 show([109,111,100,117,108,101,32]++h.data.toList++[10]++(l.take k).flatMap df).toArray.size<=182;rw[Rm,DV,DV,DV];let h3:[109,111,100,117,108,101,32].length=7:=rfl;let h4:[10].length=1:=rfl;let h5:h.data.toList=h.size:=AD;omega
def aTz(I)(l)(k)(h):P4 I l k++⟨#[114,101,113,117,105,114,101,32]⟩++V.mp l[k].1++⟨#[32]⟩++V.CY l[k].2++⟨#[10]⟩=P4 I l (k+1):=by apply V.bytes_inj;rw[Pl,Pl,Pl,Pl,Pl,V.XN,V.Zq];unfold P4;rw[T4 h,List.flatMap_append];simp[df]
def aAe(h)(l):P4 h l l=GQ h l:=by unfold P4 GQ;rw[Hb];unfold V.G6 XM;rw[a2_,List.flatMap_map];congr 1
def a9P(I:zz)(hnm:I.size<=60)(v:A3)(l:List (Nat×Nat))(w:A1)(hl:l.length<=5)(hn:∀x∈l,x.1<5/\x.2<30)(hr:Nl w v l):Ab A6 51 #[I,v] w λe w'=>e=AV (A4 (GQ I l))/\∃q,w'=w.drewN q:=by
 have g1:=Gk ⟨#[109,111,100,117,108,101,32]⟩ I (by show 7+I.size<=_;omega);have g2:=Gk (⟨#[109,111,100,117,108,101,32]⟩++I) ⟨#[10]⟩ (by rw[EO];show 7+I.size+1<=_;omega);have y:AE (⟨#[109,111,100,117,108,101,32]⟩++I++⟨#[10]⟩=P4 I l 0):=A2 (by apply V.bytes_inj;rw[Pl,Pl];simp[P4]);have z:=A2 hn;have BC:=A2 hr;obtain⟨a,c,rfl⟩:∃a c,v=A0 a l c:=by
  rcases hr with⟨h,h0⟩|⟨g,c,h,_⟩;.exact⟨J,0,by rw[h,h0];rfl⟩
  exact⟨_,_,h⟩
 clear hr hn;go_enter Tryz.func51,Tryz.ntmps51;go_wp2;go_loopw[5,6]λs i wr=>∃k:Nat,k<=l/\i=AX k/\s=A4 (P4 I l k)/\∃q,wr=w.drewN q(λ_ i _=>l-(B0 i).toNat);case atStart=>exact⟨0,A',rfl,by rw[<-y.o],0,rfl⟩
 case round=>
  obtain⟨k,hk,rfl,rfl,hq⟩:=hrel;have d:=A2 hq;clear hq;by_cases hlt:k<l
  .rcases BC with⟨h,h0⟩|⟨g,c',h,hc⟩;.rw[h0]at hlt;simp at hlt
   injection h with h1 _ h3;subst h1 h3;have c0:Cf wr g (k*2) (AX l[k].1):=by obtain⟨q,e⟩:=d;rw[e];exact(hc k hlt).1
   have c1:Cf wr g (k*2+1) (AX l[k].2):=by obtain⟨q,e⟩:=d;rw[e];exact(hc k hlt).2
   have f:=A2 (z l[k] (Ci hlt));have r:=A2 (aTz I l k hlt);have A:=aAf I hnm l k hl;generalize l[k]=x at c0 c1 f r;obtain⟨N,m⟩:=x;simp only at c0 c1 f r;have D:=XO N;have s2:=dV m;have t1:(Ji #[114,101,113,117,105,114,101,32]).size=8:=rfl;have t2:(Ji #[32]).size=1:=rfl;have t3:(Ji #[10]).size=1:=rfl;have k1:=Gk (P4 I l k) ⟨#[114,101,113,117,105,114,101,32]⟩ A';have k2:=Gk (P4 I l k++⟨#[114,101,113,117,105,114,101,32]⟩) (V.mp N) (by rw[EO];omega);have F5:=Gk (P4 I l k++⟨#[114,101,113,117,105,114,101,32]⟩++V.mp N) ⟨#[32]⟩ (by rw[EO,EO];omega);have k4:=Gk (P4 I l k++⟨#[114,101,113,117,105,114,101,32]⟩++V.mp N++⟨#[32]⟩) (V.CY m) (by rw[EO,EO,EO];omega);have k5:=Gk (P4 I l k++⟨#[114,101,113,117,105,114,101,32]⟩++V.mp N++⟨#[32]⟩++V.CY m) ⟨#[10]⟩ (by rw[EO,EO,EO,EO];omega);clear A D s2 t1 t2 t3 hc;have F:=pY N f.o.1;have Q:=qW m f.o.2;go_wp2_with fail;go_quiet(first|(go_at_call 21;exact Vh (F _))|(go_at_call 22;exact kx (Q _)));have U:∃q',wr.drewN nq=w.drewN q':=by obtain⟨q,e⟩:=d;exact⟨q+nq,by rw[e,World.drewN_drewN]⟩
   have u:=A2 U;clear U;go_wp2_with fail;go_roundw;case rel=>exact⟨k+1,A',BV,by rw[r.o],u⟩
   case measure=>simp[B0];omega
  have S:k=l:=A';subst S;have X:=A2 (aAe I l);go_wp2;go_ret;exact⟨aI X,d⟩
def aAI(AI:Nat->Nat->Nat)(c q k:Nat)(na:Option An)(N nc:Nat)(w:A1)(hq:q<5)(hk:k<3)(hver:∀j,j<3->w.cell? ⟨c,q*3+j,J⟩=Z (AB AJ (AI q j:Int)))(hne:∀j,j<k->AI q j≠AI q k)(hnd:w.cell? ⟨c,15+q*3+k,J⟩=Z (A0 na N nc)):Ab A6 29 #[B2 (Z ⟨c,0,J⟩),AH #[(q:Int),(AI q k:Int)]] w λe w'=>e=AV (A0 na N nc)/\AO w w w':=by
 have x:=A2 hver;have y:=A2 hne;have z:c<AR w:=Cn (h:=hnd);have hx:=CS w (A7 #[AX q,AX (AI q k)] 45) (AR w) rfl;have d:AO (AR w) w (w.alloc (A7 #[AX q,AX (AI q k)] 45)):=(Az _ w).alloc (Ad _) _;have f:=A2 d;have m:AE (Fl (w.alloc (A7 #[AX q,AX (AI q k:Int)] 45)) (AR w) (A7 #[AX (q:Int),AX (AI q k:Int)] 45)):=hx;have A:=A2 hnd;clear hver hne hx d hnd;have Y:(q:Int)<5:=A';have D:(k:Int)<3:=A';go_enter Tryz.func29,Tryz.ntmps29;go_wp2;generalize w.alloc (A7 #[AX (q:Int),AX (AI q k:Int)] 45)=W at f m⊢;go_loopw[5]λi wr=>∃j:Nat,j<=k/\i=AX j/\AE (Fl wr (AR w) (A7 #[AX (q:Int),AX (AI q k:Int)] 45)/\AO (AR w) w wr)(λi _=>3-(B0 i).toNat);case atStart=>exact⟨0,A',rfl,A2 ⟨m,f⟩⟩
 case round=>
  obtain⟨j,hj,rfl,H⟩:=hrel;have X0:(j:Int)<3:=A';have U:=A2 H.o.1;have I:=A2 H.o.2;have r:wr.cell? ⟨w,0,J⟩=Z (q:Int):=Af (A_ U);have d1:wr.cell? ⟨w,1,J⟩=Z (AI q k:Int):=Af (A_ U);have c0:wr.cell? ⟨c,q*3+j,J⟩=Z (AI q j:Int):=keep I (x j A');have c1:wr.cell? ⟨c,15+q*3+k,J⟩=Z (A0 na N nc):=keep I A;clear H;by_cases F:j=k;.subst F;have Q:((AI q j:Int)==(AI q j:Int))=A5:=AD;go_wp2_with fail;go_quiet(fail);have u:=A2 (KP I nq);have S:(wr.drewN nq).cell? ⟨w,0,J⟩=Z (q:Int):=r;have X:(wr.drewN nq).cell? ⟨c,15+q*3+j,J⟩=Z (A0 na N nc):=c1;generalize wr.drewN nq=MN at u S X⊢;clear r d1 c0 c1;go_wp2_with fail;go_quiet(fail);go_wp2;go_ret;exact⟨rfl,KP u _⟩
  have hne:=y j A';have Q:((AI q j:Int)==(AI q k:Int))=A9:=Av;clear c1;go_wp2_with fail;go_quiet(fail);have R:AE (Fl (wr.drewN nq) (AR w) (A7 #[AX (q:Int),AX (AI q k:Int)] 45)/\AO (AR w) w (wr.drewN nq)):=A2 ⟨U,KP I _⟩;go_wp2;first
  |exact⟨⟨j+1,A',BV,R⟩,by simp[B0];omega⟩
  |
   (
    go_roundw;case rel=>exact⟨j+1,A',BV,R⟩
    case measure=>simp[B0];omega)
def a9w(p v m:zz)(fa:Option An)(h fc:Nat)(w:A1):Ab A6 122 #[AH #[p,v,m,A0 fa h fc]] w λe w'=>e=AV (AH #[p,v])/\AO w w w':=by go_enter Tryz.func122,Tryz.ntmps122;go_wp2;(try simp only[Sg,Exit.then]);exact IT (Ss rfl _ _ (AR w+1) 85 #[p,v] (0,0) _ rfl (CS _ _ _ (by simp only[Ck])) fH rfl (rfl)) rfl ⟨rfl,K9 ..⟩
def a9O(n:Nat)(w):(lE 131 (Z (n:Int))).run A6 w=.ok (AL (Z w)) (w.alloc (B4 #[] 0)):=by rfl
def aUE(G:List Rel)(k:Nat)(h:k<G):places (G.take (k+1))=places (G.take k)++[(G[k].name,k)]:=by unfold places;rw[KA G k h,List.zipIdx_append,Pa];simp;omega
def uj(a9 cap:Nat)(G:List Rel)(m:Int)(w:A1)(A:Lg G)(hs:Ix w a9 G)(LA:∀r∈G,V.IF r.p r.v=J)(hm:w.cell? ⟨0,0,J⟩=Z (AB AJ m))(f:∀r∈G,r.p.size<=1000000/\r.v.size<=1000000):Ab A6 60 #[A0 (Z ⟨a9,0,J⟩) G cap] w λe w'=>∃F,e=AV (AH #[A0 (Z ⟨a9,0,J⟩) G cap,AL (Z F)])/\w<=F/\w'.heap[F]?=Z (B4 (Ba (places G)) G)/\AO w w w':=by
 have Ja:=a9O G;have Q:=A2 A;have BC:=A2 hs;have S:=A2 LA;have Kv:=A2 f;have hlen:=A.len;clear A hs LA f;go_enter Tryz.func60,Tryz.ntmps60;go_wp2;go_loopw[14]λi wr=>∃k:Nat,k<=G/\i=AX k/\AE (wr.heap[w.heap.size+1]?=Z (B4 (Ba (places (G.take k))) k)/\wr.heap[w.heap.size]?=Z (A7 #[A0 J 0 0,AL J] 136)/\AO w w wr)(λi _=>G-(B0 i).toNat);case atStart=>refine⟨0,A',rfl,A2 ⟨CS _ _ _ (by simp only[Ck]),?_,K9 ..⟩⟩;rw[BU _ _ _ (by simp only[Ck];omega)];exact CS _ _ _ rfl
 case round=>
  obtain⟨k,hk,rfl,H⟩:=hrel;obtain⟨X,N,hb⟩:=H.o;have Y:=A2 X;have fS:=A2 N;have c:=A2 hb;have f:=B3 X;clear H X hb;by_cases hlt:k<G
  .obtain⟨h0,h1,h2,h3⟩:=BC.o k hlt;have c0:=keep c.o h0;have c1:=keep c.o h1;have c2:=keep c h2;have c3:=keep c h3;have Dk:=Cn (h:=c0);have z9:=A2 (aUE G k hlt);have Cg:=A2 (S _ (Ci hlt));have u:=A2 (Kv _ (Ci hlt));have y:=A2 (Q.o.short _ (Ci hlt));have z:AE (∀x∈places (G.take k),x.1≠G[k].name):=by
    refine λx hx e=>?_;obtain⟨hj,e2⟩:=d_ hx;have cm:x.2<k:=by simp at hj;omega
    have e3:G[x.2].name=G[k].name:=by rw[<-e,<-e2];simp
    have:=Q.o.inj A' hlt e3;omega
   have W9:AE (∀x∈places (G.take k),D6 x.1):=by refine λx hx=>?_;obtain⟨hj,e2⟩:=d_ hx;rw[<-e2];refine Q.o.short _ ?_;rw[aH_];exact Ci _
   clear h0 h1 h2 h3;generalize G[k]=r at c0 c1 c2 c3 z9 Cg u y z;obtain⟨p,v,mm,fa,Am,fc,nd⟩:=r;simp only[Rel.name]at c0 c1 c2 c3 z9 Cg u y z;clear N;go_wp2_with fail;refine(a9w p v mm fa Am fc _).mono ?_;rintro e w2⟨rfl,hb2⟩;have Hj:AO w w w2:=(c.o.alloc A' _).trans (hb2.mono Av);have HB:wr.heap.size+1<=w2:=Ai hb2.size;have hM2:(w2.alloc (A7 #[p,v] 85)).heap[w.heap.size+1]?=Z (B4 (Ba (places (G.take k))) k):=by rwa[BU _ _ _ A',hb2.block _ Av,BU _ _ _ f]
   have d:(w2.alloc (A7 #[p,v] 85)).heap[w.heap.size]?=Z (A7 #[A0 J 0 0,AL J] 136):=by rwa[BU _ _ _ A',hb2.block _ Av,BU _ _ _ A']
   have v2:=A2 (Hj.alloc A' (A7 #[p,v] 85));have GN:(Fb 131 (AL (Z (w+1))) (AH #[p,v]) A5).run A6 (w2.alloc (A7 #[p,v] 85))=.ok (Aj #[AX 0,Ag A9]) (w2.alloc (A7 #[p,v] 85)):=by
    rcases y0 (w+1) k (places (G.take k)) (p,v) _ y W9 hM2 with⟨h,_⟩|⟨x,hx,K8,_⟩;.exact h
    exact absurd K8 (z x hx)
   have f_:=A2 hM2;have OV:=A2 d;clear hb2 Hj hM2 d c0 c1 c2 c3;go_wp2_with fail;refine(yF p v m _ (BO u.o.1) (BO u.o.2) (keep v2 hm)).mono ?_;rintro e I⟨r,rfl,hr,U⟩;rw[Cg.o]at hr;obtain rfl:r=B2 J:=hr;have Mc:w2.heap.size+1<=I:=by have:=U.size;simpa using this
   have hM3:I.heap[w.heap.size+1]?=Z (B4 (Ba (places (G.take k))) (places (G.take k))):=by rw[U.block _ Av,f_.o];simp[places];omega
   have aNZ:I.heap[w.heap.size]?=Z (A7 #[A0 J 0 0,AL J] 136):=by rwa[U.block _ Av]
   have p4:Cf I (AR w2) 0 p:=keep U AD;have d1:Cf I (AR w2) 1 v:=keep U AD;have j7:=aAq (w+1) (places (G.take k)) (p,v) k I y W9 z hM3;have R:AE ({I with heap:=I.heap.setIfInBounds (w+1) (B4 (Ba (places (G.take k)++[((p,v),k)])) (places (G.take k)+1))}.heap[w.heap.size+1]?=Z (B4 (Ba (places (G.take (k+1)))) (k+1))/\{I with heap:=I.heap.setIfInBounds (w+1) (B4 (Ba (places (G.take k)++[((p,v),k)])) (places (G.take k)+1))}.heap[w.heap.size]?=Z (A7 #[A0 J 0 0,AL J] 136)/\AO w w {I with heap:=I.heap.setIfInBounds (w+1) (B4 (Ba (places (G.take k)++[((p,v),k)])) (places (G.take k)+1))}):=by
    refine A2 ⟨?_,?_,a3i (v2.o.trans (U.mono v2.o.size)) A' _⟩;.show(I.heap.setIfInBounds (w+1) _)[w.heap.size+1]?=_;rw[HX,if_pos rfl,if_pos A',z9.o];simp[places];omega
    show(I.heap.setIfInBounds (w+1) _)[w.heap.size]?=_;rwa[HX,if_neg A']
   simp only[EH]at j7;clear U hM3 aNZ GN;go_wp2;exact Jz
  have Es:k=G:=A';subst Es;have E3:wr.cell? ⟨w,0,J⟩=Z (A0 J 0 0):=by rw[A_ N];rfl
  have CW:wr.cell? ⟨w,1,J⟩=Z (AL J):=by rw[A_ N];rfl
  have f0:wr.frozen? ⟨w,0,J⟩=A9:=C' N 0;have f1:wr.frozen? ⟨w,1,J⟩=A9:=C' N 1;have D:=CO _ w 1 _ _ (AL (Z (w+1))) (CO wr w 0 _ _ (BG a9 0 G cap) N);clear N;go_wp2;(try simp only[Sg,Exit.then]);refine IT (Ss rfl _ _ w 136 #[BG a9 0 G cap,AL (Z (w+1))] (0,0) _ rfl D Tryz.underlying136 rfl (rfl)) rfl ?_;refine⟨_,rfl,A',?_,(c.o.setCell (Ad _) _).setCell (Ad _) _⟩;have h:=Y;rw[Hb]at h;rwa[DC _ _ _ _ (by show w.heap.size+1≠w;omega),DC _ _ _ _ (by show w.heap.size+1≠w;omega)]
def V.Zo(h b:Int):Int:=Da.wrap (bits BinOp.xor Da h (Da.wrap b)*1099511628211)
def V.Tl(h:Int):zx->Int|[]=>h|b::r=>V.Tl (V.Zo h (b.toNat:Int)) r
def V.a9i(a b):∀h,V.Tl h (a++b)=V.Tl (V.Tl h a) b:=by induction a with|nil=>intro h;rfl|cons x r I=>intro h;exact I _
def V.KB(h:Int)(s:zx):Int:=V.Tl h (s++[0])
def V.a9j(h)(s):V.KB h s=V.Zo (V.Tl h s) 0:=by unfold V.KB;rw[V.a9i];rfl
def aD7(h b)(w):Ab A6 210 #[AB Da h,AB Gc b] w λe w'=>e=AV (AB Da (V.Zo h b))/\w'=w:=by go_wp2;go_ret;trivial
def aD8(h:Int)(s:zz)(w:A1)(hs:s.size<=BZ):Ab A6 137 #[AB Da h,A4 s] w λe w'=>e=AV (AB Da (V.KB h s))/\w'=w:=by
 unfold BZ at hs;go_enter Tryz.func137,Tryz.ntmps137;go_wp2;go_loop[0,5,8]λv _ i=>∃k:Nat,k<=s.size/\i=AX k/\v=AB Da (V.Tl h (s.data.toList.take k))(λ_ _ i=>s.size-(M9 i).toNat);case atStart=>exact⟨0,JS _,rfl,rfl⟩
 case round=>
  obtain⟨k,hk,rfl,rfl⟩:=hrel;by_cases hlt:k<s.size
  .have H:AE (V.Tl h (s.data.toList.take (k+1))=V.Zo (V.Tl h (s.data.toList.take k)) ((s[k].toNat:Nat))):=A2 (by rw[qR s k hlt,V.a9i];rfl);obtain⟨x,hx⟩:∃x,x=V.Tl h (s.data.toList.take k):=⟨_,rfl⟩;rw[<-hx]at H⊢;clear hx;go_wp2_with(go_at_call 210;refine(aD7 _ _ _).mono ?_;rintro e w'⟨rfl,rfl⟩);go_round;case rel=>exact⟨k+1,A',BV,by rw[H.o]⟩
   case measure=>simp[M9];omega
  have e:s.data.toList.take k=s:=bY Av;rw[e];clear e;go_wp2_with(go_at_call 210;refine(aD7 _ _ _).mono ?_;rintro e w'⟨rfl,rfl⟩);go_ret;exact⟨Af V.a9j,rfl⟩
def aMd(w:A1)(a b c d e:Cq):(((((w.alloc a).alloc b).alloc c).alloc d).alloc e).heap[w.heap.size+1]?=b:=by rw[BU _ _ _ (by simp only[Ck];omega),BU _ _ _ (by simp only[Ck];omega)];exact Zh ..
def aMe(w:A1)(a b c d e:Cq):(((((w.alloc a).alloc b).alloc c).alloc d).alloc e).heap[w.heap.size+1+1]?=c:=by rw[BU _ _ _ (by simp only[Ck];omega),BU _ _ _ (by simp only[Ck];omega)];exact Zi ..
def aMf(w:A1)(a b c d e:Cq):(((((w.alloc a).alloc b).alloc c).alloc d).alloc e).heap[w.heap.size+1+1+1]?=d:=by rw[BU _ _ _ (by simp only[Ck];omega)];exact CS _ _ _ AD
def aJA(w)(a b c d e):AO w.heap.size w (((((w.alloc a).alloc b).alloc c).alloc d).alloc e):=((R3 w a b c).alloc Av _).alloc Av _
theorem aC3(hg:g≠b)(x0 x1 x2 x3 x4):(((((w.setCell ⟨b,0,J⟩ x0).setCell ⟨b,1,J⟩ x1).setCell ⟨b,2,J⟩ x2).setCell ⟨b,3,J⟩ x3).setCell ⟨b,4,J⟩ x4).heap[g]?=w.heap[g]?:=by simp_all[DC,]
def aSi(w):(lE 131 J).run A6 w=.ok (AL (Z w)) (w.alloc (B4 #[] 0)):=rfl
def aSk(w):(lE 132 J).run A6 w=.ok (AL (Z w)) (w.alloc (B4 #[] 0)):=rfl
def a_2(x:zz)(na:Option An)(n nc:Nat)(w:A1):Ab A6 121 #[AH #[x,A0 na n nc,A0 J 0 0,A0 J 0 0]] w λe w'=>∃r1 r2,e=AV (AH #[x,AL (Z r1),AL (Z r2)])/\w<=r1/\w<=r2/\w'.heap[r1]?=Z (B4 #[] 0)/\w'.heap[r2]?=Z (B4 #[] 0)/\AO w w w':=by
 have hm:=aSi;have h:=aSk;go_enter Tryz.func121,Tryz.ntmps121;go_wp2;go_loopw[17]λi wr=>i=AX 0/\wr=((((w.alloc (A7 #[x,A0 na n nc,A0 J 0 0,A0 J 0 0] 128)).alloc (A7 #[A4 ⟨#[]⟩,AL J,AL J] 134)).alloc (B4 #[] 0)).alloc (B4 #[] 0)).alloc (A7 #[x,AL (Z (AR w+1+1)),AL (Z (AR w+1+1+1))] 134)(λ_ _=>0);case atStart=>exact⟨rfl,rfl⟩
 case round=>
  obtain⟨rfl,rfl⟩:=hrel;go_wp2;go_loopw[32]λi wr=>i=AX 0/\wr=((((w.alloc (A7 #[x,A0 na n nc,A0 J 0 0,A0 J 0 0] 128)).alloc (A7 #[A4 ⟨#[]⟩,AL J,AL J] 134)).alloc (B4 #[] 0)).alloc (B4 #[] 0)).alloc (A7 #[x,AL (Z (AR w+1+1)),AL (Z (w+1+1+1))] 134)(λ_ _=>0);case atStart=>exact⟨rfl,rfl⟩
  case round=>obtain⟨rfl,rfl⟩:=hrel;go_wp2;(try simp);exact IT (Ss rfl _ _ (w+1) 134 #[x,AL (Z (w+1+1)),AL (Z (w+1+1+1))] (0,0) _ rfl (aMd ..) Tryz.underlying134 rfl (rfl)) rfl ⟨_,_,rfl,A',A',aMe ..,aMf ..,aJA ..⟩
def zB(x:zz)(na:Option An)(n nc a9 I cap c:Nat)(w:A1):Ab A6 59 #[AH #[x,A0 na n nc,A0 J 0 0,A0 J 0 0],AH #[A0 (Z ⟨a9,0,J⟩) I cap,AL (Z c)]] w λe w'=>∃r1 r2,e=AV (JD x r1 r2 a9 I cap c)/\w<=r1/\w<=r2/\w'.heap[r1]?=Z (B4 #[] 0)/\w'.heap[r2]?=Z (B4 #[] 0)/\AO w w w':=by
 simp only[JD];have f:=A2 (R3 w (A7 #[A4 x,A0 na n nc,A0 J 0 0,A0 J 0 0] 128) (A7 #[BG a9 0 I cap,AL (Z c)] 136) (A7 #[A4 ⟨#[]⟩,AL J,AL J,A0 J 0 0,AL J] 138));have N:=Zg w (A7 #[A4 x,A0 na n nc,A0 J 0 0,A0 J 0 0] 128) (A7 #[BG a9 0 I cap,AL (Z c)] 136) (A7 #[A4 ⟨#[]⟩,AL J,AL J,A0 J 0 0,AL J] 138);have U:=Zh w (A7 #[A4 x,A0 na n nc,A0 J 0 0,A0 J 0 0] 128) (A7 #[BG a9 0 I cap,AL (Z c)] 136) (A7 #[A4 ⟨#[]⟩,AL J,AL J,A0 J 0 0,AL J] 138);have a2:=Zi w (A7 #[A4 x,A0 na n nc,A0 J 0 0,A0 J 0 0] 128) (A7 #[BG a9 0 I cap,AL (Z c)] 136) (A7 #[A4 ⟨#[]⟩,AL J,AL J,A0 J 0 0,AL J] 138);have hz:=p6 w (A7 #[A4 x,A0 na n nc,A0 J 0 0,A0 J 0 0] 128) (A7 #[BG a9 0 I cap,AL (Z c)] 136) (A7 #[A4 ⟨#[]⟩,AL J,AL J,A0 J 0 0,AL J] 138);go_enter Tryz.func59,Tryz.ntmps59;go_wp2_with fail;generalize((w.alloc (A7 #[A4 x,A0 na n nc,A0 J 0 0,A0 J 0 0] 128)).alloc (A7 #[BG a9 0 I cap,AL (Z c)] 136)).alloc (A7 #[A4 ⟨#[]⟩,AL J,AL J,A0 J 0 0,AL J] 138)=W at f N U a2 hz⊢;have Au:AE (∀h,AO W W h->h.cell? ⟨w+1,0,J⟩=Z (A0 (Z ⟨a9,0,J⟩) I cap)/\h.cell? ⟨w+1,1,J⟩=Z (AL (Z c))/\h.heap[w.heap.size+1+1]?=Z (A7 #[A4 ⟨#[]⟩,AL J,AL J,A0 J 0 0,AL J] 138)/\h.cell? ⟨w+1+1,0,J⟩=Z (A4 ⟨#[]⟩)/\h.cell? ⟨w+1+1,1,J⟩=Z (AL J)/\h.cell? ⟨w+1+1,2,J⟩=Z (AL J)/\h.cell? ⟨w+1+1,3,J⟩=Z (A0 J 0 0)/\h.cell? ⟨w+1+1,4,J⟩=Z (AL J)/\h.frozen? ⟨w+1+1,0,J⟩=A9/\h.frozen? ⟨w+1+1,1,J⟩=A9/\h.frozen? ⟨w+1+1,2,J⟩=A9/\h.frozen? ⟨w+1+1,3,J⟩=A9/\h.frozen? ⟨w+1+1,4,J⟩=A9):=by refine A2 λh hb=>?_;have u:=De hb U;have b2:=De hb a2;exact⟨Af (A_ u),Af (A_ u),b2,Af (A_ b2),Af (A_ b2),Af (A_ b2),Af (A_ b2),Af (A_ b2),C' b2 _,C' b2 _,C' b2 _,C' b2 _,C' b2 _⟩
 have c0:W.cell? ⟨w,0,J⟩=Z (A4 x):=Af (A_ N);have c1:W.cell? ⟨w,1,J⟩=Z (A0 na n nc):=Af (A_ N);have c2:W.cell? ⟨w,2,J⟩=Z (A0 J 0 0):=Af (A_ N);have c3:W.cell? ⟨w,3,J⟩=Z (A0 J 0 0):=Af (A_ N);have c4:W.cell? ⟨w+1,0,J⟩=Z (A0 (Z ⟨a9,0,J⟩) I cap):=Af (A_ U);have c5:W.cell? ⟨w+1,1,J⟩=Z (AL (Z c)):=Af (A_ U);have F:=A2 hz;clear N U a2 hz;go_region_with(go_at_call 121;refine(a_2 x na n nc _).mono ?_;rintro e h⟨r1,r2,rfl,y,z,A,D,hb1⟩;have hb2:AO W W h:=⟨hb1.os,hb1.tape,hb1.output,hb1.size,hb1.block⟩;obtain⟨p4,d1,d2,d3,d4,d5,d6,d7,Q,S,X,Y,abN⟩:=Au.o h hb2;have m:=A2 d2;have n3:=A2 hb2;have WB:AE (W<=r1):=A2 y;have Q_:AE (W<=r2):=A2 z;have fZ:=A2 A;have f_:=A2 D;clear d2 hb1 hb2 y z A D);all_goals go_wp2;(try simp only[Sg,Exit.then]);have r:=CO _ _ 4 _ _ (AL (Z c)) (CO _ _ 3 _ _ (BG a9 0 I cap) (CO _ _ 2 _ _ (AL (Z r2)) (CO _ _ 1 _ _ (AL (Z r1)) (CO _ _ 0 _ _ (A4 x) m.o))));refine IT (Ss rfl _ _ (w+1+1) 138 #[A4 x,AL (Z r1),AL (Z r2),BG a9 0 I cap,AL (Z c)] (0,0) _ rfl r Tryz.underlying138 rfl A8) rfl ?_;have EY:=F.o;have z1:=WB.o;have z2:=Q_.o;have d:=((((f.o.trans (n3.o.mono f.o.size)).setCell (p:=⟨w+1+1,0,J⟩) (by show _<=w.heap.size+1+1;omega) (A4 x)).setCell (p:=⟨w+1+1,1,J⟩) (by show _<=w.heap.size+1+1;omega) (AL (Z r1))).setCell (p:=⟨w+1+1,2,J⟩) (by show _<=w.heap.size+1+1;omega) (AL (Z r2))).setCell (p:=⟨w+1+1,3,J⟩) (by show _<=w.heap.size+1+1;omega) (BG a9 0 I cap)|>.setCell (p:=⟨w+1+1,4,J⟩) (by show _<=w.heap.size+1+1;omega) (AL (Z c));exact⟨r1,r2,rfl,A',A',(aC3 A' _ _ _ _ _).trans fZ.o,(aC3 A' _ _ _ _ _).trans f_.o,⟨d.os,d.tape,d.output,d.size,d.block⟩⟩
end
end Go.Proofs.YtcfhleenecfghaaGreatDoor
