/- Checked: for every list of raw numbers, every number that chooses and either change the law Checked answers true and its run ends without a data race, whatever the order in which the goroutines of Load run. No condition. -/
import Derived.Test.YtcfhleenecfghaaGreatDoorCards
import Derived.Test.YtcfhleenecfghaaGreatDoorTie
import Derived.Conc.Holds
import Derived.Conc.LeavingOf
import Derived.Leaving
import Derived.OpenShut
import Derived.LaidMore
import Derived.Lay
import Derived.SevenTiedAt
import Derived.Stop.Joined
import Derived.HandedShaped
import Derived.ShutString
import Derived.Carry
import Derived.ChangeSlices
import Derived.Test.YtcfhleenecfghaaGreatDoorK4
set_option linter.all false
set_option maxHeartbeats 4000000
set_option maxRecDepth 100000
open And renaming intro->zj
open Array renaming getD_eq_getD_getElem?->Iv,getElem?_eq_getElem->EP,getElem?_eq_none->Np,getElem?_mapIdx->fK,getElem?_push->SD,getElem?_push_lt->H_,getElem?_replicate->aCm,getElem?_setIfInBounds_ne->Gp,getElem?_setIfInBounds_self_of_lt->SE,getElem?_toList->Oi,length_toList->Nq,replicate->MU,size_setIfInBounds->Pk,toList_setIfInBounds->zr
open Bool renaming and_eq_true->G0,false->A9,not_eq_true'->Qw,true->A3
open ByteArray renaming data_extract->aZg,mk->Ha,size->aCx,size_append->a'0
open Classical renaming byContradiction->bs,choose->Z5,choose_spec->To
open Decidable renaming decide->Bz
open Eq renaming trans->aD2
open Fin renaming val->aD3
open Go renaming Addr->Ak,Calls->Ai,Code->Bg,Frame->Ag,Goroutine->AR,Item->Cb,Oper->BR,Operand->C',ReturnsInLeavingWide->aFB,TypeId->Aj,Value->A1,World->A0,bodyPost->a1P,bounds_i64->a1Q,execOp->Ab,heap_setCell_same->F2,laidMetH->a1W,maxLen->BH,reachBytes->aFY,results->D_,runNT->Ey,sizedMet->a1g,stepG->Bi,trodAll_cons_mk->a1i,undef->A',wp_mono->gR,yielded->I6
open Go.Act renaming eval->Cg,put->Z8
open Go.CallKind renaming normal->GG
open Go.Callee renaming value->N7
open Go.Cell renaming ok->aD7
open Go.ChangeShapes renaming trodAll_cons->a'F
open Go.ChangeSpec renaming post_blind->aZk,witness_shaped->aZl
open Go.Claim7 renaming isSixth->aD8
open Go.Code renaming block->Wq,cond->kp,region->Ej,ret->Kk,seq->Bh,skip->VG,wp_mono->JZ
open Go.Conc renaming Good->aD9,solo->Dr,stepG_block->kx,stepG_cond->cC,stepG_region->II,stepG_region_end->Hs,stepG_seq->FT,stepG_skip->a'J
open Go.Conc.Good renaming mono->aDA
open Go.ConcR renaming Payload->CV,wgBlock->Nw
open Go.DataW renaming weightsEach->aDk
open Go.DataW.Whole renaming of_heap->aZw
open Go.Ending renaming returned->AZ
open Go.Exit renaming normal->HN
open Go.Frame renaming enter->HO,eval_at->aDm,finish_at->LF
open Go.IntKind renaming i64->A8,u8->F1
open Go.Item renaming code->BS,inRegion->B1
open Go.Lib renaming cell_of_heap->Ao,compareBytes->IJ,frozen_of_heap->E6
open Go.MakeChecks renaming laidMetH_plain->aDy
open Go.Next renaming value->D6
open Go.Obj renaming cells->AF,map->DM,row?->aE0
open Go.Op renaming assign->SK,extract->a00,fieldAddr->gB,load->R0,move->Mb
open Go.OpenClaim renaming holds_of_wide_leaving->a_'
open Go.OpenSpec renaming ofChange->a06
open Go.Operand renaming const->Iy,tmp->An
open Go.Program renaming stepOf->a_1
open Go.Proofs.Tryz renaming checked->a0B,f13->a0C,f15->aEF,f19->lQ,f30->N8,f49->aEI,f50->aEJ,f61->Pu,f8->JF,func13->s',func19->aEM,func20->aEP,func27->aEU,func30->X',func59->aEc,func60->aEd,func61->R1,func8->Tu,params8->aEl,prog->A6,underlying3->Lx,underlying33->a0k,underlying4->O'
open Go.Proofs.YtcfhleenecfghaaGreatDoor.Rows renaming checkedRow->SM,checkedSpec->sE
open Go.Reach renaming any->gH
open Go.Region renaming ready->Py,wanted->Gt
open Go.Region.Mode renaming any->ZS
open Go.Result renaming ok->Ac
open Go.ResultVar renaming tmp->a16
open Go.RowKit renaming Below->AX,Hid->AL
open Go.RowKit.Below renaming heap_setCell->HP,refl->BF
open Go.Stepped renaming ended->sN,next->Ds
open Go.Value renaming agg->A_,bool->Af,cells->cc,iface->EL,int->A7,map->Ah,nilIface->DS,okWide->aFO,pointer->Ad,slice->A4,string->J,tuple->Ay
open Go.WideElems renaming Trod_stays->a_I
open Go.World renaming block_lt_of_cell?->FA,cell?->FB,cell?_of_block->FG
open Inhabited renaming default->Aw
open Int renaming le_of_lt->aGb,natCast_add->a2J
open List renaming Nodup->tM,ext_getElem?->mX,find?_some->aGs,getElem?_append_left->cx,getElem?_eq_getElem->K1,getElem?_eq_none->ma,getElem?_map->XU,getElem?_take->a2W,getElem?_take_of_lt->aGv,getElem_map->gp,getElem_mem->DU,getElem_set_ne->a2X,getElem_set_self->tQ,length->XV,length_append->H7,length_cons->Kr,length_map->Ks,length_take->Zo,map_congr_left->a2Y,map_cons->Gd,map_map->SY,mem_cons->JG,mem_cons_of_mem->Jd,mem_cons_self->Je,mem_of_find?_eq_some->aH1,mem_of_getElem?->U8,mem_set->aH5,not_mem_nil->He,pairwise_map->Q6,perm_ext_iff_of_nodup->a2a,range->Hf,range'->aH9,take_append_drop->d',take_left'->aHC,take_length->O3,take_set->a2d
open List.Perm renaming eq_of_pairwise->a2P,trans->aGh
open Nat renaming add_assoc->me,add_sub_cancel_left->aHJ,le_refl->Ae,le_trans->G3,lt_irrefl->t_,lt_of_lt_of_le->Ku,lt_trichotomy->a2j,mul_le_mul_right->a2l,zero_add->LO,zero_le->Jf
open Ne renaming symm->Gu
open Option renaming bind_some->SZ,getD_some->G4,map_some->LQ,none->Z,some->Y
open Option.some renaming inj->CH
open Or renaming inl->AD,inr->AJ
open Prod renaming ext->Q7,fst->h',snd->Ez
namespace Go.Proofs.YtcfhleenecfghaaGreatDoor
section
open Go.RowKit Go.Sort
variable{R:List Rel}
def uU{K E:List BO}(y:K.Perm E)(s:K.Pairwise λa b=>DO a.1 b.1<0)(he:E.Pairwise λa b=>DO a.1 b.1<0):K=E:=a2P (λa b _ _ h h2=>absurd (aGb h2) (xx h)) s he y
def aW6(y:Xd R)(s:R.Pairwise λa b=>DO a.name b.name≠0):R.Pairwise λa b=>DO a.name b.name<0:=(List.pairwise_and_iff.2 ⟨y,s⟩).imp λ{a b}h=>by have z:DO a.name b.name<=0:=h.1;have h2:=h.2;omega
def aW5(f:Rel->zz)(h:R.Pairwise λa b=>DO a.name b.name<0):(ET f R).Pairwise λa b=>DO a.1 b.1<0:=by unfold ET;rw[Q6];exact h
def aL9(p:zy):∀n,p n->∃q,q<=n/\p q/\∀i,i<q->¬p i:=by
 intro n;induction n using Nat.strongRecOn with
 |_ n y=>
  intro hn;by_cases h:∃i,i<n/\p i;·obtain⟨i,hi,s⟩:=h;obtain⟨q,a,b,c⟩:=y i hi s;exact⟨q,by omega,b,c⟩
  exact⟨n,Ae _,hn,λi hi s=>h ⟨i,hi,s⟩⟩
def tW(K:List BO)(R:List Rel)(f0 f:Rel->zz)(v CJ:A1)(w':A0):Prop:=(CJ=DS/\(K=[]∨∀r∈R,f0 r=f r)/\∃E,Iw w' v E/\E.Perm (ET f R)/\Oj E)∨K≠[]/\∃r∈R,f0 r≠f r/\v=A4 Z 0 0/\∃q,CJ=EL 96 q/\KF 0 w' q (Y (7,0,r.p,r.v))
def aSW(k:A1)(g c:Nat)(m:Int)(K:List BO)(R:List Rel)(f0 f:Rel->zz)(w:A0)(hk:Iw w k K)(Fv:K=[]->k=A4 Z 0 0)(hc:LA w g (ET f R))(AA:Xd R)(i6:R.Pairwise λa b=>DO a.name b.name≠0)(Ar:R.length<=400000)(hs:∀r∈R,r.v.size<=40)(TD:∀r∈R,r.p.size<=1000)(Gg:K=[]∨K.Perm (ET f0 R))(s:K.Pairwise λa b=>DO a.1 b.1<0)(hm:w.cell? ⟨0,0,Z⟩=Y (A7 A8 m)):Ai A6 63 #[k,A4 (Y ⟨g,0,Z⟩) R.length c] w λe w'=>∃v CJ,e=AZ (Ay #[v,CJ])/\tW K R f0 f v CJ w'/\Below w.heap.size w w':=by
 have y:∀f:Rel->zz,(ET f R).length=R.length:=λf=>by simp[ET]
 have U:∀f:Rel->zz,∀x∈ET f R,x.1.2.size<=40/\x.1.1.size<=1000:=λf x hx=>by obtain⟨r,s,rfl⟩:=List.mem_map.1 hx;exact⟨hs r s,TD r s⟩
 have P:=aW6 AA i6;by_cases z:K=[];·obtain rfl:=Fv z;have h:=aSU g c m (ET f R) w hc (by rw[y];omega) (λx hx=>(U f x hx).1) (by unfold ET;rw[Q6];exact i6) hm;rw[y]at h;refine h.mono ?_;rintro e w'⟨v,E,N,h2,h3,h4,li⟩;exact⟨v,_,N,AD ⟨rfl,AD z,E,h4,h2,h3⟩,li⟩
 have t:K=ET f0 R:=uU (Gg.resolve_left z) s (aW5 f0 P);obtain⟨I,c0,rfl,IA⟩:∃I c0,k=A4 (Y ⟨I,0,Z⟩) K.length c0/\LA w I K:=by
  rcases hk with⟨_,h⟩|h;·exact absurd h z
  exact h
 by_cases S:∀r∈R,f0 r=f r
 ·have e:ET f R=K:=by rw[t];unfold ET;exact a2Y λr s=>by rw[S r s]
  rw[e]at hc;have W:K.length=R.length:=by rw[t,y]
  have h:=aSX I c0 g c m K w IA hc s (by omega) (Nat.pos_of_ne_zero λh=>z (List.length_eq_zero_iff.1 h)) (λx hx=>(U f0 x (by rw[<-t];exact hx)).1) hm;rw[W]at h⊢;refine h.mono ?_;rintro e' w'⟨v,N,h2,h3⟩;refine⟨v,_,N,AD ⟨rfl,AJ S,K,h2,by rw[e],s.imp λ{a b}h=>aGb h⟩,h3⟩
 obtain⟨r,X,AS⟩:∃r∈R,f0 r≠f r:=bs λC7=>S λr X=>bs λAS=>C7 ⟨r,X,AS⟩;obtain⟨j,H1,rfl⟩:=List.mem_iff_getElem.1 X;obtain⟨q,x4,⟨H,Q⟩,e4⟩:=aL9 (λq=>∃h:q<R.length,f0 R[q]≠f R[q]) j ⟨H1,AS⟩;subst t;have TE:q<(ET f0 R).length:=by rw[y];exact H
 have Ms:q<(ET f R).length:=by rw[y];exact H
 have M:∀(f:Rel->zz)(i:Nat)(h:i<R.length)(v2:i<(ET f R).length),(ET f R)[i]=(R[i].name,f R[i]):=λf i h v2=>by simp[ET]
 have h:=aSV I c0 g c m (ET f0 R) (ET f R) q w IA hc (by unfold ET;rw[SY,SY];rfl) s (by rw[y,y];omega) (λx hx=>(List.mem_append.1 hx).elim (λh=>(U f0 x h).1) λh=>(U f x h).1) λx hx=>by have:=(U f0 x hx).2;omega TE Ms (by rw[M f0 q H TE,M f q H Ms];exact Q) (λi hi CR aNe=>by
  have W3:i<R.length:=by omega
  rw[M f0 i W3 hi,M f i W3 CR];exact bs λC7=>e4 i aNe ⟨W3,C7⟩) hm;rw[M f0 q H TE,y f]at h;refine h.mono ?_;rintro e' w'⟨As,N,h2,h3⟩;exact⟨_,_,N,AJ ⟨z,R[q],DU H,Q,rfl,As,rfl,h2.mono (Jf _)⟩,h3⟩
def aQk(K:List BO)(m:Int)(w:A0)(h:Wn K)(y:w.cell? ⟨0,0,Z⟩=Y (A7 A8 m)):Ai A6 57 #[J ⟨(Be K).toArray⟩] w λe w'=>∃v,e=AZ (Ay #[v,DS])/\Iw w' v K/\(K=[]->v=A4 Z 0 0)/\Below w.heap.size w w':=by
 by_cases b:K=[];·subst b;refine(aQl w).mono ?_;rintro e w'⟨rfl,rfl⟩;exact⟨_,rfl,AD ⟨rfl,rfl⟩,λ_=>rfl,BF _ _⟩
 refine(aQj K m w h y).mono ?_;rintro e w'⟨v,s,h2,_,h4⟩;exact⟨v,s,h2,λh=>absurd h b,h4⟩
def aKa:Wn []:=⟨λx hx=>(by cases hx),λx hx=>(by cases hx),.nil,by decide,by decide⟩
end
end Go.Proofs.YtcfhleenecfghaaGreatDoor
namespace Go.Proofs.YtcfhleenecfghaaGreatDoor.Twin
section
open Go.Proofs.YtcfhleenecfghaaGreatDoor
open Go.Conc Go.RowKit
open Go.ConcR(Payload)
variable{Post:zv}{w w' w0:A0}{AM B4 B6 B7 BD BE D1 D2 D3 D4 D5 D8 D9 DC DG DH F9 fk g0 g2 g7 hw ip lc p2 p3 p4 pp rt s1 v v0 v3 wt y y3 y4 y6:A1}{c':Ag}{T T0:zw}{x:Bu}{s:zz}{ρ:C'->A1}{fn:Func}{m:Int}{ms:List (zz×zz)}{xs:List A1}{cs cs':List Ag}{F f2 l:List Az}{A L:List Bu}{q:List Cb}{Gs:List Rel}{B Ba a2 b b2 br cap d g i i1 n r1 r2 up:Nat}{D:Nat->Bool}{BX M R Wb:zy}{p:Nat×Nat}{Bc a:Option Ak}{r:Rel}
noncomputable def aC'(Wb rd:zy)(G:List Rel)(ms:List (zz×zz))(cs:List Ag)(bl off cap c0:Nat)(w':A0)(b:Nat)(Goal:zy->zv):JJ:={
 X:={P:=A6,ty:=JV.tWg,Wg:=w'.heap.size,Ch:=b+1,c0:=c0,N0:=0,n:=ms.length,Wb:=Wb,ND:=Zz rd (Ve G ms),Goal:=Goal}
 cs:=cs
 ,
 bl:=bl
 ,
 off:=off
 ,
 cap:=cap
 ,
 ms:=ms
 ,
 br:=b
 ,
 AW:=b+2
 old:=X_ Wb w'.heap.size (b+1) (w'.heap.size+1)
 ,
 w0:={w' with heap:=w'.heap.push (Nw JV.tWg 0 0)}}
noncomputable def Nj(Wb rd:zy)(G:List Rel)(ms:List (zz×zz))(cs:List Ag)(bl off cap c0:Nat)(w':A0)(b:Nat):JJ:=aC' Wb rd G ms cs bl off cap c0 w' b (aC' Wb rd G ms cs bl off cap c0 w' b λ_ _ _ _=>False).Goal
section
def aXJ(Wb rd:zy)(G:List Rel)(ms:List (zz×zz))(cs:List Ag)(bl off cap c0:Nat)(w':A0)(h N0:Nat):((Nj Wb rd G ms cs bl off cap c0 w' h).from N0).X.Goal=((Nj Wb rd G ms cs bl off cap c0 w' h).from N0).Goal:=by
 funext Sh S g w;refine propext ⟨?_,?_⟩;·rintro⟨T,b,h2,h3⟩;exact⟨T,⟨b.size,b.t1,b.t2,b.t5,b.t6,b.t14,b.t15,b.t16⟩,⟨h2.Vh,h2.OX,h2.s,h2.same,h2.size,h2.out⟩,h3⟩
 rintro⟨T,b,h2,h3⟩;exact⟨T,⟨b.size,b.t1,b.t2,b.t5,b.t6,b.t14,b.t15,b.t16⟩,⟨h2.Vh,h2.OX,h2.s,h2.same,h2.size,h2.out⟩,h3⟩
end
def aT5{l:List Nat}(b:l.Nodup)(h:∀i,i∈l↔i<n):l.Perm (Hf n):=by refine(a2a b List.nodup_range).2 λi=>?_;rw[h,List.mem_range]
def aBe{G:List Rel}{ms:List (zz×zz)}{w:A0}{Ch:Nat}:∀(t:List (Nat×A1)),(∀i x,(i,x)∈t->∃M,(∀b,M b->b<w.heap.size/\b≠Ch)/\Ve G ms i x M w)->∃L:List Bu,L.length=t.length/\(t.map (·.2)).flatMap (λv=>v.cells.toList)=I4 L/\L.map (λx=>Y x.rel.name)=t.map (λs=>ms[s.1]?)/\∀x∈L,x.rel∈G/\∃M,(∀b,M b->b<w.heap.size/\b≠Ch)/\Hd w M x.B4 x.rel.D'
 |[],_=>⟨[],rfl,rfl,rfl,λx hx=>by cases hx⟩
 |(i,x)::S,h=>by
  obtain⟨L,K,h2,h3,h4⟩:=aBe S λj y Q=>h j y (by simp[Q]);obtain⟨M,N,k,U,hn,B4,rfl,I⟩:=h i x (by simp);obtain⟨z,H,rfl⟩:∃z H,B4=A4 z G[k].D'.length H:=by
   rcases I with⟨rfl,e⟩|⟨g,c,g6,q,rfl,_⟩;·exact⟨Z,0,by rw[e];rfl⟩
   exact⟨_,_,rfl⟩
  refine⟨⟨G[k],z,H⟩::L,by simp[K],?_,?_,?_⟩;·rw[yg,Gd,List.flatMap_cons,h2];rfl
  ·simp only[Gd,h3,hn]
  intro y hy;rcases List.mem_cons.1 hy with rfl|hy;·exact⟨DU U,M,N,I⟩
  exact h4 y hy
def jc(h:Hd w M B4 l):JH w B4 l:=by
 rcases h with h|⟨g,cap,g6,q,e,_,hc,_,y⟩;·exact AD h
 refine AJ ⟨g,cap,e,λj s=>?_⟩;have a6t:=xu l j s;have b:∀k u,(F8 l)[k]?=Y u->w.cell? ⟨g,k,Z⟩=Y u:=λk u hu=>by
  rw[Ao hc];rw[<-y,a2W]at hu;split at hu;·simpa using hu
  cases hu
 exact⟨b _ _ a6t.1,b _ _ a6t.2⟩
def Hd.same(h:Hd w M B4 l)(e:∀b,M b->w'.heap[b]?=w.heap[b]?):Hd w' M B4 l:=by
 rcases h with h|⟨g,cap,g6,q,a,b,c,d⟩;·exact AD h
 exact AJ ⟨g,cap,g6,q,a,b,by rw[e g b];exact c,d⟩
def Hd.mono(h:Hd w M B4 l):Hd w (λ_=>True) B4 l:=by
 rcases h with h|⟨g,cap,g6,q,a,_,c,d⟩;·exact AD h
 exact AJ ⟨g,cap,g6,q,a,trivial,c,d⟩
def a38(G:List Rel)(ms:List (zz×zz))(v:A1)(w2 w1:A0):Prop:=∃g c L,v=A4 (Y ⟨g,0,Z⟩) ms.length c/\L.length=ms.length/\UC w1 g L/\Sc L/\(names L).Perm ms/\(∀x∈L,x.rel∈G/\Hd w1 (λ_=>True) x.B4 x.rel.D')/\w2.heap.size<=w1.heap.size/\∀b,b<w2.heap.size->b≠g->w1.heap[b]?=w2.heap[b]?
def aXB{G:List Rel}{t:List (Nat×A1)}{w2:A0}{Ch:Nat}(W:∀r∈G,r.v.size<=40)(hn:ms.length<=1000000)(i7:0<ms.length)(X:∀i,(∃x,(i,x)∈t)↔i<ms.length)(GC:(t.map (·.1)).Nodup)(hC:∀i x,(i,x)∈t->∃M,(∀b,M b->b<w.heap.size/\b≠Ch)/\Ve G ms i x M w)(Ck:B=w.heap.size)(Dz:∀b,b<w.heap.size->b≠Ch->w2.heap[b]?=w.heap[b]?)(hm:w2.cell? ⟨0,0,Z⟩=Y (A7 A8 m))(AV:0<w.heap.size)(Aa:w2.ownsRow B 234 8 v t.length ((t.map (·.2)).flatMap λv=>v.cells.toList))(T0:Tape):Ai A6 128 #[v,.func (.func 129) #[] #[]] (on w2 T0) λe w1=>e=AZ (Ay #[])/\a38 G ms v w2 w1:=by
 obtain⟨L,Q,nm,oA,N⟩:=aBe t hC;have P:(t.map (·.1)).Perm (Hf ms.length):=aT5 GC λi=>by
  rw[<-X i];constructor;·intro h;obtain⟨y,hy,rfl⟩:=List.mem_map.1 h;exact⟨y.2,hy⟩
  rintro⟨x,hx⟩;exact List.mem_map.2 ⟨_,hx,rfl⟩
 have K:t.length=ms.length:=by have:=P.length_eq;simpa using this
 have HD:(names L).Perm ms:=by
  have h1:(names L).map Y=t.map λs=>ms[s.1]?:=by rw[<-oA];simp[names]
  have h2:(t.map λs=>ms[s.1]?).Perm ((Hf ms.length).map λi=>ms[i]?):=by have:=P.map λi=>ms[i]?;rwa[SY]at this
  have h3:((Hf ms.length).map λi=>ms[i]?)=ms.map Y:=by
   apply mX;intro i;rw[XU,XU];by_cases hi:i<ms.length;·simp[hi]
   simp[hi]
  rw[<-h1,h3]at h2;have h4:=h2.filterMap id;simpa using h4
 rw[nm,K,<-Q.trans K]at Aa;obtain⟨g,c,rfl,aa3,EU⟩:=p8 Aa (by omega);have IX:∃g6,w2.heap[g]?=Y (AF g6 234 (0,0)):=by
  rcases Aa.2 with⟨e,_⟩|⟨g',c',g6,e,_,h,_⟩;·cases e
  injection e with e;injection e with e;injection e with e;subst e;exact⟨g6,h⟩
 obtain⟨g6,Gh⟩:=IX;have H:∀j(h:j<L.length),O6 w2 g j L[j]:=λj z=>by have k:=λo u U hu=>Rb Aa _ _ (q5 L j z o u U hu);exact⟨k 0 _ (by omega) rfl,k 1 _ (by omega) rfl,k 2 _ (by omega) rfl,k 3 _ (by omega) rfl,k 4 _ (by omega) rfl,k 5 _ (by omega) rfl,k 6 _ (by omega) rfl,k 7 _ (by omega) rfl⟩
 have wI:w.heap.size<=g:=by omega
 refine(aBv g c m L (on w2 T0) (by omega) (λx hx=>W _ (N x hx).1) (by omega) EU (λj z=>⟨(H j z).c0,(H j z).c1,(H j z).c2,(H j z).c3,(H j z).c4,(H j z).c5,(H j z).FN,(H j z).IP⟩) (λo=>E6 (w:=on w2 T0) Gh o) hm).mono ?_;rintro e w1⟨rfl,R,hp,U,GA,GL,Au⟩;have I:∀x∈R,Hd w1 (λ_=>True) x.B4 x.rel.D':=λx hx=>by
  obtain⟨_,M,Al,AE⟩:=N x (hp.mem_iff.1 hx);refine Hd.mono (AE.same (M:=M) λb hb=>?_);obtain⟨S,RM⟩:=Al b hb;have h2:=Dz b S RM;have kc:b<w2.heap.size:=by rw[EP S]at h2;exact(Array.getElem?_eq_some_iff.1 h2).1
  exact(Au b kc (by omega)).trans h2
 exact⟨rfl,g,c,R,by rw[Q,K],by rw[hp.length_eq,Q,K],λj z=>⟨GA j z,jc (I _ (DU z))⟩,U,(show(names R).Perm (names L)from hp.map _).trans HD,λx hx=>⟨(N x (hp.mem_iff.1 hx)).1,I x hx⟩,GL,Au⟩
def a2o(G:List Rel)(ms:List (zz×zz))(v:A1)(w':A0):Prop:=∃g c L,v=A4 (Y ⟨g,0,Z⟩) ms.length c/\L.length=ms.length/\UC w' g L/\Sc L/\(names L).Perm ms/\∀x∈L,x.rel∈G/\Hd w' (λ_=>True) x.B4 x.rel.D'
section
variable[CV]
def aHy{rd:zy}{own:zz}{G:List Rel}{bl off cap2:Nat}(S:Holds Wb R w)(W:∀b,rd b->R b)(Al:O4 reads rd w)(oL:Reads w own r1 r2 a2 up G)(R_:rd r1)(Q_:rd r2)(WI:rd a2)(eH:rd up)(Y5:∀r∈G,∀a,r.BP=Y a->rd a.block)(B3:Mh G)(hrel:∀r∈G,h6 own r)(NX:∀r∈G,r.v.size<=40)(FZ:R bl)(YC:∀j p v,ms[j]?=Y (p,v)->w.cell? ⟨bl,off+j*2,Z⟩=Y (J p)/\w.cell? ⟨bl,off+j*2+1,Z⟩=Y (J v))(HW:∀(j:Nat)p v,ms[j]?=Y (p,v)->∃i,∃hi:i<G.length,G[i].name=(p,v))(hn:ms.length<=1000000)(i7:0<ms.length):Goes Wb (Go.Conc.G (HO A6 126 #[IZ own r1 r2 a2 G.length cap up,A4 (Y ⟨bl,off,Z⟩) ms.length cap2] GG) (c'::cs')) w λBW g' w'=>∃R' v,g'=Go.Conc.G (c'.finish v) cs'/\AN CM (C_ R') v v/\(∀b,R b->R' b)/\Holds BW R' w'/\(∀b,R b->w'.heap[b]?=w.heap[b]?)/\a2o G ms v w'/\∀b c,v=A4 (Y ⟨b,0,Z⟩) ms.length c->¬R b:=by
 refine .KB (aKR (rc:=#[J own,Ah (Y r1),Ah (Y r2),A4 (Y ⟨a2,0,Z⟩) G.length cap,Ah (Y up)]) (cs:=c'::cs') (bl:=bl) (off:=off) (n:=ms.length) (cap:=cap2) S.low (by omega)) ?_;rintro g H⟨T,rfl,rg,h1,h2,li,T3⟩;intro I U a68 LZ gs sl t q KW;have a6A:∀b,¬Wb b->¬I b:=λb h x=>h (a68▸AD x);have a69:∀b,U b->Wb b:=λb h=>a68▸AJ h;have GL:H.heap.size=w.heap.size+3:=by rw[T3];simp
 have a3W:∀b,b<w.heap.size->H.heap[b]?=w.heap[b]?:=λb s=>by rw[T3,H_ (by simp;omega),<-EP,H_ (by simp;omega),<-EP,H_ s,<-EP]
 have b0:H.heap[w.heap.size]?=Y (AF #[J own,Ah (Y r1),Ah (Y r2),A4 (Y ⟨a2,0,Z⟩) G.length cap,Ah (Y up)] 138):=by rw[T3,H_ (by simp;omega),<-EP,H_ (by simp),<-EP,SD,if_pos rfl]
 have Cc:H.heap[w.heap.size+1]?=Y (.chan ms.length #[] A9 0 0 A9):=by rw[T3,H_ (by simp),<-EP,SD,if_pos (by simp)]
 have b2:H.heap[w.heap.size+2]?=Y (AF #[.chan (Y (w.heap.size+1))] 316):=by rw[T3,SD,if_pos (by simp)]
 let K:zy:=λb=>rd b∨b=w.heap.size;let rc:zy:=λb=>R b∨b=w.heap.size;have ab:∀b,R b->b<w.heap.size:=λb s=>S.closed.lt s;have aMX:∀b,R b->¬I b:=λb s=>a6A b (S.closed.off b s);have vf:∀b,w.heap.size<=b->¬I b:=λb s=>a6A b λh=>by have:=S.low b h;omega
 have bh:∀b,b<H.heap.size->(Nj I K G ms (c'::cs') bl off cap2 gs.size H w.heap.size).w0.heap[b]?=H.heap[b]?:=λb s=>by show(H.heap.push _)[b]?=_;rw[H_ s,<-EP]
 have DN:∀b o v,b<w.heap.size->w.cell? ⟨b,o,Z⟩=Y v->(Nj I K G ms (c'::cs') bl off cap2 gs.size H w.heap.size).w0.cell? ⟨b,o,Z⟩=Y v:=λb o v s hv=>(FG (a:=⟨b,o,Z⟩) ((bh b (by omega)).trans (a3W b s))).trans hv;have Fl:∀b,b<w.heap.size->(Nj I K G ms (c'::cs') bl off cap2 gs.size H w.heap.size).w0.heap[b]?=w.heap[b]?:=λb s=>(bh b (by omega)).trans (a3W b s);have jB:∀b,rc b->(Nj I K G ms (c'::cs') bl off cap2 gs.size H w.heap.size).old b:=λb s=>by
  show b<H.heap.size+1/\¬I b/\b≠H.heap.size/\b≠w.heap.size+1;rcases s with s|rfl;·have:=ab b s;exact⟨by omega,aMX b s,by omega,by omega⟩
  exact⟨by omega,vf _ (Ae _),by omega,by omega⟩
 have aO8:O4 reads K (Nj I K G ms (c'::cs') bl off cap2 gs.size H w.heap.size).w0:=by
  refine⟨λb s=>?_,λb s=>AD (Al.EX b s),?_⟩
  ·rcases s with s|rfl;·obtain⟨o,e,k,z⟩:=Al.heap b s;exact⟨o,(Fl b (Al.lt s)).trans e,k.mono (OM λc y=>AD y),z⟩
   refine⟨_,(bh _ (by omega)).trans b0,.cells _ (.cons (.string _) (.cons (.map ⟨rfl,AD R_⟩) (.cons (.map ⟨rfl,AD Q_⟩) (.cons (.slice _ _ ⟨⟨rfl,AD WI⟩,rfl,rfl⟩) (.cons (.map ⟨rfl,AD eH⟩) .nil))))) (.refl _),λc t p e=>?_⟩;cases e;rfl
  show Ci<=(H.heap.push _).size;have:=Al.low;simp;omega
 have aOp:Reads (Nj I K G ms (c'::cs') bl off cap2 gs.size H w.heap.size).w0 own r1 r2 a2 up G:=by obtain⟨⟨m,hm⟩,⟨c1,e1⟩,⟨c2,e2⟩,⟨c3,Co⟩,Dy⟩:=oL;refine⟨⟨m,DN _ _ _ (FA (h:=hm)) hm⟩,⟨c1,(Fl _ (Al.lt R_)).trans e1⟩,⟨c2,(Fl _ (Al.lt Q_)).trans e2⟩,⟨c3,(Fl _ (Al.lt eH)).trans Co⟩,λi hi=>?_⟩;obtain⟨g2,AM,fk,g0⟩:=Dy i hi;exact⟨DN _ _ _ (Al.lt WI) g2,DN _ _ _ (Al.lt WI) AM,DN _ _ _ (Al.lt WI) fk,DN _ _ _ (Al.lt WI) g0⟩
 have aP8:a36 (Nj I K G ms (c'::cs') bl off cap2 gs.size H w.heap.size).w0 own w.heap.size r1 r2 a2 cap up G K:=⟨aO8,AJ rfl,AD R_,AD Q_,AD WI,AD eH,(bh _ (by omega)).trans b0,aOp,λr A2 a AB=>AD (Y5 r A2 a AB),B3,hrel⟩;have aN4:Closed CM (Nj I K G ms (c'::cs') bl off cap2 gs.size H w.heap.size).X.BW rc (Nj I K G ms (c'::cs') bl off cap2 gs.size H w.heap.size).w0:=by
  refine⟨λb s=>?_,λb s=>?_,λb s=>AD (S.closed.EX b s)⟩
  ·rcases s with s|rfl;·obtain⟨o,e,k⟩:=S.closed.heap b s;exact⟨o,(Fl b (ab b s)).trans e,k.mono (OM λc y=>AD y)⟩
   exact⟨_,(bh _ (by omega)).trans b0,.cells _ (.cons (.string _) (.cons (.map ⟨rfl,AD (W _ R_)⟩) (.cons (.map ⟨rfl,AD (W _ Q_)⟩) (.cons (.slice _ _ ⟨⟨rfl,AD (W _ WI)⟩,rfl,rfl⟩) (.cons (.map ⟨rfl,AD (W _ eH)⟩) .nil))))) (.refl _)⟩
  have h:=jB b s;rintro(x|x);·exact h.2.1 x
  exact h.2.2.1 x
 have va:∀b,U b->b<w.heap.size:=λb s=>S.low b (a69 b s);have aMe:∀b,U b->(Nj I K G ms (c'::cs') bl off cap2 gs.size H w.heap.size).old b/\¬rc b/\b≠(Nj I K G ms (c'::cs') bl off cap2 gs.size H w.heap.size).AW:=λb s=>by
  have h1:=va b s;refine⟨?_,λx=>?_,?_⟩;·show b<H.heap.size+1/\¬I b/\b≠H.heap.size/\b≠w.heap.size+1;exact⟨by omega,(LZ b s).1,by omega,by omega⟩
  ·rcases x with x|x;·exact S.closed.off b x (a69 b s)
   omega
  show b≠w.heap.size+2;omega
 obtain⟨m,hm⟩:=oL.EX;have a_z:0<w.heap.size:=FA (h:=hm);have aMw:X_ I H.heap.size (w.heap.size+1) (H.heap.size+1) (w.heap.size+2):=⟨by omega,vf _ (by omega),by omega,by omega⟩;have aMz:EW I H.heap.size (w.heap.size+1):=⟨by omega,vf _ (by omega)⟩;have aP2:∀N0,h8 ((Nj I K G ms (c'::cs') bl off cap2 gs.size H w.heap.size).from N0) K (IZ own r1 r2 a2 G.length cap up) (tg G):=λN0=>aWr (R:=(Nj I K G ms (c'::cs') bl off cap2 gs.size H w.heap.size).from N0) aP8 (λb s=>jB b (s.imp (W b) id)) aMw ⟨_,_,(bh (w.heap.size+2) (by omega)).trans b2⟩ rfl HW;obtain⟨N,Dt,w',DX,EG,Bf,B9,v,w2,w3,Db,v1,hc,⟨AH,a73⟩,C7,hv,Hm,Eg,Du,RU,vb⟩:=aLT (R:=Nj I K G ms (c'::cs') bl off cap2 gs.size H w.heap.size) (rd:=K) (rc:=rc) (vr:=IZ own r1 r2 a2 G.length cap up) (Q1:=tg G) (C:=Ve G ms) (c':=c') (cs':=cs') (U:=U) (Q:=λ_ v w2 H=>a38 G ms v w2 H/\∀b,R b->b<w2.heap.size/\(∀g c,v=A4 (Y ⟨g,0,Z⟩) ms.length c->g≠b)/\w2.heap[b]?=w.heap[b]?) aMe rfl rfl rfl (by show ms.length<_;omega) (λj p v H1=>⟨DN _ _ _ (ab _ FZ) (YC j p v H1).1,DN _ _ _ (ab _ FZ) (YC j p v H1).2⟩) (jB _ (AD FZ)) aP2 (λN0=>aXJ _ _ _ _ _ _ _ _ _ _ _ N0) rfl (λi v M w w'=>Ve.aXK) rfl rfl rfl rfl rg h1 h2 li ⟨A9,Cc⟩ aMz aN4 (λb s=>s.imp (W b) id) jB λB9 wa HZ v B D7 Fh GC hC L6 Ck BG Aa T0=>by
  have ab2:H.heap.size+1<=wa.heap.size:=by have h:(H.heap.push _).size<=wa.heap.size:=L6;simpa using h
  have iN:∀b,R b->HZ.heap[b]?=w.heap[b]?:=λb s=>by have:=ab b s;rw[BG b (by omega) (by show b≠w.heap.size+1;omega),D7 b (jB b (AD s)),Fl b this]
  have Le:HZ.cell? ⟨0,0,Z⟩=Y (A7 A8 m):=(FG (a:=⟨0,0,Z⟩) (iN 0 (W _ (Al.EX 0 (by decide))))).trans hm;refine(aXB (m:=m) NX hn i7 Fh GC hC Ck BG Le (by omega) Aa T0).mono ?_;rintro e w4⟨rfl,AH⟩;refine⟨rfl,AH,λb s=>⟨?_,λC3 c e=>?_,iN b s⟩⟩;·have h:=iN b s;rw[EP (ab b s)]at h;exact(Array.getElem?_eq_some_iff.1 h).1
  subst e;have:=(Aa.lt C3 rfl).1;have:=ab b s;omega gs sl t q rfl KW;have Jk:K0 U H w':=⟨RU.1,RU.2.1,G3 (by show H.heap.size<=(H.heap.push _).size;simp) RU.2.2,λb s _=>(vb b s).trans (bh b (by have:=va b s;omega))⟩;refine⟨N,Dt,_,w',DX,Bf,EG,_,v1,hc,λb s x=>?_,Jk,Db,v,rfl,hv,λb s=>Eg b (AD s),⟨Hm,Du⟩,λb s=>?_,?_,λb c hv s=>(a73 b s).2.1 b c hv rfl⟩
 ·have:=va b s;rcases x with x|x;·exact(LZ b s).1 x
  have x:b=H.heap.size:=x;omega
 ·obtain⟨C3,c,L,rfl,_,_,_,_,_,_,G9⟩:=AH;obtain⟨k1,Cu,IC⟩:=a73 b s;rw[C7,G9 b k1 (Cu C3 c rfl).symm,IC]
 obtain⟨C3,c,L,e,Bv,Cy,JR,HD,Ce,_⟩:=AH;refine⟨C3,c,L,e,Bv,λj H1=>?_,JR,HD,λx hx=>⟨(Ce x hx).1,(Ce x hx).2.same λb _=>by rw[C7]⟩⟩;obtain⟨⟨g2,AM,fk,g0,g7,hw,ip,s1⟩,QV⟩:=Cy j H1;have P:∀a,w'.cell? a=w3.cell? a:=λa=>by simp[FB,C7]
 refine⟨⟨(P _).trans g2,(P _).trans AM,(P _).trans fk,(P _).trans g0,(P _).trans g7,(P _).trans hw,(P _).trans ip,(P _).trans s1⟩,?_⟩;rcases QV with h|⟨Cx,c2,e2,h⟩;·exact AD h
 exact AJ ⟨Cx,c2,e2,λk hk=>⟨(P _).trans (h k hk).1,(P _).trans (h k hk).2⟩⟩
end
noncomputable def Kv:Bg:=(Pu.body).getD Kk
noncomputable def pM:Bg:=fstC Kv
noncomputable def pN:Bg:=fstC (sndC Kv)
noncomputable def pO:Bg:=fstC (sndC (sndC Kv))
noncomputable def eS:Bg:=fstC (sndC (sndC (sndC Kv)))
noncomputable def TO:Bg:=fstC (sndC (sndC (sndC (sndC Kv))))
noncomputable def Mx:Bg:=sndC (sndC (sndC (sndC (sndC Kv))))
def aI4:Kv=Bh pM (Bh pN (Bh pO (Bh eS (Bh TO Mx)))):=by kernel_rfl
def aU2(x y:A1)(rc:zw)(hx:x=A_ rc)(w:A0):pM.wp A6 (λe b w'=>e=HN/\b.defers=[]/\b.tmps=#[A_ rc,y,Ad (Y ⟨w.heap.size,0,Z⟩),A',A4 Z 0 0,A',A',A',A',A',A',A',A',A',A',A',A',A',A',A',A',A',A',A',A',A',A',A',A',A',A',A']/\w'=w.alloc (AF rc 138)) ⟨#[A_ rc,y,A',A',A',A',A',A',A',A',A',A',A',A',A',A',A',A',A',A',A',A',A',A',A',A',A',A',A',A',A',A'],[]⟩ w:=by simp only[pM,Kv,Pu,G4,fstC];go_wp2;done
def aU3(h s y z:A1)(w:A0):pN.wp A6 (λe b w'=>e=HN/\b.defers=[]/\b.tmps=#[h,s,y,A',z,A4 Z 0 0,A',A',A',A',A',A',A',A',A',A',A',A',A',A',A',A',A',A',A',A',A',A',A',A',A',A']/\w'=w) ⟨#[h,s,y,A',z,A',A',A',A',A',A',A',A',A',A',A',A',A',A',A',A',A',A',A',A',A',A',A',A',A',A',A'],[]⟩ w:=by simp only[pN,Kv,Pu,G4,fstC,sndC];go_wp2;done
def aSf(w:A0):(Instr.makeMap 131 Z).run A6 w=Ac (Ah (Y w.heap.size)) (w.alloc (DM #[] 0)):=by kernel_rfl
def aU4(h s y z H:A1)(w:A0):pO.wp A6 (λe b w'=>e=HN/\b.defers=[]/\b.tmps=#[h,s,y,A',z,H,Ah (Y w.heap.size),A',A',Ah (Y w.heap.size),A',A',A',A',A',A',A',A',A',A',A',A',A',A',A',A',A',A',A',A',A',A']/\w'=w.alloc (DM #[] 0)) ⟨#[h,s,y,A',z,H,A',A',A',A',A',A',A',A',A',A',A',A',A',A',A',A',A',A',A',A',A',A',A',A',A',A'],[]⟩ w:=by have I:=aSf w;simp only[pO,Kv,Pu,G4,fstC,sndC];go_wp2;done
def aU5(own:zz)(r1 r2 c1 r b2:Nat)(t0 v t4 t5 t9:A1)(l:List Az)(w:A0)(k:w.heap[r1]?=Y (DM #[] c1))(M:Found w r [] 0)(hv:JH w v l)(AE:l.length<=1000000)(N:∀m∈l,m.1≠own/\Ft m)(F3:w.cell? ⟨b2,0,Z⟩=Y (J own))(e1:w.cell? ⟨b2,1,Z⟩=Y (Ah (Y r1)))(e2:w.cell? ⟨b2,2,Z⟩=Y (Ah (Y r2))):eS.wp A6 (λe U w'=>e=HN/\U.defers=[]/\∃W lc b s,AX w.heap.size w W/\SC [] l 0 r W l.length s w'/\U.tmps=#[t0,v,Ad (Y ⟨b2,0,Z⟩),A',t4,t5,Ah (Y r),s,A',t9,Ah (Y r),Ad (Y ⟨b2,0,Z⟩),lc,v,b,s,A',A',A',A',A',A',A',A',A',A',A',A',A',A',A',A']) ⟨#[t0,v,Ad (Y ⟨b2,0,Z⟩),A',t4,t5,Ah (Y r),A',A',t9,A',A',A',A',A',A',A',A',A',A',A',A',A',A',A',A',A',A',A',A',A',A'],[]⟩ w:=by
 have S:AL (∀wx,AX w.heap.size w wx->Ai A6 125 #[A_ #[J own,Ah (Y r1),Ah (Y r2)],v] wx λe w'=>∃b,e=AZ b/\w'.ownsRow wx.heap.size 85 2 b l.length (F8 l)/\Gv isStr w' 2 b l.length/\AX wx.heap.size wx w'):=A5 λwx z=>a9t own r1 r2 c1 v l wx (H2 z k) (hv.below z) (by omega) N;have X:AL (∀wx b,AX w.heap.size w wx->wx.ownsRow w.heap.size 85 2 b l.length (F8 l)->Ai A6 124 #[Ah (Y r),b] wx λe w'=>∃s,e=AZ s/\SC [] l 0 r wx l.length s w'):=A5 λwx b z y=>by
  have IW:=M.lt;refine a3F r [] 0 b l wx (M.heap (z.block _ IW)) List.nodup_nil (by simp) ?_ ?_ (λm hm=>(N m hm).2) (by omega)
  ·rcases eP y with h|⟨g,c,K,_,h3,_⟩;·exact AD h
   exact AJ ⟨g,c,K,h3⟩
  intro g c H;rcases eP y with⟨h,_⟩|⟨g',c',K,_,h3,h4⟩;·rw[h]at H;cases H
  rw[K]at H;cases H;omega
 clear k M hv N;have Q:AX w.heap.size w w.drew:=⟨rfl,rfl,rfl,Ae _,λ_ _=>rfl⟩;simp only[eS,Kv,Pu,G4,fstC,sndC];go_wp2_with(first|(go_at_call 125;refine(S.out _ (by first|exact Q|exact BF _ _)).mono ?_;rintro e wd⟨b,rfl,y,Fx,t⟩;have Ev:=A5 y;have I:=A5 t;clear y Fx t)|(go_at_call 124;refine(X.out _ _ (by first|exact I.out|exact Q.trans I.out) Ev.out).mono ?_;rintro e V6⟨s,rfl,P⟩;have FC:=A5 P;clear P));exact⟨wd,I.out,_,_,_,FC.out,rfl,rfl,rfl,rfl⟩
noncomputable def jl:Bg:=Mu (sndC (Mu (Mu TO)))
noncomputable def jj:Bg:=fstC (Mu (Mu TO))
noncomputable def eT:Bg:=fstC jl
noncomputable def Rh:Bg:=fstC (sndC jl)
noncomputable def Ri:Bg:=sndC (sndC jl)
def aSo:TO=Wq 0 (.loop (Bh jj (Wq 1 (Bh eT (Bh Rh Ri))))):=by kernel_rfl
def aU8(r:Nat)(K:List Az)(M:Nat)(v:A1)(L:List Bu)(g2 AM fk g0 g7 hw s1 wt pp p2 lc rt p4 y4 BD y6 B6 BE B7 y3 D8 D9 DC D1 D2 D3 D4 DG DH D5:A1)(w:A0)(U:Found w r K M)(t:K.Nodup)(P:∀m∈K,Ft m)(hv:KN w v L)(Ar:L.length<=1000000)(hn:∀k,(Eh (L.take k)).length<=1000000000)(B3:∀m∈Eh L,Ft m)(Al:M+(Eh L).length<=1000000000):Ri.wp A6 (λe a' w'=>e=HN/\a'.defers=[]/\∃W b s,AX w.heap.size w W/\SC K (Eh L) M r W (Eh L).length s w'/\a'.tmps=#[g2,AM,fk,g0,g7,hw,Ah (Y r),s,v,wt,pp,p2,lc,rt,p4,y4,BD,y6,B6,BE,B7,y3,D8,D9,DC,Ah (Y r),v,b,s,DG,DH,D5]) ⟨#[g2,AM,fk,g0,g7,hw,Ah (Y r),s1,v,wt,pp,p2,lc,rt,p4,y4,BD,y6,B6,BE,B7,y3,D8,D9,DC,D1,D2,D3,D4,DG,DH,D5],[]⟩ w:=by
 have H:AL (∀wx,AX w.heap.size w wx->Ai A6 127 #[v] wx λe w'=>∃b,e=AZ b/\w'.ownsRow wx.heap.size 85 2 b (Eh L).length (F8 (Eh L))/\AX wx.heap.size wx w'):=A5 λwx Q=>aT' v L wx (hv.below Q) Ar hn;have sZ:AL (∀wx b,AX w.heap.size w wx->wx.ownsRow w.heap.size 85 2 b (Eh L).length (F8 (Eh L))->Ai A6 124 #[Ah (Y r),b] wx λe w'=>∃s,e=AZ s/\SC K (Eh L) M r wx (Eh L).length s w'):=A5 λwx b Q y=>by
  have IW:=U.lt;refine a3F r K M b (Eh L) wx (U.heap (Q.block _ IW)) t P ?_ ?_ B3 Al
  ·rcases eP y with h|⟨g,c,N,_,h3,_⟩;·exact AD h
   exact AJ ⟨g,c,N,h3⟩
  intro g c z;rcases eP y with⟨h,_⟩|⟨g',c',N,_,h3,h4⟩;·rw[h]at z;cases z
  rw[N]at z;cases z;omega
 clear U t P hv hn B3 Al;have S:AX w.heap.size w w.drew:=⟨rfl,rfl,rfl,Ae _,λ_ _=>rfl⟩;simp only[Ri,jl,TO,Kv,Pu,G4,fstC,sndC,Mu];go_wp2_with(first|(go_at_call 127;refine(H.out _ (by first|exact S|exact BF _ _)).mono ?_;rintro e wd⟨b,rfl,y,X⟩;have Ev:=A5 y;have I:=A5 X;clear y X)|(go_at_call 124;refine(sZ.out _ _ (by first|exact I.out|exact S.trans I.out) Ev.out).mono ?_;rintro e V6⟨s,rfl,iR⟩;have FC:=A5 iR;clear iR));exact⟨wd,I.out,_,_,FC.out,rfl,rfl,rfl⟩
def aVb(h:UC w g L)(j:Nat)(u:A1)(z:(I4 L)[j]?=Y u):w.cell? ((⟨g,0,Z⟩:Ak).add j)=Y u:=by
 have hlt:j<L.length*8:=by rw[<-aBF];exact(List.getElem?_eq_some_iff.1 z).1
 rw[Gw];try rw[LO]
 have y:j/8<L.length:=by omega
 have s:j%8<8:=by omega
 have he:j=j/8*8+j%8:=by omega
 have b:=(h _ y).1;generalize j/8=q at y he b;generalize j%8=o at s he;subst he;have G:=λH hu=>q5 L q y o H s hu;rw[z]at G;match o,s,G with|0,_,G=>exact b.c0.trans (G _ rfl).symm|1,_,G=>exact b.c1.trans (G _ rfl).symm|2,_,G=>exact b.c2.trans (G _ rfl).symm|3,_,G=>exact b.c3.trans (G _ rfl).symm|4,_,G=>exact b.c4.trans (G _ rfl).symm|5,_,G=>exact b.c5.trans (G _ rfl).symm|6,_,G=>exact b.FN.trans (G _ rfl).symm|7,_,G=>exact b.IP.trans (G _ rfl).symm
def aVd(L:List Bu):∀u∈I4 L,u.oneCell'=A3:=by intro u hu;simp only[I4,List.mem_flatMap]at hu;obtain⟨x,_,hx⟩:=hu;simp only[JG,He,or_false]at hx;rcases hx with rfl|rfl|rfl|rfl|rfl|rfl|rfl|rfl<;>rfl
def aU7(B g c:Nat)(v:A1)(A L:List Bu)(g2 AM fk g0 g7 ip s1 wt pp p2 lc rt p4 y4 BD y6 B6 BE B7 y3 D8 D9 DC y z H I K M N:A1)(w:A0)(Aa:w.ownsRow B 234 8 v A.length (I4 A))(k:B<=w.heap.size)(Cy:UC w g L)(X:A.length+L.length<=1000000):Rh.wp A6 (λe s w'=>e=HN/\s.defers=[]/\∃b,w'.ownsRow B 234 8 b (A++L).length (I4 (A++L))/\w.grownBy w' v.ownBlock/\(b.ownBlock=v.ownBlock∨b.ownBlock=Y w.heap.size)/\s.tmps=#[g2,AM,fk,g0,g7,b,ip,s1,A4 (Y ⟨g,0,Z⟩) L.length c,wt,pp,p2,lc,rt,p4,y4,BD,y6,B6,BE,B7,y3,v,A4 (Y ⟨g,0,Z⟩) L.length c,b,y,z,H,I,K,M,N]) ⟨#[g2,AM,fk,g0,g7,v,ip,s1,A4 (Y ⟨g,0,Z⟩) L.length c,wt,pp,p2,lc,rt,p4,y4,BD,y6,B6,BE,B7,y3,D8,D9,DC,y,z,H,I,K,M,N],[]⟩ w:=by obtain⟨i0,hi,t,P,S⟩:=info_parts Go.Proofs.YtcfhleenecfghaaGreatDoor.oc;simp only[Rh,jl,TO,Kv,Pu,G4,fstC,sndC,Mu];go_wp2_with(at_builtin;refine wpList_append_own_at _ rfl _ _ 130 rfl B 234 i0 (A_ #[J ⟨#[]⟩,J ⟨#[]⟩,J ⟨#[]⟩,J ⟨#[]⟩,J ⟨#[]⟩,A4 Z 0 0,A7 A8 0,A4 Z 0 0]) 8 136 Tryz.underlying130 hi t P S rfl (by decide) _ _ _ rfl Aa ⟨g,0,Z⟩ L.length c (I4 L) rfl (aBF L) (aVb Cy) (aVd L) (by unfold BH;omega) (by omega) k ?_);intro b w' h h2 _ h4;rw[<-aVc]at h;have Q:=A5 h;have U:=A5 h2;have W:=A5 h4;clear h h2 h4;go_wp2;exact⟨b,Q.out,U.out,W.out,rfl⟩
noncomputable def pP:Bg:=fstC jj
def aSl:jj=Bh pP (kp (An 18) VG (.exit 0)):=by kernel_rfl
noncomputable def eU:Bg:=fstC Mx
noncomputable def jk:Bg:=fstC (sndC Mx)
def aSn:Mx=Bh eU (Bh jk Kk):=by kernel_rfl
def aU6(a:Option Ak)(n c:Nat)(g2 AM fk g0 g7 hw ip p3 wt pp p2 lc rt p4 y4 BD y6 B6 BE B7 y3 h s y z H I K M N Q:A1)(w:A0)(hn:n<=1000000000):pP.wp A6 (λe b w'=>e=HN/\b.defers=[]/\w'=w/\b.tmps=#[g2,AM,fk,g0,g7,hw,ip,A4 a n c,p3,wt,pp,p2,lc,rt,p4,y4,A4 a n c,A7 A8 (n:Int),Af (Bz (0<n)),BE,B7,y3,h,s,y,z,H,I,K,M,N,Q]) ⟨#[g2,AM,fk,g0,g7,hw,ip,A4 a n c,p3,wt,pp,p2,lc,rt,p4,y4,BD,y6,B6,BE,B7,y3,h,s,y,z,H,I,K,M,N,Q],[]⟩ w:=by
 simp only[pP,jj,TO,Kv,Pu,G4,fstC,sndC,Mu];by_cases U:0<n;·go_wp2
 go_wp2
def aU9(g cap:Nat)(m:Int)(L:List Bu)(g2 AM fk g0 g7 ip s1 p3 wt pp p2 lc rt p4 y4 BD y6 B6 BE B7 y3 M N Q U D2 D3 D4 DG DH D5:A1)(w:A0)(AE:L.length<=1000000)(hv:∀x∈L,x.rel.v.size<=40)(k:g≠0)(t:g<w.heap.size)(K:∀j(h:j<L.length),O6 w g j L[j])(z:∀o,w.frozen? ⟨g,o,Z⟩=A9)(I:w.cell? ⟨0,0,Z⟩=Y (A7 A8 m)):eU.wp A6 (λe s w'=>e=HN/\s.defers=[]/\(∃R,R.Perm L/\Sc R/\(∀j(h:j<R.length),O6 w' g j R[j])/\w.heap.size<=w'.heap.size/\∀b,b<w.heap.size->b≠g->w'.heap[b]?=w.heap[b]?)/\s.tmps=#[g2,AM,fk,g0,g7,A4 (Y ⟨g,0,Z⟩) L.length cap,ip,s1,p3,wt,pp,p2,lc,rt,p4,y4,BD,y6,B6,BE,B7,y3,M,N,Q,U,D2,D3,D4,A4 (Y ⟨g,0,Z⟩) L.length cap,Ay #[],D5]) ⟨#[g2,AM,fk,g0,g7,A4 (Y ⟨g,0,Z⟩) L.length cap,ip,s1,p3,wt,pp,p2,lc,rt,p4,y4,BD,y6,B6,BE,B7,y3,M,N,Q,U,D2,D3,D4,DG,DH,D5],[]⟩ w:=by have H:=A5 (aBv g cap m L w AE hv k t K z I);clear K z I hv;simp only[eU,Mx,Kv,Pu,G4,fstC,sndC,Mu];go_wp2_with(go_at_call 128;refine H.out.mono ?_;rintro e wd⟨rfl,y⟩;have C2:=A5 y;clear y);exact C2.out
def aUB(g2 AM fk g0 g7 hw ip s1 p3 wt pp p2 lc rt p4 y4 BD y6 B6 BE B7 y3 h s y z H I K M N Q:A1)(w:A0):jk.wp A6 (λe b w'=>e=HN/\b.defers=[]/\w'=w/\b.tmps=#[g2,AM,fk,g0,hw,hw,ip,s1,p3,wt,pp,p2,lc,rt,p4,y4,BD,y6,B6,BE,B7,y3,h,s,y,z,H,I,K,M,N,hw]) ⟨#[g2,AM,fk,g0,g7,hw,ip,s1,p3,wt,pp,p2,lc,rt,p4,y4,BD,y6,B6,BE,B7,y3,h,s,y,z,H,I,K,M,N,Q],[]⟩ w:=by simp only[jk,Mx,Kv,Pu,G4,fstC,sndC,Mu];go_wp2
def aIf:ES A6 DV E5 [] 8 pM=A3:=by kernel_rfl
def aIg:ES A6 DV E5 [] 8 pN=A3:=by kernel_rfl
def aIh:ES A6 DV E5 [] 8 pO=A3:=by kernel_rfl
def aIi:ES A6 DV E5 [] 8 eS=A3:=by kernel_rfl
def aIj:ES A6 DV E5 [] 8 pP=A3:=by kernel_rfl
def aIk:ES A6 DV E5 [] 8 Rh=A3:=by kernel_rfl
def aIl:ES A6 DV E5 [] 8 Ri=A3:=by kernel_rfl
def a3r:ES A6 DV E5 [] 8 eU=A3:=by kernel_rfl
def aIm:ES A6 DV E5 [] 8 jk=A3:=by kernel_rfl
def Goes.OW{f:Nat}{c c2:Bg}{r:List Cb}{Q:zw->A0->Prop}(M:A6.funcs[f]?=Y fn)(N:f<4294967296)(hc:ES A6 DV E5 [] 8 c=A3)(K:Ax R T)(I:Holds Wb R w)(h:∀d T0,c.wp A6 (λe z w'=>e=HN/\z.defers=[]/\Q z.tmps w') ⟨T,[]⟩ (on (w.at d) T0))(k:∀s y H w',Q y H->w'.heap=H.heap->Ax s y->(∀b,R b->s b)->Holds Wb s w'->Goes Wb (G ((AW f).at ⟨y,[]⟩ (BS c2::r)) cs) w' Post):Goes Wb (G ((AW f).at ⟨T,[]⟩ (BS (Bh c c2)::r)) cs) w Post:=.ctl rfl (λ_=>FT) λd=>Goes.piece M N hc K (I.at d) (h d) k
def aKV(x y:A1):HO A6 61 #[x,y] GG=(AW 61).at ⟨#[x,y,A',A',A',A',A',A',A',A',A',A',A',A',A',A',A',A',A',A',A',A',A',A',A',A',A',A',A',A',A',A'],[]⟩ [BS Kv]:=by rw[uT R1 (show Pu.body=Y Kv by kernel_rfl)];kernel_rfl
def Ax.aT9{x:A1}(h:Ax R #[x,y]):Ax R #[x,y,A',A',A',A',A',A',A',A',A',A',A',A',A',A',A',A',A',A',A',A',A',A',A',A',A',A',A',A',A',A']:=by
 show Aq CM (C_ R) [x,y,A',A',A',A',A',A',A',A',A',A',A',A',A',A',A',A',A',A',A',A',A',A',A',A',A',A',A',A',A',A'] [x,y,A',A',A',A',A',A',A',A',A',A',A',A',A',A',A',A',A',A',A',A',A',A',A',A',A',A',A',A',A',A'];cases h with
 |cons a t=>
  cases t with
  |cons b _=>
   refine .cons a (.cons b ?_);iterate 30 refine Aq.cons (by constructor;exact Aq.nil) ?_
   exact Aq.nil
def aIA{rc:zw}(t:Holds Wb R w)(P:Ax R #[A_ rc,y])(k:∀z w',w'.heap=(w.heap.push (AF rc 138)).push (DM #[] 0)->Ax z #[A_ rc,y,Ad (Y ⟨w.heap.size,0,Z⟩),A',A4 Z 0 0,A4 Z 0 0,Ah (Y (w.heap.size+1)),A',A',Ah (Y (w.heap.size+1)),A',A',A',A',A',A',A',A',A',A',A',A',A',A',A',A',A',A',A',A',A',A']->(∀b,R b->z b)->Holds Wb z w'->Goes Wb (G ((AW 61).at ⟨#[A_ rc,y,Ad (Y ⟨w.heap.size,0,Z⟩),A',A4 Z 0 0,A4 Z 0 0,Ah (Y (w.heap.size+1)),A',A',Ah (Y (w.heap.size+1)),A',A',A',A',A',A',A',A',A',A',A',A',A',A',A',A',A',A',A',A',A',A'],[]⟩ [BS (Bh eS (Bh TO Mx))]) cs) w' Post):Goes Wb (G (HO A6 61 #[A_ rc,y] GG) cs) w Post:=by
 rw[aKV,aI4];refine .OW (Q:=λT w'=>T=#[A_ rc,y,Ad (Y ⟨w.heap.size,0,Z⟩),A',A4 Z 0 0,A',A',A',A',A',A',A',A',A',A',A',A',A',A',A',A',A',A',A',A',A',A',A',A',A',A',A']/\w'.heap=w.heap.push (AF rc 138)) R1 (by decide) aIf P.aT9 t (λd T0=>JZ ?_ (aU2 (A_ rc) y rc rfl (on (w.at d) T0))) ?_;·rintro e I w'⟨s,h2,h3,rfl⟩;exact⟨s,h2,h3,rfl⟩
 rintro z BK w1 w2⟨rfl,e1⟩e2 S W X;refine .OW (Q:=λT w'=>T=#[A_ rc,y,Ad (Y ⟨w.heap.size,0,Z⟩),A',A4 Z 0 0,A4 Z 0 0,A',A',A',A',A',A',A',A',A',A',A',A',A',A',A',A',A',A',A',A',A',A',A',A',A',A']/\w'.heap=w.heap.push (AF rc 138)) R1 (by decide) aIg S X (λd T0=>JZ ?_ (aU3 _ _ _ _ (on (w2.at d) T0))) ?_;·rintro e I w'⟨s,h2,h3,rfl⟩;exact⟨s,h2,h3,e2.trans e1⟩
 rintro P6 Dk w3 H⟨rfl,M⟩N GK M6 Sr;have h:=N.trans M;have rg:H.heap.size=w.heap.size+1:=by rw[h];simp
 refine .OW (Q:=λT w'=>T=#[A_ rc,y,Ad (Y ⟨w.heap.size,0,Z⟩),A',A4 Z 0 0,A4 Z 0 0,Ah (Y (w.heap.size+1)),A',A',Ah (Y (w.heap.size+1)),A',A',A',A',A',A',A',A',A',A',A',A',A',A',A',A',A',A',A',A',A',A']/\w'.heap=(w.heap.push (AF rc 138)).push (DM #[] 0)) R1 (by decide) aIh GK Sr (λd T0=>JZ ?_ (aU4 _ _ _ _ _ (on (H.at d) T0))) ?_
 ·rintro e I w'⟨s,h2,h3,rfl⟩;refine⟨s,h2,?_,?_⟩;·rw[h3,show(on (H.at d) T0).heap.size=w.heap.size+1 from rg]
  show H.heap.push _=_;rw[h]
 rintro K El Dq Fp⟨rfl,U⟩LX RJ QN Xw;exact k K Fp (LX.trans U) RJ (λb hb=>QN b (M6 b (W b hb))) Xw
def aY5{own:zz}{c1 r:Nat}{t0 t4 t5 t9:A1}(N:Holds Wb R w)(t:Ax R #[t0,v,Ad (Y ⟨b2,0,Z⟩),A',t4,t5,Ah (Y r),A',A',t9,A',A',A',A',A',A',A',A',A',A',A',A',A',A',A',A',A',A',A',A',A',A'])(P:w.heap[r1]?=Y (DM #[] c1))(AK:Found w r [] 0)(hv:JH w v l)(AE:l.length<=1000000)(B3:∀m∈l,m.1≠own/\Ft m)(K:w.cell? ⟨b2,0,Z⟩=Y (J own))(e1:w.cell? ⟨b2,1,Z⟩=Y (Ah (Y r1)))(e2:w.cell? ⟨b2,2,Z⟩=Y (Ah (Y r2)))(k:∀z W lc s h y w',w.heap.size<=W.heap.size->(∀b,b<w.heap.size->W.heap[b]?=w.heap[b]?)->SC [] l 0 r W l.length h y->w'.heap=y.heap->Ax z #[t0,v,Ad (Y ⟨b2,0,Z⟩),A',t4,t5,Ah (Y r),h,A',t9,Ah (Y r),Ad (Y ⟨b2,0,Z⟩),lc,v,s,h,A',A',A',A',A',A',A',A',A',A',A',A',A',A',A',A']->(∀b,R b->z b)->Holds Wb z w'->Goes Wb (G ((AW 61).at ⟨#[t0,v,Ad (Y ⟨b2,0,Z⟩),A',t4,t5,Ah (Y r),h,A',t9,Ah (Y r),Ad (Y ⟨b2,0,Z⟩),lc,v,s,h,A',A',A',A',A',A',A',A',A',A',A',A',A',A',A',A'],[]⟩ [BS (Bh TO Mx)]) cs) w' Post):Goes Wb (G ((AW 61).at ⟨#[t0,v,Ad (Y ⟨b2,0,Z⟩),A',t4,t5,Ah (Y r),A',A',t9,A',A',A',A',A',A',A',A',A',A',A',A',A',A',A',A',A',A',A',A',A',A'],[]⟩ [BS (Bh eS (Bh TO Mx))]) cs) w Post:=by
 refine .OW (Q:=λT y=>∃(W:A0)(lc s h:A1),(w.heap.size<=W.heap.size/\∀b,b<w.heap.size->W.heap[b]?=w.heap[b]?)/\SC [] l 0 r W l.length h y/\T=#[t0,v,Ad (Y ⟨b2,0,Z⟩),A',t4,t5,Ah (Y r),h,A',t9,Ah (Y r),Ad (Y ⟨b2,0,Z⟩),lc,v,s,h,A',A',A',A',A',A',A',A',A',A',A',A',A',A',A',A']) R1 (by decide) aIi t N (λd T0=>JZ ?_ (aU5 own r1 r2 c1 r b2 t0 v t4 t5 t9 l (on (w.at d) T0) P AK hv AE B3 K e1 e2)) ?_;·rintro e a' w'⟨M,h2,W,lc,s,h,H,I,AP⟩;exact⟨M,h2,W,lc,s,h,⟨H.size,H.block⟩,I,AP⟩
 rintro z BK y w2⟨W,lc,s,h,⟨hs,H⟩,I,rfl⟩e2 S X U;exact k z W lc s h y w2 hs H I e2 S X U
noncomputable def be:Bg:=Bh jj (Wq 1 (Bh eT (Bh Rh Ri)))
noncomputable def aB:List Cb:=[.inLoop be,.inBlock 0,BS Mx]
def aRI(y:Holds Wb R w)(k:∀w',w'.heap=w.heap->Holds Wb R w'->Goes Wb (G ((AW 61).at ⟨T,[]⟩ (BS be::aB)) cs) w' Post):Goes Wb (G ((AW 61).at ⟨T,[]⟩ [BS (Bh TO Mx)]) cs) w Post:=by rw[aSo];refine .ctl rfl (λ_=>FT) λb=>?_;refine .ctl rfl (λ_=>kx) λh=>?_;refine .ctl rfl (λ_=>stepG_loop) λs=>?_;exact k _ rfl (((y.at b).at h).at s)
def aCB{c:Nat}(k:Holds Wb R w)(P:Ax R #[g2,AM,fk,g0,g7,hw,ip,A4 a n c,p3,wt,pp,p2,lc,rt,p4,y4,BD,y6,B6,BE,B7,y3,D8,D9,DC,D1,D2,D3,D4,DG,DH,D5])(hn:n<=1000000000)(S:n=0->∀h w',w'.heap=w.heap->Ax h #[g2,AM,fk,g0,g7,hw,ip,A4 a n c,p3,wt,pp,p2,lc,rt,p4,y4,A4 a n c,A7 A8 (n:Int),Af (Bz (0<n)),BE,B7,y3,D8,D9,DC,D1,D2,D3,D4,DG,DH,D5]->(∀b,R b->h b)->Holds Wb h w'->Goes Wb (G ((AW 61).at ⟨#[g2,AM,fk,g0,g7,hw,ip,A4 a n c,p3,wt,pp,p2,lc,rt,p4,y4,A4 a n c,A7 A8 (n:Int),Af (Bz (0<n)),BE,B7,y3,D8,D9,DC,D1,D2,D3,D4,DG,DH,D5],[]⟩ [BS Mx]) cs) w' Post)(k1:0<n->∀h w',w'.heap=w.heap->Ax h #[g2,AM,fk,g0,g7,hw,ip,A4 a n c,p3,wt,pp,p2,lc,rt,p4,y4,A4 a n c,A7 A8 (n:Int),Af (Bz (0<n)),BE,B7,y3,D8,D9,DC,D1,D2,D3,D4,DG,DH,D5]->(∀b,R b->h b)->Holds Wb h w'->Goes Wb (G ((AW 61).at ⟨#[g2,AM,fk,g0,g7,hw,ip,A4 a n c,p3,wt,pp,p2,lc,rt,p4,y4,A4 a n c,A7 A8 (n:Int),Af (Bz (0<n)),BE,B7,y3,D8,D9,DC,D1,D2,D3,D4,DG,DH,D5],[]⟩ (BS (Bh eT (Bh Rh Ri))::.inBlock 1::aB)) cs) w' Post):Goes Wb (G ((AW 61).at ⟨#[g2,AM,fk,g0,g7,hw,ip,A4 a n c,p3,wt,pp,p2,lc,rt,p4,y4,BD,y6,B6,BE,B7,y3,D8,D9,DC,D1,D2,D3,D4,DG,DH,D5],[]⟩ (BS be::aB)) cs) w Post:=by
 unfold be;refine .ctl rfl (λ_=>FT) λz=>?_;rw[aSl];refine .OW (Q:=λT N=>T=#[g2,AM,fk,g0,g7,hw,ip,A4 a n c,p3,wt,pp,p2,lc,rt,p4,y4,A4 a n c,A7 A8 (n:Int),Af (Bz (0<n)),BE,B7,y3,D8,D9,DC,D1,D2,D3,D4,DG,DH,D5]/\N.heap=w.heap) R1 (by decide) aIj P (k.at z) (λd T0=>JZ ?_ (aU6 a n c g2 AM fk g0 g7 hw ip p3 wt pp p2 lc rt p4 y4 BD y6 B6 BE B7 y3 D8 D9 DC D1 D2 D3 D4 DG DH D5 (on ((w.at z).at d) T0) hn)) ?_;·rintro e a' w'⟨h1,h2,rfl,h4⟩;exact⟨h1,h2,h4,rfl⟩
 rintro h W N w2⟨rfl,e1⟩e2 M K I;have he:=e2.trans e1;refine .ctl rfl (λ_=>cC (t:=Bz (0<n)) rfl) λH=>?_;by_cases y:0<n;·rw[if_pos (by simpa using y)];refine .ctl rfl (λ_=>a'J) λs=>?_;refine .ctl rfl (λ_=>kx) λU=>?_;exact k1 y h _ he M K (((I.at H).at s).at U)
 rw[if_neg (by simpa using y)];refine .ctl rfl (λ_=>stepG_exit (k':=[BS Mx]) rfl) λs=>?_;exact S (by omega) h _ he M K ((I.at H).at s)
def aW3:Pu.results=#[a16 4]:=by kernel_rfl
def aW4(w:A0):Bi A6 A3 (G {(AW 61).at ⟨T,[]⟩ [BS Kk]with mode:=.returning} (c'::cs')) w=.go (G (c'.finish (T.getD 4 A')) cs') w #[]:=by simp[G,Bi,unwind,doReturn,D_,Frame.at,AW,R1,aW3,seen,GStep.after]
noncomputable def YV:Array BR:=match eT with|Ej _ ops _=>ops|_=>#[]
def aSm:eT=Ej 5 YV A9:=by kernel_rfl
def aAD:YV.size=4:=by kernel_rfl
noncomputable def Rl(i:Nat):BR:=YV.getD i Aw
def jy(i:Nat)(h:i<4):YV[i]?=Y (Rl i):=by unfold Rl;rw[Iv,EP (by rw[aAD];exact h)];rfl
def aLg:∀i,i<4->(Rl i).guard=Z|0,_=>by kernel_rfl|1,_=>by kernel_rfl|2,_=>by kernel_rfl|3,_=>by kernel_rfl
def qT(i:Nat)(h:i<4)(y:_):Gt (Rl i) y=A3:=by simp[Gt,aLg i h]
def aQw{k v4:A1}(h2:ρ (An 2)=Av br)(h:w.heap[br]?=Y (AF #[v0,k,F9,v3,v4] 138 p)):(Ab ρ (Rl 0)).run A6 w=Ac (D6 (A_ #[v0,k,F9,v3,v4])) w:=by
 have b:(Rl 0).op=R0 138 (An 2):=by kernel_rfl
 unfold Ab;rw[b];simp only[h2];have c0:w.cell? ⟨br,0,Z⟩=Y v0:=by simp[FB,h]
 have c1:w.cell? ⟨br,1,Z⟩=Y k:=by simp[FB,h]
 have c2:w.cell? ⟨br,2,Z⟩=Y F9:=by simp[FB,h]
 have c3:w.cell? ⟨br,3,Z⟩=Y v3:=by simp[FB,h]
 have c4:w.cell? ⟨br,4,Z⟩=Y v4:=by simp[FB,h]
 simp[go_sem,c0,c1,c2,c3,c4]
def Aq.nth{F:zy}{E:AT}:∀{l:List A1}(i:Nat){v:A1},Aq F E l l->l[i]?=Y v->AN F E v v|_,_,_,.nil,h=>by cases h|_,0,_,.cons a _,h=>by obtain rfl:=CH h;exact a|_,i+1,_,.cons _ t,h=>Aq.nth i t (by simpa using h)
def Ax.nth{R:zy}{T:zw}(h:Ax R T)(i:Nat){v:A1}(e:T[i]?=Y v):AN CM (C_ R) v v:=Aq.nth i h (by simpa using e)
def AN.Uj{o l c:Nat}{s:_}(h:AN CM (C_ R) (A4 (Y ⟨b,o,s⟩) l c) (A4 (Y ⟨b,o,s⟩) l c)):R b:=by cases h with|slice _ _ M8=>exact M8.1.2
def AN.YL{o:Nat}{s:_}(h:AN CM (C_ R) (Ad (Y ⟨b,o,s⟩)) (Ad (Y ⟨b,o,s⟩))):R b:=by cases h with|ptr M8=>exact M8.1.2
def AN.jY(h:AN CM (C_ R) (Ah (Y b)) (Ah (Y b))):R b:=by cases h with|map h=>exact h.2
section
variable[CV]
def aVh{rd:zy}{t:List Cb}{own:zz}{bl cap2:Nat}(m2:Holds Wb R w)(g9:Ax R #[g2,AM,Ad (Y ⟨b2,0,Z⟩),g0,g7,hw,ip,A4 (Y ⟨bl,0,Z⟩) ms.length cap2,p3,wt,pp,p2,lc,rt,p4,y4,BD,y6,B6,BE,B7,y3,D8,D9,DC,D1,D2,D3,D4,DG,DH,D5])(Io:w.heap[b2]?=Y (AF #[J own,Ah (Y r1),Ah (Y r2),A4 (Y ⟨a2,0,Z⟩) Gs.length cap,Ah (Y up)] 138))(WA:∀b,rd b->R b)(Al:O4 reads rd w)(oL:Reads w own r1 r2 a2 up Gs)(R_:rd r1)(Q_:rd r2)(WI:rd a2)(eH:rd up)(Y5:∀r∈Gs,∀a,r.BP=Y a->rd a.block)(B3:Mh Gs)(hrel:∀r∈Gs,h6 own r)(NX:∀r∈Gs,r.v.size<=40)(YC:Zq w bl ms)(HW:∀m∈ms,∃r∈Gs,r.name=m)(hn:ms.length<=1000000)(i7:0<ms.length)(k:∀U R' v w',(∀b,R b->R' b)->Holds U R' w'->Ax R' #[g2,AM,Ad (Y ⟨b2,0,Z⟩),g0,g7,hw,ip,A4 (Y ⟨bl,0,Z⟩) ms.length cap2,v,wt,pp,p2,lc,rt,p4,y4,BD,y6,B6,IZ own r1 r2 a2 Gs.length cap up,A4 (Y ⟨bl,0,Z⟩) ms.length cap2,v,D8,D9,DC,D1,D2,D3,D4,DG,DH,D5]->(∀b,R b->w'.heap[b]?=w.heap[b]?)->a2o Gs ms v w'->(∀b c,v=A4 (Y ⟨b,0,Z⟩) ms.length c->¬R b)->Goes U (G ((AW 61).at ⟨#[g2,AM,Ad (Y ⟨b2,0,Z⟩),g0,g7,hw,ip,A4 (Y ⟨bl,0,Z⟩) ms.length cap2,v,wt,pp,p2,lc,rt,p4,y4,BD,y6,B6,IZ own r1 r2 a2 Gs.length cap up,A4 (Y ⟨bl,0,Z⟩) ms.length cap2,v,D8,D9,DC,D1,D2,D3,D4,DG,DH,D5],[]⟩ (BS (Bh Rh Ri)::t)) cs) w' Post):Goes Wb (G ((AW 61).at ⟨#[g2,AM,Ad (Y ⟨b2,0,Z⟩),g0,g7,hw,ip,A4 (Y ⟨bl,0,Z⟩) ms.length cap2,p3,wt,pp,p2,lc,rt,p4,y4,BD,y6,B6,BE,B7,y3,D8,D9,DC,D1,D2,D3,D4,DG,DH,D5],[]⟩ (BS (Bh eT (Bh Rh Ri))::t)) cs) w Post:=by
 refine .ctl rfl (λ_=>FT) λd1=>?_;rw[aSm];refine .ctl rfl (λ_=>II) λd2=>?_;rw[aAD];show Goes Wb (G ((AW 61).at ⟨#[g2,AM,Ad (Y ⟨b2,0,Z⟩),g0,g7,hw,ip,A4 (Y ⟨bl,0,Z⟩) ms.length cap2,p3,wt,pp,p2,lc,rt,p4,y4,BD,y6,B6,BE,B7,y3,D8,D9,DC,D1,D2,D3,D4,DG,DH,D5],[]⟩ (B1 YV [0,1,2,3]::BS (Bh Rh Ri)::t)) cs) _ Post;have Sr:=(m2.at d1).at d2;refine Goes.op (Q:=λv M=>v=IZ own r1 r2 a2 Gs.length cap up/\M.heap=w.heap) (jy 0 (by decide)) (qT 0 (by decide) _) (by kernel_rfl) (by kernel_rfl) (by kernel_rfl) (by kernel_rfl) (show(Rl 0).dst=Y 19 by kernel_rfl) (by kernel_rfl) (by decide) Sr g9 (λT0=>⟨_,_,aQw (br:=b2) rfl Io,rfl,rfl⟩) ?_;rintro Bb v M w2⟨rfl,e1⟩e2 Er Xw Dn;have ny:w2.heap=w.heap:=e2.trans e1;have Dn:Ax Bb #[g2,AM,Ad (Y ⟨b2,0,Z⟩),g0,g7,hw,ip,A4 (Y ⟨bl,0,Z⟩) ms.length cap2,p3,wt,pp,p2,lc,rt,p4,y4,BD,y6,B6,IZ own r1 r2 a2 Gs.length cap up,B7,y3,D8,D9,DC,D1,D2,D3,D4,DG,DH,D5]:=Dn;show Goes Wb (G ((AW 61).at ⟨#[g2,AM,Ad (Y ⟨b2,0,Z⟩),g0,g7,hw,ip,A4 (Y ⟨bl,0,Z⟩) ms.length cap2,p3,wt,pp,p2,lc,rt,p4,y4,BD,y6,B6,IZ own r1 r2 a2 Gs.length cap up,B7,y3,D8,D9,DC,D1,D2,D3,D4,DG,DH,D5],[]⟩ (B1 YV [1,2,3]::BS (Bh Rh Ri)::t)) cs) _ Post;refine Goes.op (Q:=λv M=>v=A4 (Y ⟨bl,0,Z⟩) ms.length cap2/\M.heap=w.heap) (jy 1 (by decide)) (qT 1 (by decide) _) (by kernel_rfl) (by kernel_rfl) (by kernel_rfl) (by kernel_rfl) (show(Rl 1).dst=Y 20 by kernel_rfl) (by kernel_rfl) (by decide) Xw Dn (λT0=>?_) ?_
 ·have AA:(Rl 1).op=Mb (An 7):=by kernel_rfl
  refine⟨_,on w2 T0,?_,rfl,ny⟩;unfold Ab;rw[AA];rfl
 rintro P6 v w3 H⟨rfl,Co⟩Dy M6 Kz S;have K:H.heap=w.heap:=Dy.trans Co;have S:Ax P6 #[g2,AM,Ad (Y ⟨b2,0,Z⟩),g0,g7,hw,ip,A4 (Y ⟨bl,0,Z⟩) ms.length cap2,p3,wt,pp,p2,lc,rt,p4,y4,BD,y6,B6,IZ own r1 r2 a2 Gs.length cap up,A4 (Y ⟨bl,0,Z⟩) ms.length cap2,y3,D8,D9,DC,D1,D2,D3,D4,DG,DH,D5]:=S;show Goes Wb (G ((AW 61).at ⟨#[g2,AM,Ad (Y ⟨b2,0,Z⟩),g0,g7,hw,ip,A4 (Y ⟨bl,0,Z⟩) ms.length cap2,p3,wt,pp,p2,lc,rt,p4,y4,BD,y6,B6,IZ own r1 r2 a2 Gs.length cap up,A4 (Y ⟨bl,0,Z⟩) ms.length cap2,y3,D8,D9,DC,D1,D2,D3,D4,DG,DH,D5],[]⟩ (B1 YV [2,3]::BS (Bh Rh Ri)::t)) cs) _ Post;have W:∀b,R b->P6 b:=λb y=>M6 b (Er b y);refine .ctl rfl (λ_=>Tg (f:=126) (fn:=Tryz.f126) (c:=Xh) (az:=#[.tmp 19,.tmp 20]) (ats:=#[138,57]) (jy 2 (by decide)) (qT 2 (by decide) _) (by simp[AW]) (by kernel_rfl) Tryz.func126 (by kernel_rfl) (by kernel_rfl)) λd3=>?_;have L':(#[.tmp 19,.tmp 20]:Array C').map (Cg ⟨#[g2,AM,.pointer (Y ⟨b2,0,Z⟩),g0,g7,hw,ip,.slice (Y ⟨bl,0,Z⟩) ms.length cap2,p3,wt,pp,p2,lc,rt,p4,y4,BD,y6,B6,IZ own r1 r2 a2 Gs.length cap up,.slice (Y ⟨bl,0,Z⟩) ms.length cap2,y3,D8,D9,DC,D1,D2,D3,D4,DG,DH,D5],[]⟩)=#[IZ own r1 r2 a2 Gs.length cap up,.slice (Y ⟨bl,0,Z⟩) ms.length cap2]:=by kernel_rfl
 rw[L'];have I:∀a,H.cell? a=w.cell? a:=λa=>by simp[FB,K]
 have FZ:P6 bl:=AN.Uj (Ax.nth S 7 rfl);have Du:Ci<=H.heap.size:=by rw[K];exact Al.low
 refine(aHy (w:=H.at d3) (rd:=rd) (off:=0) (ms:=ms) (bl:=bl) (cap2:=cap2) (Kz.at d3) (λb y=>W b (WA b y)) (Al.same λb _=>by show H.heap[b]?=_;rw[K] Du) ?_ R_ Q_ WI eH Y5 B3 hrel NX FZ (λj p v P=>?_) (λj p v P=>?_) hn i7).bind ?_;·obtain⟨⟨m,a⟩,⟨c1,b⟩,⟨c2,c⟩,⟨c3,d⟩,e⟩:=oL;exact⟨⟨m,(I _).trans a⟩,⟨c1,by show H.heap[r1]?=_;rw[K];exact b⟩,⟨c2,by show H.heap[r2]?=_;rw[K];exact c⟩,⟨c3,by show H.heap[up]?=_;rw[K];exact d⟩,λi hi=>⟨(I _).trans (e i hi).1,(I _).trans (e i hi).2.1,(I _).trans (e i hi).2.2.1,(I _).trans (e i hi).2.2.2⟩⟩
 ·obtain⟨hlt,AI⟩:=List.getElem?_eq_some_iff.1 P;have:=YC j hlt;rw[AI]at this;rw[LO];exact⟨(I _).trans this.1,(I _).trans this.2⟩
 ·obtain⟨r,A2,e⟩:=HW _ (U8 P);obtain⟨i,hi,rfl⟩:=List.mem_iff_getElem.1 A2;exact⟨i,hi,e⟩
 rintro U g' X⟨Sa,v,rfl,hv,QN,aV,Dz,AH,Bw⟩;rw[LF,jy 2 (by decide),SZ,show(Rl 2).dst=Y 21 by kernel_rfl];have RJ:Ax Sa #[g2,AM,.pointer (Y ⟨b2,0,Z⟩),g0,g7,hw,ip,.slice (Y ⟨bl,0,Z⟩) ms.length cap2,p3,wt,pp,p2,lc,rt,p4,y4,BD,y6,B6,IZ own r1 r2 a2 Gs.length cap up,.slice (Y ⟨bl,0,Z⟩) ms.length cap2,v,D8,D9,DC,D1,D2,D3,D4,DG,DH,D5]:=(S.mono QN).set hv 21;show Goes U (G ((AW 61).at ⟨#[g2,AM,.pointer (Y ⟨b2,0,Z⟩),g0,g7,hw,ip,.slice (Y ⟨bl,0,Z⟩) ms.length cap2,p3,wt,pp,p2,lc,rt,p4,y4,BD,y6,B6,IZ own r1 r2 a2 Gs.length cap up,.slice (Y ⟨bl,0,Z⟩) ms.length cap2,v,D8,D9,DC,D1,D2,D3,D4,DG,DH,D5],[]⟩ (.inRegion YV [3]::.code (.seq Rh Ri)::t)) cs) _ Post;refine Goes.op (Q:=λu M=>u=v/\M.heap=X.heap) (jy 3 (by decide)) (qT 3 (by decide) _) (by kernel_rfl) (by kernel_rfl) (by kernel_rfl) (by kernel_rfl) (show(Rl 3).dst=Y 8 by kernel_rfl) (by kernel_rfl) (by decide) aV RJ (λT0=>?_) ?_
 ·have AA:(Rl 3).op=.assign (.tmp 21):=by kernel_rfl
  refine⟨_,on X T0,?_,rfl,rfl⟩;unfold Ab;rw[AA];rfl
 rintro h0 u Fp N⟨rfl,J6⟩LX aa dh NP;have an:N.heap=X.heap:=LX.trans J6;have NP:Ax h0 #[g2,AM,.pointer (Y ⟨b2,0,Z⟩),g0,g7,hw,ip,.slice (Y ⟨bl,0,Z⟩) ms.length cap2,u,wt,pp,p2,lc,rt,p4,y4,BD,y6,B6,IZ own r1 r2 a2 Gs.length cap up,.slice (Y ⟨bl,0,Z⟩) ms.length cap2,u,D8,D9,DC,D1,D2,D3,D4,DG,DH,D5]:=NP;refine .ctl rfl (λ_=>Hs) λd4=>?_;refine k U h0 u (N.at d4) (λb y=>aa b (QN b (W b y))) (dh.at d4) NP (λb y=>?_) ?_ λb c e y=>Bw b c e (W b y);·show N.heap[b]?=_;rw[an,Dz b (W b y)];show H.heap[b]?=_;rw[K]
 obtain⟨C3,c,L,a1,FY,a3,a4,a5,KP⟩:=AH;have s:∀a,(N.at d4).cell? a=X.cell? a:=λa=>by show N.cell? a=_;simp[FB,an]
 refine⟨C3,c,L,a1,FY,λj P=>?_,a4,a5,λx hx=>⟨(KP x hx).1,(KP x hx).2.same λb _=>by show N.heap[b]?=_;rw[an]⟩⟩;obtain⟨⟨N6,DI,GF,IH,Ob,Oc,S6,Od⟩,QV⟩:=a3 j P;refine⟨⟨(s _).trans N6,(s _).trans DI,(s _).trans GF,(s _).trans IH,(s _).trans Ob,(s _).trans Oc,(s _).trans S6,(s _).trans Od⟩,?_⟩;rcases QV with h|⟨Cx,c2,z,h⟩;·exact AD h
 exact AJ ⟨Cx,c2,z,λk hk=>⟨(s _).trans (h k hk).1,(s _).trans (h k hk).2⟩⟩
end
def MJ(Gs:List Rel)(m:Az):List Az:=((Gs.find? λr=>Bz (r.name=m)).map Rel.D').getD []
def yA(y:Mh Gs)(h:r∈Gs):MJ Gs r.name=r.D':=by
 unfold MJ;cases e:Gs.find? λx=>Bz (x.name=r.name)with
 |none=>have:=List.find?_eq_none.1 e r h;simp at this
 |some x=>
  have b:x.name=r.name:=by simpa using aGs e
  have h2:=aH1 e;obtain⟨i,hi,rfl⟩:=List.mem_iff_getElem.1 h;obtain⟨j,s,rfl⟩:=List.mem_iff_getElem.1 h2;obtain rfl:=y.inj s hi b;rfl
def a9r{Gs:List Rel}(b:Mh Gs):∀{L:List Bu},(∀x∈L,x.rel∈Gs)->Eh L=(names L).flatMap (MJ Gs)|[],_=>rfl|x::L,h=>by have s:=a9r b (L:=L) λy hy=>h y (by simp[hy]);show x.rel.D'++Eh L=MJ Gs x.rel.name++(names L).flatMap (MJ Gs);rw[s,yA b (h x (by simp))]
def aSz(A L:List Bu):Eh (A++L)=Eh A++Eh L:=by simp[Eh]
def aSq(A L:List Bu):names (A++L)=names A++names L:=by simp[names]
def pR{c:Nat}:∀{L:List Bu},(∀x∈L,x.rel.D'.length<=c)->(Eh L).length<=L.length*c|[],_=>by simp[Eh]|x::L,h=>by have s:=pR (L:=L) λy hy=>h y (by simp[hy]);have b:=h x (by simp);show(x.rel.D'++Eh L).length<=(L.length+1)*c;rw[H7,Nat.add_mul];omega
structure Whole(Gs:List Rel)(f2:List Az)(own:zz):Prop where
 ok:Mh Gs
 rel:∀r∈Gs,h6 own r
 AY:∀r∈Gs,r.v.size<=40
 hh:Gs.length<=1000
 short:∀r∈Gs,r.D'.length<=1000
 D':∀r∈Gs,∀m∈r.D',∃x∈Gs,x.name=m
 root:∀m∈f2,∃x∈Gs,x.name=m
 roots:f2.length<=1000
def Whole.reach{own:zz}(h:Whole Gs f2 own){m:Az}(b:N.Reach (MJ Gs) f2 m):∃x∈Gs,x.name=m:=by induction b with|root hx=>exact h.root _ hx|step _ hy s=>obtain⟨x,hx,e⟩:=s;rw[<-e,yA h.ok hx]at hy;exact h.D' x hx _ hy
def Whole.len{own:zz}(h:Whole Gs f2 own){A X:List Az}(b:N.Vd (MJ Gs) f2 F A X):A.length+X.length<=Gs.length:=by
 have s:=N.pT (U:=Gs.map Rel.name) b.nodup λm y=>by obtain⟨x,hx,e⟩:=h.reach (b.reach m y);exact List.mem_map.2 ⟨x,hx,e⟩
 have h2:=b.perm.length_eq;rw[H7]at h2;rw[Ks]at s;omega
structure dI(w0:A0)(BX rd:zy)(own:zz)(r1 r2 a2 up:Nat)(Gs:List Rel):Prop where
 sub:∀b,rd b->BX b
 Jo:O4 reads rd w0
 reads:Reads w0 own r1 r2 a2 up Gs
 oZ:rd r1
 o_:rd r2
 oa:rd a2
 ob:rd up
 files:∀r∈Gs,∀a,r.BP=Y a->rd a.block
 low:∀b,BX b->b<w0.heap.size
def Reads.same{own:zz}{rd:zy}(h:Reads w own r1 r2 a2 up Gs)(H:rd 0)(I:rd r1)(h2:rd r2)(s:rd a2)(M:rd up)(hi:∀b,rd b->w'.heap[b]?=w.heap[b]?):Reads w' own r1 r2 a2 up Gs:=by have hc:∀b o v,rd b->w.cell? ⟨b,o,Z⟩=Y v->w'.cell? ⟨b,o,Z⟩=Y v:=λb o v s hv=>(FG (a:=⟨b,o,Z⟩) (hi b s)).trans hv;obtain⟨⟨m,g⟩,⟨c1,e1⟩,⟨c2,e2⟩,⟨c3,y⟩,z⟩:=h;refine⟨⟨m,hc _ _ _ H g⟩,⟨c1,(hi _ I).trans e1⟩,⟨c2,(hi _ h2).trans e2⟩,⟨c3,(hi _ M).trans y⟩,λi K=>?_⟩;obtain⟨a,b,c,d⟩:=z i K;exact⟨hc _ _ _ s a,hc _ _ _ s b,hc _ _ _ s c,hc _ _ _ s d⟩
structure a6(Gs:List Rel)(f2:List Az)(own:zz)(r1 r2 a2 cap up b2 r:Nat)(BX:zy)(w0:A0)(R:zy)(HA Dc:A1)(A:List Bu)(F X:List Az)(w:A0):Prop where
 old:∀b,BX b->R b/\w.heap[b]?=w0.heap[b]?
 size:w0.heap.size<=w.heap.size
 box:w.heap[b2]?=Y (AF #[J own,Ah (Y r1),Ah (Y r2),A4 (Y ⟨a2,0,Z⟩) Gs.length cap,Ah (Y up)] 138)
 new:w0.heap.size<=r
 found:Found w r F (f2.length+(Eh A).length)
 all:w.ownsRow w0.heap.size 234 8 HA A.length (I4 A)
 Kb:∀x∈A,x.rel∈Gs/\Hd w R x.B4 x.rel.D'
 fresh:w.ownsRow w0.heap.size 85 2 Dc X.length (F8 X)
 round:N.Vd (MJ Gs) f2 F (names A) X
def YY{e s k:Nat}(h:w.ownsRow B e s v k xs)(hs:∀b,v.ownBlock=Y b->w'.heap[b]?=w.heap[b]?):w'.ownsRow B e s v k xs:=by obtain⟨x,y⟩:=h;refine⟨x,y.imp id ?_⟩;rintro⟨g,cap,g6,z,h2,h3,h4⟩;subst z;exact⟨g,cap,g6,rfl,h2,by rw[hs g rfl];exact h3,h4⟩
def aAS{B' e s k:Nat}(h:w.ownsRow B e s v k xs)(z:B'<=B):w.ownsRow B' e s v k xs:=by obtain⟨x,y⟩:=h;refine⟨x,y.imp id ?_⟩;rintro⟨g,cap,g6,b,h2,h3,h4⟩;exact⟨g,cap,g6,b,by omega,h3,h4⟩
def aAU{e s k:Nat}(h:w.ownsRow B e s v k xs)(y:v.ownBlock=Y b):∃g6,w.heap[b]?=Y (AF g6 e (0,0)):=by
 rcases h.2 with⟨rfl,_⟩|⟨g,cap,g6,rfl,_,h3,_⟩;·cases y
 obtain rfl:=CH y;exact⟨g6,h3⟩
def AN.yN(h:AN CM (C_ R) v v)(y:v.ownBlock=Y b):R b:=by match v,y with|A4 (Y ⟨b',o,s⟩) l c,y=>obtain rfl:=CH y;exact AN.Uj h
def Hd.at{R':zy}(h:Hd w R B4 l)(s:∀b,R b->R' b)(hs:∀b c q,R b->w.heap[b]?=Y (AF c 85 q)->w'.heap[b]?=w.heap[b]?):Hd w' R' B4 l:=by
 rcases h with h|⟨g,cap,g6,q,a,b,c,d⟩;·exact AD h
 exact AJ ⟨g,cap,g6,q,a,s g b,by rw[hs g _ _ b c];exact c,d⟩
def aQn{j:Nat}(z:Holds Wb R w)(H:R g)(hc:O6 w g j x)(I:Hd w (λ_=>True) x.B4 l):Hd w R x.B4 l:=by
 rcases I with h|⟨y,c2,g6,q,a,_,c,d⟩;·exact AD h
 refine AJ ⟨y,c2,g6,q,a,?_,c,d⟩;obtain⟨o,e,k⟩:=z.closed.heap g H;have b:=hc.IP;obtain⟨K,t,p,s⟩:=a3t b;rw[e]at s;obtain rfl:=CH s;rw[Ao e]at b;cases k with|cells _ hv _=>have:=Aq.nth _ hv (by simpa using b);rw[a]at this;exact AN.Uj this
def kD{j:Nat}(h:O6 w g j x)(e:w'.heap[g]?=w.heap[g]?):O6 w' g j x:=by have hc:∀o v,w.cell? ⟨g,o,Z⟩=Y v->w'.cell? ⟨g,o,Z⟩=Y v:=λo v hv=>(FG (a:=⟨g,o,Z⟩) e).trans hv;exact⟨hc _ _ h.c0,hc _ _ h.c1,hc _ _ h.c2,hc _ _ h.c3,hc _ _ h.c4,hc _ _ h.c5,hc _ _ h.FN,hc _ _ h.IP⟩
def a9T(h:JH w v l)(e:w'.heap=w.heap):JH w' v l:=by
 have hc:∀a,w'.cell? a=w.cell? a:=λa=>by simp[FB,e]
 rcases h with h|⟨g,c,s,h2⟩;·exact AD h
 exact AJ ⟨g,c,s,λj b=>⟨(hc _).trans (h2 j b).1,(hc _).trans (h2 j b).2⟩⟩
def aBE(h:UC w g L)(e:w'.heap=w.heap):UC w' g L:=λj b=>⟨kD (h j b).1 (by rw[e]),a9T (h j b).2 e⟩
def aBH(h:KN w v L)(e:w'.heap=w.heap):KN w' v L:=by
 rcases h with h|⟨g,c,b,h2⟩;·exact AD h
 exact AJ ⟨g,c,b,aBE h2 e⟩
def Kw{o:Obj}(h:w.heap[b]?=Y o):b<w.heap.size:=(Array.getElem?_eq_some_iff.1 h).1
section
variable[CV]
def aWA{own:zz}{r:Nat}{rd:zy}(M:Whole Gs f2 own)(K:dI w0 BX rd own r1 r2 a2 up Gs){P Dc:A1}{X:List Az}(m2:Holds Wb R w)(g9:Ax R #[g2,AM,Ad (Y ⟨b2,0,Z⟩),g0,g7,P,Ah (Y r),Dc,p3,wt,pp,p2,lc,rt,p4,y4,BD,y6,B6,BE,B7,y3,D8,D9,DC,D1,D2,D3,D4,DG,DH,D5])(Hk:a6 Gs f2 own r1 r2 a2 cap up b2 r BX w0 R P Dc A F X w)(Gl:∀(R:zy)(w:A0)(g2 AM g0 g7 p3 wt pp p2 lc rt p4 y4 BD y6 B6 BE B7 y3 D8 D9 DC D1 D2 D3 D4 DG DH D5:A1),Holds Wb R w->Ax R #[g2,AM,Ad (Y ⟨b2,0,Z⟩),g0,g7,P,Ah (Y r),Dc,p3,wt,pp,p2,lc,rt,p4,y4,BD,y6,B6,BE,B7,y3,D8,D9,DC,D1,D2,D3,D4,DG,DH,D5]->a6 Gs f2 own r1 r2 a2 cap up b2 r BX w0 R P Dc A F [] w->Goes Wb (G ((AW 61).at ⟨#[g2,AM,Ad (Y ⟨b2,0,Z⟩),g0,g7,P,Ah (Y r),Dc,p3,wt,pp,p2,lc,rt,p4,y4,BD,y6,B6,BE,B7,y3,D8,D9,DC,D1,D2,D3,D4,DG,DH,D5],[]⟩ [BS Mx]) cs) w Post)(k1:∀(Wb R:zy)(w:A0)(hG ho:A1)(G_:List Bu)(SF aA:List Az)(g2 AM g0 g7 p3 wt pp p2 lc rt p4 y4 BD y6 B6 BE B7 y3 D8 D9 DC D1 D2 D3 D4 DG DH D5:A1),A.length<G_.length->Holds Wb R w->Ax R #[g2,AM,Ad (Y ⟨b2,0,Z⟩),g0,g7,hG,Ah (Y r),ho,p3,wt,pp,p2,lc,rt,p4,y4,BD,y6,B6,BE,B7,y3,D8,D9,DC,D1,D2,D3,D4,DG,DH,D5]->a6 Gs f2 own r1 r2 a2 cap up b2 r BX w0 R hG ho G_ SF aA w->Goes Wb (G ((AW 61).at ⟨#[g2,AM,Ad (Y ⟨b2,0,Z⟩),g0,g7,hG,Ah (Y r),ho,p3,wt,pp,p2,lc,rt,p4,y4,BD,y6,B6,BE,B7,y3,D8,D9,DC,D1,D2,D3,D4,DG,DH,D5],[]⟩ (BS be::aB)) cs) w Post):Goes Wb (G ((AW 61).at ⟨#[g2,AM,Ad (Y ⟨b2,0,Z⟩),g0,g7,P,Ah (Y r),Dc,p3,wt,pp,p2,lc,rt,p4,y4,BD,y6,B6,BE,B7,y3,D8,D9,DC,D1,D2,D3,D4,DG,DH,D5],[]⟩ (BS be::aB)) cs) w Post:=by
 have Bv:=M.len Hk.round;have wB:=M.hh;have vJ:(names A).length=A.length:=by simp[names]
 have oQ:∀(R':zy)(w':A0),w'.heap=w.heap->(∀b,R b->R' b)->a6 Gs f2 own r1 r2 a2 cap up b2 r BX w0 R' P Dc A F X w':=λR' w' e s2=>by refine⟨λb s=>⟨s2 b (Hk.old b s).1,by rw[e];exact(Hk.old b s).2⟩,by rw[e];exact Hk.size,by rw[e];exact Hk.box,Hk.new,Hk.found.heap (by rw[e]),YY Hk.all λb _=>by rw[e],λx hx=>⟨(Hk.Kb x hx).1,(Hk.Kb x hx).2.at s2 λb c q _ _=>by rw[e]⟩,YY Hk.fresh λb _=>by rw[e],Hk.round⟩
 rcases Hk.fresh.2 with⟨wD,aMi⟩|⟨bl,H,g6,wD,FZ,Gh,_⟩;·have M7:X=[]:=List.length_eq_zero_iff.1 aMi;subst wD M7;refine aCB m2 g9 (by omega) (λ_ U w1 e1 S Er Il=>Gl U w1 _ _ _ _ _ _ _ _ _ _ _ _ _ _ _ _ _ _ _ _ _ _ _ _ _ _ _ _ Il S (oQ U w1 e1 Er)) λAV=>absurd AV (by omega)
 subst wD;refine aCB m2 g9 (by omega) (λAV U w1 e1 S Er Il=>?_) λi7 U w1 e1 S Er Il=>?_;·obtain rfl:=List.length_eq_zero_iff.1 AV;exact Gl U w1 _ _ _ _ _ _ _ _ _ _ _ _ _ _ _ _ _ _ _ _ _ _ _ _ _ _ _ _ Il S (oQ U w1 e1 Er)
 have LY:=oQ U w1 e1 Er;clear oQ m2 g9 Gl Gh;have a7T:∀b,rd b->w1.heap[b]?=w0.heap[b]?:=λb s=>(LY.old b (K.sub b s)).2;have aOl:U r:=AN.jY (Ax.nth S 6 rfl);have aMq:U b2:=AN.YL (Ax.nth S 2 rfl);have a6K:∀b,P.ownBlock=Y b->U b:=λb s=>AN.yN (Ax.nth S 5 rfl) s;have aO5:Zq w1 bl X:=by
  rcases eP LY.fresh with⟨h,_⟩|⟨g,c,h,_,h2,_⟩;·cases h
  injection h with h;injection h with h;injection h with h;subst h;exact h2
 refine aVh (rd:=rd) (Gs:=Gs) (ms:=X) Il S LY.box (λb s=>(LY.old b (K.sub b s)).1) (K.Jo.same a7T ?_) (Reads.same K.reads (K.Jo.EX 0 (by decide)) K.oZ K.o_ K.oa K.ob a7T) K.oZ K.o_ K.oa K.ob K.files M.ok M.rel M.AY aO5 (λm hm=>M.reach (LY.round.reach m (LY.round.perm.mem_iff.1 (List.mem_append.2 (AJ hm))))) (by omega) i7 ?_;·have:=K.Jo.low;have:=LY.size;omega
 rintro hB P6 v y M6 Sr GK Dz AH Bw;obtain⟨I,c,L,rfl,aNn,Cy,JR,e7,Ar⟩:=AH;have Bw:=Bw I c rfl;clear JR;rw[<-aNn]at GK i7⊢;have a6u:P6 I:=AN.Uj (Ax.nth GK 8 rfl);have nv:Found y r F (f2.length+(Eh A).length):=LY.found.heap (Dz r aOl);have x0:y.ownsRow w0.heap.size 234 8 P A.length (I4 A):=YY LY.all λb s=>Dz b (a6K b s);have aar:r<y.heap.size:=nv.lt;have NT:=LY.new;have oK:∃a b,y.heap[r]?=Y (DM a b):=by obtain⟨l,h,_⟩:=nv;exact⟨_,_,h⟩
 refine .OW (Q:=λT w3=>∃v',w3.ownsRow w0.heap.size 234 8 v' (A++L).length (I4 (A++L))/\(y.heap.size<=w3.heap.size/\∀k,k<y.heap.size->Y k≠P.ownBlock->w3.heap[k]?=y.heap[k]?)/\T=#[g2,AM,Ad (Y ⟨b2,0,Z⟩),g0,g7,v',Ah (Y r),A4 (Y ⟨bl,0,Z⟩) L.length H,A4 (Y ⟨I,0,Z⟩) L.length c,wt,pp,p2,lc,rt,p4,y4,A4 (Y ⟨bl,0,Z⟩) L.length H,A7 A8 (L.length:Int),Af (Bz (0<L.length)),IZ own r1 r2 a2 Gs.length cap up,A4 (Y ⟨bl,0,Z⟩) L.length H,A4 (Y ⟨I,0,Z⟩) L.length c,P,A4 (Y ⟨I,0,Z⟩) L.length c,v',D1,D2,D3,D4,DG,DH,D5]) R1 (by decide) aIk GK Sr (λd T0=>JZ ?_ (aU7 w0.heap.size I c P A L _ _ _ _ _ _ _ _ _ _ _ _ _ _ _ _ _ _ _ _ _ _ _ _ _ _ _ _ _ _ (on (y.at d) T0) (YY x0 λ_ _=>rfl) (by show w0.heap.size<=y.heap.size;omega) (aBE Cy rfl) (by omega))) ?_;·rintro e a' w'⟨h1,h2,v',h3,h4,_,CN⟩;exact⟨h1,h2,v',h3,⟨h4.size,h4.block⟩,CN⟩
 rintro Sa El w3 z⟨v',W9,⟨eD,Ca⟩,rfl⟩Dy RJ QN Xw;have YD:z.ownsRow w0.heap.size 234 8 v' (A++L).length (I4 (A++L)):=YY W9 λ_ _=>by rw[Dy]
 have eE:y.heap.size<=z.heap.size:=by rw[Dy];exact eD
 have EE:∀k,k<y.heap.size->Y k≠P.ownBlock->z.heap[k]?=y.heap[k]?:=λk h1 h2=>by rw[Dy];exact Ca k h1 h2
 clear W9 eD Ca Dy;have e6:∀b o,y.heap[b]?=Y o->(∀g6,o≠AF g6 234 (0,0))->z.heap[b]?=y.heap[b]?:=λb o e h=>EE b (Kw e) λh2=>by obtain⟨g6,h3⟩:=aAU x0 h2.symm;rw[e]at h3;exact h g6 (CH h3)
 obtain⟨ab9,BM,oK⟩:=oK;have OK:z.heap[r]?=y.heap[r]?:=e6 r _ oK λ_=>by simp
 have aNH:Found z r F (f2.length+(Eh A).length):=nv.heap OK;have aNT:z.heap[I]?=y.heap[I]?:=EE I (Sr.closed.lt a6u) λh=>Bw (a6K I h.symm);have iL:∀x∈L,x.rel∈Gs:=λx hx=>(Ar x hx).1;have UR:∀x∈L,Hd y P6 x.B4 x.rel.D':=λx hx=>by obtain⟨j,H1,rfl⟩:=List.mem_iff_getElem.1 hx;exact aQn Sr a6u (Cy j H1).1 (Ar _ hx).2
 have vF:∀b c q,y.heap[b]?=Y (AF c 85 q)->z.heap[b]?=y.heap[b]?:=λb c q e=>e6 b _ e λ_=>by simp
 have iK:∀x∈L,Hd z Sa x.B4 x.rel.D':=λx hx=>(UR x hx).at QN λb c q _ e=>vF b c q e;have aM6:∀x∈A,Hd z Sa x.B4 x.rel.D':=λx hx=>by have h1:Hd y P6 x.B4 x.rel.D':=(LY.Kb x hx).2.at M6 λb c q s _=>Dz b s;exact h1.at QN λb c q _ e=>vF b c q e
 have a5X:∀x∈A,x.rel∈Gs:=λx hx=>(LY.Kb x hx).1;have aa_:=pR (c:=1000) (L:=A) λx hx=>M.short _ (a5X x hx);have aaa:=pR (c:=1000) (L:=L) λx hx=>M.short _ (iL x hx);have a7d:=M.roots;have Jm:f2.length+(Eh A).length+(Eh L).length<=1000000000:=by have h1:A.length*1000<=1000*1000:=a2l _ (by omega);have h2:L.length*1000<=1000*1000:=a2l _ (by omega);omega
 have b1:∀k,(Eh (L.take k)).length<=1000000000:=λk=>by
  have h1:=pR (c:=1000) (L:=L.take k) λx hx=>M.short _ (iL x (List.mem_of_mem_take hx));have h2:(L.take k).length<=L.length:=by rw[Zo];omega
  have h3:(L.take k).length*1000<=1000*1000:=a2l _ (by omega);omega
 have aP7:∀m∈Eh L,Ft m:=λm hm=>by obtain⟨x,hx,hm⟩:=List.mem_flatMap.1 hm;exact((M.rel _ (iL x hx)).D' m hm).2
 have aP6:∀m∈F,Ft m:=λm hm=>by obtain⟨x,hx,rfl⟩:=M.reach (LY.round.reach m hm);exact M.ok.short x hx
 have aOm:KN z (A4 (Y ⟨I,0,Z⟩) L.length c) L:=AJ ⟨I,c,rfl,λj H1=>⟨kD (Cy j H1).1 aNT,jc (iK _ (DU H1))⟩⟩;refine .piece (Q:=λT Dq=>∃(W:A0)(B4 F4:A1),(z.heap.size<=W.heap.size/\∀b,b<z.heap.size->W.heap[b]?=z.heap[b]?)/\SC F (Eh L) (f2.length+(Eh A).length) r W (Eh L).length F4 Dq/\T=#[g2,AM,Ad (Y ⟨b2,0,Z⟩),g0,g7,v',Ah (Y r),F4,A4 (Y ⟨I,0,Z⟩) L.length c,wt,pp,p2,lc,rt,p4,y4,A4 (Y ⟨bl,0,Z⟩) L.length H,A7 A8 (L.length:Int),Af (Bz (0<L.length)),IZ own r1 r2 a2 Gs.length cap up,A4 (Y ⟨bl,0,Z⟩) L.length H,A4 (Y ⟨I,0,Z⟩) L.length c,P,A4 (Y ⟨I,0,Z⟩) L.length c,v',Ah (Y r),A4 (Y ⟨I,0,Z⟩) L.length c,B4,F4,DG,DH,D5]) R1 (by decide) aIl RJ Xw (λT0=>JZ ?_ (aU8 r F (f2.length+(Eh A).length) _ L _ _ _ _ _ _ _ _ _ _ _ _ _ _ _ _ _ _ _ _ _ _ _ _ _ _ _ _ _ _ (on z T0) (aNH.heap rfl) LY.round.nodup aP6 (aBH aOm rfl) (by omega) b1 aP7 Jm)) ?_;·rintro e a' w'⟨h1,h2,W,B4,F4,h3,h4,li⟩;exact⟨h1,h2,W,B4,F4,⟨h3.size,h3.block⟩,h4,li⟩
 rintro Zw IN Dq Fp⟨W,B4,F4,⟨dm,vd⟩,Vy,rfl⟩LX dk Xy aV;refine .ctl rfl (λ_=>stepG_inBlock) λd1=>?_;unfold aB;refine .ctl rfl (λ_=>stepG_inLoop) λd2=>?_;have UU:∀b,b<z.heap.size->b≠r->Fp.heap[b]?=z.heap[b]?:=λb s A2=>by rw[LX,Vy.but.block b (by omega) A2,vd b s]
 have nl:∀b c t q,z.heap[b]?=Y (AF c t q)->Fp.heap[b]?=z.heap[b]?:=λb c t q e=>UU b (Kw e) λh=>by subst h;rw[OK,oK]at e;cases e
 have aMV:∀b,U b->Zw b:=λb s=>Xy b (QN b (M6 b s));have Aa:=Vy.own;have ic:=Vy.found;rw[O3]at Aa ic;refine k1 hB Zw ((Fp.at d1).at d2) v' F4 (A++L) (F++N.fresh F (Eh L)) (N.fresh F (Eh L)) _ _ _ _ _ _ _ _ _ _ _ _ _ _ _ _ _ _ _ _ _ _ _ _ _ _ _ _ (by rw[H7];omega) ((aV.at d1).at d2) dk ⟨λb s=>⟨aMV b (LY.old b s).1,?_⟩,?_,?_,NT,?_,?_,λx hx=>?_,?_,?_⟩;·have h1:=K.low b s;show Fp.heap[b]?=_;rw[UU b (by omega) (by omega),EE b (by omega) λh=>by have:=(x0.lt b h.symm).1;omega,Dz b (LY.old b s).1];exact(LY.old b s).2
 ·show w0.heap.size<=Fp.heap.size;have h1:=Vy.but.size;rw[LX];omega
 ·show Fp.heap[b2]?=_;have h2:y.heap[b2]?=_:=(Dz b2 aMq).trans LY.box;have h4:=e6 b2 _ h2 λ_=>by simp
  rw[nl b2 _ _ _ (h4.trans h2)];exact h4.trans h2
 ·rw[aSz,H7,<-me];exact ic.heap (by show Fp.heap[r]?=_;rw[LX])
 ·refine YY YD λb s=>?_;obtain⟨g6,h⟩:=aAU YD s;exact nl b _ _ _ h
 ·rcases List.mem_append.1 hx with hx|hx;·exact⟨a5X x hx,(aM6 x hx).at Xy λb c q _ e=>nl b _ _ _ e⟩
  exact⟨iL x hx,(iK x hx).at Xy λb c q _ e=>nl b _ _ _ e⟩
 ·exact aAS (YY Aa λb _=>by show Fp.heap[b]?=_;rw[LX]) (by omega)
 rw[aSq];exact LY.round.next e7 (a9r M.ok iL)
def aBS{Gs:List Rel}{f2:List Az}{own:zz}{r1 r2 a2 cap up b2 r:Nat}{BX rd:zy}{w0:A0}{cs:List Ag}{Post:zv}(P:Whole Gs f2 own)(Bj:dI w0 BX rd own r1 r2 a2 up Gs)(k:∀(Wb R:zy)(w:A0)(U t:A1)(A:List Bu)(F:List Az)(g2 AM g0 g7 p3 wt pp p2 lc rt p4 y4 BD y6 B6 BE B7 y3 h s y z H I K M N Q:A1),Holds Wb R w->Ax R #[g2,AM,Ad (Y ⟨b2,0,Z⟩),g0,g7,U,Ah (Y r),t,p3,wt,pp,p2,lc,rt,p4,y4,BD,y6,B6,BE,B7,y3,h,s,y,z,H,I,K,M,N,Q]->a6 Gs f2 own r1 r2 a2 cap up b2 r BX w0 R U t A F [] w->Goes Wb (G ((AW 61).at ⟨#[g2,AM,Ad (Y ⟨b2,0,Z⟩),g0,g7,U,Ah (Y r),t,p3,wt,pp,p2,lc,rt,p4,y4,BD,y6,B6,BE,B7,y3,h,s,y,z,H,I,K,M,N,Q],[]⟩ [BS Mx]) cs) w Post):∀(n:Nat)(Wb R:zy)(w:A0)(U t:A1)(A:List Bu)(F X:List Az)(g2 AM g0 g7 p3 wt pp p2 lc rt p4 y4 BD y6 B6 BE B7 y3 h s y z H I K M N Q:A1),Gs.length<A.length+n->Holds Wb R w->Ax R #[g2,AM,Ad (Y ⟨b2,0,Z⟩),g0,g7,U,Ah (Y r),t,p3,wt,pp,p2,lc,rt,p4,y4,BD,y6,B6,BE,B7,y3,h,s,y,z,H,I,K,M,N,Q]->a6 Gs f2 own r1 r2 a2 cap up b2 r BX w0 R U t A F X w->Goes Wb (G ((AW 61).at ⟨#[g2,AM,Ad (Y ⟨b2,0,Z⟩),g0,g7,U,Ah (Y r),t,p3,wt,pp,p2,lc,rt,p4,y4,BD,y6,B6,BE,B7,y3,h,s,y,z,H,I,K,M,N,Q],[]⟩ (BS be::aB)) cs) w Post
 |0,Wb,R,w,U,t,A,F,X,g2,AM,g0,g7,p3,wt,pp,p2,lc,rt,p4,y4,BD,y6,B6,BE,B7,y3,h,s,y,z,H,I,K,M,N,Q,hn,S,W,Hk=>by
  have h1:=P.len Hk.round;have h2:(names A).length=A.length:=by simp[names]
  omega
 |n+1,Wb,R,w,U,t,A,F,X,g2,AM,g0,g7,p3,wt,pp,p2,lc,rt,p4,y4,BD,y6,B6,BE,B7,y3,h,s,y,z,H,I,K,M,N,Q,hn,S,W,Hk=>by refine aWA P Bj S W Hk (λR w g2 AM g0 g7 p3 wt pp p2 lc rt p4 y4 BD y6 B6 BE B7 y3 h s y z H I K M N Q a b c=>k Wb R w U t A F g2 AM g0 g7 p3 wt pp p2 lc rt p4 y4 BD y6 B6 BE B7 y3 h s y z H I K M N Q a b c) λWb R w hG ho G_ SF aA g2 AM g0 g7 p3 wt pp p2 lc rt p4 y4 BD y6 B6 BE B7 y3 h s y z H I K M N Q hlt a b c=>?_;exact aBS P Bj k n Wb R w hG ho G_ SF aA g2 AM g0 g7 p3 wt pp p2 lc rt p4 y4 BD y6 B6 BE B7 y3 h s y z H I K M N Q (by omega) a b c
end
def aX7(f:A1)(w:A0):Ai A6 128 #[A4 Z 0 0,f] w λe w'=>e=AZ (Ay #[])/\w'=w:=AnyF.slices_SortFunc_none Tryz.aBu Z 0 f w
def aUA(g2 AM fk g0 g7 ip s1 p3 wt pp p2 lc rt p4 y4 BD y6 B6 BE B7 y3 h s y z I K M Q U N:A1)(w:A0):eU.wp A6 (λe b w'=>e=HN/\b.defers=[]/\w'=w/\b.tmps=#[g2,AM,fk,g0,g7,A4 Z 0 0,ip,s1,p3,wt,pp,p2,lc,rt,p4,y4,BD,y6,B6,BE,B7,y3,h,s,y,z,I,K,M,A4 Z 0 0,Ay #[],N]) ⟨#[g2,AM,fk,g0,g7,A4 Z 0 0,ip,s1,p3,wt,pp,p2,lc,rt,p4,y4,BD,y6,B6,BE,B7,y3,h,s,y,z,I,K,M,Q,U,N],[]⟩ w:=by have H:=A5 (aX7 (.func (.func 129) #[] #[]) w);simp only[eU,Mx,Kv,Pu,G4,fstC,sndC,Mu];go_wp2_with(go_at_call 128;refine H.out.mono ?_;rintro e wd⟨rfl,rfl⟩);done
structure Zs(Gs:List Rel)(f2:List Az)(R R':zy)(w:A0)(u:A1)(A:List Bu)(w':A0):Prop where
 same:∀b,R b->w'.heap[b]?=w.heap[b]?
 sl:KN w' u A
 Kb:∀x∈A,x.rel∈Gs/\Hd w' R' x.B4 x.rel.D'
 order:Sc A
 nodup:(names A).Nodup
 reach:∀m,m∈names A↔N.Reach (MJ Gs) f2 m
def Zs.heap{Gs:List Rel}{f2:List Az}{R R' k:zy}{w w' w2:A0}{u:A1}{A:List Bu}(h:Zs Gs f2 R R' w u A w')(e:w2.heap=w'.heap)(y:∀b,R' b->k b):Zs Gs f2 R k w u A w2:=by
 refine⟨λb H=>by rw[e];exact h.same b H,?_,λx hx=>⟨(h.Kb x hx).1,(h.Kb x hx).2.at y λ_ _ _ _ _=>by rw[e]⟩,h.order,h.nodup,h.reach⟩;rcases h.sl with s|⟨g,c,s,h2⟩;·exact AD s
 refine AJ ⟨g,c,s,λj z=>⟨kD (h2 j z).1 (by rw[e]),jc ((h.Kb _ (DU z)).2.at y λ_ _ _ _ _=>by rw[e])⟩⟩
def ta(Gs:List Rel)(f2:List Az)(R:zy)(w:A0)(c':Ag)(cs':List Ag)(h:zy)(g':AR)(w':A0):Prop:=∃R' u A,g'=G (c'.finish u) cs'/\AN CM (C_ R') u u/\(∀b,R b->R' b)/\Holds h R' w'/\Zs Gs f2 R R' w u A w'
def a3X(K:Holds Wb R w)(U:Ax R #[g2,AM,fk,g0,g7,hw,ip,s1,p3,wt,pp,p2,lc,rt,p4,y4,BD,y6,B6,BE,B7,y3,D8,D9,DC,D1,D2,D3,D4,DG,DH,D5])(N:∀b,BX b->R b)(AH:Zs Gs f2 BX R w0 hw A w):Goes Wb (G ((AW 61).at ⟨#[g2,AM,fk,g0,g7,hw,ip,s1,p3,wt,pp,p2,lc,rt,p4,y4,BD,y6,B6,BE,B7,y3,D8,D9,DC,D1,D2,D3,D4,DG,DH,D5],[]⟩ [BS (Bh jk Kk)]) (c'::cs')) w (ta Gs f2 BX w0 c' cs'):=by
 refine .OW (Q:=λT s=>T=#[g2,AM,fk,g0,hw,hw,ip,s1,p3,wt,pp,p2,lc,rt,p4,y4,BD,y6,B6,BE,B7,y3,D8,D9,DC,D1,D2,D3,D4,DG,DH,hw]/\s.heap=w.heap) R1 (by decide) aIm U K (λd T0=>JZ ?_ (aUB _ _ _ _ _ _ _ _ _ _ _ _ _ _ _ _ _ _ _ _ _ _ _ _ _ _ _ _ _ _ _ _ (on (w.at d) T0))) ?_;·rintro e a' w'⟨I,h2,rfl,h4⟩;exact⟨I,h2,h4,rfl⟩
 rintro y t s w2⟨rfl,e1⟩e2 k h M;refine .ctl rfl (λ_=>stepG_ret') λz=>?_;refine .ctl rfl (λw=>aW4 w) λH=>?_;exact .here ⟨y,hw,A,rfl,Ax.nth k 4 rfl,λb hb=>h b (N b hb),(M.at z).at H,AH.heap (e2.trans e1) h⟩
def aKM{own:zz}{r:Nat}{rd:zy}(P:Whole Gs f2 own)(I:dI w0 BX rd own r1 r2 a2 up Gs){S t:A1}(m2:Holds Wb R w)(g9:Ax R #[g2,AM,Ad (Y ⟨b2,0,Z⟩),g0,g7,S,Ah (Y r),t,p3,wt,pp,p2,lc,rt,p4,y4,BD,y6,B6,BE,B7,y3,D8,D9,DC,D1,D2,D3,D4,DG,DH,D5])(Hk:a6 Gs f2 own r1 r2 a2 cap up b2 r BX w0 R S t A F [] w):Goes Wb (G ((AW 61).at ⟨#[g2,AM,Ad (Y ⟨b2,0,Z⟩),g0,g7,S,Ah (Y r),t,p3,wt,pp,p2,lc,rt,p4,y4,BD,y6,B6,BE,B7,y3,D8,D9,DC,D1,D2,D3,D4,DG,DH,D5],[]⟩ [BS Mx]) (c'::cs')) w (ta Gs f2 BX w0 c' cs'):=by
 obtain⟨GC,jH⟩:=Hk.round.done;have Bv:=P.len Hk.round;have wB:=P.hh;have vJ:(names A).length=A.length:=by simp[names]
 have aa2:A.length<=1000:=by rw[vJ]at Bv;omega
 rw[aSn];rcases Hk.all.2 with⟨W,nV⟩|⟨g,K,g6,W,UZ,X,_⟩
 ·obtain rfl:=List.length_eq_zero_iff.1 nV;subst W;refine .OW (Q:=λT y=>T=#[g2,AM,Ad (Y ⟨b2,0,Z⟩),g0,g7,A4 Z 0 0,Ah (Y r),t,p3,wt,pp,p2,lc,rt,p4,y4,BD,y6,B6,BE,B7,y3,D8,D9,DC,D1,D2,D3,D4,A4 Z 0 0,Ay #[],D5]/\y.heap=w.heap) R1 (by decide) a3r g9 m2 (λd T0=>JZ ?_ (aUA _ _ _ _ _ _ _ _ _ _ _ _ _ _ _ _ _ _ _ _ _ _ _ _ _ _ _ _ _ _ _ (on (w.at d) T0))) ?_;·rintro e a' w'⟨z,h2,rfl,h4⟩;exact⟨z,h2,h4,rfl⟩
  rintro Bb BK y w2⟨rfl,e1⟩e2 N M U;have e:=e2.trans e1;refine a3X (A:=[]) U N (λb s=>M b (Hk.old b s).1) ⟨λb s=>by rw[e];exact(Hk.old b s).2,AD ⟨rfl,rfl⟩,λx hx=>(by cases hx),.nil,GC,jH⟩
 subst W;obtain⟨m,hm⟩:=I.reads.EX;have AV:BX 0:=I.sub 0 (I.Jo.EX 0 (by decide));have Fj:w.cell? ⟨0,0,Z⟩=Y (A7 A8 m):=(FG (a:=⟨0,0,Z⟩) (Hk.old 0 AV).2).trans hm;have aS:=I.low 0 AV;have EU:=Kw X;have L4:∀j(h:j<A.length),O6 w g j A[j]:=λj H=>by have k:=λo u AA hu=>Rb Hk.all _ _ (q5 A j H o u AA hu);exact⟨k 0 _ (by omega) rfl,k 1 _ (by omega) rfl,k 2 _ (by omega) rfl,k 3 _ (by omega) rfl,k 4 _ (by omega) rfl,k 5 _ (by omega) rfl,k 6 _ (by omega) rfl,k 7 _ (by omega) rfl⟩
 refine .OW (Q:=λT y=>(∃G_,G_.Perm A/\Sc G_/\(∀j(h:j<G_.length),O6 y g j G_[j])/\w.heap.size<=y.heap.size/\∀b,b<w.heap.size->b≠g->y.heap[b]?=w.heap[b]?)/\T=#[g2,AM,Ad (Y ⟨b2,0,Z⟩),g0,g7,A4 (Y ⟨g,0,Z⟩) A.length K,Ah (Y r),t,p3,wt,pp,p2,lc,rt,p4,y4,BD,y6,B6,BE,B7,y3,D8,D9,DC,D1,D2,D3,D4,A4 (Y ⟨g,0,Z⟩) A.length K,Ay #[],D5]) R1 (by decide) a3r g9 m2 (λd T0=>JZ ?_ (aU9 g K m A _ _ _ _ _ _ _ _ _ _ _ _ _ _ _ _ _ _ _ _ _ _ _ _ _ _ _ _ _ _ _ (on (w.at d) T0) (by omega) (λx hx=>P.AY _ (Hk.Kb x hx).1) (by omega) EU (λj H=>kD (L4 j H) rfl) (λo=>E6 (w:=on (w.at d) T0) X o) Fj)) ?_;·rintro e a' w'⟨z,h2,h3,h4⟩;exact⟨z,h2,h3,h4⟩
 rintro Bb BK y w2⟨⟨G_,hp,JR,hc,rg,FZ⟩,rfl⟩e2 N M U;have HD:(names G_).Perm (names A):=hp.map _;have AE:∀x∈G_,x.rel∈Gs/\Hd w2 Bb x.B4 x.rel.D':=λx hx=>by obtain⟨z,h2⟩:=Hk.Kb x (hp.mem_iff.1 hx);refine⟨z,h2.at M λb c q s e=>?_⟩;rw[e2];refine FZ b (Kw e) λh=>?_;subst h;rw[X]at e;cases e
 rw[<-hp.length_eq]at N⊢;refine a3X (A:=G_) U N (λb s=>M b (Hk.old b s).1) ⟨λb s=>?_,AJ ⟨g,K,rfl,λj H=>⟨kD (hc j H) (by rw[e2]),jc (AE _ (DU H)).2⟩⟩,AE,JR,HD.nodup_iff.2 GC,λm=>(HD.mem_iff).trans (jH m)⟩;have z:=I.low b s;rw[e2,FZ b (by have:=Hk.size;omega) (by omega)];exact(Hk.old b s).2
section
variable[CV]
def aSy{own:zz}{rd:zy}(z:Whole Gs f2 own)(K:dI w R rd own r1 r2 a2 up Gs)(m2:Holds Wb R w)(RY:Ax R #[IZ own r1 r2 a2 Gs.length cap up,v])(hv:JH w v f2)(B3:∀m∈f2,m.1≠own):Goes Wb (G (HO A6 61 #[IZ own r1 r2 a2 Gs.length cap up,v] GG) (c'::cs')) w (ta Gs f2 R w c' cs'):=by
 refine aIA m2 RY λBb s e1 Dn Er Il=>?_;have GL:s.heap.size=w.heap.size+2:=by rw[e1];simp
 have k:∀b,b<w.heap.size->s.heap[b]?=w.heap[b]?:=λb y=>by rw[e1,H_ (by simp;omega),<-EP,H_ y,<-EP]
 have Q:s.heap[w.heap.size]?=Y (AF #[J own,Ah (Y r1),Ah (Y r2),A4 (Y ⟨a2,0,Z⟩) Gs.length cap,Ah (Y up)] 138):=by rw[e1,H_ (by simp),<-EP,SD,if_pos rfl]
 have W5:s.heap[w.heap.size+1]?=Y (DM #[] 0):=by rw[e1,SD,if_pos (by simp)]
 obtain⟨c1,P⟩:=K.reads.ex;have S:∀b o u,w.cell? ⟨b,o,Z⟩=Y u->s.cell? ⟨b,o,Z⟩=Y u:=λb o u h=>(FG (a:=⟨b,o,Z⟩) (k b (FA (h:=h)))).trans h;have Lk:JH s v f2:=by
  rcases hv with h|⟨g,c,U,h2⟩;·exact AD h
  exact AJ ⟨g,c,U,λj X=>⟨S _ _ _ (h2 j X).1,S _ _ _ (h2 j X).2⟩⟩
 have a7d:=z.roots;have t:∀m∈f2,m.1≠own/\Ft m:=λm hm=>by obtain⟨x,hx,e⟩:=z.root m hm;exact⟨B3 m hm,e▸z.ok.short x hx⟩
 refine aY5 (r1:=r1) (r2:=r2) (c1:=c1) (own:=own) (l:=f2) Il Dn ((k r1 (Kw P)).trans P) ⟨[],W5,rfl,λx hx=>by cases hx⟩ Lk (by omega) t ?_ ?_ ?_ ?_;·rw[Ao Q];rfl
 ·rw[Ao Q];rfl
 ·rw[Ao Q];rfl
 intro P6 W lc B4 Dc w2 w3 dm vd M Co GK M6 Sr;refine aRI Sr λH Dy Kz=>?_;have I:H.heap=w2.heap:=Dy.trans Co;have Aa:=M.own;have ic:=M.found;rw[O3]at Aa ic;have EE:∀b,b<s.heap.size->b≠w.heap.size+1->H.heap[b]?=s.heap[b]?:=λb y A2=>by rw[I,M.but.block b (by omega) A2,vd b y]
 have eE:s.heap.size<=H.heap.size:=by have:=M.but.size;rw[I];omega
 refine aBS (b2:=w.heap.size) (r:=w.heap.size+1) (cap:=cap) z K (λWb R w HA Dc A F g2 AM g0 g7 p3 wt pp p2 lc rt p4 y4 BD y6 B6 BE B7 y3 D8 D9 DC D1 D2 D3 D4 DG DH D5 a b c=>aKM z K a b c) (Gs.length+1) Wb P6 H _ _ [] (N.fresh [] f2) (N.fresh [] f2) _ _ _ _ _ _ _ _ _ _ _ _ _ _ _ _ _ _ _ _ _ _ _ _ _ _ _ _ (by simp) Kz GK ⟨λb y=>⟨M6 b (Er b y),?_⟩,by omega,?_,by omega,?_,World.ownsRow_nil _ _ _ _,λx hx=>(by cases hx),?_,.start _ _⟩;·have U:=K.low b y;rw[EE b (by omega) (by omega),k b U]
 ·rw[EE _ (by omega) (by omega)];exact Q
 ·have:Found H (w.heap.size+1) ([]++N.fresh [] f2) (0+f2.length):=ic.heap (by rw[I]);simpa[Eh]using this
 exact aAS (YY Aa λb _=>by rw[I]) (by omega)
end
noncomputable def Ji:Bg:=(N8.body).getD Kk
noncomputable def ou:Bg:=fstC Ji
noncomputable def Qf:Bg:=sndC Ji
noncomputable def oy:Bg:=fstC Qf
noncomputable def Qg:Bg:=sndC Qf
noncomputable def oz:Bg:=fstC Qg
noncomputable def Qh:Bg:=sndC Qg
noncomputable def p':Bg:=fstC Qh
noncomputable def Qi:Bg:=sndC Qh
noncomputable def p0:Bg:=fstC Qi
noncomputable def Qj:Bg:=sndC Qi
noncomputable def p1:Bg:=fstC Qj
noncomputable def Qk:Bg:=sndC Qj
noncomputable def p5:Bg:=fstC Qk
noncomputable def Na:Bg:=sndC Qk
noncomputable def p6:Bg:=fstC Na
noncomputable def Qd:Bg:=sndC Na
noncomputable def ov:Bg:=fstC Qd
noncomputable def Qe:Bg:=sndC Qd
noncomputable def eK:Bg:=fstC Qe
noncomputable def Rc:Bg:=sndC Qe
noncomputable def ox:Bg:=fstC Rc
def Hw(g2 AM fk g0 g7 hw ip s1 p3 wt pp p2 lc rt p4:A1)(g:Nat->A1):zw:=#[g2,AM,fk,g0,g7,hw,ip,s1,p3,wt,pp,p2,lc,rt,p4,g 15,g 16,g 17,g 18,g 19,g 20,g 21,g 22,g 23,g 24,g 25,g 26,g 27,g 28,g 29,g 30,g 31,g 32,g 33,g 34,g 35,g 36,g 37,g 38,g 39,g 40,g 41,g 42,g 43,g 44,g 45,g 46,g 47,g 48,g 49,g 50,g 51,g 52,g 53,g 54,g 55,g 56,g 57,g 58,g 59,g 60,g 61,g 62,g 63,g 64]
def MV(g2 AM fk g0 g7 hw ip s1 p3 wt pp p2 lc rt p4:A1)(T:zw):Prop:=∃g,T=Hw g2 AM fk g0 g7 hw ip s1 p3 wt pp p2 lc rt p4 g
def a2L(h:T.size=65):∃f,T=Hw (f 0) (f 1) (f 2) (f 3) (f 4) (f 5) (f 6) (f 7) (f 8) (f 9) (f 10) (f 11) (f 12) (f 13) (f 14) f:=by
 have e:∀f,(Hw (f 0) (f 1) (f 2) (f 3) (f 4) (f 5) (f 6) (f 7) (f 8) (f 9) (f 10) (f 11) (f 12) (f 13) (f 14) f).toList=(Hf 65).map f:=λf=>by kernel_rfl
 refine⟨λi=>T.getD i A',Array.toList_inj.1 (aD2 ?_ (e λi=>T.getD i A').symm)⟩;apply mX;intro i;rw[Oi,XU];by_cases hi:i<65;·rw[List.getElem?_range hi,LQ,Iv,EP (by omega)];rfl
 rw[Np (by omega),ma (by simp;omega)];rfl
def U4(hs:T.size=65)(h:T.toList.take 15=[g2,AM,fk,g0,g7,hw,ip,s1,p3,wt,pp,p2,lc,rt,p4]):MV g2 AM fk g0 g7 hw ip s1 p3 wt pp p2 lc rt p4 T:=by obtain⟨f,rfl⟩:=a2L hs;cases h;exact⟨f,rfl⟩
def aI1:Ji=Bh ou (Bh oy (Bh oz (Bh p' (Bh p0 (Bh p1 (Bh p5 (Bh p6 (Bh ov (Bh eK (Bh ox Kk)))))))))):=by kernel_rfl
def aQz(g:Nat->A1)(w:A0):ou.wp A6 (λe b w'=>e=HN/\b.defers=[]/\w'=w.alloc (AF #[A4 Z 0 0,J ⟨#[]⟩] 59)/\MV g2 AM fk A' A' A' (Ad (Y ⟨w.heap.size,0,Z⟩)) DS A' A' A' A' A' A' A' b.tmps) ⟨Hw g2 AM fk A' A' A' A' A' A' A' A' A' A' A' A' g,[]⟩ w:=by simp only[ou,Hw,Ji,Qf,Qg,Qh,Qi,Qj,Qk,Na,Qd,Qe,Rc,N8,G4,fstC,sndC];go_wp2;exact U4 rfl rfl
def aVj(b own:zz)(f2:List Az)(m:Int)(w:A0)(I:V.Hy b)(s:Lo (V.parse b).1=MP own f2)(k:b.size<=1000000000)(N:w.cell? ⟨0,0,Z⟩=Y (A7 A8 m)):Ai A6 45 #[J b] w λe w'=>∃y U,e=AZ (Ay #[A4 (Y ⟨y,0,Z⟩) (f2.length+1) U,DS])/\(∀j u,(MP own f2)[j]?=Y u->w'.cell? ⟨y,j,Z⟩=Y u)/\AX w.heap.size w w':=by
 refine(yh b m w (by omega) N).mono ?_;rintro e w1⟨Q,H⟩;rcases Q with⟨_,v,z,h2⟩|⟨h,_⟩
 ·rw[s]at h2;have M:(V.parse b).1.length=f2.length+1:=by have:=congrArg XV s;simpa[Lo,MP]using this
  rw[M]at h2;obtain⟨g,c,rfl,_,_⟩:=p8 h2 (by omega);exact⟨g,c,z,λj u K=>Rb h2 j u K,H⟩
 exact absurd I h
def aR'(b own:zz)(f2:List Az)(m:Int)(g:Nat->A1)(w:A0)(I:V.Hy b)(K:Lo (V.parse b).1=MP own f2)(U:b.size<=1000000000)(M:w.cell? ⟨0,0,Z⟩=Y (A7 A8 m)):oy.wp A6 (λe y w'=>e=HN/\y.defers=[]/\∃h s,(∀j u,(MP own f2)[j]?=Y u->w'.cell? ⟨h,j,Z⟩=Y u)/\AX w.heap.size w w'/\MV (J b) AM fk g0 g7 hw ip s1 (A4 (Y ⟨h,0,Z⟩) (f2.length+1) s) DS pp p2 lc rt p4 y.tmps) ⟨Hw (J b) AM fk g0 g7 hw ip s1 p3 wt pp p2 lc rt p4 g,[]⟩ w:=by have H:=A5 (aVj b own f2 m w I K U M);clear I K M;simp only[oy,Hw,Ji,Qf,Qg,Qh,Qi,Qj,Qk,Na,Qd,Qe,Rc,N8,G4,fstC,sndC];go_wp2_with(go_at_call 45;refine H.out.mono ?_;rintro e w1⟨h,s,rfl,z,h2⟩;have N:=A5 z;have Q:=A5 h2;clear z h2);exact⟨h,N.out,Q.out,s,U4 rfl rfl⟩
def aR4(g:Nat->A1)(w:A0):oz.wp A6 (λe b w'=>e=HN/\b.defers=[]/\w'=w/\MV g2 AM fk g0 g7 hw ip s1 p3 DS pp p2 lc rt p4 b.tmps) ⟨Hw g2 AM fk g0 g7 hw ip s1 p3 DS pp p2 lc rt p4 g,[]⟩ w:=by simp only[oz,Hw,Ji,Qf,Qg,Qh,Qi,Qj,Qk,Na,Qd,Qe,Rc,N8,G4,fstC,sndC];go_wp2;exact U4 rfl rfl
def aR5(K:List BO)(m:Int)(g:Nat->A1)(w:A0)(y:Wn K)(z:w.cell? ⟨0,0,Z⟩=Y (A7 A8 m)):p'.wp A6 (λe h w'=>e=HN/\h.defers=[]/\∃b,Iw w' b K/\(K=[]->b=A4 Z 0 0)/\AX w.heap.size w w'/\MV g2 AM (J ⟨(Be K).toArray⟩) g0 g7 hw ip s1 p3 DS b p2 lc rt p4 h.tmps) ⟨Hw g2 AM (J ⟨(Be K).toArray⟩) g0 g7 hw ip s1 p3 wt pp p2 lc rt p4 g,[]⟩ w:=by have H:=A5 (aQk K m w y z);clear y z;simp only[p',Hw,Ji,Qf,Qg,Qh,Qi,Qj,Qk,Na,Qd,Qe,Rc,N8,G4,fstC,sndC];go_wp2_with(go_at_call 57;refine H.out.mono ?_;rintro e Q⟨b,rfl,s,h2,h3⟩;have I:=A5 s;have M:=A5 h2;have N:=A5 h3;clear s h2 h3);exact⟨b,I.out,M.out,N.out,U4 rfl rfl⟩
def aR6(g:Nat->A1)(w:A0):p0.wp A6 (λe b w'=>e=HN/\b.defers=[]/\w'=w/\MV g2 AM fk g0 g7 hw ip s1 p3 DS pp p2 lc rt p4 b.tmps) ⟨Hw g2 AM fk g0 g7 hw ip s1 p3 DS pp p2 lc rt p4 g,[]⟩ w:=by simp only[p0,Hw,Ji,Qf,Qg,Qh,Qi,Qj,Qk,Na,Qd,Qe,Rc,N8,G4,fstC,sndC];go_wp2;exact U4 rfl rfl
def aR7(own:zz)(f2:List Az)(b I:Nat)(g:Nat->A1)(w:A0)(AE:f2.length<=1000000)(hc:∀j u,(MP own f2)[j]?=Y u->w.cell? ⟨b,j,Z⟩=Y u):p1.wp A6 (λe N w'=>e=HN/\N.defers=[]/\∃h s K,w.heap.size<=K/\w'.heap[K]?=Y (AF #[J own,A4 h f2.length s,A4 Z 0 0,A4 Z 0 0] 128)/\JH w' (A4 h f2.length s) f2/\AX w.heap.size w w'/\MV g2 AM fk g0 g7 hw ip s1 (A4 (Y ⟨b,0,Z⟩) (f2.length+1) I) wt pp (Ad (Y ⟨K,0,Z⟩)) lc rt p4 N.tmps) ⟨Hw g2 AM fk g0 g7 hw ip s1 (A4 (Y ⟨b,0,Z⟩) (f2.length+1) I) wt pp p2 lc rt p4 g,[]⟩ w:=by have H:=A5 (a5O b I own f2 w (by omega) hc);clear hc;simp only[p1,Hw,Ji,Qf,Qg,Qh,Qi,Qj,Qk,Na,Qd,Qe,Rc,N8,G4,fstC,sndC];go_wp2_with(go_at_call 58;refine H.out.mono ?_;rintro e M⟨B4,rfl,z,Q⟩;have U:=A5 (xv z);(obtain⟨h,s,rfl⟩:=Ln z);have y:=A5 Q;clear z Q);refine⟨h,s,M.heap.size,y.out.size,F7 M _ _ rfl,U.out.below ((BF _ M).alloc (Ae _) _),y.out.alloc y.out.size _,U4 rfl rfl⟩
def aR8(u:A1)(A:List Bu)(g:Nat->A1)(w:A0)(hv:KN w u A)(y:A.length<=1000000):p6.wp A6 (λe b w'=>e=HN/\b.defers=[]/\AX w.heap.size w w'/\MV g2 AM fk g0 g7 hw ip s1 p3 wt pp p2 u DS p4 b.tmps) ⟨Hw g2 AM fk g0 g7 hw ip s1 p3 wt pp p2 u rt p4 g,[]⟩ w:=by have H:=A5 (aKn u A w hv y);clear hv;simp only[p6,Hw,Ji,Qf,Qg,Qh,Qi,Qj,Qk,Na,Qd,Qe,Rc,N8,G4,fstC,sndC];go_wp2_with(go_at_call 62;refine H.out.mono ?_;rintro e z⟨rfl,h⟩;have s:=A5 h;clear h);exact⟨s.out,U4 rfl rfl⟩
def aR0(u:A1)(A:List Bu)(m:Int)(f:Rel->zz)(K:List BO)(f0:Rel->zz)(z:A1)(g:Nat->A1)(w:A0)(hv:KN w u A)(Ar:A.length<=400000)(hs:∀x∈A,x.rel.v.size<=40)(W:∀x∈A,x.rel.p.size<=1000)(k:(Es A).Pairwise λa b=>DO a.name b.name≠0)(hm:w.cell? ⟨0,0,Z⟩=Y (A7 A8 m))(X:w.cell? ⟨5,15,Z⟩=Y (A7 F1 4))(K6:∀x∈A,NI w x.rel (f x.rel))(hk:Iw w z K)(Fv:K=[]->z=A4 Z 0 0)(s:K.Pairwise λa b=>DO a.1 b.1<0)(Gg:K=[]∨K.Perm (ET f0 (Es A))):ov.wp A6 (λe a' w'=>e=HN/\a'.defers=[]/\∃N CJ R,R.Perm (Es A)/\tW K R f0 f N CJ w'/\AX w.heap.size w w'/\MV g2 AM fk g0 g7 hw ip s1 p3 CJ z p2 u rt N a'.tmps) ⟨Hw g2 AM fk g0 g7 hw ip s1 p3 wt z p2 u rt p4 g,[]⟩ w:=by
 have U:=A5 (aKX u A m f w hv (by omega) hs k hm X K6);have Bs:=A5 hm;have Cm:AL (∀r∈Es A,r.v.size<=40/\r.p.size<=1000):=A5 λr s=>by obtain⟨y,hy,rfl⟩:=List.mem_map.1 s;exact⟨hs y hy,W y hy⟩
 have Ev:=A5 k;have Ig:AL ((Es A).length<=400000):=A5 (by simpa[Es]using Ar);have FW:=A5 hk;have t:=A5 Fv;have C2:=A5 s;have P:=A5 Gg;clear hv hs W k hm X K6 hk Fv s Gg;have Q:AL (∀g c R wx,R.Perm (Es A)->Xd R->AX w.heap.size w wx->wx.ownsRow w.heap.size 217 3 (A4 (Y ⟨g,0,Z⟩) R.length c) R.length (G6 (ET f R))->Ai A6 63 #[z,A4 (Y ⟨g,0,Z⟩) R.length c] wx λe w'=>∃v CJ,e=AZ (Ay #[v,CJ])/\tW K R f0 f v CJ w'/\AX wx.heap.size wx w'):=A5 λg c R wx hp I H M=>aSW z g c m K R f0 f wx (FW.out.below H) t.out (nH M) I ((hp.pairwise_iff λ{a b}h=>pL h).2 Ev.out) (by rw[hp.length_eq];exact Ig.out) (λr s=>(Cm.out r (hp.mem_iff.1 s)).1) (λr s=>(Cm.out r (hp.mem_iff.1 s)).2) (P.out.imp id λh=>h.trans (hp.symm.map _)) C2.out (Am H Bs.out);simp only[ov,Hw,Ji,Qf,Qg,Qh,Qi,Qj,Qk,Na,Qd,Qe,Rc,N8,G4,fstC,sndC];go_wp2_with(first|(go_at_call 64;refine U.out.mono ?_;rintro e w1⟨dY,dX,R,rfl,hp,I,M,H⟩;have EM:=A5 hp;have XN:=A5 I;have CQ:=A5 M;have S:=A5 H;clear hp I M H)|(go_at_call 63;refine(Q.out _ _ _ _ EM.out XN.out S.out CQ.out).mono ?_;rintro e w2⟨N,CJ,rfl,h2,li⟩;have KM:=A5 h2;have gS:=A5 (S.out.trans (li.mono S.out.size));clear h2 li));exact⟨N,CJ,R,EM.out,KM.out,gS.out,U4 rfl rfl⟩
def aR1(g:Nat->A1)(w:A0):eK.wp A6 (λe b w'=>e=HN/\b.defers=[]/\w'=w/\MV g2 AM fk g0 g7 hw ip s1 p3 DS pp p2 lc rt p4 b.tmps) ⟨Hw g2 AM fk g0 g7 hw ip s1 p3 DS pp p2 lc rt p4 g,[]⟩ w:=by simp only[eK,Hw,Ji,Qf,Qg,Qh,Qi,Qj,Qk,Na,Qd,Qe,Rc,N8,G4,fstC,sndC];go_wp2;exact U4 rfl rfl
def aR2(q:A1)(B:Nat)(g:Nat->A1)(w:A0)(h:w.heap[B]?=Y (AF #[A4 Z 0 0,J ⟨#[]⟩] 59)):eK.wp A6 (λe s w'=>e=.ret/\s.defers=[]/\w'.heap[B]?=Y (AF #[A4 Z 0 0,J ⟨#[]⟩] 59)/\w.heap.size<=w'.heap.size/\(∀b,b≠B->w'.heap[b]?=w.heap[b]?)/\s.tmps.getD 6 A'=Ad (Y ⟨B,0,Z⟩)/\s.tmps.getD 7 A'=EL 96 q) ⟨Hw g2 AM fk g0 g7 hw (Ad (Y ⟨B,0,Z⟩)) s1 p3 (EL 96 q) pp p2 lc rt p4 g,[]⟩ w:=by
 have I:w.cell? ⟨B,0,Z⟩=Y (A4 Z 0 0):=by rw[Ao h];rfl
 have K:w.cell? ⟨B,1,Z⟩=Y (J ⟨#[]⟩):=by rw[Ao h];rfl
 have M:=E6 h 0;have N:=E6 h 1;have z:=A5 h;have H:∀w,(binOp .neq 24 (EL 96 q) DS).run A6 w=Ac (Af A3) w:=λw=>by kernel_rfl
 clear h;simp only[eK,Hw,Ji,Qf,Qg,Qh,Qi,Qj,Qk,Na,Qd,Qe,Rc,N8,G4,fstC,sndC];go_wp2_with fail;refine⟨F2 _ B 1 _ _ (J ⟨#[]⟩) (F2 w B 0 _ _ _ z.out),λb y=>?_⟩;rw[HP _ _ _ _ (show b≠B from y),HP _ _ _ _ (show b≠B from y)]
def qJ(L:List Bu):∀k,∀x∈Ec L k,x∈L
 |0,x,hx=>by cases hx
 |k+1,x,hx=>by
  unfold Ec at hx;split at hx
  ·rename_i y hy;split at hx
   ·rcases List.mem_append.1 hx with hx|hx;·exact qJ L k x hx
    rw[List.mem_singleton.1 hx];exact U8 hy
   exact qJ L k x hx
  exact qJ L k x hx
def xw(h:JH w v l)(e:∀g,v.ownBlock=Y g->w'.heap[g]?=w.heap[g]?):JH w' v l:=by
 rcases h with h|⟨g,c,rfl,h2⟩;·exact AD h
 have hc:=λo=>FG (a:=⟨g,o,Z⟩) (e g rfl);exact AJ ⟨g,c,rfl,λj b=>⟨(hc _).trans (h2 j b).1,(hc _).trans (h2 j b).2⟩⟩
def aSr(L:List Bu):(names L).length=L.length:=by simp[names]
def aR3(u H:A1)(A:List Bu)(E:List BO)(B:Nat)(g:Nat->A1)(w:A0)(Ck:w.heap[B]?=Y (AF #[A4 Z 0 0,J ⟨#[]⟩] 59))(hv:KN w u A)(hn:∀x∈A,Hd w (λ_=>True) x.B4 x.rel.D')(Ar:A.length<=1000000)(hs:∀x∈A,x.rel.p.size<=1000/\x.rel.v.size<=1000)(d9:Iw w H E)(vP:E.length<=1000000)(nX:∀x∈E,x.1.1.size<=1000/\x.1.2.size<=1000/\x.2.size<=1000):ox.wp A6 (λe a' w'=>e=HN/\a'.defers=[]/\∃z,w'.heap[B]?=Y (AF #[z,J ⟨(Be E).toArray⟩] 59)/\JH w' z (names (Ec A A.length))/\(w.heap.size<=w'.heap.size/\∀b,b<w.heap.size->b≠B->w'.heap[b]?=w.heap[b]?)/\MV g2 AM fk g0 g7 hw (Ad (Y ⟨B,0,Z⟩)) DS p3 wt pp p2 u rt H a'.tmps) ⟨Hw g2 AM fk g0 g7 hw (Ad (Y ⟨B,0,Z⟩)) s1 p3 wt pp p2 u rt H g,[]⟩ w:=by
 have k:∀x∈Ec A A.length,x∈A:=qJ A A.length;have Q:=A5 (aXx u A w hv Ar);have N:AL (∀I wx,wx.ownsRow w.heap.size 234 8 I (Ec A A.length).length (I4 (Ec A A.length))->AX w.heap.size w wx->Ai A6 65 #[I] wx λe w'=>∃z,e=AZ z/\w'.ownsRow wx.heap.size 85 2 z (Ec A A.length).length (F8 (names (Ec A A.length)))/\AX wx.heap.size wx w'):=A5 λI wx s h=>aQt I _ wx (aVe s λx hx=>(jc (hn x (k x hx))).below h) (G3 (zI A A.length) Ar) λx hx=>⟨by have:=(hs x (k x hx)).1;omega,by have:=(hs x (k x hx)).2;omega⟩;have U:AL (∀wx,AX w.heap.size w wx->Ai A6 67 #[H] wx λe w'=>e=AZ (J ⟨(Be E).toArray⟩)/\AX wx.heap.size wx w'):=A5 λwx h=>aY3 H E wx (d9.below h) vP nX;have gU:=A5 Ck;clear hv hn hs d9 nX Ck;simp only[ox,Hw,Ji,Qf,Qg,Qh,Qi,Qj,Qk,Na,Qd,Qe,Rc,N8,G4,fstC,sndC];go_wp2_with(first|(go_at_call 66;refine Q.out.mono ?_;rintro e w1⟨I,rfl,s,h⟩;have CQ:=A5 s;have M:=A5 h;clear s h)|(go_at_call 65;refine(N.out _ _ CQ.out M.out).mono ?_;rintro e w2⟨z,rfl,s,h⟩;(obtain⟨t,P,rfl⟩:=Ln s);have LN:=A5 s;have S:=A5 (M.out.trans (h.mono M.out.size));clear s h)|(go_at_call 67;refine(U.out _ S.out).mono ?_;rintro e K⟨rfl,h⟩;have W:=A5 (S.out.trans (h.mono S.out.size));have X:=A5 h;(have y:=H2 W.out gU.out);(have FK:K.cell? ⟨B,0,Z⟩=Y (A4 Z 0 0):=by rw[Ao y];rfl);(have Bp:K.cell? ⟨B,1,Z⟩=Y (J ⟨#[]⟩):=by rw[Ao y];rfl);have C8:=E6 y 0;have E':=E6 y 1;have aGY:=A5 y;clear h y));have aa4:B<w.heap.size:=Kw gU.out;have bC:∀b,b≠B->((K.setCell ⟨B,0,Z⟩ (A4 t (Ec A A.length).length P)).setCell ⟨B,1,Z⟩ (J ⟨(Be E).toArray⟩)).heap[b]?=K.heap[b]?:=λb h=>by rw[HP _ _ _ _ (show b≠B from h),HP _ _ _ _ (show b≠B from h)]
 refine⟨A4 t (Ec A A.length).length P,?_,?_,⟨W.out.size,λb h i6=>(bC b i6).trans (W.out.block b h)⟩,U4 rfl rfl⟩;·exact F2 _ B 1 _ _ (J ⟨(Be E).toArray⟩) (F2 K B 0 _ _ _ aGY.out)
 have h1:JH w2 (A4 t (Ec A A.length).length P) (names (Ec A A.length)):=xv (by rw[aSr];exact LN.out);refine xw (h1.below X.out) λg AI=>bC g ?_;have h2:=(LN.out.lt g AI).1;have h3:=M.out.size;omega
def aJH:ES A6 DV E5 [] 8 ou=A3:=by kernel_rfl
def aJI:ES A6 DV E5 [] 8 oy=A3:=by kernel_rfl
def aJJ:ES A6 DV E5 [] 8 oz=A3:=by kernel_rfl
def aJK:ES A6 DV E5 [] 8 p'=A3:=by kernel_rfl
def aJL:ES A6 DV E5 [] 8 p0=A3:=by kernel_rfl
def aJM:ES A6 DV E5 [] 8 p1=A3:=by kernel_rfl
def Goes.draw{b:Ag}{a:Act}{id:Nat}{ops:Array BR}(k:∀o∈PW ZS ops ops.size (MU ops.size A9),∀d,Goes Wb (G (b.at a (B1 ops o::q)) cs) (w.at d) Post):Goes Wb (G (b.at a (BS (Ej id ops A3)::q)) cs) w Post:=by
 have I:A6.follows .mixedOrders=A3:=by kernel_rfl
 refine .KB (Stop:=λh s=>∃o∈PW ZS ops ops.size (MU ops.size A9),h=G (b.at a (B1 ops o::q)) cs/\∃d,s=w.at d) (.step rfl λd=>⟨_,_,#[],EW Wb w.heap.size,stepG_region_draw,⟨Ae _,λ_ _ _=>rfl,rfl,rfl,rfl,λb=>⟨λx=>AD x,λx=>x.elim (λz=>z) λy=>absurd y.2 (Nat.not_lt.2 y.1)⟩,λe he=>by simp at he⟩,.stop λH=>?_⟩) ?_;·refine⟨_,?_,rfl,H,rfl⟩;unfold Region.schedule;rw[I];exact yL _ _ _ _ _
 rintro h s⟨o,K,rfl,d,rfl⟩;exact k o K d
noncomputable def WW:Array BR:=match p5 with|Ej _ ops _=>ops|_=>#[]
def aQK:p5=Ej 8 WW A3:=by kernel_rfl
def aAE:WW.size=8:=by kernel_rfl
def aL(D:Nat->Bool):Nat->Bool|0=>A3|1=>A3|2=>D 1|3=>D 0&&D 2|4=>A3|5=>D 4|6=>D 3&&D 5|7=>D 6|_=>A9
def pW(D:Nat->Bool):List Nat->Bool|[]=>D 7|i::r=>!D i&&(aL D i&&pW (λj=>j==i||D j) r)
def aTD:(PW ZS WW 8 (MU 8 A9)).all (pW λ_=>A9)=A3:=by kernel_rfl
noncomputable def L8(i:Nat):BR:=WW.getD i Aw
def WZ(i:Nat)(h:i<8):WW[i]?=Y (L8 i):=by unfold L8;rw[Iv,EP (by rw[aAE];exact h)];rfl
def aLh:∀i,i<8->(L8 i).guard=Z|0,_=>by kernel_rfl|1,_=>by kernel_rfl|2,_=>by kernel_rfl|3,_=>by kernel_rfl|4,_=>by kernel_rfl|5,_=>by kernel_rfl|6,_=>by kernel_rfl|7,_=>by kernel_rfl
def Ym(i:Nat)(h:i<8)(y:_):Gt (L8 i) y=A3:=by simp[Gt,aLh i h]
structure fP(w0:A0)(BX JW:zy)(own:zz)(f2:List Az)(Bc:Option Ak)(Ba i1 a2:Nat)(Gs:List Rel)(m:Int):Prop where
 whole:Whole Gs f2 own
 zE:∀x∈f2,x.1≠own
 check:∀r∈Gs,V.JN r.p r.v=Z
 aWz:∀r∈Gs,r.p.size<=1000000/\r.v.size<=1000000
 parts:w0.heap[i1]?=Y (AF #[J own,A4 Bc f2.length Ba,A4 Z 0 0,A4 Z 0 0] 128)
 aPz:BX i1
 D':JH w0 (A4 Bc f2.length Ba) f2
 aPx:∀g,Value.ownBlock (A4 Bc f2.length Ba)=Y g->BX g
 reg:Ih w0 a2 Gs
 sub:∀b,JW b->BX b
 Jo:O4 reads JW w0
 MH:JW a2
 files:∀r∈Gs,∀a,r.BP=Y a->JW a.block
 low:∀b,BX b->b<w0.heap.size
 EX:w0.cell? ⟨0,0,Z⟩=Y (A7 A8 m)
def Hj(h:T[i]?=Y v):Cg ⟨T,[]⟩ (An i)=v:=by show T.getD i A'=v;rw[Iv,h];rfl
def aP{u:A1}(h:T[i]?=Y u)(b:d≠i):(T.setIfInBounds d v)[i]?=Y u:=by rw[Gp b];exact h
def get_at(h:d<T.size):(T.setIfInBounds d v)[d]?=Y v:=SE h
def tK(w0:A0)(BX:zy)(own:zz)(f2:List Az)(y:Option Ak)(z H a2 cap:Nat)(Gs:List Rel)(D:Nat->Bool)(R:zy)(T:zw)(w:A0):zy|0=>T[35]?=Y (A_ #[J own,A4 y f2.length z,A4 Z 0 0,A4 Z 0 0])|1=>T[36]?=Y (A4 (Y ⟨a2,0,Z⟩) Gs.length cap)|2=>∃b,T[37]?=Y (A_ #[A4 (Y ⟨a2,0,Z⟩) Gs.length cap,Ah (Y b)])/\R b/\w.heap[b]?=Y (DM (EY (places Gs)) Gs.length)|3=>D 6=A3∨∃h s b,T[38]?=Y (IZ own h s a2 Gs.length cap b)/\(R h/\R s/\R b)/\w.heap[h]?=Y (DM #[] 0)/\w.heap[s]?=Y (DM #[] 0)/\w.heap[b]?=Y (DM (EY (places Gs)) Gs.length)|4=>T[39]?=Y (Ad (Y ⟨H,1,Z⟩))|5=>T[40]?=Y (A4 y f2.length z)|6=>∃u A,T[41]?=Y u/\Zs Gs f2 BX R w0 u A w|7=>T[12]?=T[41]?|_=>True
def Lt(i:Nat):Nat:=[35,36,37,38,39,40,41,12].getD i 0
structure Zk(w0:A0)(BX:zy)(own:zz)(f2:List Az)(Bc:Option Ak)(Ba i1 a2 cap:Nat)(Gs:List Rel)(T0:zw)(D:Nat->Bool)(R:zy)(T:zw)(w:A0):Prop where
 size:T.size=65
 rest:∀j,(∀i,i<8->j≠Lt i)->T[j]?=T0[j]?
 old:∀b,BX b->R b/\w.heap[b]?=w0.heap[b]?
 left:∀k,D k=A3->tK w0 BX own f2 Bc Ba i1 a2 cap Gs D R T w k
 JM:∀k,D k=A3->aL D k=A3
def O_(i j:Nat)(h:D j=A3):(λj=>j==i||D j) j=A3:=by simp[h]
def a4U(j k:Nat)(h:aL D k=A3):aL (λi=>i==j||D i) k=A3:=by
 have two:∀{a b c d:Bool},(a=A3->c=A3)->(b=A3->d=A3)->(a&&b)=A3->(c&&d)=A3:=λs h2 h=>by rw[G0]at h⊢;exact⟨s h.1,h2 h.2⟩
 match k,h with|0,_=>rfl|1,_=>rfl|2,h=>exact O_ j 1 h|3,h=>exact two (O_ j 0) (O_ j 2) h|4,_=>rfl|5,h=>exact O_ j 4 h|6,h=>exact two (O_ j 3) (O_ j 5) h|7,h=>exact O_ j 6 h|n+8,h=>exact h
def aVu(i j:Nat)(hi:i<8)(b:j<8)(e:Lt i=Lt j):i=j:=by
 have h:∀i j:_root_.Fin 8,Lt i.val=Lt j.val->i=j:=by decide
 exact congrArg aD3 (h ⟨i,hi⟩ ⟨j,b⟩ e)
def Zk.put{own:zz}{R':zy}(h:Zk w0 BX own f2 Bc Ba i1 a2 cap Gs T0 D R T w)(hi:i<8)(M:D i=A9)(X:aL D i=A3)(I:∀b,R b->R' b)(e:∀b,R b->w'.heap[b]?=w.heap[b]?)(ED:i=7->w'.heap=w.heap)(AE:tK w0 BX own f2 Bc Ba i1 a2 cap Gs (λj=>j==i||D j) R' (T.setIfInBounds (Lt i) v) w' i):Zk w0 BX own f2 Bc Ba i1 a2 cap Gs T0 (λj=>j==i||D j) R' (T.setIfInBounds (Lt i) v) w':=by
 have Q:∀k,k<8->k≠i->Lt i≠Lt k:=λk H s e=>s (aVu k i H hi e.symm);have hs:∀k,k<8->k≠i->∀u,T[Lt k]?=Y u->(T.setIfInBounds (Lt i) v)[Lt k]?=Y u:=λk H s u hu=>aP hu (Q k H s);refine⟨by rw[Pk];exact h.size,λj S=>?_,λb N=>⟨I b (h.old b N).1,(e b (h.old b N).1).trans (h.old b N).2⟩,λk H=>?_,λk H=>?_⟩;·rw[Gp (Gu (S i hi))];exact h.rest j S
 ·by_cases s:k=i;·rw[s];exact AE
  have K:D k=A3:=by simpa[s]using H
  have y:=h.left k K;match k,s,y,K with
  |0,s,y,_=>exact hs 0 (by decide) s _ y
  |1,s,y,_=>exact hs 1 (by decide) s _ y
  |2,s,y,_=>obtain⟨up,a,b,c⟩:=y;exact⟨up,hs 2 (by decide) s _ a,I _ b,(e _ b).trans c⟩
  |3,s,y,_=>refine y.imp (O_ i 6) ?_;rintro⟨r1,r2,up,a,⟨Cc,b2,W⟩,c1,c2,c3⟩;exact⟨r1,r2,up,hs 3 (by decide) s _ a,⟨I _ Cc,I _ b2,I _ W⟩,(e _ Cc).trans c1,(e _ b2).trans c2,(e _ W).trans c3⟩
  |4,s,y,_=>exact hs 4 (by decide) s _ y
  |5,s,y,_=>exact hs 5 (by decide) s _ y
  |6,s,y,t=>
   obtain⟨u,A,a,AH⟩:=y;have AS:(D 3&&D 5)=A3:=h.JM 6 t;rw[G0]at AS;have aj:(D 0&&D 2)=A3:=h.JM 3 AS.1;rw[G0]at aj;have P:i=7:=by match i,hi,M,s with|0,_,z,_=>rw[aj.1]at z;cases z|1,_,z,_=>rw[show D 1=A3 from h.JM 2 aj.2]at z;cases z|2,_,z,_=>rw[aj.2]at z;cases z|3,_,z,_=>rw[AS.1]at z;cases z|4,_,z,_=>rw[show D 4=A3 from h.JM 5 AS.2]at z;cases z|5,_,z,_=>rw[AS.2]at z;cases z|6,_,_,z=>exact absurd rfl z|7,_,_,_=>rfl
   exact⟨u,A,hs 6 (by decide) s _ a,AH.heap (ED P) I⟩
  |7,s,y,t=>
   have U:6≠i:=λz=>by rw[<-z]at M;rw[show D 6=A3 from h.JM 7 t]at M;cases M
   show(T.setIfInBounds (Lt i) v)[12]?=(T.setIfInBounds (Lt i) v)[41]?;rw[Gp (show Lt i≠12 from Q 7 (by decide) s),Gp (show Lt i≠41 from Q 6 (by decide) U)];exact y
  |n+8,_,_,_=>exact trivial
 by_cases s:k=i;·rw[s];exact a4U i i X
 exact a4U i k (h.JM k (by simpa[s]using H))
def a9h{F:zy}{E:AT}:∀(l:List MapEntry),(∀e∈l,(∃p:Az,e.key=HH p)/\∃n:Int,e.val=A7 A8 n)->E1 F E l l|[],_=>.nil|⟨k,v,n⟩::l,h=>by obtain⟨⟨p,b⟩,z,hv⟩:=h ⟨k,v,n⟩ (by simp);simp only at b hv;subst b hv;exact .cons (.agg (.cons (.string _) (.cons (.string _) .nil))) (.int _ _) (a9h l λe he=>h e (by simp[he]))
def aUH{F:zy}{E:AT}(l:List (Az×Nat)):E1 F E (EY l).toList (EY l).toList:=a9h _ λe he=>by obtain⟨x,_,b,h2⟩:=a9R he;exact⟨⟨_,b⟩,_,h2⟩
def at8(i:Nat):(λj=>j==i||D j) i=A3:=by simp
def zD{P:zy}{own:zz}(h:fP w0 BX P own f2 Bc Ba i1 a2 Gs m)(H:∀b,BX b->R b/\w.heap[b]?=w0.heap[b]?)(M:∀b,R b->b<w.heap.size)(K:w.heap[r1]?=Y (DM #[] 0))(h2:w.heap[r2]?=Y (DM #[] 0))(N:w.heap[up]?=Y (DM (EY (places Gs)) Gs.length))(S:R r1)(W:R r2)(I:R up):dI w R (λb=>P b∨b=r1∨b=r2∨b=up) own r1 r2 a2 up Gs:=by
 have hs:∀b,P b->w.heap[b]?=w0.heap[b]?:=λb s=>(H b (h.sub b s)).2;refine⟨λb s=>?_,⟨λb s=>?_,λb s=>AD (h.Jo.EX b s),?_⟩,⟨⟨m,?_⟩,⟨0,K⟩,⟨0,h2⟩,⟨_,N⟩,λi hi=>?_⟩,AJ (AD rfl),AJ (AJ (AD rfl)),AD h.MH,AJ (AJ (AJ rfl)),λr A2 a U=>AD (h.files r A2 a U),M⟩
 ·rcases s with s|rfl|rfl|rfl;·exact(H b (h.sub b s)).1
  ·exact S
  ·exact W
  exact I
 ·rcases s with s|rfl|rfl|rfl;·obtain⟨o,e,k,z⟩:=h.Jo.heap b s;exact⟨o,(hs b s).trans e,k.mono (OM λc y=>AD y),z⟩
  ·exact⟨_,K,.map _ .nil,λc t p e=>by cases e⟩
  ·exact⟨_,h2,.map _ .nil,λc t p e=>by cases e⟩
  exact⟨_,N,.map _ (aUH _),λc t p e=>by cases e⟩
 ·have Q:Ci-1<Ci:=by decide
  have:=M _ (H _ (h.sub _ (h.Jo.EX (Ci-1) Q))).1;omega
 ·exact(FG (a:=⟨0,0,Z⟩) (hs 0 (h.Jo.EX 0 (by decide)))).trans h.EX
 have hc:=λo=>FG (a:=⟨a2,o,Z⟩) (hs a2 h.MH);obtain⟨a,b,c,d⟩:=h.reg i hi;exact⟨(hc _).trans a,(hc _).trans b,(hc _).trans c,(hc _).trans d⟩
def aQv{k:A1}(h2:ρ (An 11)=Av br)(h:w.heap[br]?=Y (AF #[v0,k,F9,v3] 128 p)):(Ab ρ (L8 0)).run A6 w=Ac (D6 (A_ #[v0,k,F9,v3])) w:=by
 have b:(L8 0).op=R0 128 (An 11):=by kernel_rfl
 unfold Ab;rw[b];simp only[h2];have c0:w.cell? ⟨br,0,Z⟩=Y v0:=by simp[FB,h]
 have c1:w.cell? ⟨br,1,Z⟩=Y k:=by simp[FB,h]
 have c2:w.cell? ⟨br,2,Z⟩=Y F9:=by simp[FB,h]
 have c3:w.cell? ⟨br,3,Z⟩=Y v3:=by simp[FB,h]
 simp[go_sem,c0,c1,c2,c3]
def aQu{c:Nat}(h2:ρ (An 39)=Ad (Y ⟨br,1,Z⟩))(h:w.heap[br]?=Y (AF #[v0,A4 a n c,F9,v3] 128 p)):(Ab ρ (L8 5)).run A6 w=Ac (D6 (A4 a n c)) w:=by
 have b:(L8 5).op=R0 124 (An 39):=by kernel_rfl
 unfold Ab;rw[b];simp only[h2];have c1:w.cell? ⟨br,1,Z⟩=Y (A4 a n c):=by simp[FB,h]
 simp[go_sem,c1]
def aKz(h2:ρ (An 11)=Av br):(Ab ρ (L8 4)).run A6 w=Ac (D6 (Ad (Y ⟨br,1,Z⟩))) w:=by
 have b:(L8 4).op=gB 128 (An 11) 1:=by kernel_rfl
 unfold Ab;rw[b];simp only[h2];simp[go_sem]
section
variable[CV]
def aXN{JW:zy}{own:zz}{rest:List Nat}(N:fP w0 BX JW own f2 Bc Ba i1 a2 Gs m)(h1:T0[1]?=Y (A4 (Y ⟨a2,0,Z⟩) Gs.length cap))(NN:T0[11]?=Y (Ad (Y ⟨i1,0,Z⟩)))(S:Holds Wb R w)(P:Ax R T)(h:Zk w0 BX own f2 Bc Ba i1 a2 cap Gs T0 D R T w)(H:D i=A9)(y:aL D i=A3)(K:∀(BW R':zy)(w':A0)(BV:zw),Holds BW R' w'->Ax R' BV->Zk w0 BX own f2 Bc Ba i1 a2 cap Gs T0 (λj=>j==i||D j) R' BV w'->Goes BW (G ((AW 30).at ⟨BV,[]⟩ (B1 WW rest::q)) cs) w' Post):Goes Wb (G ((AW 30).at ⟨T,[]⟩ (B1 WW (i::rest)::q)) cs) w Post:=by
 have t1:T[1]?=Y (A4 (Y ⟨a2,0,Z⟩) Gs.length cap):=(h.rest 1 (by intro i hi;match i,hi with|0,_|1,_|2,_|3,_|4,_|5,_|6,_|7,_=>decide)).trans h1;have W:T[11]?=Y (Ad (Y ⟨i1,0,Z⟩)):=(h.rest 11 (by intro i hi;match i,hi with|0,_|1,_|2,_|3,_|4,_|5,_|6,_|7,_=>decide)).trans NN;have Cy:∀d,d<65->∀v,(T.setIfInBounds d v)[d]?=Y v:=λd AS v=>get_at (by rw[h.size];exact AS);have IV:=(h.old i1 N.aPz).2.trans N.parts;match i,H,y with
 |0,H,y=>
  refine Goes.op (Q:=λv s=>v=A_ #[J own,A4 Bc f2.length Ba,A4 Z 0 0,A4 Z 0 0]/\s.heap=w.heap) (WZ 0 (by decide)) (Ym 0 (by decide) _) (by kernel_rfl) (by kernel_rfl) (by kernel_rfl) (by kernel_rfl) (show(L8 0).dst=Y 35 by kernel_rfl) (by kernel_rfl) (by decide) S P (λt=>?_) ?_;·exact⟨_,on w t,aQv (br:=i1) (Hj W) IV,rfl,rfl⟩
  rintro R' v s w'⟨rfl,e1⟩e2 I U k;have e:=e2.trans e1;exact K Wb R' w' _ U k (h.put (i:=0) (by decide) H y I λb _=>by rw[e] (λ_=>e) (Cy 35 (by decide) _))
 |1,H,y=>
  refine Goes.op (Q:=λv s=>v=A4 (Y ⟨a2,0,Z⟩) Gs.length cap/\s.heap=w.heap) (WZ 1 (by decide)) (Ym 1 (by decide) _) (by kernel_rfl) (by kernel_rfl) (by kernel_rfl) (by kernel_rfl) (show(L8 1).dst=Y 36 by kernel_rfl) (by kernel_rfl) (by decide) S P (λt=>?_) ?_
  ·have AA:(L8 1).op=Mb (An 1):=by kernel_rfl
   refine⟨_,on w t,?_,rfl,rfl⟩;unfold Ab;rw[AA,<-Hj t1];rfl
  rintro R' v s w'⟨rfl,e1⟩e2 I U k;have e:=e2.trans e1;exact K Wb R' w' _ U k (h.put (i:=1) (by decide) H y I λb _=>by rw[e] (λ_=>e) (Cy 36 (by decide) _))
 |2,H,y=>
  have DI:T[36]?=Y (A4 (Y ⟨a2,0,Z⟩) Gs.length cap):=h.left 1 y;refine Goes.a3p (f:=60) (fn:=Tryz.f60) (opd:=#[An 36]) (ats:=#[47]) (args:=#[A4 (Y ⟨a2,0,Z⟩) Gs.length cap]) (Q:=λv w'=>∃s:A0,w'.heap=s.heap/\∃M:Nat,v=A_ #[A4 (Y ⟨a2,0,Z⟩) Gs.length cap,Ah (Y M)]/\s.heap[M]?=Y (DM (EY (places Gs)) Gs.length)/\w.heap.size<=s.heap.size/\∀b,b<w.heap.size->s.heap[b]?=w.heap[b]?) (WZ 2 (by decide)) (Ym 2 (by decide) _) (by kernel_rfl) (show(L8 2).dst=Y 37 by kernel_rfl) aEd (by kernel_rfl) (by kernel_rfl) (by simp[Hj DI]) S P (.cons (Ax.nth P 36 DI) .nil) (λx=>?_) ?_
  ·refine CallsC.lone (UI 60 (by kernel_rfl)) aEd (by kernel_rfl) λt=>?_;have hb:∀b,JW b->w.heap[b]?=w0.heap[b]?:=λb hb=>(h.old b (N.sub b hb)).2;have hc:=λo=>FG (w:=w0) (w':=on (w.at x) t) (a:=⟨a2,o,Z⟩) (hb a2 N.MH);refine(aIe a2 cap Gs m (on (w.at x) t) N.whole.ok (λi hi=>?_) N.check ?_ N.aWz).mono ?_;·obtain⟨a,b,c,d⟩:=N.reg i hi;exact⟨(hc _).trans a,(hc _).trans b,(hc _).trans c,(hc _).trans d⟩
   ·exact(FG (a:=⟨0,0,Z⟩) (hb 0 (N.Jo.EX 0 (by decide)))).trans N.EX
   rintro e s⟨M,rfl,_,h2,h3⟩;exact⟨_,rfl,M,rfl,h2,h3.size,h3.block⟩
  rintro BW R' v w'⟨s,e,M,rfl,X,hs,FZ⟩I U k;refine K BW R' w' _ U k (h.put (i:=2) (by decide) H y I (λb hb=>by rw[e];exact FZ b (S.closed.lt hb)) (λz=>by cases z) ⟨M,Cy 37 (by decide) _,?_,by rw[e];exact X⟩);have Jn:=Ax.nth k 37 (Cy 37 (by decide) _);cases Jn with|agg hv=>exact AN.jY (Aq.nth 1 hv rfl)
 |3,H,y=>
  have AS:(D 0&&D 2)=A3:=y;rw[G0]at AS;have N6:T[35]?=Y (A_ #[J own,A4 Bc f2.length Ba,A4 Z 0 0,A4 Z 0 0]):=h.left 0 AS.1;obtain⟨M,GF,aas,X⟩:=h.left 2 AS.2;refine Goes.a3p (f:=59) (fn:=Tryz.f59) (opd:=#[An 35,An 37]) (ats:=#[128,136]) (args:=#[A_ #[J own,A4 Bc f2.length Ba,A4 Z 0 0,A4 Z 0 0],A_ #[A4 (Y ⟨a2,0,Z⟩) Gs.length cap,Ah (Y M)]]) (Q:=λv w'=>∃s:A0,w'.heap=s.heap/\∃r1 r2:Nat,v=IZ own r1 r2 a2 Gs.length cap M/\s.heap[r1]?=Y (DM #[] 0)/\s.heap[r2]?=Y (DM #[] 0)/\w.heap.size<=s.heap.size/\∀b,b<w.heap.size->s.heap[b]?=w.heap[b]?) (WZ 3 (by decide)) (Ym 3 (by decide) _) (by kernel_rfl) (show(L8 3).dst=Y 38 by kernel_rfl) aEc (by kernel_rfl) (by kernel_rfl) (by simp[Hj N6,Hj GF]) S P (.cons (Ax.nth P 35 N6) (.cons (Ax.nth P 37 GF) .nil)) (λx=>?_) ?_;·refine CallsC.lone (UI 59 (by kernel_rfl)) aEc (by kernel_rfl) λt=>?_;refine(aVl own Bc f2.length Ba a2 Gs.length cap M (on (w.at x) t)).mono ?_;rintro e s⟨r1,r2,rfl,_,_,h2,h3,h4⟩;exact⟨_,rfl,r1,r2,rfl,h2,h3,h4.size,h4.block⟩
  rintro BW R' v w'⟨s,e,r1,r2,rfl,Ew,z2,hs,FZ⟩I U k;refine K BW R' w' _ U k (h.put (i:=3) (by decide) H y I (λb hb=>by rw[e];exact FZ b (S.closed.lt hb)) (λz=>by cases z) (AJ ⟨r1,r2,M,Cy 38 (by decide) _,?_,by rw[e];exact Ew,by rw[e];exact z2,by rw[e];exact(FZ M (Kw X)).trans X⟩));have YH:=Ax.nth k 38 (Cy 38 (by decide) _);cases YH with|agg hv=>exact⟨AN.jY (Aq.nth 1 hv rfl),AN.jY (Aq.nth 2 hv rfl),AN.jY (Aq.nth 4 hv rfl)⟩
 |4,H,y=>
  refine Goes.op (Q:=λv s=>v=Ad (Y ⟨i1,1,Z⟩)/\s.heap=w.heap) (WZ 4 (by decide)) (Ym 4 (by decide) _) (by kernel_rfl) (by kernel_rfl) (by kernel_rfl) (by kernel_rfl) (show(L8 4).dst=Y 39 by kernel_rfl) (by kernel_rfl) (by decide) S P (λt=>?_) ?_;·exact⟨_,on w t,aKz (br:=i1) (Hj W),rfl,rfl⟩
  rintro R' v s w'⟨rfl,e1⟩e2 I U k;have e:=e2.trans e1;exact K Wb R' w' _ U k (h.put (i:=4) (by decide) H y I λb _=>by rw[e] (λ_=>e) (Cy 39 (by decide) _))
 |5,H,y=>
  refine Goes.op (Q:=λv s=>v=A4 Bc f2.length Ba/\s.heap=w.heap) (WZ 5 (by decide)) (Ym 5 (by decide) _) (by kernel_rfl) (by kernel_rfl) (by kernel_rfl) (by kernel_rfl) (show(L8 5).dst=Y 40 by kernel_rfl) (by kernel_rfl) (by decide) S P (λt=>?_) ?_;·exact⟨_,on w t,aQu (br:=i1) (Hj (h.left 4 y)) IV,rfl,rfl⟩
  rintro R' v s w'⟨rfl,e1⟩e2 I U k;have e:=e2.trans e1;exact K Wb R' w' _ U k (h.put (i:=5) (by decide) H y I λb _=>by rw[e] (λ_=>e) (Cy 40 (by decide) _))
 |6,H,y=>
  have AS:(D 3&&D 5)=A3:=y;rw[G0]at AS;have Oc:T[40]?=Y (A4 Bc f2.length Ba):=h.left 5 AS.2;have Ra:D 6=A3∨_:=h.left 3 AS.1;obtain⟨r1,r2,M,IH,hm,Ew,z2,hp⟩:=Ra.resolve_left λCN=>by rw[H]at CN;cases CN
  have YH:=Ax.nth P 38 IH;refine .ctl rfl (λ_=>Tg (f:=61) (fn:=Pu) (c:=Kv) (az:=#[.tmp 38,.tmp 40]) (ats:=#[138,124]) (WZ 6 (by decide)) (Ym 6 (by decide) _) (by simp[AW]) (by kernel_rfl) R1 (by kernel_rfl) (by kernel_rfl)) λd=>?_;have L':(#[.tmp 38,.tmp 40]:Array C').map (Cg ⟨T,[]⟩)=#[IZ own r1 r2 a2 Gs.length cap M,.slice Bc f2.length Ba]:=by simp[Hj IH,Hj Oc]
  rw[L'];have Bj:dI (w.at d) R (λb=>JW b∨b=r1∨b=r2∨b=M) own r1 r2 a2 M Gs:=zD (w:=w.at d) N h.old (λb hb=>S.closed.lt hb) Ew z2 hp hm.1 hm.2.1 hm.2.2;refine(aSy (w:=w.at d) N.whole Bj (S.at d) (.cons YH (.cons (Ax.nth P 40 Oc) .nil)) (xw N.D' λg AI=>(h.old g (N.aPx g AI)).2) N.zE).bind ?_;rintro BW g' w'⟨R',u,A,rfl,hv,I,U,AH⟩;rw[LF,WZ 6 (by decide),SZ,show(L8 6).dst=Y 41 by kernel_rfl];exact K BW R' w' _ U ((P.mono I).set hv 41) (h.put (i:=6) (by decide) H y I AH.same (λz=>by cases z) ⟨u,A,Cy 41 (by decide) _,λb hb=>(AH.same b (h.old b hb).1).trans (h.old b hb).2,AH.sl,AH.Kb,AH.order,AH.nodup,AH.reach⟩)
 |7,H,y=>
  obtain⟨u,A,hu,_⟩:=h.left 6 y;refine Goes.op (Q:=λv s=>v=u/\s.heap=w.heap) (WZ 7 (by decide)) (Ym 7 (by decide) _) (by kernel_rfl) (by kernel_rfl) (by kernel_rfl) (by kernel_rfl) (show(L8 7).dst=Y 12 by kernel_rfl) (by kernel_rfl) (by decide) S P (λt=>?_) ?_
  ·have AA:(L8 7).op=SK (An 41):=by kernel_rfl
   refine⟨_,on w t,?_,rfl,rfl⟩;unfold Ab;rw[AA,<-Hj hu];rfl
  rintro R' v s w'⟨rfl,e1⟩e2 I U k;have e:=e2.trans e1;exact K Wb R' w' _ U k (h.put (i:=7) (by decide) H y I λb _=>by rw[e] (λ_=>e) (by rw[show Lt 7=12 from rfl,tK,Cy 12 (by decide),Gp (by decide)];exact hu.symm))
 |n+8,_,y=>exact absurd y (by show¬A9=A3;decide)
end
def qY{P:Program}{c d:Bg}{a:Act}{t:Act->A0->Prop}{Q:Exit->Act->A0->Prop}(h:c.wp P (λe a w=>e=HN/\t a w) a w)(k:∀a w,t a w->d.wp P Q a w):(Bh c d).wp P Q a w:=by refine wp_seq (gR h ?_);rintro e a w⟨rfl,b⟩;exact k a w b
def aW2:N8.results=#[.cell 6 59,a16 7]:=by kernel_rfl
def results30{c:Nat}(y:T.getD 6 A'=Ad (Y ⟨B,0,Z⟩)){x:A1}(z:T.getD 7 A'=x)(H:w.heap[B]?=Y (AF #[A4 a n c,J s] 59)):(D_ N8 T).run A6 w=Ac (Ay #[A_ #[A4 a n c,J s],x]) w:=by
 have b:T[6]?.getD A'=Ad (Y ⟨B,0,Z⟩):=by simpa using y
 have h:T[7]?.getD A'=x:=by simpa using z
 simp[D_,aW2,b,h,asAddr,run_loadVar_row w B 59 59 _ _ _ H Tryz.underlying59 rfl (by kernel_rfl)]
def a8w:Na=Bh p6 (Bh ov (Bh eK (Bh ox Kk))):=by kernel_rfl
def aJN:ES A6 DV E5 [] 8 Na=A3:=by kernel_rfl
def aHF(A:List Bu)(f:Rel->zz)(v:A1)(w1:A0):Prop:=∃a n c E,v=Ay #[A_ #[A4 a n c,J ⟨(Be E).toArray⟩],DS]/\E.Perm (ET f (Es A))/\Oj E/\JH w1 (A4 a n c) (Go.Proofs.YtcfhleenecfghaaGreatDoor.names (Ec A A.length))
def tV(K:List BO)(f0:Rel->zz)(A:List Bu)(f:Rel->zz)(v:A1)(w1:A0):Prop:=(K=[]∨∀x∈A,f0 x.rel=f x.rel)/\aHF A f v w1∨K≠[]/\∃x∈A,f0 x.rel≠f x.rel/\∃q,v=Ay #[A_ #[A4 Z 0 0,J ⟨#[]⟩],EL 96 q]/\KF 0 w1 q (Y (7,0,x.rel.p,x.rel.v))
def aR9(u:A1)(A:List Bu)(m:Int)(f:Rel->zz)(K:List BO)(f0:Rel->zz)(Q:A1)(B:Nat)(g:Nat->A1)(w:A0)(U:w.heap[B]?=Y (AF #[A4 Z 0 0,J ⟨#[]⟩] 59))(hv:KN w u A)(hn:∀x∈A,Hd w (λ_=>True) x.B4 x.rel.D')(Ar:A.length<=400000)(hs:∀x∈A,x.rel.v.size<=40)(hp:∀x∈A,x.rel.p.size<=1000)(I:(Es A).Pairwise λa b=>DO a.name b.name≠0)(hm:w.cell? ⟨0,0,Z⟩=Y (A7 A8 m))(JQ:w.cell? ⟨5,15,Z⟩=Y (A7 F1 4))(K6:∀x∈A,NI w x.rel (f x.rel))(wC:∀x∈A,(f x.rel).size<=1000)(hk:Iw w Q K)(Fv:K=[]->Q=A4 Z 0 0)(M:K.Pairwise λa b=>DO a.1 b.1<0)(Gg:K=[]∨K.Perm (ET f0 (Es A))):Na.wp A6 (a1P A6 N8 λe H=>∃v,e=AZ v/\tV K f0 A f v H/\w.heap.size<=H.heap.size/\∀b,b<w.heap.size->b≠B->H.heap[b]?=w.heap[b]?) ⟨Hw g2 AM fk g0 g7 hw (Ad (Y ⟨B,0,Z⟩)) s1 p3 wt Q p2 u rt p4 g,[]⟩ w:=by
 rw[a8w];refine qY (gR (aR8 u A g w hv (by omega)) λe a w' h=>h) ?_;rintro⟨BK,a28⟩H⟨rfl,z,g1,rfl⟩;have GL:∀{x:Bu},Hd w (λ_=>True) x.B4 x.rel.D'->Hd H (λ_=>True) x.B4 x.rel.D':=λh=>h.at (λ_ _=>trivial) λb c q _ e=>z.block b (Kw e);refine qY (gR (aR0 u A m f K f0 Q g1 H (hv.below z) Ar hs hp I (Am z hm) (Am z JQ) (λx hx=>(K6 x hx).below z) (hk.below z) Fv M Gg) λe a w' h=>h) ?_;rintro⟨Dk,a85⟩w2⟨rfl,E9,CJ,R,vZ,k,kc,Cx,rfl⟩;have s:=z.trans (kc.mono z.size);have t:∀r∈R,∃x∈A,x.rel=r:=λr M=>List.mem_map.1 (vZ.mem_iff.1 M);rcases k with⟨rfl,P,E,d9,iD,S⟩|⟨IA,r,FP,AS,rfl,q,rfl,W⟩;rotate_left;·refine wp_seq (gR (aR2 q B Cx w2 (H2 s U)) ?_);rintro e⟨El,qu⟩w3⟨rfl,rfl,X,K5,Ca,CN,ED⟩;obtain⟨x,hx,rfl⟩:=t r FP;refine⟨rfl,_,results30 CN ED X,_,rfl,AJ ⟨IA,x,hx,AS,q,rfl,?_⟩,G3 s.size K5,λb N I=>(Ca b I).trans (s.block b N)⟩;obtain⟨b,_,e1,e2⟩:=W;refine⟨b,Jf _,e1,(Ca b λiS=>?_).trans e2⟩;subst iS;rw[H2 s U]at e2;exact absurd e2 (by simp)
 have iD:E.Perm (ET f (Es A)):=iD.trans (vZ.map _);have P:K=[]∨∀x∈A,f0 x.rel=f x.rel:=P.imp id λh x hx=>h x.rel (vZ.mem_iff.2 (List.mem_map.2 ⟨x,hx,rfl⟩));refine qY (gR (aR1 Cx w2) λe a w' h=>h) ?_;rintro⟨El,qu⟩w3⟨rfl,rfl,g3,rfl⟩;have vP:E.length<=1000000:=by
  rw[iD.length_eq];have:(ET f (Es A)).length=A.length:=by simp[ET,Es]
  omega
 have nX:∀x∈E,x.1.1.size<=1000/\x.1.2.size<=1000/\x.2.size<=1000:=λx hx=>by obtain⟨r,M,rfl⟩:=List.mem_map.1 (iD.mem_iff.1 hx);obtain⟨y,hy,rfl⟩:=List.mem_map.1 M;exact⟨hp y hy,by have:=hs y hy;show y.rel.v.size<=1000;omega,wC y hy⟩
 refine qY (gR (aR3 u E9 A E B g3 w3 (H2 s U) (hv.below s) (λx hx=>(hn x hx).at (λ_ _=>trivial) λb c q _ e=>s.block b (Kw e)) (by omega) (λx hx=>⟨hp x hx,by have:=hs x hx;omega⟩) d9 vP nX) λe a w' h=>h) ?_;rintro⟨E2,aZi⟩w4⟨rfl,TN,aM9,QV,⟨L5,EE⟩,g4,rfl⟩;obtain⟨HF,ID,Cv,rfl⟩:∃HF ID Cv,TN=A4 HF ID Cv:=by
  rcases QV with⟨h,_⟩|⟨g,c,h,_⟩;·exact⟨_,_,_,h⟩
  exact⟨_,_,_,h⟩
 refine wp_ret ⟨rfl,_,results30 rfl rfl aM9,_,rfl,AD ⟨P,HF,ID,Cv,E,rfl,iD,S,QV⟩,?_,λb N I=>?_⟩;·exact G3 s.size L5
 exact(EE b (Ku N s.size) I).trans (s.block b N)
section
variable[CV]
def aBT{w0:A0}{BX N:zy}{own:zz}{f2:List Az}{Bc:Option Ak}{Ba i1 a2 cap:Nat}{Gs:List Rel}{m:Int}{T0:zw}{cs:List Ag}{q:List Cb}{Post:zv}(z:fP w0 BX N own f2 Bc Ba i1 a2 Gs m)(s:T0[1]?=Y (A4 (Y ⟨a2,0,Z⟩) Gs.length cap))(y:T0[11]?=Y (Ad (Y ⟨i1,0,Z⟩)))(k:∀(D:Nat->Bool)(Wb R:zy)(w:A0)(T:zw),D 7=A3->Holds Wb R w->Ax R T->Zk w0 BX own f2 Bc Ba i1 a2 cap Gs T0 D R T w->Goes Wb (G ((AW 30).at ⟨T,[]⟩ (B1 WW []::q)) cs) w Post):∀(o:List Nat)(D:Nat->Bool)(Wb R:zy)(w:A0)(T:zw),pW D o=A3->Holds Wb R w->Ax R T->Zk w0 BX own f2 Bc Ba i1 a2 cap Gs T0 D R T w->Goes Wb (G ((AW 30).at ⟨T,[]⟩ (B1 WW o::q)) cs) w Post|[],D,Wb,R,w,T,B3,t,I,h=>k D Wb R w T B3 t I h|i::rest,D,Wb,R,w,T,B3,t,I,h=>by have oE:(!D i&&(aL D i&&pW (λj=>j==i||D j) rest))=A3:=B3;rw[G0,G0,Qw]at oE;exact aXN z s y t I h oE.1 oE.2.1 λH R' w' BV a b c=>aBT z s y k rest _ H R' w' BV oE.2.2 a b c
def aVw{t:zy}{own:zz}(Q:fP w0 BX t own f2 Bc Ba i1 a2 Gs m)(M:T0[1]?=Y (A4 (Y ⟨a2,0,Z⟩) Gs.length cap))(N:T0[11]?=Y (Ad (Y ⟨i1,0,Z⟩)))(hs:T0.size=65)(s:Holds Wb BX w0)(y:Ax BX T0)(k:∀(Wb R:zy)(w:A0)(A:List Bu)(T:zw)(u:A1),Holds Wb R w->Ax R T->(∀b,BX b->R b)->T.size=65->(∀j,(∀i,i<8->j≠Lt i)->T[j]?=T0[j]?)->T[12]?=Y u->Zs Gs f2 BX R w0 u A w->Goes Wb (G ((AW 30).at ⟨T,[]⟩ q) cs) w Post):Goes Wb (G ((AW 30).at ⟨T0,[]⟩ (BS p5::q)) cs) w0 Post:=by rw[aQK];refine .draw λo K d=>?_;rw[aAE]at K;refine aBT Q M N (λD Wb R w T I s y h=>?_) o (λ_=>A9) Wb BX (w0.at d) T0 (List.all_eq_true.1 aTD o K) (s.at d) y ⟨hs,λ_ _=>rfl,λb z=>⟨z,rfl⟩,λk h=>(by cases h),λk h=>by cases h⟩;obtain⟨u,A,hu,U⟩:=h.left 6 (h.JM 7 I);refine .ctl rfl (λ_=>Hs) λH=>?_;exact k Wb R (w.at H) A T u (s.at H) y (λb z=>(h.old b z).1) h.size h.rest ((h.left 7 I).trans hu) (U.heap rfl λ_ h=>h)
end
def aKU(x y z:A1):HO A6 30 #[x,y,z] GG=(AW 30).at ⟨Hw x y z A' A' A' A' A' A' A' A' A' A' A' A' λ_=>A',[]⟩ [BS Ji]:=by rw[uT X' (show N8.body=Y Ji by kernel_rfl)];kernel_rfl
def Ax.aTA{x z:A1}(h:Ax R #[x,y,z]):Ax R (Hw x y z A' A' A' A' A' A' A' A' A' A' A' A' λ_=>A'):=by
 have e:(Hw x y z A' A' A' A' A' A' A' A' A' A' A' A' λ_=>A')=(((MU 65 A').setIfInBounds 0 x).setIfInBounds 1 y).setIfInBounds 2 z:=by kernel_rfl
 rw[e];refine Ax.set (Ax.set (Ax.set (Aq.WU λv hv=>?_) (Ax.nth h 0 rfl) 0) (Ax.nth h 1 rfl) 1) (Ax.nth h 2 rfl) 2;rw[Array.toList_replicate]at hv;rw[List.eq_of_mem_replicate hv];exact AN.tuple Aq.nil
structure a2e(w:A0)(R JW:zy)(root own:zz)(f2:List Az)(a2:Nat)(Gs:List Rel)(m:Int)(f:Rel->zz):Prop where
 Hy:V.Hy root
 lines:Lo (V.parse root).1=MP own f2
 size:root.size<=1000000000
 whole:Whole Gs f2 own
 zE:∀x∈f2,x.1≠own
 check:∀r∈Gs,V.JN r.p r.v=Z
 aAg:∀r∈Gs,r.p.size<=1000
 reg:Ih w a2 Gs
 sub:∀b,JW b->R b
 Jo:O4 reads JW w
 MH:JW a2
 files:∀r∈Gs,∀a,r.BP=Y a->JW a.block
 EX:w.cell? ⟨0,0,Z⟩=Y (A7 A8 m)
 aL_:w.cell? ⟨5,15,Z⟩=Y (A7 F1 4)
 GO:∀r∈Gs,NI w r (f r)
 aXf:∀r∈Gs,(f r).size<=1000
 sep:∀a∈Gs,∀b∈Gs,DO a.name b.name=0->a.name=b.name
def zF(h:NI w r s)(e:∀a,r.BP=Y a->w'.heap[a.block]?=w.heap[a.block]?):NI w' r s:=by obtain⟨a,x,y,b,h2,h3,h4,z⟩:=h;have hc:=λo=>FG (w:=w) (w':=w') (a:=⟨a,o,Z⟩) (e ⟨a,0,Z⟩ b);exact⟨a,x,y,b,h2,(hc _).trans h3,(hc _).trans h4,z⟩
def uQ{E:List BO}(h:Iw w v E)(e:∀g,v.ownBlock=Y g->w'.heap[g]?=w.heap[g]?):Iw w' v E:=by
 rcases h with h|⟨g,c,rfl,h2⟩;·exact AD h
 have hc:=λo=>FG (a:=⟨g,o,Z⟩) (e g rfl);exact AJ ⟨g,c,rfl,λj b=>⟨(hc _).trans (h2 j b).1,(hc _).trans (h2 j b).2.1,(hc _).trans (h2 j b).2.2⟩⟩
def aHE(K:List BO)(f0:Rel->zz)(Gs:List Rel)(f2:List Az)(f:Rel->zz)(R:zy)(w:A0)(c':Ag)(cs':List Ag)(h:zy)(g':AR)(w':A0):Prop:=∃R' v A,g'=G (c'.finish v) cs'/\AN CM (C_ R') v v/\(∀b,R b->R' b)/\Holds h R' w'/\(∀b,R b->w'.heap[b]?=w.heap[b]?)/\tV K f0 A f v w'/\Sc A/\(∀x∈A,x.rel∈Gs)/\(Go.Proofs.YtcfhleenecfghaaGreatDoor.names A).Nodup/\∀x,x∈Go.Proofs.YtcfhleenecfghaaGreatDoor.names A↔N.Reach (MJ Gs) f2 x
section
variable[CV]
def aRA{JW:zy}{root own:zz}{f:Rel->zz}(K:List BO)(f0:Rel->zz)(s:a2e w R JW root own f2 a2 Gs m f)(m2:Holds Wb R w)(RY:Ax R #[J root,A4 (Y ⟨a2,0,Z⟩) Gs.length cap,J ⟨(Be K).toArray⟩])(UQ:Wn K)(iI:K=[]∨∀A:List Bu,Sc A->(∀x∈A,x.rel∈Gs)->(Go.Proofs.YtcfhleenecfghaaGreatDoor.names A).Nodup->(∀x,x∈Go.Proofs.YtcfhleenecfghaaGreatDoor.names A↔N.Reach (MJ Gs) f2 x)->K.Perm (ET f0 (Es A))):Goes Wb (G (HO A6 30 #[J root,A4 (Y ⟨a2,0,Z⟩) Gs.length cap,J ⟨(Be K).toArray⟩] GG) (c'::cs')) w (aHE K f0 Gs f2 f R w c' cs'):=by
 have NO:∀b,R b->b<w.heap.size:=λb z=>m2.closed.lt z;have a7d:=s.whole.roots;rw[aKU,aI1];refine .OW (Q:=λT M=>MV (J root) (A4 (Y ⟨a2,0,Z⟩) Gs.length cap) (J ⟨(Be K).toArray⟩) A' A' A' (Ad (Y ⟨w.heap.size,0,Z⟩)) DS A' A' A' A' A' A' A' T/\M.heap=w.heap.push (AF #[A4 Z 0 0,J ⟨#[]⟩] 59)) X' (by decide) aJH (Ax.aTA RY) m2 (λd T0=>JZ ?_ (aQz (λ_=>A') (on (w.at d) T0))) ?_;·rintro e a' w'⟨I,h2,rfl,h4⟩;exact⟨I,h2,h4,rfl⟩
 rintro Bb BK GZ M⟨⟨g1,rfl⟩,F3⟩e1 Dn Er Il;have e1:=e1.trans F3;have GL:M.heap.size=w.heap.size+1:=by rw[e1];simp
 have Au:∀b,b<w.heap.size->M.heap[b]?=w.heap[b]?:=λb z=>by rw[e1,H_ z,<-EP]
 have MF:M.heap[w.heap.size]?=Y (AF #[A4 Z 0 0,J ⟨#[]⟩] 59):=by rw[e1,SD,if_pos rfl]
 have a5U:R 0:=s.sub 0 (s.Jo.EX 0 (by decide));have aS:=NO 0 a5U;have Fj:M.cell? ⟨0,0,Z⟩=Y (A7 A8 m):=(FG (a:=⟨0,0,Z⟩) (Au 0 aS)).trans s.EX;refine .OW (Q:=λT w2=>∃P X,(∀j u,(MP own f2)[j]?=Y u->w2.cell? ⟨P,j,Z⟩=Y u)/\(M.heap.size<=w2.heap.size/\∀b,b<M.heap.size->w2.heap[b]?=M.heap[b]?)/\MV (J root) (A4 (Y ⟨a2,0,Z⟩) Gs.length cap) (J ⟨(Be K).toArray⟩) A' A' A' (Ad (Y ⟨w.heap.size,0,Z⟩)) DS (A4 (Y ⟨P,0,Z⟩) (f2.length+1) X) DS A' A' A' A' A' T) X' (by decide) aJI Dn Il (λd T0=>JZ ?_ (aR' root own f2 m g1 (on (M.at d) T0) s.Hy s.lines s.size Fj)) ?_;·rintro e a' w'⟨I,h2,P,X,h3,h4,li⟩;exact⟨I,h2,P,X,h3,⟨h4.size,h4.block⟩,li⟩
 rintro P6 Dk F9 w2⟨P,X,e0,⟨GV,kc⟩,⟨Cx,rfl⟩⟩e2 GK M6 Sr;refine .OW (Q:=λT w3=>MV (J root) (A4 (Y ⟨a2,0,Z⟩) Gs.length cap) (J ⟨(Be K).toArray⟩) A' A' A' (Ad (Y ⟨w.heap.size,0,Z⟩)) DS (A4 (Y ⟨P,0,Z⟩) (f2.length+1) X) DS A' A' A' A' A' T/\w3.heap=w2.heap) X' (by decide) aJJ GK Sr (λd T0=>JZ ?_ (aR4 Cx (on (w2.at d) T0))) ?_;·rintro e a' w'⟨I,h2,rfl,h4⟩;exact⟨I,h2,h4,rfl⟩
 rintro Sa El v3 w3⟨⟨g3,rfl⟩,aKE⟩Co RJ QN Xw;have Co:=Co.trans aKE;have aO0:w3.cell? ⟨0,0,Z⟩=Y (A7 A8 m):=by refine(FG (a:=⟨0,0,Z⟩) ?_).trans Fj;rw[Co,e2];exact kc 0 (by omega)
 refine .OW (Q:=λT w4=>∃S,Iw w4 S K/\(K=[]->S=A4 Z 0 0)/\(w3.heap.size<=w4.heap.size/\∀b,b<w3.heap.size->w4.heap[b]?=w3.heap[b]?)/\MV (J root) (A4 (Y ⟨a2,0,Z⟩) Gs.length cap) (J ⟨(Be K).toArray⟩) A' A' A' (Ad (Y ⟨w.heap.size,0,Z⟩)) DS (A4 (Y ⟨P,0,Z⟩) (f2.length+1) X) DS S A' A' A' A' T) X' (by decide) aJK RJ Xw (λd T0=>JZ ?_ (aR5 K m g3 (on (w3.at d) T0) UQ aO0)) ?_;·rintro e a' w'⟨I,h2,S,h3,h4,li,CN⟩;exact⟨I,h2,S,h3,h4,⟨li.size,li.block⟩,CN⟩
 rintro h0 E2 v4 w4⟨S,aNk,au,⟨L5,EE⟩,⟨g4,rfl⟩⟩Dy NP aa Kz;have aNj:Iw w4 S K:=uQ aNk λg _=>by rw[Dy]
 refine .OW (Q:=λT W=>MV (J root) (A4 (Y ⟨a2,0,Z⟩) Gs.length cap) (J ⟨(Be K).toArray⟩) A' A' A' (Ad (Y ⟨w.heap.size,0,Z⟩)) DS (A4 (Y ⟨P,0,Z⟩) (f2.length+1) X) DS S A' A' A' A' T/\W.heap=w4.heap) X' (by decide) aJL NP Kz (λd T0=>JZ ?_ (aR6 g4 (on (w4.at d) T0))) ?_;·rintro e a' w'⟨I,h2,rfl,h4⟩;exact⟨I,h2,h4,rfl⟩
 rintro Zw IN v5 W⟨⟨PF,rfl⟩,aKF⟩J6 dk Xy aV;have J6:W.heap=w4.heap:=J6.trans aKF;have dU:w3.heap=F9.heap:=Co.trans e2;have PK:F9.heap.size<=W.heap.size:=by rw[J6,Dy,<-dU];exact L5
 have La:∀b,b<F9.heap.size->W.heap[b]?=F9.heap[b]?:=λb z=>by rw[J6,Dy,EE b (by rw[dU];exact z),dU]
 have ix:∀j u,(MP own f2)[j]?=Y u->W.cell? ⟨P,j,Z⟩=Y u:=λj u H1=>by have h2:=e0 j u H1;exact(FG (a:=⟨P,j,Z⟩) (La P (FA (h:=h2)))).trans h2
 refine .OW (Q:=λT t=>∃Bc Ba i1,t.heap[i1]?=Y (AF #[J own,A4 Bc f2.length Ba,A4 Z 0 0,A4 Z 0 0] 128)/\JH t (A4 Bc f2.length Ba) f2/\(W.heap.size<=t.heap.size/\∀b,b<W.heap.size->t.heap[b]?=W.heap[b]?)/\MV (J root) (A4 (Y ⟨a2,0,Z⟩) Gs.length cap) (J ⟨(Be K).toArray⟩) A' A' A' (Ad (Y ⟨w.heap.size,0,Z⟩)) DS (A4 (Y ⟨P,0,Z⟩) (f2.length+1) X) DS S (Ad (Y ⟨i1,0,Z⟩)) A' A' A' T) X' (by decide) aJM dk aV (λd T0=>JZ ?_ (aR7 own f2 P X PF (on (W.at d) T0) (by omega) ix)) ?_;·rintro e a' w'⟨I,h2,Bc,Ba,i1,_,h3,h4,li,CN⟩;exact⟨I,h2,Bc,Ba,i1,h3,h4,⟨li.size,li.block⟩,CN⟩
 rintro mh Mk aYe t⟨Bc,Ba,i1,IV,QV,⟨Uh,UU⟩,⟨Vs,rfl⟩⟩LX v_ a5v dh;have D7:∀b,b<M.heap.size->t.heap[b]?=M.heap[b]?:=λb z=>by rw[LX,UU b (by omega),La b (by omega),kc b z]
 have oF:∀b,b<w.heap.size->t.heap[b]?=w.heap[b]?:=λb z=>(D7 b (by omega)).trans (Au b z);have Xz:∀b,R b->mh b:=λb z=>a5v b (Xy b (aa b (QN b (M6 b (Er b z)))));have a7V:t.heap[i1]?=Y (AF #[J own,A4 Bc f2.length Ba,A4 Z 0 0,A4 Z 0 0] 128):=by rw[LX];exact IV
 have a7W:mh i1:=AN.YL (Ax.nth v_ 11 rfl);have a5Z:mh w.heap.size:=AN.YL (Ax.nth v_ 6 rfl);refine .ctl rfl (λ_=>FT) λd=>?_;have v6:fP (t.at d) mh JW own f2 Bc Ba i1 a2 Gs m:=by
  refine⟨s.whole,s.zE,s.check,λr A2=>⟨by have:=s.aAg r A2;omega,by have:=s.whole.AY r A2;omega⟩,a7V,a7W,xw QV λg _=>by show t.heap[g]?=_;rw[LX],λg AI=>?_,λi hi=>?_,λb z=>Xz b (s.sub b z),s.Jo.same (λb z=>oF b (NO b (s.sub b z))) ?_,s.MH,s.files,λb z=>dh.closed.lt z,?_⟩;·obtain⟨o,e,k⟩:=dh.closed.heap i1 a7W;rw[a7V]at e;obtain rfl:=CH e;cases k with|cells _ hv _=>exact AN.yN (Aq.nth 1 hv rfl) AI
  ·have hc:=λo=>FG (w:=w) (w':=t) (a:=⟨a2,o,Z⟩) (oF a2 (NO a2 (s.sub a2 s.MH)));obtain⟨a,b,c,d⟩:=s.reg i hi;exact⟨(hc _).trans a,(hc _).trans b,(hc _).trans c,(hc _).trans d⟩
  ·have:=s.Jo.low;show Ci<=t.heap.size;have h2:=dh.closed.lt a5Z;omega
  exact(FG (a:=⟨0,0,Z⟩) (oF 0 aS)).trans s.EX
 refine aVw (cap:=cap) v6 rfl rfl rfl (dh.at d) v_ ?_;rintro aHd aHY Tk A a3A Od nY ng nf aPB a7a aPI H;obtain⟨f8,rfl⟩:=a2L aPB;have a7P:∀j,j<12->∀i,i<8->j≠Lt i:=by intro j H1 i hi;match i,hi with|0,_|1,_|2,_|3,_|4,_|5,_|6,_|7,_=>exact λe=>absurd (e▸H1) (by decide)
 have aKG:f8 6=Ad (Y ⟨w.heap.size,0,Z⟩):=CH (a7a 6 (a7P 6 (by decide)));have aKA:f8 10=S:=CH (a7a 10 (a7P 10 (by decide)));have aKB:f8 12=Od:=CH aPI;rw[aKG,aKA,aKB]at ng⊢;rw[<-a8w];have Dz:∀b,R b->Tk.heap[b]?=w.heap[b]?:=λb z=>(H.same b (Xz b z)).trans (oF b (NO b z));have aMA:Tk.heap[w.heap.size]?=Y (AF #[A4 Z 0 0,J ⟨#[]⟩] 59):=((H.same _ a5Z).trans (D7 _ (by omega))).trans MF;have vJ:A.length<=Gs.length:=by
  have I:=N.pT (U:=Gs.map Rel.name) H.nodup λx hx=>by obtain⟨r,A2,e⟩:=s.whole.reach ((H.reach x).1 hx);exact List.mem_map.2 ⟨r,A2,e⟩
  simpa[Go.Proofs.YtcfhleenecfghaaGreatDoor.names]using I
 have wB:=s.whole.hh;have i6:(Es A).Pairwise λa b=>DO a.name b.name≠0:=by
  have I:((Es A).map Rel.name).Nodup:=by rw[show(Es A).map Rel.name=Go.Proofs.YtcfhleenecfghaaGreatDoor.names A by simp[Es,Go.Proofs.YtcfhleenecfghaaGreatDoor.names]];exact H.nodup
  rw[tM,Q6]at I;refine I.imp_of_mem λ{a b}AB z dn AV=>dn ?_;obtain⟨x,hx,rfl⟩:=List.mem_map.1 AB;obtain⟨y,hy,rfl⟩:=List.mem_map.1 z;exact s.sep _ (H.Kb x hx).1 _ (H.Kb y hy).1 AV
 have aO1:Tk.cell? ⟨0,0,Z⟩=Y (A7 A8 m):=(FG (a:=⟨0,0,Z⟩) (Dz 0 a5U)).trans s.EX;have aLw:R 5:=s.sub 5 (s.Jo.EX 5 (by decide));have JQ:Tk.cell? ⟨5,15,Z⟩=Y (A7 F1 4):=(FG (a:=⟨5,15,Z⟩) (Dz 5 aLw)).trans s.aL_;have aNl:Iw Tk S K:=uQ aNj λg AI=>by have a6s:h0 g:=AN.yN (Ax.nth NP 10 rfl) AI;have EU:=Kz.closed.lt a6s;rw[H.same g (a5v g (Xy g a6s)),show(t.at d).heap=t.heap from rfl,LX,UU g (by rw[J6];exact EU),J6]
 refine .tail (Q:=λv M=>tV K f0 A f v M/\Tk.heap.size<=M.heap.size/\∀b,b<Tk.heap.size->b≠w.heap.size->M.heap[b]?=Tk.heap[b]?) X' (by decide) aJN ng nY (λT0=>aR9 Od A m f K f0 S w.heap.size f8 (on Tk T0) aMA (aBH H.sl rfl) (λx hx=>(H.Kb x hx).2.at (λ_ _=>trivial) λ_ _ _ _ _=>rfl) (by omega) (λx hx=>s.whole.AY _ (H.Kb x hx).1) (λx hx=>s.aAg _ (H.Kb x hx).1) i6 aO1 JQ (λx hx=>zF (s.GO _ (H.Kb x hx).1) λa AB=>Dz _ (s.sub _ (s.files _ (H.Kb x hx).1 a AB))) (λx hx=>s.aXf _ (H.Kb x hx).1) (uQ aNl λ_ _=>rfl) au UQ.Tb (iI.imp id λh=>h A H.order (λx hx=>(H.Kb x hx).1) H.nodup H.reach)) ?_;rintro P7 v N5 acK⟨wU,aat,RL⟩aM hv vY M5;refine .here ⟨P7,v,A,rfl,hv,λb z=>vY b (nf b (Xz b z)),M5,λb z=>?_,?_,H.order,λx hx=>(H.Kb x hx).1,H.nodup,H.reach⟩;·have I:=nY.closed.lt (nf b (Xz b z));have h2:=NO b z;rw[aM,RL b I (by omega)];exact Dz b z
 rcases wU with⟨AV,a,n,c,E,I,h2,h3,h4⟩|⟨AV,x,hx,I,q,h2,b,h3,h4,li⟩;·exact AD ⟨AV,a,n,c,E,I,h2,h3,a9T h4 aM⟩
 exact AJ ⟨AV,x,hx,I,q,h2,b,h3,h4,by rw[aM];exact li⟩
end
section
variable{Wb R:zy}{f0:Nat}{ops:Array BR}{i:Nat}{rest:List Nat}{q:List Cb}{cs:List Ag}{o:BR}{T:zw}{w:A0}{d:Nat}{Post:zv}
end
section
variable[CV]
end
def aPJ{D:List Nat}(b:D.contains d=A3)(T:zw)(v:A1):Cd D (T.setIfInBounds d v)=Cd D T:=by
 apply Array.ext_getElem?;intro i;unfold Cd;rw[fK,fK];by_cases e:d=i
 ·subst e;rw[Array.getElem?_setIfInBounds];by_cases h:d<T.size;·simp only[↓reduceIte,h,LQ,b];rw[EP h];simp only[LQ]
  simp only[↓reduceIte,h,Option.map_none];rw[Np (by omega)];rfl
 rw[Gp e]
section
variable{Wb R:zy}{ops:Array BR}{i:Nat}{rest:List Nat}{q:List Cb}{cs:List Ag}{o:BR}{T:zw}{w:A0}{d:Nat}{Post:zv}
end
def Ax.Rw(h:Ax R (Cd [0,25] T))(hv:AN CM (C_ R) v v)(b:[0,25].contains d=A9):Ax R (Cd [0,25] (T.setIfInBounds d v)):=by rw[xJ _ _ b];exact Ax.set h hv d
def Ax.TS(h:Ax R (Cd [0,25] T))(i:Nat)(hi:[0,25].contains i=A9)(e:T[i]?=Y v):AN CM (C_ R) v v:=by rw[<-RX hi T]at e;exact Ax.nth h i e
section
variable{Wb R:zy}{ops:Array BR}{i:Nat}{rest:List Nat}{q:List Cb}{cs:List Ag}{o:BR}{T:zw}{w:A0}{d:Nat}{Post:zv}
def Goes.a3q{f:Nat}{opd:Array C'}{ats:Array Aj}{args:zw}{Q:A1->A0->Prop}(z:ops[i]?=Y o)(t:Gt o (I6 ops T)=A3)(P:o.op=.call {callee:=N7 (.func f),args:=opd,argTypes:=ats})(S:o.dst=Y d)(W:A6.funcs[f]?=Y fn)(X:(fn.name== "runtime.NumGoroutine")=A9)(N:fn.body.isSome=A3)(GM:[0,25].contains d=A9)(M:opd.map (Cg ⟨T,[]⟩)=args)(H:Holds Wb R w)(K:Ax R (Cd [0,25] T))(RY:Ax R args)(UX:∀x,CallsC f args (w.at x) Q)(k:∀h R' v w',Q v w'->(∀b,R b->R' b)->Holds h R' w'->Ax R' (Cd [0,25] (T.setIfInBounds d v))->Goes h (G ((AW 8).at ⟨T.setIfInBounds d v,[]⟩ (B1 ops rest::q)) cs) w' Post):Goes Wb (G ((AW 8).at ⟨T,[]⟩ (B1 ops (i::rest)::q)) cs) w Post:=by obtain⟨s,U⟩:=Option.isSome_iff_exists.1 N;refine .ctl rfl (λw=>Tg z t (by simp[AW]) P W X U) λx=>?_;rw[M];refine(UX x Wb R _ cs (H.at x) RY).bind ?_;rintro h g' w'⟨R',v,rfl,hv,AH,y,I⟩;rw[LF,z,SZ,S];exact k h R' v w' AH y I (Ax.Rw (Ax.mono K y) hv GM)
def Goes.yJ{Q:A1->A0->Prop}(AA:ops[i]?=Y o)(S:Gt o (I6 ops T)=A3)(B3:Qn A6 DV IE [1000007,1000008] 8 o.op=A3)(W:Lu A6 o=A3)(X:MR o.op=A9)(b9:(opsOf o.op).all (Uy DV [1000007,1000008])=A3)(Hn:o.dst=Y d)(s:A6.funcs[8]?.isSome=A3)(GM:[0,25].contains d=A9)(y:Holds Wb R w)(z:Ax R (Cd [0,25] T))(HV:∀T0,∃v h,(Ab (Cg ⟨T,[]⟩) o).run A6 (on w T0)=Ac (D6 v) h/\Q v h)(k:∀R' v h w',Q v h->w'.heap=h.heap->(∀b,R b->R' b)->Holds Wb R' w'->Ax R' (Cd [0,25] (T.setIfInBounds d v))->Goes Wb (G ((AW 8).at ⟨T.setIfInBounds d v,[]⟩ (B1 ops rest::q)) cs) w' Post):Goes Wb (G ((AW 8).at ⟨T,[]⟩ (B1 ops (i::rest)::q)) cs) w Post:=by
 obtain⟨K,s⟩:=Option.isSome_iff_exists.1 s;have BG:Ei A6 CM DV WX 8 (C_ R) [] ((AW 8).at ⟨T,[]⟩ []) ((AW 8).at ⟨T,[]⟩ []):=by refine⟨rfl,⟨K,s,by rw[Tu]at s;obtain rfl:=CH s;kernel_rfl⟩,rfl,λi hi=>(by cases hi),⟨rfl,rfl⟩,rfl,⟨rfl,rfl⟩,⟨rfl,rfl⟩,z,λt AP=>λ_ _=>trivial⟩
 have AI:∀b,b<Ci->(C_ R).rel b b:=λb N=>⟨rfl,y.closed.EX b N⟩;refine .KB (WV qH (λ_=>trivial) (b0:=AW 8) (a:=⟨T,[]⟩) (rest:=rest) (q:=q) (cs:=cs) (ow:=[1000007,1000008]) (Q:=Q) AA S (by simp[AW]) B3 W X (λx hx=>?_) y.closed y.low λT0=>?_) ?_;·have:=BG.eval AI UI x (List.all_eq_true.1 b9 x hx);rw[aDm]at this;exact this
 ·obtain⟨v,h,M,h2⟩:=HV T0;have h3:=Rs (P:=A6) (Ab (Cg ⟨T,[]⟩) o) (on w T0) #[];rw[M]at h3;exact⟨D6 v,v,h,_,Q7 h3 rfl,AD rfl,h2⟩
 rintro g w'⟨I,v,h,rfl,hv,AH,H,C7,U,Du,_⟩;have e:Z8 ⟨T,[]⟩ o.dst v=⟨T.setIfInBounds d v,[]⟩:=by rw[Hn];rfl
 rw[e];exact k I v h w' AH C7 H ⟨U,Du⟩ (Ax.Rw (Ax.mono z H) hv GM)
def Goes.aTJ{Q:A0->Prop}(AA:ops[i]?=Y o)(S:Gt o (I6 ops T)=A3)(B3:Qn A6 DV IE [1000007,1000008] 8 o.op=A3)(W:Lu A6 o=A3)(X:MR o.op=A9)(b9:(opsOf o.op).all (Uy DV [1000007,1000008])=A3)(Hn:o.dst=Z)(s:A6.funcs[8]?.isSome=A3)(K:True)(y:Holds Wb R w)(z:Ax R (Cd [0,25] T))(HV:∀T0,∃h,(Ab (Cg ⟨T,[]⟩) o).run A6 (on w T0)=Ac .skip h/\Q h)(k:∀R' h w',Q h->w'.heap=h.heap->(∀b,R b->R' b)->Holds Wb R' w'->Ax R' (Cd [0,25] T)->Goes Wb (G ((AW 8).at ⟨T,[]⟩ (B1 ops rest::q)) cs) w' Post):Goes Wb (G ((AW 8).at ⟨T,[]⟩ (B1 ops (i::rest)::q)) cs) w Post:=by
 obtain⟨M,s⟩:=Option.isSome_iff_exists.1 s;have BG:Ei A6 CM DV WX 8 (C_ R) [] ((AW 8).at ⟨T,[]⟩ []) ((AW 8).at ⟨T,[]⟩ []):=by refine⟨rfl,⟨M,s,by rw[Tu]at s;obtain rfl:=CH s;kernel_rfl⟩,rfl,λi hi=>(by cases hi),⟨rfl,rfl⟩,rfl,⟨rfl,rfl⟩,⟨rfl,rfl⟩,z,λt AP=>λ_ _=>trivial⟩
 have AI:∀b,b<Ci->(C_ R).rel b b:=λb U=>⟨rfl,y.closed.EX b U⟩;refine .KB (WV qH (λ_=>trivial) (b0:=AW 8) (a:=⟨T,[]⟩) (rest:=rest) (q:=q) (cs:=cs) (ow:=[1000007,1000008]) (Q:=λ_ h=>Q h) AA S (by simp[AW]) B3 W X (λx hx=>?_) y.closed y.low λT0=>?_) ?_;·have:=BG.eval AI UI x (List.all_eq_true.1 b9 x hx);rw[aDm]at this;exact this
 ·obtain⟨h,N,h2⟩:=HV T0;have h3:=Rs (P:=A6) (Ab (Cg ⟨T,[]⟩) o) (on w T0) #[];rw[N]at h3;exact⟨.skip,A',h,_,Q7 h3 rfl,AJ ⟨rfl,rfl⟩,h2⟩
 rintro g w'⟨I,v,h,rfl,hv,AH,H,C7,Hm,Du,_⟩;have e:Z8 ⟨T,[]⟩ o.dst v=⟨T,[]⟩:=by rw[Hn];rfl
 rw[e];exact k I h w' AH C7 H ⟨Hm,Du⟩ (Ax.mono z H)
def Goes.dR{v:A1}(N:ops[i]?=Y o)(t:Gt o (I6 ops T)=A3)(U:Qn A6 DV IE [1000007,1000008] 8 o.op=A3)(P:Lu A6 o=A3)(S:MR o.op=A9)(W:(opsOf o.op).all (Uy DV [1000007,1000008])=A3)(K:o.dst=Y d)(M:A6.funcs[8]?.isSome=A3)(X:[0,25].contains d=A9)(s:Holds Wb R w)(H:Ax R (Cd [0,25] T))(v1:∀w,(Ab (Cg ⟨T,[]⟩) o).run A6 w=Ac (D6 v) w)(k:∀R' w',w'.heap=w.heap->(∀b,R b->R' b)->Holds Wb R' w'->Ax R' (Cd [0,25] (T.setIfInBounds d v))->Goes Wb (G ((AW 8).at ⟨T.setIfInBounds d v,[]⟩ (B1 ops rest::q)) cs) w' Post):Goes Wb (G ((AW 8).at ⟨T,[]⟩ (B1 ops (i::rest)::q)) cs) w Post:=Goes.yJ (Q:=λu h=>u=v/\h.heap=w.heap) N t U P S W K M X s H (λT0=>⟨v,_,v1 _,rfl,rfl⟩) λR' u h w'⟨hu,he⟩e z y I=>by subst hu;exact k R' w' (e.trans he) z y I
end
end
end Go.Proofs.YtcfhleenecfghaaGreatDoor.Twin
namespace Go.Proofs.YtcfhleenecfghaaGreatDoor
section
open Go.RowKit
open Go.Proofs.YtcfhleenecfghaaGreatDoor.Twin
variable{x:BO}{s:zz}{K:List BO}{Gs:List Rel}{b:UInt8}
structure FL(AY:Nat->Nat->Nat)(g5:Nat->Nat->List (Nat×Nat))(f2:List (Nat×Nat))(Gs:List Rel):Prop where
 len:Gs.length=15
 rel:∀j(h:j<Gs.length),Gs[j].p=V.mp (j/3)/\Gs[j].v=V.E9 (AY (j/3) (j%3))/\Gs[j].D'=(g5 (j/3) (j%3)).map EZ
 low:∀q k,q<5->k<3->AY q k<10
 inj:∀q j k,q<5->j<3->k<3->AY q j=AY q k->j=k
 Nc:∀q k,q<5->k<3->∀x∈g5 q k,x.1<5/\∃j,j<3/\x.2=AY x.1 j
 root:∀x∈f2,x.1<5/\∃j,j<3/\x.2=AY x.1 j
def RG(AY:Nat->Nat->Nat)(g5:Nat->Nat->List (Nat×Nat))(x:Nat×Nat):List (Nat×Nat):=match(Hf 3).find? λk=>AY x.1 k==x.2with|Y k=>g5 x.1 k|Z=>[]
def a9U{x y:Nat×Nat}(h1:x.1<5/\x.2<30)(h2:y.1<5/\y.2<30)(h:EZ x=EZ y):x=y:=by have a:=a9f h1.1 h2.1 (congrArg h' h);have b:=aSk h1.2 h2.2 (congrArg Ez h);exact Q7 a b
section
variable{AY:Nat->Nat->Nat}{g5:Nat->Nat->List (Nat×Nat)}{f2:List (Nat×Nat)}{Gs:List Rel}
def FL.RG(h:FL AY g5 f2 Gs)(q k:Nat)(y:q<5)(b:k<3):RG AY g5 (q,AY q k)=g5 q k:=by
 unfold YtcfhleenecfghaaGreatDoor.RG;cases e:(Hf 3).find? λj=>AY q j==AY q k with
 |none=>have:=List.find?_eq_none.1 e k (List.mem_range.2 b);simp at this
 |some j=>
  have s:AY q j=AY q k:=by simpa using aGs e
  have h2:=List.mem_range.1 (aH1 e);obtain rfl:=h.inj q j k y h2 b s;rfl
def FL.ok(h:FL AY g5 f2 Gs){x:Nat×Nat}(s:N.Reach (YtcfhleenecfghaaGreatDoor.RG AY g5) f2 x):x.1<5/\∃k,k<3/\x.2=AY x.1 k:=by induction s with|root hx=>exact h.root _ hx|@step x y _ hy z=>obtain⟨b,k,h2,h3⟩:=z;have e:x=(x.1,AY x.1 k):=Q7 rfl h3;rw[e,h.RG x.1 k b h2]at hy;exact h.Nc _ _ b h2 y hy
def FL.name(h:FL AY g5 f2 Gs)(j:Nat)(s:j<Gs.length):Gs[j].name=EZ (j/3,AY (j/3) (j%3)):=by obtain⟨b,h2,_⟩:=h.rel j s;exact Q7 b h2
def FL.find(h:FL AY g5 f2 Gs)(q k:Nat)(y:q<5)(s:k<3):∃r∈Gs,r.name=EZ (q,AY q k)/\r.D'=(g5 q k).map EZ:=by
 have b:q*3+k<Gs.length:=by rw[h.len];omega
 have e1:(q*3+k)/3=q:=by omega
 have e2:(q*3+k)%3=k:=by omega
 refine⟨Gs[q*3+k],DU b,?_,?_⟩;·rw[h.name _ b,e1,e2]
 rw[(h.rel _ b).2.2,e1,e2]
def FL.of(h:FL AY g5 f2 Gs){r:Rel}(s:r∈Gs):∃q k,q<5/\k<3/\r.name=EZ (q,AY q k)/\r.D'=(g5 q k).map EZ:=by obtain⟨j,b,rfl⟩:=List.mem_iff_getElem.1 s;have:=h.len;exact⟨j/3,j%3,by omega,by omega,h.name j b,(h.rel j b).2.2⟩
def FL.T_(h:FL AY g5 f2 Gs):Mh Gs:=by
 refine⟨?_,λr y=>?_,by rw[h.len];omega⟩;·rw[tM,List.pairwise_iff_getElem];intro i j hi s H e;rw[gp,gp]at e;have K:=h.len;rw[Ks]at hi s;rw[h.name i hi,h.name j s]at e;have e2:=a9U ⟨by show i/3<5;omega,by have:=h.low (i/3) (i%3) (by omega) (by omega);show AY (i/3) (i%3)<30;omega⟩ ⟨by show j/3<5;omega,by have:=h.low (j/3) (j%3) (by omega) (by omega);show AY (j/3) (j%3)<30;omega⟩ e;have a:i/3=j/3:=congrArg h' e2;have b:AY (i/3) (i%3)=AY (j/3) (j%3):=congrArg Ez e2;rw[a]at b;have:=h.inj (j/3) (i%3) (j%3) (by omega) (by omega) (by omega) b;omega
 obtain⟨q,k,M,I,e,_⟩:=h.of y;rw[e];have z:(EZ (q,AY q k)).1.size=3:=Uu q;have h2:(EZ (q,AY q k)).2.size<=9:=YR _;exact⟨by unfold BH;omega,by unfold BH;omega⟩
def FL.MJ(h:FL AY g5 f2 Gs)(q k:Nat)(y:q<5)(s:k<3):MJ Gs (EZ (q,AY q k))=(g5 q k).map EZ:=by obtain⟨r,z,b,h2⟩:=h.find q k y s;rw[<-b,yA h.T_ z,h2]
def FL.reach(h:FL AY g5 f2 Gs)(m:Az):N.Reach (Twin.MJ Gs) (f2.map EZ) m↔∃x,N.Reach (YtcfhleenecfghaaGreatDoor.RG AY g5) f2 x/\m=EZ x:=by
 constructor;·intro H;induction H with|root hx=>obtain⟨x,I,rfl⟩:=List.mem_map.1 hx;exact⟨x,.root I,rfl⟩|step _ hy z=>obtain⟨x,hx,rfl⟩:=z;obtain⟨b,k,h2,h3⟩:=h.ok hx;have e:x=(x.1,AY x.1 k):=Q7 rfl h3;rw[e,h.MJ x.1 k b h2]at hy;obtain⟨y,s,rfl⟩:=List.mem_map.1 hy;refine⟨y,.step hx ?_,rfl⟩;rw[e,h.RG x.1 k b h2];exact s
 rintro⟨x,hx,rfl⟩;induction hx with|root hx=>exact .root (List.mem_map.2 ⟨_,hx,rfl⟩)|@step x y hx hy z=>obtain⟨b,k,h2,h3⟩:=h.ok hx;have e:x=(x.1,AY x.1 k):=Q7 rfl h3;refine .step z ?_;rw[e,h.RG x.1 k b h2]at hy;rw[e,h.MJ x.1 k b h2];exact List.mem_map.2 ⟨y,hy,rfl⟩
end
def aSL{x y:Nat×Nat}(h1:x.1<5/\x.2<10)(h2:y.1<5/\y.2<10)(s:DO (EZ x) (EZ y)<=0)(K:x≠y):N.Lex x y:=by
 unfold DO EZ at s;simp only[V.PT,V.WQ]at s;have H:∀a b:Fin 5,(a.val<b.val->IJ (V.It a.val) (V.It b.val)=-1)/\(b.val<a.val->IJ (V.It a.val) (V.It b.val)=1)/\(a.val=b.val->IJ (V.It a.val) (V.It b.val)=0):=by decide
 have I:∀a b:Fin 10,b.val<a.val->V.order (V.K7 a.val) (V.K7 b.val)=1:=by decide+kernel
 rcases a2j x.1 y.1 with h|h|h;·exact AD h
 ·right;refine⟨h,?_⟩;rw[(H ⟨x.1,h1.1⟩ ⟨y.1,h2.1⟩).2.2 h,if_neg (by simp)]at s;rcases a2j x.2 y.2 with z|z|z;·exact z
  ·exact absurd (Q7 h z) K
  rw[I ⟨x.2,h1.2⟩ ⟨y.2,h2.2⟩ z]at s;exact absurd s (by decide)
 rw[(H ⟨x.1,h1.1⟩ ⟨y.1,h2.1⟩).2.1 h,if_pos (by decide)]at s;exact absurd s (by decide)
def a9V{x y:Nat×Nat}(h1:x.1<5/\x.2<10)(h2:y.1<5/\y.2<10)(s:DO (EZ x) (EZ y)=0):x=y:=by
 by_cases h:x=y;·exact h
 unfold DO EZ at s;simp only[V.PT,V.WQ]at s;have H:∀a b:Fin 5,IJ (V.It a.val) (V.It b.val)=0->a.val=b.val:=by decide
 have I:∀a b:Fin 10,V.order (V.K7 a.val) (V.K7 b.val)=0->a.val=b.val:=by decide+kernel
 split at s;·exact absurd s (by assumption)
 rename_i z;exact Q7 (H ⟨x.1,h1.1⟩ ⟨y.1,h2.1⟩ (Classical.not_not.1 z)) (I ⟨x.2,h1.2⟩ ⟨y.2,h2.2⟩ s)
def Yc(x y:Bu):Bool:=Bz (x.rel.p.toList=y.rel.p.toList)
def zH(x:Bu)(L:List Bu):∀k,Ec (x::L) (k+1)=(if Un (x::L) 0 then[x]else[])++Ec L k
 |0=>by show(if Un (x::L) 0 then[]++[x]else[])=_;simp[Ec]
 |k+1=>by
  have h:=zH x L k;have b:Un (x::L) (k+1)=Un L k:=by unfold Un;simp
  rw[Ec,h,Ec];simp only[List.getElem?_cons_succ,b];split
  ·split;·rw[List.append_assoc]
   rfl
  rfl
def aC9:∀L:List Bu,Ec L L.length=N.TM Yc L
 |[]=>rfl
 |[x]=>by rw[Kr,zH];rfl
 |x::y::l=>by
  have h:=aC9 (y::l);rw[Kr,zH,h,N.TM];have b:Un (x::y::l) 0=!Yc x y:=by unfold Un Yc;simp
  rw[b];cases Yc x y<;>simp
def a9n:∀(A:List Bu)(X:List (Nat×Nat)),names A=X.map EZ->(∀x∈X,x.1<5)->names (N.TM Yc A)=(N.TM N.ei X).map EZ
 |[],[],_,_=>rfl
 |[],_::_,h,_=>by cases h
 |_::_,[],h,_=>by cases h
 |[a],[x],h,_=>h
 |[a],x::y::X,h,_=>by have:=congrArg XV h;simp[names]at this
 |a::b::A,[x],h,_=>by have:=congrArg XV h;simp[names]at this
 |a::b::A,x::y::X,h,hx=>by
  have I:a.rel.name::b.rel.name::names A=EZ x::EZ y::X.map EZ:=h;injection I with e1 e2;have H:=e2;injection e2 with e2 k;have s:=a9n (b::A) (y::X) H λz M=>hx z (Jd _ M);have hs:Yc a b=N.ei x y:=by
   unfold Yc N.ei;have Q:a.rel.p=V.mp x.1:=congrArg h' e1;have U:b.rel.p=V.mp y.1:=congrArg h' e2;rw[Q,U];by_cases e:x.1=y.1;·rw[e];simp
   have:¬(V.mp x.1).toList=(V.mp y.1).toList:=λK=>e (a9f (hx x (by simp)) (hx y (by simp)) ((dQ _ _).1 K));rw[decide_eq_false this];simp[e]
  rw[N.TM,N.TM,hs];cases N.ei x y;·show a.rel.name::names (N.TM Yc (b::A))=EZ x::(N.TM N.ei (y::X)).map EZ;rw[s,e1]
  exact s
def FL.a8q{AY:Nat->Nat->Nat}{g5:Nat->Nat->List (Nat×Nat)}{f2:List (Nat×Nat)}(h:FL AY g5 f2 Gs)(A:List Bu)(t:Sc A)(K:(names A).Nodup)(Q:∀x,x∈names A↔N.Reach (Twin.MJ Gs) (f2.map EZ) x):∃X:List (Nat×Nat),X.Pairwise N.Lex/\(∀x,x∈X↔N.Reach (YtcfhleenecfghaaGreatDoor.RG AY g5) f2 x)/\names (Ec A A.length)=(N.TM N.ei X).map EZ:=by
 have U:∀B:List Bu,(∀m∈names B,∃x,N.Reach (YtcfhleenecfghaaGreatDoor.RG AY g5) f2 x/\m=EZ x)->∃X:List (Nat×Nat),names B=X.map EZ/\∀x∈X,N.Reach (YtcfhleenecfghaaGreatDoor.RG AY g5) f2 x:=by
  intro B;induction B with
  |nil=>exact λ_=>⟨[],rfl,λx hx=>by cases hx⟩
  |cons b B ih=>
   intro I;obtain⟨x,hx,e⟩:=I b.rel.name (Je ..);obtain⟨X,s,h2⟩:=ih λm H=>I m (Jd _ H);refine⟨x::X,?_,λy hy=>?_⟩;·show b.rel.name::names B=EZ x::X.map EZ;rw[e,s]
   rcases List.mem_cons.1 hy with rfl|hy;·exact hx
   exact h2 y hy
 obtain⟨X,s,h2⟩:=U A λm H=>(h.reach m).1 ((Q m).1 H);have z:∀x,N.Reach (YtcfhleenecfghaaGreatDoor.RG AY g5) f2 x->x.1<5/\x.2<10:=λx hx=>by obtain⟨a,k,b,c⟩:=h.ok hx;exact⟨a,by rw[c];exact h.low _ _ a b⟩
 refine⟨X,?_,λx=>⟨h2 x,λhx=>?_⟩,?_⟩
 ·have M:(names A).Pairwise λa b=>DO a b<=0:=by unfold names;rw[Q6];exact t
  rw[s,Q6]at M;rw[s,tM,Q6]at K;refine(List.pairwise_and_iff.2 ⟨M,K⟩).imp_of_mem ?_;intro x y hx hy⟨a,b⟩;exact aSL (z x (h2 x hx)) (z y (h2 y hy)) a λe=>b (by rw[e])
 ·have:=(Q (EZ x)).2 ((h.reach _).2 ⟨x,hx,rfl⟩);rw[s]at this;obtain⟨y,hy,e⟩:=List.mem_map.1 this;have Cc:=z x hx;have b2:=z y (h2 y hy);rw[a9U ⟨b2.1,by omega⟩ ⟨Cc.1,by omega⟩ e]at hy;exact hy
 rw[aC9];exact a9n A X s λx hx=>(z x (h2 x hx)).1
def aNG(u:Nat):NQ (V.Lc u)=A3:=by
 have h:∀i:Fin 16,NQ (V.nu[i.val]!)=A3:=by decide
 exact h ⟨u%16,Nat.mod_lt _ (by decide)⟩
def a6j:∀(n u:Nat)(s:zx),s.all NQ=A3->(V.T' n u s).all NQ=A3|0,_,_,h=>h|n+1,u,s,h=>a6j n (u/16) _ (by rw[List.all_cons,aNG,h];rfl)
def a8O{p v m x y:zz}(h:s.data.toList=V.Yh p v m x y):Qb s=A3:=by
 unfold Qb;rw[h,G0];unfold V.Yh V.ep at h⊢;refine⟨a6j 16 _ [] rfl,?_⟩;have b:=congrArg XV h;rw[V.w9]at b;have h2:s.size=s.data.toList.length:=by rw[Nq];rfl
 rw[h2,b];rfl
def a8N(h:Qb s=A3)(z:b=32∨b=10):b∉s.data.toList:=λH=>by
 unfold Qb at h;have y:=List.all_eq_true.1 (Bool.and_eq_true_iff.1 h).1 b H;rcases z with rfl|rfl;·exact absurd y (by decide)
 exact absurd y (by decide)
def yF{c:UInt8}{l:zx}(h:c∉l):∀k:Nat,l[k]?≠Y c:=λk e=>h (U8 e)
def a9K{q n:Nat}(s:q<5)(hn:n<10)(y:b=32∨b=10):b∉(V.mp q).data.toList/\b∉(V.E9 n).data.toList:=by
 rw[V.PT,V.WQ];have h:∀i:Fin 5,(32:UInt8)∉V.It i.val/\(10:UInt8)∉V.It i.val:=by decide
 have h2:∀i:Fin 10,(32:UInt8)∉V.K7 i.val/\(10:UInt8)∉V.K7 i.val:=by decide+kernel
 rcases y with rfl|rfl;·exact⟨(h ⟨q,s⟩).1,(h2 ⟨n,hn⟩).1⟩
 exact⟨(h ⟨q,s⟩).2,(h2 ⟨n,hn⟩).2⟩
def xr{q n:Nat}(y:q<5)(hn:n<10)(hs:Qb s=A3):Ns (EZ (q,n),s)/\10∉(Eo (EZ (q,n),s)).data.toList/\(EZ (q,n)).1.data.toList.length=3:=by
 obtain⟨z,H⟩:=a9K y hn (b:=32) (AD rfl);obtain⟨I,K⟩:=a9K y hn (b:=10) (AJ rfl);have N:s.size=16:=by unfold Qb at hs;simpa using(Bool.and_eq_true_iff.1 hs).2
 refine⟨⟨yF z,yF H,yF (a8N hs (AD rfl)),?_,hs,?_⟩,?_,?_⟩;·show V.JN (V.mp q) (V.E9 n)=Z;unfold V.JN V.M4 V.Sm;rw[V.PT,V.WQ,V.ji y,V.y5 (by omega)];rfl
 ·have M:=Uu q;have h2:=YR n;show(V.mp q).size<=1000/\(V.E9 n).size<=40/\s.size<=1000;omega
 ·rw[mv];intro h;rcases List.mem_append.1 h with h|h;·exact I h
  rcases List.mem_cons.1 h with h|h;·exact absurd h (by decide)
  rcases List.mem_append.1 h with h|h;·exact K h
  rcases List.mem_cons.1 h with h|h;·exact absurd h (by decide)
  exact a8N hs (AJ rfl) h
 show(V.mp q).data.toList.length=3;rw[V.PT];rfl
def y8(h:Mh Gs){a b:Rel}(s:a∈Gs)(y:b∈Gs)(e:a.name=b.name):a=b:=by obtain⟨i,hi,rfl⟩:=List.mem_iff_getElem.1 s;obtain⟨j,z,rfl⟩:=List.mem_iff_getElem.1 y;obtain rfl:=h.inj hi z e;rfl
def h_(f:Rel->zz)(A:List Bu):(ET f (Es A)).map (·.1)=names A:=by simp[ET,Es,names]
structure O2(Gs:List Rel)(f2:List (Nat×Nat))(A:List Bu):Prop where
 order:Sc A
 MH:∀x∈A,x.rel∈Gs
 nodup:(names A).Nodup
 reach:∀x,x∈names A↔N.Reach (Twin.MJ Gs) (f2.map EZ) x
section
variable{AY:Nat->Nat->Nat}{g5:Nat->Nat->List (Nat×Nat)}{f2:List (Nat×Nat)}{Gs cn:List Rel}{A G_:List Bu}{f:Rel->zz}{E:List BO}
def FL.md(h:FL AY g5 f2 Gs){r:Rel}(y:r∈Gs):∃x:Nat×Nat,x.1<5/\x.2<10/\r.name=EZ x:=by obtain⟨q,k,b,s,e,_⟩:=h.of y;exact⟨(q,AY q k),b,h.low q k b s,e⟩
def FL.sep(h:FL AY g5 f2 Gs)(s:O2 Gs f2 A){a b:Az}(z:a∈names A)(H:b∈names A)(e:DO a b=0):a=b:=by obtain⟨x,hx,rfl⟩:=List.mem_map.1 z;obtain⟨y,hy,rfl⟩:=List.mem_map.1 H;obtain⟨u,I,K,M⟩:=h.md (s.MH x hx);obtain⟨v,N,Q,U⟩:=h.md (s.MH y hy);rw[M,U]at e⊢;rw[a9V ⟨I,K⟩ ⟨N,Q⟩ e]
def FL.Tb(h:FL AY g5 f2 Gs)(s:O2 Gs f2 A)(hp:E.Perm (ET f (Es A)))(I:Oj E):E.Pairwise λa b=>DO a.1 b.1<0:=by
 have hn:(E.map (·.1)).Nodup:=by rw[(hp.map (·.1)).nodup_iff,h_];exact s.nodup
 rw[tM,Q6]at hn;have y:∀x∈E,x.1∈names A:=λx hx=>by rw[<-h_ f A];exact List.mem_map.2 ⟨x,hp.mem_iff.1 hx,rfl⟩
 refine(List.pairwise_and_iff.2 ⟨I,hn⟩).imp_of_mem λ{a b}z H dn=>?_;have K:DO a.1 b.1<=0:=dn.1;have h2:DO a.1 b.1≠0:=λe=>dn.2 (h.sep s (y a z) (y b H) e);omega
def FL.again(h:FL AY g5 f2 Gs)(b:O2 Gs f2 A)(H:∀r∈Gs,Qb (f r)=A3)(hp:E.Perm (ET f (Es A)))(I:Oj E):Wn E/\∀y∈E,Ns y/\10∉(Eo y).data.toList/\y.1.1.data.toList.length=3:=by
 have s:∀y∈E,Ns y/\10∉(Eo y).data.toList/\y.1.1.data.toList.length=3:=λy hy=>by obtain⟨r,K,rfl⟩:=List.mem_map.1 (hp.mem_iff.1 hy);obtain⟨x,hx,rfl⟩:=List.mem_map.1 K;obtain⟨u,M,Q,k⟩:=h.md (b.MH x hx);have:=xr M Q (H _ (b.MH x hx));rw[<-k]at this;exact this
 have AE:E.length<=15:=by
  have z:=N.pT (U:=Gs.map Rel.name) b.nodup λx hx=>by obtain⟨y,hy,rfl⟩:=List.mem_map.1 hx;exact List.mem_map.2 ⟨y.rel,b.MH y hy,rfl⟩
  rw[Ks,h.len]at z;have h2:=(hp.map (·.1)).length_eq;rw[h_,Ks]at h2;omega
 have hs:=uS E λy hy=>by have:=(s y hy).1.size;omega E.length (Ae _);rw[O3]at hs;exact⟨⟨λy hy=>(s y hy).1,λy hy=>(s y hy).2.1,h.Tb b hp I,by omega,by omega⟩,s⟩
def FL.a9m(h:FL AY g5 f2 Gs)(H:FL AY g5 f2 cn)(s:O2 Gs f2 A)(y:O2 cn f2 G_):names A=names G_:=by
 have z:∀x,x∈names A↔x∈names G_:=λx=>by rw[s.reach,y.reach,h.reach,H.reach]
 refine a2P (le:=λa b=>DO a b<=0) (λa b I K M h2=>h.sep s I ((z b).2 K) ?_) ?_ ?_ ((a2a s.nodup y.nodup).2 z);·have:=WN.2.1 a b;omega
 ·unfold names;rw[Q6];exact s.order
 unfold names;rw[Q6];exact y.order
def FL.aXy(h:FL AY g5 f2 Gs)(M:FL AY g5 f2 cn)(y:O2 Gs f2 A)(z:O2 cn f2 G_):names (Ec A A.length)=names (Ec G_ G_.length):=by
 obtain⟨X,H,m1,e1⟩:=h.a8q A y.order y.nodup y.reach;obtain⟨K,I,t,e2⟩:=M.a8q G_ z.order z.nodup z.reach;have Q:∀a b:Nat×Nat,N.Lex a b->N.Lex b a->a=b:=λa b s h2=>by unfold N.Lex at s h2;omega
 have hn:∀{k:List (Nat×Nat)},k.Pairwise N.Lex->k.Nodup:=λP=>P.imp λ{a b}U e=>by subst e;unfold N.Lex at U;omega
 have:X=K:=a2P (λa b _ _ s h2=>Q a b s h2) H I ((a2a (hn H) (hn I)).2 λx=>(m1 x).trans (t x).symm);rw[e1,e2,this]
noncomputable def TK(Gs:List Rel)(f:Rel->zz)(n:Az):zz:=open Classical in if h:∃r∈Gs,r.name=n then f (Z5 h)else⟨#[]⟩
def ot(h:Mh Gs){r:Rel}(b:r∈Gs):TK Gs f r.name=f r:=by have hx:∃As∈Gs,As.name=r.name:=⟨r,b,rfl⟩;unfold TK;rw[dif_pos hx];obtain⟨s,h2⟩:=To hx;rw[y8 h s b h2]
def FL.known(h:FL AY g5 f2 Gs)(s:FL AY g5 f2 cn)(b:O2 Gs f2 A)(y:O2 cn f2 G_)(f:Rel->zz):ET f (Es A)=ET (λr=>TK Gs f r.name) (Es G_):=by
 have e:∀(g:Az->zz)(B:List Bu),ET (λr=>g r.name) (Es B)=(names B).map λn=>(n,g n):=λg B=>by simp[ET,Es,names]
 rw[e,<-h.a9m s b y,<-e];unfold ET;refine a2Y λr z=>?_;obtain⟨x,hx,rfl⟩:=List.mem_map.1 z;show _=(x.rel.name,TK Gs f x.rel.name);rw[ot h.T_ (b.MH x hx)]
end
def pB(x:BO):(Gf x).data.toList=(Eo x).data.toList++[10]:=a4h x
def bsize(s:zz):s.size=s.data.toList.length:=by rw[Nq];rfl
def a4t(s:zz)(a b:Nat):(s.extract a b).data.toList=(s.data.toList.drop a).take (b-a):=by rw[aZg,Array.toList_extract]
def aLN(h:x∈K):∃j,j+(Gf x).size<=(Ha (Be K).toArray).size/\(Ha (Be K).toArray).extract j (j+(Gf x).size)=Gf x:=by
 obtain⟨s,b,e⟩:=aQJ x h;have e1:(Ha (Be K).toArray).data.toList=Be K:=List.toList_toArray;have y:(Gf x).size=(Eo x).data.toList.length+1:=by rw[bsize,pB,H7];rfl
 refine⟨s.length,?_,mw ?_⟩
 ·have h2:(Ha (Be K).toArray).size=(Be K).length:=by rw[bsize,e1]
  rw[h2,e,y,H7,H7,Kr];omega
 rw[a4t,e1,e,List.drop_left,aHJ,pB,y,show(Eo x).data.toList++10::b=(Eo x).data.toList++[10]++b by simp,aHC (by simp)]
def aLO(hx:Ns x)(I:10∉(Eo x).data.toList)(H:∀y∈K,Ns y/\10∉(Eo y).data.toList/\y.1.1.data.toList.length=x.1.1.data.toList.length)(h:x∉K)(k:Nat)(z:k+(Gf x).size<=(Ha (Be K).toArray).size):(Ha (Be K).toArray).extract k (k+(Gf x).size)≠Gf x:=λe=>by
 have e1:(Ha (Be K).toArray).data.toList=Be K:=List.toList_toArray;have e2:((Ha (Be K).toArray).extract k (k+(Gf x).size)).data.toList=(Gf x).data.toList:=by rw[e]
 rw[a4t,e1,aHJ,pB]at e2;refine h (a8n x hx I K H ((Be K).take k) (((Be K).drop k).drop (Gf x).size) ?_);have b:=d' k (Be K);have s:=d' (Gf x).size ((Be K).drop k);rw[e2]at s;rw[<-s]at b;exact b.symm.trans (by simp)
section
variable{AY:Nat->Nat->Nat}{g5:Nat->Nat->List (Nat×Nat)}{f2:List (Nat×Nat)}{L:List Rel}{Tm Z1:List Bu}{f f':Rel->zz}{hW:List BO}{i:Nat}{As:Rel}
def FL.qL(hi:i<L.length)(s:FL AY g5 f2 L)(U:FL AY g5 f2 (L.set i As))(hn:As.name=L[i].name)(t:∀j(h:j<L.length),j≠i->f' L[j]=f L[j])(I:f' As≠f L[i])(Q:O2 L f2 Tm)(z:O2 (L.set i As) f2 Z1)(Ir:hW.Perm (ET f (Es Tm))):((L[i].name,f L[i])∈hW->(∃x∈Z1,TK L f x.rel.name≠f' x.rel)/\∀x∈Z1,TK L f x.rel.name≠f' x.rel->x.rel=As)/\((L[i].name,f L[i])∉hW->∀x∈Z1,TK L f x.rel.name=f' x.rel):=by
 have P:As∈L.set i As:=aH5 hi As;have b:∀x∈Z1,x.rel=As∨TK L f x.rel.name=f' x.rel:=λx hx=>by
  obtain⟨j,h,e⟩:=List.mem_iff_getElem.1 (z.MH x hx);rw[List.length_set]at h;by_cases K:j=i;·subst K;rw[tQ]at e;exact AD e.symm
  rw[a2X (Gu K)]at e;right;rw[<-e,ot s.T_ (DU h),t j h K]
 have k:=s.a9m U Q z;constructor
 ·intro S;refine⟨?_,λx hx W=>(b x hx).resolve_right W⟩;have H:L[i].name∈names Z1:=by rw[<-k,<-h_ f Tm];exact List.mem_map.2 ⟨_,Ir.mem_iff.1 S,rfl⟩
  obtain⟨x,hx,e⟩:=List.mem_map.1 H;have X:x.rel=As:=y8 U.T_ (z.MH x hx) P (e.trans hn.symm);refine⟨x,hx,?_⟩;rw[X,hn,ot s.T_ (DU hi)];exact λe=>I e.symm
 intro M x hx;refine(b x hx).resolve_left λe=>M ?_;have H:L[i].name∈names Tm:=by rw[k,<-hn,<-e];exact List.mem_map.2 ⟨x,hx,rfl⟩
 obtain⟨y,hy,uZ⟩:=List.mem_map.1 H;have N:y.rel=L[i]:=y8 s.T_ (Q.MH y hy) (DU hi) uZ;refine Ir.mem_iff.2 (List.mem_map.2 ⟨y.rel,List.mem_map.2 ⟨y,hy,rfl⟩,?_⟩);rw[N]
end
end
section
open Go.RowKit
open Go.Proofs.YtcfhleenecfghaaGreatDoor.Twin(fstC sndC)
section
variable{w:A0}{a_x bb f1 B:Nat}{got:Nat->Int}{a_P a_Q l:List (Nat×Nat)}{v:A1}{wr:A0}
end
structure NC(AY:Nat->Nat->Nat)(g5:Nat->Nat->List (Nat×Nat))(f2:List (Nat×Nat))(BM:Nat)(w:A0):Prop where
 ey:∀q k,q<5->k<3->w.cell? ⟨BM,q*3+k,Z⟩=Y (A7 A8 (AY q k:Int))/\AY q k<10
 inj:∀q j k,q<5->j<3->k<3->AY q j=AY q k->j=k
 D':∀q k,q<5->k<3->∃a n c,w.cell? ⟨BM,15+q*3+k,Z⟩=Y (A4 a n c)/\P2 w (A4 a n c) (g5 q k)
 root:∃a n c,w.cell? ⟨BM,30,Z⟩=Y (A4 a n c)/\P2 w (A4 a n c) f2
end
section
open Go.RowKit
open Go.Proofs.YtcfhleenecfghaaGreatDoor.Twin
variable{w:A0}{C:zw}
structure UA(AY:Nat->Nat->Nat)(g5:Nat->Nat->List (Nat×Nat))(f2:List (Nat×Nat)):Prop where
 low:∀q k,q<5->k<3->AY q k<10
 inj:∀q j k,q<5->j<3->k<3->AY q j=AY q k->j=k
 Nc:∀q k,q<5->k<3->∀x∈g5 q k,x.1<5/\∃j,j<3/\x.2=AY x.1 j
 root:∀x∈f2,x.1<5/\∃j,j<3/\x.2=AY x.1 j
 D':∀q k,q<5->k<3->V.dD (g5 q k)/\(g5 q k).length<=5
 roots:V.dD f2/\f2.length<=5
def a5G{p:Int}{l:List (Nat×Nat)}{AY:Nat->Nat->Nat}(h:Pn C p l)(hv:∀q k,q<5->k<3->C[q*3+k]?=Y (A7 A8 (AY q k:Int))):∀x∈l,x.1<5/\∃j,j<3/\x.2=AY x.1 j:=λx hx=>by obtain⟨b,_,_,k,h2,h3⟩:=h.1 x hx;refine⟨b,k,h2,?_⟩;rw[hv _ _ b h2]at h3;injection h3 with h3;injection h3 with _ h3;omega
def aS6{B BM:Nat}{f2:List (Nat×Nat)}(h:XZ w B BM C f2):∃AY g5,UA AY g5 f2/\NC AY g5 f2 BM w:=by
 obtain⟨h1,h2,h3,v,I,N,Aa⟩:=h;have hc:∀o,w.cell? ⟨BM,o,Z⟩=C[o]?:=λo=>by rw[Ao h1]
 have U:∀q k:Nat,∃n:Nat,q<5->k<3->C[q*3+k]?=Y (A7 A8 (n:Int))/\n<10:=λq k=>by
  by_cases AH:q<5/\k<3;·obtain⟨n,e,_,l⟩:=h2.AY q k AH.1 AH.2;exact⟨n,λ_ _=>⟨e,by omega⟩⟩
  exact⟨0,λa b=>absurd ⟨a,b⟩ AH⟩
 obtain⟨AY,y⟩:=Classical.skolem.1 λq=>Classical.skolem.1 (U q);have t:∀q k:Nat,∃l:List (Nat×Nat),q<5->k<3->Pn C (q:Int) l/\∃u,C[15+q*3+k]?=Y u/\w.ownsRow B 45 2 u l.length (Qm l):=λq k=>by
  by_cases AH:q<5/\k<3;·obtain⟨u,l,e,f,o⟩:=h3 q k AH.1 AH.2;exact⟨l,λ_ _=>⟨f,u,e,o.1⟩⟩
  exact⟨[],λa b=>absurd ⟨a,b⟩ AH⟩
 obtain⟨g5,M⟩:=Classical.skolem.1 λq=>Classical.skolem.1 (t q);have Q:∀{u:A1}{n:Nat}{xs:List A1},w.ownsRow B 45 2 u n xs->∃a m c,u=A4 a m c:=λAA=>by
  rcases AA.2 with⟨e,_⟩|⟨g,W,g6,e,_⟩;·exact⟨_,_,_,e⟩
  exact⟨_,_,_,e⟩
 have z:∀q j k,q<5->j<3->k<3->j<k->AY q j<AY q k:=by
  intro q j k AH K s P;have hs:∀i,i<2->AY q i<AY q (i+1):=λi hi=>by have:=h2.Tb q i _ _ AH hi (y q i AH (by omega)).1 (y q (i+1) AH (by omega)).1;omega
  have N1:=hs 0 (by omega);have S:=hs 1 (by omega);have e1:(0:Nat)+1=1:=rfl;have e2:(1:Nat)+1=2:=rfl;rw[e1]at N1;rw[e2]at S;have:j=0/\k=1∨j=0/\k=2∨j=1/\k=2:=by omega
  rcases this with⟨rfl,rfl⟩|⟨rfl,rfl⟩|⟨rfl,rfl⟩<;>omega
 have H:∀q j k,q<5->j<3->k<3->AY q j=AY q k->j=k:=λq j k AH K s e=>by
  rcases a2j j k with h|h|h;·have:=z q j k AH K s h;omega
  ·exact h
  have:=z q k j AH s K h;omega
 refine⟨AY,g5,⟨λq k AH s=>(y q k AH s).2,H,λq k AH s=>a5G (M q k AH s).1 λq k a b=>(y q k a b).1,a5G N λq k a b=>(y q k a b).1,λq k AH s=>a5F (M q k AH s).1,a5F N⟩,⟨λq k AH s=>⟨(hc _).trans (y q k AH s).1,(y q k AH s).2⟩,H,λq k AH s=>?_,?_⟩⟩;·obtain⟨_,u,e,o⟩:=M q k AH s;obtain⟨a,m,c,rfl⟩:=Q o;exact⟨a,m,c,(hc _).trans e,a9q o⟩
 obtain⟨a,m,c,rfl⟩:=Q Aa.1;exact⟨a,m,c,(hc _).trans I,a9q Aa.1⟩
structure Vb(AY:Nat->Nat->Nat)(g5:Nat->Nat->List (Nat×Nat))(B:Nat)(v:A1)(w:A0)(L:List Rel):Prop where
 len:L.length=15
 rel:∀j(h:j<L.length),h5 AY g5 B w (j/3) (j%3) L[j]
 own:w.ownsRow B 75 4 v 15 (MO L)
 spare:Gv Yg w 4 v 15
section
variable{AY:Nat->Nat->Nat}{g5:Nat->Nat->List (Nat×Nat)}{f2:List (Nat×Nat)}{B:Nat}{w w':A0}{v:A1}{L:List Rel}
def Mi.plain{w0:A0}(h:Mi AY g5 w0 15 v w L):Vb AY g5 w0.heap.size v w L:=⟨h.len,h.rel,h.own,h.spare⟩
def Vb.heap(h:Vb AY g5 B v w L)(e:w'.heap=w.heap):Vb AY g5 B v w' L:=by refine⟨h.len,λj s=>(h.rel j s).same λb c q _=>by rw[e],?_,h.spare.same λg cap _=>by rw[e]⟩;have:=h.own;unfold World.ownsRow at this⊢;rw[e];exact this
def NC.same{BM:Nat}(h:NC AY g5 f2 BM w)(e:∀b,b<w.heap.size->w'.heap[b]?=w.heap[b]?):NC AY g5 f2 BM w':=by
 have hc:∀{b o:Nat}{u:A1},w.cell? ⟨b,o,Z⟩=Y u->w'.cell? ⟨b,o,Z⟩=Y u:=λ{b o u}hu=>(FG (a:=⟨b,o,Z⟩) (e b (FA (h:=hu)))).trans hu;have hn:∀{u:A1}{l:List (Nat×Nat)},P2 w u l->P2 w' u l:=λ{u l}hu=>by
  rcases hu with hu|⟨g,c,s,h2⟩;·exact AD hu
  exact AJ ⟨g,c,s,λj H=>⟨hc (h2 j H).1,hc (h2 j H).2⟩⟩
 refine⟨λq k z y=>⟨hc (h.ey q k z y).1,(h.ey q k z y).2⟩,h.inj,λq k z y=>?_,?_⟩;·obtain⟨a,n,c,s,h2⟩:=h.D' q k z y;exact⟨a,n,c,hc s,hn h2⟩
 obtain⟨a,n,c,s,h2⟩:=h.root;exact⟨a,n,c,hc s,hn h2⟩
end
def Ol(w:A0):Prop:=∀b,b<Ci->∃cs t,w.heap[b]?=Y (AF cs t (0,0))/\∀(j:Nat)(u:A1),cs[j]?=Y u->∃k n,u=A7 k n
def aBD(a2:Nat)(L:List Rel)(b:Nat):Prop:=b<Ci∨b=a2∨∃r∈L,∃a,r.BP=Y a/\b=a.block
noncomputable def EI(E3:Az->zz)(r:Rel):zz:=⟨(V.Yh r.p r.v r.m NL (E3 r.name)).toArray⟩
structure th(AY:Nat->Nat->Nat)(g5:Nat->Nat->List (Nat×Nat))(w:A0)(q k:Nat)(r:Rel)(d:zz):Prop where
 path:r.p=V.mp q
 version:r.v=V.E9 (AY q k)
 D':r.D'=(g5 q k).map EZ
 Hy:V.Hy r.m
 lines:Lo (V.parse r.m).1=MP (V.mp q) ((g5 q k).map EZ)
 y2:r.m.size<=200
 aK8:d.size<=20
 file:∃b,r.BP=Y ⟨b,0,Z⟩/\r.B0=1/\w.heap[b]?=Y (AF #[J NL,J d] 77)
structure K2(AY:Nat->Nat->Nat)(g5:Nat->Nat->List (Nat×Nat))(w:A0)(a2:Nat)(L:List Rel)(E3:Az->zz):Prop where
 len:L.length=15
 rel:∀j(h:j<L.length),th AY g5 w (j/3) (j%3) L[j] (E3 L[j].name)
 reg:Ih w a2 L
 row:∃g6,w.heap[a2]?=Y (AF g6 75 (0,0))/\∀(j:Nat)(u:A1),60<=j->g6[j]?=Y u->Yg u
def qP{F:zy}{E:AT}{c:zw}(h:∀(j:Nat)(u:A1),c[j]?=Y u->AN F E u u):Aq F E c.toList c.toList:=Aq.of rfl λi x y e b=>by rw[e]at b;obtain rfl:=CH b;exact h i x (by simpa using e)
def aW9:V.path V.W_.data.toList=A3:=by decide
def a9g(q:Nat):V.mp q≠V.W_:=λh=>by have:=congrArg aCx h;rw[Uu]at this;cases this
def y1(b:zz)(s:b.size<=60)(l:List (Nat×Nat))(h:l.length<=5):(Is b l).size<=182:=by rw[<-aA_];exact aAa b s l _ h
def aSM(x:Nat×Nat):Ft (EZ x):=by have b:(EZ x).1.size=3:=Uu x.1;have h2:(EZ x).2.size<=9:=YR _;exact⟨by unfold BH;omega,by unfold BH;omega⟩
section
variable{AY:Nat->Nat->Nat}{g5:Nat->Nat->List (Nat×Nat)}{f2:List (Nat×Nat)}{w:A0}{L:List Rel}{a2:Nat}{E3:Az->zz}
def K2.law(h:K2 AY g5 w a2 L E3)(b:UA AY g5 f2):FL AY g5 f2 L:=⟨h.len,λj s=>⟨(h.rel j s).path,(h.rel j s).version,(h.rel j s).D'⟩,b.low,b.inj,b.Nc,b.root⟩
def K2.of(h:K2 AY g5 w a2 L E3){r:Rel}(s:r∈L):∃q k,q<5/\k<3/\th AY g5 w q k r (E3 r.name):=by obtain⟨j,b,rfl⟩:=List.mem_iff_getElem.1 s;have:=h.len;exact⟨j/3,j%3,by omega,by omega,h.rel j b⟩
def Vb.aYA{B cap:Nat}(Al:UA AY g5 f2)(h:Vb AY g5 B (A4 (Y ⟨a2,0,Z⟩) 15 cap) w L):K2 AY g5 w a2 L Ez:=by
 have AE:=h.len;obtain⟨g,y,g6,e,Au,I,S,W,X,k⟩:∃g y g6,A4 (Y ⟨a2,0,Z⟩) 15 cap=A4 (Y ⟨g,0,Z⟩) 15 y/\B<=g/\w.heap[g]?=Y (AF g6 75 (0,0))/\15<=y/\y<=BH/\g6.size=y*4/\g6.toList.take (15*4)=MO L:=by
  rcases h.own.2 with⟨e,_⟩|x;·cases e
  exact x
 injection e with e1 _ e2;injection e1 with e1;injection e1 with e1;subst e1 e2;have H:∀(j:Nat)(u:A1),(MO L)[j]?=Y u->w.cell? ⟨a2,j,Z⟩=Y u:=λj u hu=>by have z:j<(MO L).length:=(List.getElem?_eq_some_iff.1 hu).1;rw[<-k]at hu z;rw[Zo]at z;rw[aGv (by omega)]at hu;rw[Ao I];simpa using hu
 refine⟨AE,λj z=>?_,λi hi=>⟨H _ _ (kF L i hi 0 _ (by decide) rfl),H _ _ (kF L i hi 1 _ (by decide) rfl),H _ _ (kF L i hi 2 _ (by decide) rfl),H _ _ (kF L i hi 3 _ (by decide) rfl)⟩,g6,I,λj u z hu=>h.spare _ _ g6 75 (0,0) rfl I j u (by omega) hu⟩;have s:=h.rel j z;obtain⟨t,P⟩:=Al.D' (j/3) (j%3) (by omega) (by omega);have hp:V.path (V.mp (j/3)).data.toList=A3:=by rw[V.PT];exact V.ji (by omega)
 obtain⟨Q,U⟩:=y0 hp t;refine⟨s.path,s.version,s.D',by rw[s.pJ];exact Q,by rw[s.pJ];exact U,?_,?_,?_⟩;·rw[s.pJ];have:=y1 (V.mp (j/3)) (by rw[Uu];omega) (g5 (j/3) (j%3)) P;omega
 ·show L[j].v.size<=20;rw[s.version];have:=YR (AY (j/3) (j%3));omega
 obtain⟨b,K,M,HS,N⟩:=s.file;exact⟨b,K,M,N⟩
def xh{Wb R:zy}{m:Int}{cap:Nat}(Al:UA AY g5 f2)(h:K2 AY g5 w a2 L E3)(AI:Ol w)(hm:w.cell? ⟨0,0,Z⟩=Y (A7 A8 m))(JQ:w.cell? ⟨5,15,Z⟩=Y (A7 F1 4))(S:Holds Wb R w)(hv:AN CM (C_ R) (A4 (Y ⟨a2,0,Z⟩) 15 cap) (A4 (Y ⟨a2,0,Z⟩) 15 cap)):a2e w R (aBD a2 L) (Is V.W_ f2) V.W_ (f2.map EZ) a2 L m (EI E3):=by
 have AE:=h.len;have Q:=h.law Al;have oO:=y0 aW9 Al.roots.1;obtain⟨g6,W,Fx⟩:=h.row;have DN:∀(j:Nat)(u:A1),w.cell? ⟨a2,j,Z⟩=Y u->g6[j]?=Y u:=λj u hu=>by rw[Ao W]at hu;exact hu
 have Er:R a2:=AN.Uj hv;have X:∀r∈L,∀a,r.BP=Y a->R a.block:=λr z a M=>by obtain⟨j,H1,rfl⟩:=List.mem_iff_getElem.1 z;obtain⟨o,AA,wz⟩:=S.closed.heap a2 Er;rw[W]at AA;obtain rfl:=CH AA;cases wz with|cells _ JS _=>have h3:=DN (j*4+3) _ (h.reg j H1).2.2.2;have h4:=Aq.nth (j*4+3) JS (by simpa using h3);rw[M]at h4;obtain⟨b,o,s⟩:=a;exact AN.Uj h4
 have GM:∀b,aBD a2 L b->R b:=λb K=>by
  rcases K with K|rfl|⟨r,z,a,M,rfl⟩;·exact S.closed.EX b K
  ·exact Er
  exact X r z a M
 refine⟨oO.1,oO.2,by have:=y1 V.W_ (by decide) f2 Al.roots.2;omega,⟨Q.T_,λr z=>?_,λr z=>?_,by omega,λr z=>?_,λr z y hy=>?_,λy hy=>?_,by rw[Ks];have:=Al.roots.2;omega⟩,λx hx=>?_,λr z=>?_,λr z=>?_,λi hi=>?_,GM,⟨λb K=>?_,λb K=>AD K,S.closed.low⟩,AJ (AD rfl),λr z a M=>AJ (AJ ⟨r,z,a,M,rfl⟩),hm,JQ,λr z=>?_,λr z=>?_,λa M b K e=>?_⟩;·obtain⟨q,k,H,I,z⟩:=h.of z;obtain⟨Fy,JA⟩:=Al.D' q k H I;refine⟨z.Hy,by rw[z.path,z.D'];exact z.lines,by have:=z.y2;omega,λy hy=>?_,by rw[z.D',Ks];omega⟩;rw[z.D']at hy;obtain⟨x,_,rfl⟩:=List.mem_map.1 hy;exact⟨a9g x.1,aSM x⟩
 ·obtain⟨q,k,H,I,z⟩:=h.of z;rw[z.version];have:=YR (AY q k);omega
 ·obtain⟨q,k,H,I,z⟩:=h.of z;rw[z.D',Ks];have:=(Al.D' q k H I).2;omega
 ·obtain⟨q,k,H,I,z⟩:=h.of z;rw[z.D']at hy;obtain⟨x,hx,rfl⟩:=List.mem_map.1 hy;obtain⟨a,j,b,c⟩:=Al.Nc q k H I x hx;obtain⟨r2,N,h2,_⟩:=Q.find x.1 j a b;exact⟨r2,N,by rw[h2,<-c]⟩
 ·obtain⟨x,hx,rfl⟩:=List.mem_map.1 hy;obtain⟨a,j,b,c⟩:=Al.root x hx;obtain⟨r2,N,h2,_⟩:=Q.find x.1 j a b;exact⟨r2,N,by rw[h2,<-c]⟩
 ·obtain⟨y,hy,rfl⟩:=List.mem_map.1 hx;exact a9g y.1
 ·obtain⟨q,k,H,I,z⟩:=h.of z;rw[z.path,z.version];have:=Al.low q k H I;unfold V.JN V.M4 V.Sm;rw[V.PT,V.WQ,V.ji H,V.y5 (by omega)];rfl
 ·obtain⟨q,k,H,I,z⟩:=h.of z;rw[z.path,Uu];omega
 ·exact h.reg i hi
 ·rcases K with K|rfl|⟨r,z,a,M,rfl⟩;·obtain⟨cs,t,N,h2⟩:=AI b K;refine⟨_,N,.cells t (qP λj u hu=>?_) (Nt.refl _),λc Bf p e=>by cases e;rfl⟩;obtain⟨k,n,rfl⟩:=h2 j u hu;exact .int k n
  ·refine⟨_,W,.cells 75 (qP λj u hu=>?_) (Nt.refl _),λc Bf p e=>by cases e;rfl⟩;by_cases H1:j<60
   ·have ir:j/4<L.length:=by omega
    have a4b:j=j/4*4+j%4:=by omega
    obtain⟨Gl,k1,Cu,IC⟩:=h.reg (j/4) ir;have hx:j%4=0∨j%4=1∨j%4=2∨j%4=3:=by omega
    have P:∀{o:Nat}{x:A1},j=o->w.cell? ⟨b,o,Z⟩=Y x->u=x:=λ{o x}e N=>by have h2:=DN _ _ N;rw[<-e,hu]at h2;exact CH h2
    rcases hx with hx|hx|hx|hx;·rw[P (by omega) Gl];exact .string _
    ·rw[P (by omega) k1];exact .string _
    ·rw[P (by omega) Cu];exact .string _
    rw[P (by omega) IC];cases aNJ:L[j/4].BP with|none=>exact .HL _ _|some a=>exact .slice _ _ ⟨⟨rfl,AJ (AJ ⟨_,DU ir,a,aNJ,rfl⟩)⟩,rfl,rfl⟩
   rcases Fx j u (by omega) hu with⟨s,rfl⟩|rfl;·exact .string s
   exact .HL _ _
  obtain⟨q,k,H,I,z⟩:=h.of z;obtain⟨b,Ep,F4,U⟩:=z.file;rw[Ep]at M;obtain rfl:=CH M;refine⟨_,U,.cells 77 (qP λj u hu=>?_) (Nt.refl _),λc Bf p e=>by cases e;rfl⟩;match j,hu with|0,hu=>cases hu;exact .string _|1,hu=>cases hu;exact .string _|j+2,hu=>simp at hu
 ·obtain⟨q,k,H,I,z⟩:=h.of z;obtain⟨b,Ep,F4,U⟩:=z.file;refine⟨b,NL,E3 r.name,Ep,F4,by rw[Ao U];rfl,by rw[Ao U];rfl,⟨?_,?_,?_,by decide,?_⟩,by simp[EI]⟩;·rw[z.path,Uu];omega
  ·rw[z.version];have:=YR (AY q k);omega
  ·have:=z.y2;omega
  have:=z.aK8;omega
 ·have:(EI E3 r).size=(V.Yh r.p r.v r.m NL (E3 r.name)).length:=by show(V.Yh r.p r.v r.m NL (E3 r.name)).toArray.size=_;simp
  rw[this];unfold V.Yh V.ep;rw[V.w9];simp
 obtain⟨q,k,H,I,N,_⟩:=Q.of M;obtain⟨EG,k',NV,Fc,h2,_⟩:=Q.of K;rw[N,h2]at e⊢;rw[a9V ⟨H,Al.low q k H I⟩ ⟨NV,Al.low EG k' NV Fc⟩ e]
end
section
variable{AY:Nat->Nat->Nat}{g5:Nat->Nat->List (Nat×Nat)}{f2:List (Nat×Nat)}{w w':A0}{L:List Rel}{a2:Nat}{E3:Az->zz}{g6:zw}
noncomputable def Sk(E3:Az->zz)(n:Az)(d:zz)(x:Az):zz:=open Classical in if x=n then d else E3 x
def K2.change(h:K2 AY g5 w a2 L E3)(B3:Mh L){i:Nat}(hi:i<L.length){As:Rel}{k:zz}{o:Nat}{v:A1}(AA:o<4)(hn:As.name=L[i].name)(A2:th AY g5 w' (i/3) (i%3) As k)(hc:w.heap[a2]?=Y (AF g6 75 (0,0)))(U:w'.heap[a2]?=Y (AF (g6.setIfInBounds (i*4+o) v) 75 (0,0)))(hb:∀b,b≠a2->b<w.heap.size->w'.heap[b]?=w.heap[b]?)(h4:∀p,p<4->[J As.p,J As.v,J As.m,A4 As.BP As.B0 As.BN][p]?=if p=o then Y v else[J L[i].p,J L[i].v,J L[i].m,A4 L[i].BP L[i].B0 L[i].BN][p]?):K2 AY g5 w' a2 (L.set i As) (Sk E3 L[i].name k):=by
 have AE:=h.len;have H:∀x,x≠i*4+o->w'.cell? ⟨a2,x,Z⟩=w.cell? ⟨a2,x,Z⟩:=λx hx=>by rw[Ao U,Ao hc];exact Gp (Gu hx)
 have W:∀j(s:j<L.length)p u,p<4->[J L[j].p,J L[j].v,J L[j].m,A4 L[j].BP L[j].B0 L[j].BN][p]?=Y u->w.cell? ⟨a2,j*4+p,Z⟩=Y u:=λj s p u K hu=>by obtain⟨t,k1,P,S⟩:=h.reg j s;match p,K,hu with|0,_,hu=>rw[<-CH hu];exact t|1,_,hu=>rw[<-CH hu];exact k1|2,_,hu=>rw[<-CH hu];exact P|3,_,hu=>rw[<-CH hu];exact S
 have X:w'.cell? ⟨a2,i*4+o,Z⟩=Y v:=by
  rw[Ao U];have AV:i*4+o<g6.size:=by have h1:∃u,[J L[i].p,J L[i].v,J L[i].m,A4 L[i].BP L[i].B0 L[i].BN][o]?=Y u:=⟨_,K1 (by simp;omega)⟩;obtain⟨u,hu⟩:=h1;have h2:=W i hi o u AA hu;rw[Ao hc]at h2;exact(Array.getElem?_eq_some_iff.1 h2).1
  show(g6.setIfInBounds (i*4+o) v)[i*4+o]?=Y v;rw[SE AV]
 have I:∀p u,p<4->[J As.p,J As.v,J As.m,A4 As.BP As.B0 As.BN][p]?=Y u->w'.cell? ⟨a2,i*4+p,Z⟩=Y u:=λp u K hu=>by
  rw[h4 p K]at hu;by_cases Q:p=o;·rw[if_pos Q]at hu;rw[Q,<-hu];exact X
  rw[if_neg Q]at hu;rw[H _ (by omega)];exact W i hi p u K hu
 have N:(L.set i As).length=L.length:=List.length_set;refine⟨by rw[N];exact AE,λj s=>?_,λj s=>?_,g6.setIfInBounds (i*4+o) v,U,λj u s hu=>?_⟩
 ·rw[N]at s;by_cases z:j=i
  ·subst z;rw[tQ];have:Sk E3 L[j].name k As.name=k:=by unfold Sk;rw[if_pos hn]
   rw[this];exact A2
  rw[a2X (Gu z)];have:Sk E3 L[i].name k L[j].name=E3 L[j].name:=by unfold Sk;rw[if_neg λe=>z (B3.inj s hi e)]
  rw[this];obtain⟨a1,FY,a3,a4,a5,KP,Se,b,Ep,F4,y⟩:=h.rel j s;refine⟨a1,FY,a3,a4,a5,KP,Se,b,Ep,F4,(hb b (λe=>?_) (Array.getElem?_eq_some_iff.1 y).1).trans y⟩;subst e;rw[hc]at y;injection y with y;injection y with _ y;cases y
 ·rw[N]at s;by_cases z:j=i;·subst z;rw[tQ];exact⟨I 0 _ (by decide) rfl,I 1 _ (by decide) rfl,I 2 _ (by decide) rfl,I 3 _ (by decide) rfl⟩
  rw[a2X (Gu z)];obtain⟨t,k1,P,S⟩:=h.reg j s;exact⟨(H _ (by omega)).trans t,(H _ (by omega)).trans k1,(H _ (by omega)).trans P,(H _ (by omega)).trans S⟩
 obtain⟨M,e,hs⟩:=h.row;rw[hc]at e;obtain rfl:g6=M:=by injection e with e;injection e
 refine hs j u s ?_;rw[Gp (by omega)]at hu;exact hu
def K2.aT6(h:K2 AY g5 w a2 L E3)(I:UA AY g5 f2){i:Nat}(hi:i<L.length)(M:L[i].m=Is (V.mp (i/3)) (g5 (i/3) (i%3)))(hc:w.heap[a2]?=Y (AF g6 75 (0,0)))(k:w'.heap[a2]?=Y (AF (g6.setIfInBounds (i*4+2) (J (L[i].m++TR))) 75 (0,0)))(K:∀b,b≠a2->b<w.heap.size->w'.heap[b]?=w.heap[b]?):K2 AY g5 w' a2 (L.set i {L[i]with m:=L[i].m++TR}) (Sk E3 L[i].name (E3 L[i].name)):=by
 have AE:=h.len;obtain⟨N,Q,U,a4,a5,KP,t,b,P,S,s⟩:=h.rel i hi;obtain⟨W,X⟩:=I.D' (i/3) (i%3) (by omega) (by omega);have y:V.path (V.mp (i/3)).data.toList=A3:=by rw[V.PT];exact V.ji (by omega)
 obtain⟨z,H⟩:=aT7 y W;rw[<-M]at z H;refine h.change (h.law I).T_ hi (o:=2) (by decide) rfl ⟨N,Q,U,z,H,?_,t,b,P,S,(K b (λe=>?_) (Array.getElem?_eq_some_iff.1 s).1).trans s⟩ hc k K ?_;·show(L[i].m++TR).size<=200;rw[a'0,M];have:=y1 (V.mp (i/3)) (by rw[Uu];omega) (g5 (i/3) (i%3)) X;have h2:TR.size=2:=rfl;omega
 ·subst e;rw[hc]at s;injection s with s;injection s with _ s;cases s
 intro p y;match p,y with|0,_=>rfl|1,_=>rfl|2,_=>rfl|3,_=>rfl
def hf:zz:=⟨#[120]⟩
def K2.aL3(h:K2 AY g5 w a2 L E3)(M:UA AY g5 f2){i DW:Nat}(hi:i<L.length)(hc:w.heap[a2]?=Y (AF g6 75 (0,0)))(k:w'.heap[a2]?=Y (AF (g6.setIfInBounds (i*4+3) (A4 (Y ⟨DW,0,Z⟩) 1 1)) 75 (0,0)))(N:∀b,b≠a2->b<w.heap.size->w'.heap[b]?=w.heap[b]?)(Q:w'.heap[DW]?=Y (AF #[J NL,J (L[i].v++hf)] 77)):K2 AY g5 w' a2 (L.set i {L[i]with BP:=Y ⟨DW,0,Z⟩,B0:=1,BN:=1}) (Sk E3 L[i].name (L[i].v++hf)):=by
 have AE:=h.len;obtain⟨y,s,z,H,I,K,t,b,P,S,W⟩:=h.rel i hi;refine h.change (h.law M).T_ hi (o:=3) (by decide) rfl ⟨y,s,z,H,I,K,?_,DW,rfl,rfl,Q⟩ hc k N ?_;·rw[a'0,s];have:=YR (AY (i/3) (i%3));have h2:hf.size=1:=rfl;omega
 intro p U;match p,U with|0,_=>rfl|1,_=>rfl|2,_=>rfl|3,_=>rfl
end
noncomputable def xU(t:Aj):Bool:=A6.buildable t&&match A6.cellTypes A6.depth t with
 |Y ts=>ts.all λu=>match A6.underlying u with
  |Y (.int _)=>A3
  |_=>A9
 |Z=>A9
noncomputable def Xs(g:Nat):Bool:=match(begin A6 (λ_ _=>0) Aw).world.heap[g]?.bind aE0 with|Y (_,t)=>xU t|Z=>A9
def aLa:(Xs 0&&Xs 1&&Xs 2&&Xs 3&&Xs 4&&Xs 5)=A3:=by kernel_rfl
def aLb(g:Nat)(h:g<Ci):Xs g=A3:=by have:=aLa;simp only[G0]at this;obtain⟨⟨⟨⟨⟨b,s⟩,h2⟩,h3⟩,h4⟩,y⟩:=this;unfold Ci at h;match g,h with|0,_=>exact b|1,_=>exact s|2,_=>exact h2|3,_=>exact h3|4,_=>exact h4|5,_=>exact y
def aQ9{d:Option TypeDesc}(h:(match d with|Y (.int _)=>A3|_=>A9)=A3):∃k,d=Y (.int k):=by
 split at h;·exact⟨_,rfl⟩
 cases h
def aIn{b:Nat}{u:Aj}{v:A1}{k:IntKind}(hu:A6.underlying u=Y (.int k))(h:aD7 A6 w gH b u v):∃k n,v=A7 k n:=by unfold aD7 at h;rw[hu]at h;cases v<;>first|exact⟨_,_,rfl⟩|exact h.elim
def aLd(h:w.ShapedOpen A6):Ol w:=by
 intro g H;have b:=aLb g H;unfold Xs at b;have K:A6.globals.size=6:=by kernel_rfl
 cases e:(begin A6 (λ_ _=>0) Aw).world.heap[g]?.bind aE0 with|none=>rw[e]at b;cases b|some y=>obtain⟨s,t⟩:=y;rw[e]at b;have b:xU t=A3:=b;obtain⟨cs,I,_,h3⟩:=h.1 g s t (by rw[K];exact H) e;unfold xU at b;obtain⟨M,z⟩:=Bool.and_eq_true_iff.1 b;obtain⟨ts,Q,_,hc⟩:=h3 M;rw[Q]at z;refine⟨cs,t,I,λj u hu=>?_⟩;obtain⟨ty,U,N⟩:=hc j u hu;have:=List.all_eq_true.1 z ty (U8 U);obtain⟨k,e2⟩:=aQ9 this;exact aIn e2 N
end
section
open Go.RowKit
def bV(x:Int):Int:=if x<0 then-(x+1)%15 else x%15
def aU0(x:Int):∃r:Nat,bV x=(r:Int)/\r<15:=by refine⟨(bV x).toNat,?_⟩;unfold bV;split<;>omega
def aTz(x:Int)(w:A0)(b:-9223372036854775808<=x)(h2:x<=9223372036854775807):Ai A6 15 #[A7 A8 x,A7 A8 15] w λe w'=>e=AZ (A7 A8 (bV x))/\w'=w:=by
 by_cases h:x<0;·go_enter Tryz.func15,Tryz.ntmps15;go_wp2;go_ret;exact⟨Js (by unfold bV;rw[if_pos h,<-Int.neg_tmod,Int.tmod_eq_emod_of_nonneg (by omega)]),rfl⟩
 go_enter Tryz.func15,Tryz.ntmps15;go_wp2;go_ret;exact⟨Js (by unfold bV;rw[if_neg (by omega)]),rfl⟩
def a4V(r:Rel)(s:zz)(w:A0)(hs:NI w r s)(y:w.cell? ⟨5,15,Z⟩=Y (A7 F1 4)):Ai A6 31 #[N' r] w λe w'=>e=AZ (J s)/\AX w.heap.size w w':=by have b:AL (AX w.heap.size w (w.alloc (AF #[J r.p,J r.v,J r.m,A4 r.BP r.B0 r.BN] 75))):=A5 ((BF _ w).alloc (Ae _) _);have H:=A5 (aA7 r s (w.alloc (AF #[J r.p,J r.v,J r.m,A4 r.BP r.B0 r.BN] 75)) (hs.below b.out) (Am b.out y));clear hs y;obtain⟨p,v,m,BP,B0,BN,g5⟩:=r;simp only[N']at H b⊢;go_enter Tryz.func31,Tryz.ntmps31;go_wp2_with(go_at_call 68;refine H.out.mono ?_;rintro e I⟨rfl,h⟩;have z:=A5 (b.out.trans (h.mono b.out.size));clear h);go_ret;exact⟨rfl,z.out⟩
def oq(k:Int)(p n:zz)(v:A1)(w:A0)(h:KF 0 w v (Y (k,0,p,n))):Ai A6 32 #[EL 96 v] w λe w'=>e=AZ (Ay #[A7 A8 k,J p,J n])/\AX w.heap.size w w':=by
 obtain⟨b,_,rfl,s⟩:=h;have z:w.cell? ⟨b,0,Z⟩=Y (A7 A8 k):=by rw[Ao s];rfl
 have h2:w.cell? ⟨b,2,Z⟩=Y (J p):=by rw[Ao s];rfl
 have h3:w.cell? ⟨b,3,Z⟩=Y (J n):=by rw[Ao s];rfl
 have y:∀(v:A1)(w:A0),(Instr.typeAssert (EL 96 v) 24 96 A3).run A6 w=Ac (Ay #[v,Af A3]) w:=by intro v w;kernel_rfl
 clear s;go_enter Tryz.func32,Tryz.ntmps32;go_wp2_with fail;go_quiet(fail);go_wp2_with fail;(try simp only[Exit.inBlock,Exit.then]);refine bodyPost_ret (results_tmp3 rfl _ _ _) rfl ?_;exact⟨rfl,rfl,rfl,rfl,Ae _,λ_ _=>rfl⟩
end
end Go.Proofs.YtcfhleenecfghaaGreatDoor
namespace Go.Proofs.YtcfhleenecfghaaGreatDoor.Twin
section
open Go.Proofs.YtcfhleenecfghaaGreatDoor
open Go.Conc Go.RowKit
open Go.ConcR(Payload)
variable{Post:zv}{w w' w0:A0}{C1 CJ DY v:A1}{H9:A1->A1->A0->Prop}{g:AR}{C T T0:zw}{Q:zw->A0->Prop}{ops:Array BR}{o:BR}{c:Bg}{s:zz}{x:C'}{f2:List (Nat×Nat)}{cs:List Ag}{K:List BO}{q r:List Cb}{l:List Nat}{L:List Rel}{B BM a d i n:Nat}{D:Nat->Bool}{p:Nat->Nat}{g5:Nat->Nat->List (Nat×Nat)}{AY:Nat->Nat->Nat}{BX R Wb:zy}
def aV_(h:P8 w w.heap.size v n)(hs:w.heap.size<=w'.heap.size)(e:∀b,b<w.heap.size->w'.heap[b]?=w.heap[b]?):P8 w' w'.heap.size v n:=by
 obtain⟨M,c,rfl,h⟩:=h;refine⟨M,c,rfl,?_⟩;by_cases z:n=0;·exact AD z
 rcases h with h|⟨y,s,H,h2,h3⟩;·exact absurd h z
 have hlt:y<w.heap.size:=by obtain⟨x,hx,_⟩:=h3 0 (by omega);exact FA (h:=hx)
 refine AJ ⟨y,s,H,by omega,λj I=>?_⟩;obtain⟨x,hx,K⟩:=h3 j I;exact⟨x,(FG (a:=⟨y,s+j,Z⟩) (e y hlt)).trans hx,K⟩
def NC.xR{t:Nat}(h:NC AY g5 f2 BM w)(N:Holds Wb R w)(z:R BM)(I:w.heap[BM]?=Y (AF C t (0,0)))(e:∀b,R b->w'.heap[b]?=w.heap[b]?):NC AY g5 f2 BM w':=by
 have hv:∀(o:Nat)(u:A1),w.cell? ⟨BM,o,Z⟩=Y u->AN CM (C_ R) u u:=λo u hu=>by obtain⟨Jp,s,h2⟩:=N.closed.heap BM z;rw[I]at s;obtain rfl:=CH s;rw[Ao I]at hu;cases h2 with|cells _ P _=>exact Aq.nth o P (by simpa using hu)
 have hc:∀{b o:Nat}{u:A1},R b->w.cell? ⟨b,o,Z⟩=Y u->w'.cell? ⟨b,o,Z⟩=Y u:=λ{b o u}Q hu=>(FG (a:=⟨b,o,Z⟩) (e b Q)).trans hu;have hn:∀{o:Nat}{u:A1}{l:List (Nat×Nat)},w.cell? ⟨BM,o,Z⟩=Y u->P2 w u l->P2 w' u l:=λ{o u l}U hu=>by
  rcases hu with hu|⟨g,c,s,h2⟩;·exact AD hu
  have K:R g:=by have:=hv o u U;rw[s]at this;exact AN.Uj this
  exact AJ ⟨g,c,s,λj M=>⟨hc K (h2 j M).1,hc K (h2 j M).2⟩⟩
 refine⟨λq k H y=>⟨hc z (h.ey q k H y).1,(h.ey q k H y).2⟩,h.inj,λq k H y=>?_,?_⟩;·obtain⟨a,n,c,s,h2⟩:=h.D' q k H y;exact⟨a,n,c,hc z s,hn s h2⟩
 obtain⟨a,n,c,s,h2⟩:=h.root;exact⟨a,n,c,hc z s,hn s h2⟩
section
variable[CV]
end
noncomputable def YX(c:Bg):Array BR:=match c with|.region _ ops _=>ops|_=>#[]
noncomputable def Lq(a:Array BR)(i:Nat):BR:=a.getD i Aw
def opAt{a:Array BR}(hs:a.size=n)(i:Nat)(h:i<n):a[i]?=Y (Lq a i):=by unfold Lq;rw[Iv,EP (by omega)];rfl
noncomputable def MQ(o:BR):Bool:=o.guard.isNone&&(Qn A6 DV IE [1000007,1000008] 8 o.op&&(Lu A6 o&&(!MR o.op&&(opsOf o.op).all (Uy DV [1000007,1000008]))))
def en(h:MQ o=A3):o.guard=Z/\Qn A6 DV IE [1000007,1000008] 8 o.op=A3/\Lu A6 o=A3/\MR o.op=A9/\(opsOf o.op).all (Uy DV [1000007,1000008])=A3:=by unfold MQ at h;simp only[G0,Option.isNone_iff_eq_none,Qw]at h;exact h
def MS(h:o.guard=Z)(y:Nat->Option Bool):Gt o y=A3:=by simp[Gt,h]
def af:A6.funcs[8]?.isSome=A3:=by rw[Tu];rfl
def aUD(hc:ES A6 DV IE [1000007,1000008] 8 c=A3)(g9:Ax R (Cd [0,25] T))(k:Holds Wb R w)(h:∀T0,c.wp A6 (λe U w'=>e=HN/\U.defers=[]/\Q U.tmps w') ⟨T,[]⟩ (on w T0)):CZ A6 Wb (λg w'=>∃H M P z,g=G ((AW 8).at ⟨M,[]⟩ r) cs/\Q P z/\Cd [0,25] M=Cd [0,25] P/\w'.heap=z.heap/\Ax H (Cd [0,25] M)/\(∀b,R b->H b)/\Holds Wb H w') (G ((AW 8).at ⟨T,[]⟩ (BS c::r)) cs) w:=by
 have BG:Ei A6 CM DV WX 8 (C_ R) r ((AW 8).at ⟨T,[]⟩ [BS c]) ((AW 8).at ⟨T,[]⟩ (BS c::r)):=by refine⟨rfl,⟨_,Tu,by kernel_rfl⟩,rfl,λi hi=>?_,⟨rfl,rfl⟩,rfl,⟨rfl,rfl⟩,⟨rfl,rfl⟩,g9,λt AP=>λ_ _=>trivial⟩;obtain rfl:=List.mem_singleton.1 hi;exact hc
 have HV:∀T0,∃N I z,runN A6 N (Dr (G ((AW 8).at ⟨T,[]⟩ [BS c]) [bot]) (on w T0))=Ds (Dr (G I [bot]) z)/\Fin A9 I/\I.fn=8/\Q I.tmps z:=by intro T0;obtain⟨e,U,w',⟨rfl,AS,AH⟩,Bm⟩:=h T0 (AW 8) [] [bot];obtain⟨N,G7⟩:=Bm;exact⟨N,_,w',G7,⟨rfl,rfl⟩,rfl,AH⟩
 refine(kG qH (λ_=>trivial) (Wb:=Wb) (R:=R) (r:=r) (base':=cs) (Q:=λs z=>s.fn=8/\Q s.tmps z) A9 (λh=>by cases h) BG rfl k.closed k.low HV).mono ?_;rintro g w'⟨E,s,y,wL,rfl,OE,DR,⟨S,AH⟩,W,F5,hid,NU,Du,_⟩;obtain⟨H,rfl,Er⟩:=hT F5 hid NU λb hb=>W _ _ ⟨rfl,k.closed.EX b hb⟩;have K:=OE.tmps;rw[show IS (WX.own s.fn)=[0,25]by rw[S];rfl]at K;have AP:Cd [0,25] y.tmps=Cd [0,25] s.tmps:=Array.toList_inj.1 (K.same hid.1);have DR:s.mode=.run/\s.todo=[]:=DR;refine⟨H,y.tmps,s.tmps,wL,?_,AH,AP,hid.2,?_,λb hb=>(W b b ⟨rfl,hb⟩).2,Er,Du⟩;·have h1:=OE.fn;have h2:=OE.todo;have h3:=OE.defers.2;have h4:=OE.mode;have X:=OE.kind.2;have CN:=OE.round.2;rw[DR.2,List.nil_append]at h2;rw[DR.1]at h4;rw[S]at h1;obtain⟨a1,FY,a3,a4,a5,KP,Se⟩:=y;simp only at h1 h2 h3 h4 X CN;subst h1 h2 h3 h4 X CN;rfl
 rw[<-AP]at K;exact K
def Goes.Ye{c2:Bg}(hc:ES A6 DV IE [1000007,1000008] 8 c=A3)(t:Ax R (Cd [0,25] T))(M:Holds Wb R w)(h:∀d T0,c.wp A6 (λe I w'=>e=HN/\I.defers=[]/\Q I.tmps w') ⟨T,[]⟩ (on (w.at d) T0))(k:∀z s y H w',Q y H->(∀i,[0,25].contains i=A9->s[i]?=y[i]?)->s.size=y.size->w'.heap=H.heap->Ax z (Cd [0,25] s)->(∀b,R b->z b)->Holds Wb z w'->Goes Wb (G ((AW 8).at ⟨s,[]⟩ (BS c2::r)) cs) w' Post):Goes Wb (G ((AW 8).at ⟨T,[]⟩ (BS (Bh c c2)::r)) cs) w Post:=by
 refine .ctl rfl (λ_=>FT) λd=>.KB (aUD (Q:=Q) hc t (M.at d) (h d)) ?_;rintro g w'⟨z,s,y,H,rfl,AH,K,e,hv,U,N⟩;refine k z s y H w' AH (λi hi=>?_) ?_ e hv U N;·rw[<-RX hi s,<-RX hi y,K]
 have:=congrArg Array.size K;unfold Cd at this;simpa using this
section
variable{Wb R:zy}{ops:Array BR}{i:Nat}{rest:List Nat}{q:List Cb}{cs:List Ag}{o:BR}{T:zw}{w:A0}{d j e:Nat}{v u:A1}{Post:zv}
def Goes.eQ(N:ops[i]?=Y o)(hs:MQ o=A3)(h:o.op=Mb (An j)∨o.op=SK (An j))(M:o.dst=Y d)(K:[0,25].contains d=A9)(s:T[j]?=Y v)(H:Holds Wb R w)(I:Ax R (Cd [0,25] T))(k:∀R' w',w'.heap=w.heap->(∀b,R b->R' b)->Holds Wb R' w'->Ax R' (Cd [0,25] (T.setIfInBounds d v))->Goes Wb (G ((AW 8).at ⟨T.setIfInBounds d v,[]⟩ (B1 ops rest::q)) cs) w' Post):Goes Wb (G ((AW 8).at ⟨T,[]⟩ (B1 ops (i::rest)::q)) cs) w Post:=by
 obtain⟨y,h2,h3,h4,z⟩:=en hs;refine Goes.dR N (MS y _) h2 h3 h4 z M af K H I (λw=>?_) k;unfold Ab;rcases h with h|h;·rw[h,<-Hj s];rfl
 rw[h,<-Hj s];rfl
def Goes.aAZ{n:Nat}{l:zw}(N:ops[i]?=Y o)(hs:MQ o=A3)(Q:o.op=a00 (An j) n)(I:o.dst=Y d)(H:[0,25].contains d=A9)(K:T[j]?=Y (Ay l))(M:l[n]?=Y v)(y:Holds Wb R w)(z:Ax R (Cd [0,25] T))(k:∀R' w',w'.heap=w.heap->(∀b,R b->R' b)->Holds Wb R' w'->Ax R' (Cd [0,25] (T.setIfInBounds d v))->Goes Wb (G ((AW 8).at ⟨T.setIfInBounds d v,[]⟩ (B1 ops rest::q)) cs) w' Post):Goes Wb (G ((AW 8).at ⟨T,[]⟩ (B1 ops (i::rest)::q)) cs) w Post:=by obtain⟨h,h2,h3,h4,s⟩:=en hs;refine Goes.dR N (MS h _) h2 h3 h4 s I af H y z (λw=>?_) k;unfold Ab;rw[Q];simp only[Hj K];simp[go_sem,M]
def Goes.aL'{b:Nat}(M:ops[i]?=Y o)(hs:MQ o=A3)(N:o.op=gB 59 (An j) 1)(I:o.dst=Y d)(H:[0,25].contains d=A9)(K:T[j]?=Y (Ad (Y ⟨b,0,Z⟩)))(y:Holds Wb R w)(z:Ax R (Cd [0,25] T))(k:∀R' w',w'.heap=w.heap->(∀b,R b->R' b)->Holds Wb R' w'->Ax R' (Cd [0,25] (T.setIfInBounds d (Ad (Y ⟨b,1,Z⟩))))->Goes Wb (G ((AW 8).at ⟨T.setIfInBounds d (Ad (Y ⟨b,1,Z⟩)),[]⟩ (B1 ops rest::q)) cs) w' Post):Goes Wb (G ((AW 8).at ⟨T,[]⟩ (B1 ops (i::rest)::q)) cs) w Post:=by obtain⟨h,h2,h3,h4,s⟩:=en hs;refine Goes.dR M (MS h _) h2 h3 h4 s I af H y z (λw=>?_) k;unfold Ab;rw[N];simp only[Hj K];simp[go_sem]
def Goes.aQx{b:Nat}{x:A1}{p:Nat×Nat}(AA:ops[i]?=Y o)(hs:MQ o=A3)(t:o.op=R0 9 (An j))(P:o.dst=Y d)(AS:[0,25].contains d=A9)(S:T[j]?=Y (Ad (Y ⟨b,1,Z⟩)))(U:w.heap[b]?=Y (AF #[x,J s] 59 p))(H:Holds Wb R w)(M:Ax R (Cd [0,25] T))(k:∀R' w',w'.heap=w.heap->(∀b,R b->R' b)->Holds Wb R' w'->Ax R' (Cd [0,25] (T.setIfInBounds d (J s)))->Goes Wb (G ((AW 8).at ⟨T.setIfInBounds d (J s),[]⟩ (B1 ops rest::q)) cs) w' Post):Goes Wb (G ((AW 8).at ⟨T,[]⟩ (B1 ops (i::rest)::q)) cs) w Post:=by
 obtain⟨y,h2,h3,h4,z⟩:=en hs;refine Goes.yJ (Q:=λv h=>v=J s/\h.heap=w.heap) AA (MS y _) h2 h3 h4 z P af AS H M (λT0=>⟨J s,on w T0,?_,rfl,rfl⟩) ?_
 ·unfold Ab;rw[t];simp only[Hj S];have c1:(on w T0).cell? ⟨b,1,Z⟩=Y (J s):=by have W:(on w T0).heap[b]?=Y (AF #[x,J s] 59 p):=U;simp[FB,W]
  simp[go_sem,c1]
 rintro R' v h w'⟨rfl,e1⟩e2 K I N;exact k R' w' (e2.trans e1) K I N
def Goes.aHp(AA:ops[i]?=Y o)(hs:MQ o=A3)(t:o.op=.alloc 59)(U:o.dst=Y d)(N:[0,25].contains d=A9)(z:Holds Wb R w)(K:Ax R (Cd [0,25] T))(k:∀R' w',w'.heap=w.heap.push (AF #[A4 Z 0 0,J ⟨#[]⟩] 59)->(∀b,R b->R' b)->Holds Wb R' w'->Ax R' (Cd [0,25] (T.setIfInBounds d (Ad (Y ⟨w.heap.size,0,Z⟩))))->Goes Wb (G ((AW 8).at ⟨T.setIfInBounds d (Ad (Y ⟨w.heap.size,0,Z⟩)),[]⟩ (B1 ops rest::q)) cs) w' Post):Goes Wb (G ((AW 8).at ⟨T,[]⟩ (B1 ops (i::rest)::q)) cs) w Post:=by
 obtain⟨s,h2,h3,h4,y⟩:=en hs;refine Goes.yJ (Q:=λv h=>v=Ad (Y ⟨w.heap.size,0,Z⟩)/\h.heap=w.heap.push (AF #[A4 Z 0 0,J ⟨#[]⟩] 59)) AA (MS s _) h2 h3 h4 y U af N z K (λT0=>⟨Ad (Y ⟨w.heap.size,0,Z⟩),(on w T0).alloc (AF #[A4 Z 0 0,J ⟨#[]⟩] 59),?_,rfl,rfl⟩) ?_;·have P:=Tryz.zeroValue59;unfold Ab;rw[t];simp[go_sem,P];rfl
 rintro R' v h w'⟨rfl,e1⟩e2 I H M;exact k R' w' (e2.trans e1) I H M
def Goes.zD{b:Nat}{t:Option Ak}{P S:Nat}(AA:ops[i]?=Y o)(hs:MQ o=A3)(W:o.op=.store 59 (An j) (An e))(X:o.dst=Z)(H1:T[j]?=Y (Ad (Y ⟨b,0,Z⟩)))(he:T[e]?=Y (A_ #[A4 t P S,J s]))(y:w.heap[b]?=Y (AF #[A4 Z 0 0,J ⟨#[]⟩] 59))(I:Holds Wb R w)(N:Ax R (Cd [0,25] T))(k:∀R' w',w'.heap[b]?=Y (AF #[A4 t P S,J s] 59)->(∀c,c≠b->w'.heap[c]?=w.heap[c]?)->(∀b,R b->R' b)->Holds Wb R' w'->Ax R' (Cd [0,25] T)->Goes Wb (G ((AW 8).at ⟨T,[]⟩ (B1 ops rest::q)) cs) w' Post):Goes Wb (G ((AW 8).at ⟨T,[]⟩ (B1 ops (i::rest)::q)) cs) w Post:=by
 obtain⟨z,h2,h3,h4,H⟩:=en hs;refine Goes.aTJ (Q:=λu=>u.heap=((w.setCell ⟨b,0,Z⟩ (A4 t P S)).setCell ⟨b,1,Z⟩ (J s)).heap) AA (MS z _) h2 h3 h4 H X af trivial I N (λT0=>⟨((on w T0).setCell ⟨b,0,Z⟩ (A4 t P S)).setCell ⟨b,1,Z⟩ (J s),?_,rfl⟩) ?_
 ·have h:(on w T0).heap[b]?=Y (AF #[A4 Z 0 0,J ⟨#[]⟩] 59):=y;have c0:(on w T0).cell? ⟨b,0,Z⟩=Y (A4 Z 0 0):=by simp[FB,h]
  have c1:(on w T0).cell? ⟨b,1,Z⟩=Y (J ⟨#[]⟩):=by simp[FB,h]
  have z0:=E6 h 0;have Ew:=E6 h 1;unfold Ab;rw[W];simp only[Hj H1,Hj he];simp[go_sem,c0,c1,z0,Ew]
 rintro R' w1 w' e1 e2 M K U;refine k R' w' ?_ (λc hc=>?_) M K U;·rw[e2,e1];exact F2 _ _ 1 _ _ (J s) (F2 w _ 0 _ _ (A4 t P S) y)
 rw[e2,e1,HP _ _ _ _ (show c≠b from hc),HP _ _ _ _ (show c≠b from hc)]
end
def aY4(w:A0)(h:NC AY g5 f2 BM w)(Al:UA AY g5 f2):Ai A6 20 #[Ad (Y ⟨BM,0,Z⟩)] w λe w'=>e=AZ (J (Is V.W_ f2))/\∃q,w'=w.drewN q:=by obtain⟨a,n,c,s,hn⟩:=h.root;have b:=A5 hn;clear hn h;go_enter Tryz.func20,Tryz.ntmps20;go_wp2_with fail;refine(a9N V.W_ (by decide) _ f2 _ Al.roots.2 Al.roots.1.1 b.out).mono ?_;rintro e y⟨rfl,q,rfl⟩;go_wp2;go_ret;exact⟨rfl,q,rfl⟩
def E0(g2 AM fk g0 g7 hw ip s1 p3 wt pp p2 lc rt p4 y4 BD y6 B6 BE B7 y3:A1)(g:Nat->A1):zw:=#[g2,AM,fk,g0,g7,hw,ip,s1,p3,wt,pp,p2,lc,rt,p4,y4,BD,y6,B6,BE,B7,y3,g 22,g 23,g 24,g 25,g 26,g 27,g 28,g 29,g 30,g 31,g 32,g 33,g 34,g 35,g 36,g 37,g 38,g 39,g 40,g 41,g 42,g 43,g 44,g 45,g 46,g 47,g 48,g 49,g 50,g 51,g 52,g 53,g 54,g 55,g 56,g 57,g 58,g 59,g 60,g 61,g 62,g 63,g 64,g 65,g 66,g 67,g 68,g 69,g 70,g 71,g 72,g 73,g 74,g 75,g 76,g 77,g 78,g 79,g 80,g 81,g 82,g 83,g 84,g 85,g 86,g 87,g 88,g 89,g 90,g 91,g 92,g 93,g 94,g 95,g 96,g 97,g 98,g 99,g 100,g 101,g 102,g 103,g 104,g 105,g 106,g 107,g 108,g 109,g 110,g 111,g 112,g 113,g 114,g 115,g 116,g 117,g 118,g 119,g 120,g 121,g 122,g 123,g 124,g 125,g 126,g 127,g 128,g 129,g 130,g 131,g 132,g 133,g 134,g 135,g 136,g 137,g 138,g 139,g 140,g 141,g 142,g 143,g 144,g 145,g 146,g 147,g 148,g 149,g 150,g 151,g 152,g 153,g 154,g 155,g 156,g 157,g 158,g 159,g 160,g 161,g 162,g 163,g 164,g 165,g 166,g 167,g 168,g 169,g 170,g 171,g 172,g 173,g 174,g 175,g 176,g 177,g 178,g 179,g 180,g 181,g 182,g 183,g 184,g 185,g 186,g 187,g 188,g 189,g 190,g 191,g 192,g 193,g 194,g 195,g 196,g 197,g 198,g 199]
section
variable{g2 AM fk g0 g7 hw ip s1 p3 wt pp p2 lc rt p4 y4 BD y6 B6 BE B7 y3:A1}{g:Nat->A1}{T:zw}
def a2N:(E0 g2 AM fk g0 g7 hw ip s1 p3 wt pp p2 lc rt p4 y4 BD y6 B6 BE B7 y3 g).size=200:=rfl
def tJ:(E0 g2 AM fk g0 g7 hw ip s1 p3 wt pp p2 lc rt p4 y4 BD y6 B6 BE B7 y3 g).toList=[g2,AM,fk,g0,g7,hw,ip,s1,p3,wt,pp,p2,lc,rt,p4,y4,BD,y6,B6,BE,B7,y3]++(aH9 22 178).map g:=by kernel_rfl
def aGd(i:Nat)(hi:i<22):(E0 g2 AM fk g0 g7 hw ip s1 p3 wt pp p2 lc rt p4 y4 BD y6 B6 BE B7 y3 g)[i]?=[g2,AM,fk,g0,g7,hw,ip,s1,p3,wt,pp,p2,lc,rt,p4,y4,BD,y6,B6,BE,B7,y3][i]?:=by rw[<-Oi,tJ,cx (by simpa using hi)]
def a2M(hs:T.size=200)(h:∀i,i<22->T[i]?=[g2,AM,fk,g0,g7,hw,ip,s1,p3,wt,pp,p2,lc,rt,p4,y4,BD,y6,B6,BE,B7,y3][i]?):∃g,T=E0 g2 AM fk g0 g7 hw ip s1 p3 wt pp p2 lc rt p4 y4 BD y6 B6 BE B7 y3 g:=by
 refine⟨λi=>T.getD i A',Array.toList_inj.1 ?_⟩;rw[tJ];apply mX;intro i;rw[Oi];by_cases hi:i<22;·rw[h i hi,cx (by simpa using hi)]
 rw[List.getElem?_append_right (by simpa using Nat.le_of_not_lt hi),XU];by_cases h2:i<200
 ·have e:(aH9 22 178)[i-[g2,AM,fk,g0,g7,hw,ip,s1,p3,wt,pp,p2,lc,rt,p4,y4,BD,y6,B6,BE,B7,y3].length]?=Y i:=by rw[List.getElem?_range' (by simp;omega)];simp;omega
  rw[e,LQ,Iv];rw[EP (by omega)];rfl
 rw[Np (by omega),ma (by simp;omega)];rfl
def FR(g2 AM fk g0 g7 hw ip s1 p3 wt pp p2 lc rt p4 y4 BD y6 B6 BE B7 y3:A1)(T:zw):Prop:=∃g,T=E0 g2 AM fk g0 g7 hw ip s1 p3 wt pp p2 lc rt p4 y4 BD y6 B6 BE B7 y3 g
def SU(hs:T.size=200)(h:T.toList.take 22=[g2,AM,fk,g0,g7,hw,ip,s1,p3,wt,pp,p2,lc,rt,p4,y4,BD,y6,B6,BE,B7,y3]):FR g2 AM fk g0 g7 hw ip s1 p3 wt pp p2 lc rt p4 y4 BD y6 B6 BE B7 y3 T:=a2M hs λi hi=>by rw[<-h,aGv hi];simp
end
noncomputable def LW:Bg:=(JF.body).getD Kk
noncomputable def zZ:Bg:=fstC LW
noncomputable def S7:Bg:=sndC LW
noncomputable def qh:Bg:=fstC S7
noncomputable def S8:Bg:=sndC S7
noncomputable def bn:Bg:=fstC S8
noncomputable def S9:Bg:=sndC S8
noncomputable def bo:Bg:=fstC S9
noncomputable def Kg:Bg:=sndC S9
noncomputable def zc:Bg:=fstC Kg
noncomputable def Of:Bg:=sndC Kg
noncomputable def zd:Bg:=fstC Of
noncomputable def Og:Bg:=sndC Of
noncomputable def qi:Bg:=fstC Og
noncomputable def Ph:Bg:=sndC Og
noncomputable def ze:Bg:=fstC Ph
noncomputable def Pj:Bg:=sndC Ph
noncomputable def qc:Bg:=fstC Pj
noncomputable def Pc:Bg:=sndC Pj
noncomputable def qd:Bg:=fstC Pc
noncomputable def Pd:Bg:=sndC Pc
noncomputable def qe:Bg:=fstC Pd
noncomputable def Pe:Bg:=sndC Pd
noncomputable def qf:Bg:=fstC Pe
noncomputable def Pf:Bg:=sndC Pe
noncomputable def fH:Bg:=fstC Pf
noncomputable def No:Bg:=sndC Pf
noncomputable def kT:Bg:=fstC No
noncomputable def Oe:Bg:=sndC No
noncomputable def za:Bg:=fstC Oe
noncomputable def Pg:Bg:=sndC Oe
def aJD(g2 AM fk g0 g7 hw ip s1 p3 wt pp lc rt p4 y4 BD y6 B6 BE B7 y3:A1)(g:Nat->A1)(w:A0):qi.wp A6 (λe b w'=>e=HN/\b.defers=[]/\w'=w/\FR g2 AM fk g0 g7 hw ip s1 p3 wt pp DS lc rt p4 y4 BD y6 B6 BE B7 y3 b.tmps) ⟨E0 g2 AM fk g0 g7 hw ip s1 p3 wt pp DS lc rt p4 y4 BD y6 B6 BE B7 y3 g,[]⟩ w:=by simp only[qi,E0,LW,S7,S8,S9,Kg,Of,Og,Ph,Pj,Pc,Pd,Pe,Pf,No,Oe,Pg,JF,G4,fstC,sndC];go_wp2;exact SU rfl rfl
def aJ6(b b2 n c e:Nat)(a d:Option Ak)(s:zz)(g2 AM fk g0 g7 hw ip s1 p3 wt rt p4 y4 BD y6 B6 BE B7 y3:A1)(g:Nat->A1)(w:A0)(h:w.heap[b]?=Y (AF #[A4 a n c,J s] 59))(h2:w.heap[b2]?=Y (AF #[A4 d n e,J s] 59)):qc.wp A6 (λe y w'=>e=HN/\y.defers=[]/\w'=w/\FR g2 AM fk g0 g7 hw ip s1 p3 wt (Ad (Y ⟨b,0,Z⟩)) DS (Ad (Y ⟨b2,0,Z⟩)) rt p4 y4 BD y6 B6 BE B7 y3 y.tmps) ⟨E0 g2 AM fk g0 g7 hw ip s1 p3 wt (Ad (Y ⟨b,0,Z⟩)) DS (Ad (Y ⟨b2,0,Z⟩)) rt p4 y4 BD y6 B6 BE B7 y3 g,[]⟩ w:=by
 have z:w.cell? ⟨b,0,Z⟩=Y (A4 a n c):=by rw[Ao h];rfl
 have H:w.cell? ⟨b,1,Z⟩=Y (J s):=by rw[Ao h];rfl
 have I:w.cell? ⟨b2,0,Z⟩=Y (A4 d n e):=by rw[Ao h2];rfl
 have K:w.cell? ⟨b2,1,Z⟩=Y (J s):=by rw[Ao h2];rfl
 clear h h2;simp only[qc,E0,LW,S7,S8,S9,Kg,Of,Og,Ph,Pj,Pc,Pd,Pe,Pf,No,Oe,Pg,JF,G4,fstC,sndC];go_wp2;exact SU rfl rfl
def a2m(w:A0)(a2 i:Nat)(g6:zw)(v:zz)(w':A0):Prop:=w'.heap[a2]?=Y (AF (g6.setIfInBounds (i*4+3) (A4 (Y ⟨w.heap.size,0,Z⟩) 1 1)) 75 (0,0))/\w'.heap[w.heap.size]?=Y (AF #[J NL,J (v++hf)] 77)/\∀b,b≠a2->b<w.heap.size->w'.heap[b]?=w.heap[b]?
def aJ7(z:Int)(a2 cap:Nat)(g2 fk g0 g7 hw ip s1 p3 pp p2 lc rt p4 y4 BD y6 B6 BE B7 y3:A1)(g:Nat->A1)(w:A0)(h:-9223372036854775808<=z)(h2:z<=9223372036854775807):qd.wp A6 (λe b w'=>e=HN/\b.defers=[]/\w'=w/\FR g2 (A7 A8 z) fk g0 g7 hw ip s1 p3 (A4 (Y ⟨a2,0,Z⟩) 15 cap) pp p2 lc (A7 A8 (bV z)) p4 y4 BD y6 B6 BE B7 y3 b.tmps) ⟨E0 g2 (A7 A8 z) fk g0 g7 hw ip s1 p3 (A4 (Y ⟨a2,0,Z⟩) 15 cap) pp p2 lc rt p4 y4 BD y6 B6 BE B7 y3 g,[]⟩ w:=by have H:=A5 (aTz z w h h2);simp only[qd,E0,LW,S7,S8,S9,Kg,Of,Og,Ph,Pj,Pc,Pd,Pe,Pf,No,Oe,Pg,JF,G4,fstC,sndC];go_wp2_with(go_at_call 15;refine H.out.mono ?_;rintro e s⟨rfl,rfl⟩);exact SU rfl rfl
def aJ8(a2 cap i:Nat)(L:List Rel)(s:zz)(g2 AM fk g0 g7 hw ip s1 p3 pp p2 lc p4 y4 BD y6 B6 BE B7 y3:A1)(g:Nat->A1)(w:A0)(Ar:L.length=15)(hi:i<L.length)(z:Ih w a2 L)(hs:NI w L[i] s)(y:w.cell? ⟨5,15,Z⟩=Y (A7 F1 4)):qe.wp A6 (λe b w'=>e=HN/\b.defers=[]/\AX w.heap.size w w'/\FR g2 AM fk g0 g7 hw ip s1 p3 (A4 (Y ⟨a2,0,Z⟩) 15 cap) pp p2 lc (A7 A8 (i:Int)) (J s) y4 BD y6 B6 BE B7 y3 b.tmps) ⟨E0 g2 AM fk g0 g7 hw ip s1 p3 (A4 (Y ⟨a2,0,Z⟩) 15 cap) pp p2 lc (A7 A8 (i:Int)) p4 y4 BD y6 B6 BE B7 y3 g,[]⟩ w:=by
 have H:=A5 (a4V L[i] s w hs y);obtain⟨K,M,N,Q⟩:=z i hi;clear hs y z;generalize L[i]=r at*;obtain⟨p,v,m,U,B0,BN,g5⟩:=r;simp only[N']at H K M N Q;have k:i<15:=by omega
 simp only[qe,E0,LW,S7,S8,S9,Kg,Of,Og,Ph,Pj,Pc,Pd,Pe,Pf,No,Oe,Pg,JF,G4,fstC,sndC];go_wp2_with(go_at_call 31;refine H.out.mono ?_;rintro e w1⟨rfl,h⟩;have I:=A5 h;clear h);exact⟨I.out,SU rfl rfl⟩
def aJ9(a2 cap i:Nat)(L:List Rel)(s:zz)(g2 AM fk g0 g7 hw ip s1 p3 pp p2 lc y4 BD y6 B6 BE B7 y3:A1)(g:Nat->A1)(w:A0)(Ar:L.length=15)(hi:i<L.length)(y:Ih w a2 L)(z:L[i].p.size<=1000)(hv:L[i].v.size<=1000)(hs:s.size<=1000):qf.wp A6 (λe b w'=>e=HN/\b.defers=[]/\w'.heap=w.heap/\FR g2 AM fk g0 g7 hw ip s1 p3 (A4 (Y ⟨a2,0,Z⟩) 15 cap) pp p2 lc (A7 A8 (i:Int)) (J s) (J (Gf (L[i].name,s))) BD y6 B6 BE B7 y3 b.tmps) ⟨E0 g2 AM fk g0 g7 hw ip s1 p3 (A4 (Y ⟨a2,0,Z⟩) 15 cap) pp p2 lc (A7 A8 (i:Int)) (J s) y4 BD y6 B6 BE B7 y3 g,[]⟩ w:=by
 obtain⟨H,I,K,M⟩:=y i hi;clear y;have h:Gf (L[i].name,s)=L[i].p++⟨#[32]⟩++L[i].v++⟨#[32]⟩++s++⟨#[10]⟩:=rfl;rw[h];clear h;generalize L[i]=r at*;obtain⟨p,v,m,N,B0,Q,g5⟩:=r;simp only at H I z hv⊢;clear K M;have k:i<15:=by omega
 have Ew:(⟨#[32]⟩:zz).size=1:=rfl;have z2:(⟨#[10]⟩:zz).size=1:=rfl;have U:=JL p ⟨#[32]⟩ (by omega);have t:=JL (p++⟨#[32]⟩) v (by rw[GY];omega);have g3:=JL (p++⟨#[32]⟩++v) ⟨#[32]⟩ (by rw[GY,GY];omega);have g4:=JL (p++⟨#[32]⟩++v++⟨#[32]⟩) s (by rw[GY,GY,GY];omega);have P:=JL (p++⟨#[32]⟩++v++⟨#[32]⟩++s) ⟨#[10]⟩ (by rw[GY,GY,GY,GY];omega);simp only[qf,E0,LW,S7,S8,S9,Kg,Of,Og,Ph,Pj,Pc,Pd,Pe,Pf,No,Oe,Pg,JF,G4,fstC,sndC];go_wp2_with fail;go_quiet(fail);go_wp2_with fail;exact SU rfl rfl
def aJB(a2 cap i:Nat)(L:List Rel)(g6:zw)(g2 AM g0 g7 hw ip s1 p3 pp p2 lc p4 y4 BD y6 B6 BE B7 y3:A1)(g:Nat->A1)(w:A0)(Q:L.length=15)(hi:i<L.length)(s:Ih w a2 L)(hc:w.heap[a2]?=Y (AF g6 75 (0,0)))(H:L[i].m.size<=1000):fH.wp A6 (λe h w'=>e=HN/\h.defers=[]/\w'.heap[a2]?=Y (AF (g6.setIfInBounds (i*4+2) (J (L[i].m++TR))) 75 (0,0))/\(∀b,b≠a2->b<w.heap.size->w'.heap[b]?=w.heap[b]?)/\FR g2 AM (Af A3) g0 g7 hw ip s1 p3 (A4 (Y ⟨a2,0,Z⟩) 15 cap) pp p2 lc (A7 A8 (i:Int)) p4 y4 BD y6 B6 BE B7 y3 h.tmps) ⟨E0 g2 AM (Af A3) g0 g7 hw ip s1 p3 (A4 (Y ⟨a2,0,Z⟩) 15 cap) pp p2 lc (A7 A8 (i:Int)) p4 y4 BD y6 B6 BE B7 y3 g,[]⟩ w:=by
 obtain⟨k,t,I,P⟩:=s i hi;clear s;unfold TR;generalize L[i]=r at*;obtain⟨p,v,m,K,B0,M,g5⟩:=r;simp only at I H⊢;have U:i<15:=by omega
 have z0:=E6 hc (i*4+2);have z2:(⟨#[47,47]⟩:zz).size=2:=rfl;have N:=JL m ⟨#[47,47]⟩ (by omega);have y:=A5 hc;clear hc;simp only[fH,E0,LW,S7,S8,S9,Kg,Of,Og,Ph,Pj,Pc,Pd,Pe,Pf,No,Oe,Pg,JF,G4,fstC,sndC];go_wp2;exact⟨F2 w a2 (i*4+2) _ _ _ y.out,λb z _=>HP _ _ _ _ (show b≠a2 from z),SU rfl rfl⟩
def aJA(a2 cap i:Nat)(L:List Rel)(g6:zw)(g2 AM g0 g7 hw ip s1 p3 pp p2 lc p4 y4 BD y6 B6 BE B7 y3:A1)(g:Nat->A1)(w:A0)(U:L.length=15)(hi:i<L.length)(s:Ih w a2 L)(hc:w.heap[a2]?=Y (AF g6 75 (0,0)))(hv:L[i].v.size<=1000):fH.wp A6 (λe h w'=>e=HN/\h.defers=[]/\a2m w a2 i g6 L[i].v w'/\FR g2 AM (Af A9) g0 g7 hw ip s1 p3 (A4 (Y ⟨a2,0,Z⟩) 15 cap) pp p2 lc (A7 A8 (i:Int)) p4 y4 BD y6 B6 BE B7 y3 h.tmps) ⟨E0 g2 AM (Af A9) g0 g7 hw ip s1 p3 (A4 (Y ⟨a2,0,Z⟩) 15 cap) pp p2 lc (A7 A8 (i:Int)) p4 y4 BD y6 B6 BE B7 y3 g,[]⟩ w:=by
 obtain⟨k,I,t,K⟩:=s i hi;clear s;generalize L[i]=r at*;obtain⟨p,v,m,M,B0,N,g5⟩:=r;simp only at I K hv⊢;have P:i<15:=by omega
 have S:a2<w.heap.size:=Kw hc;have z0:=E6 hc (i*4+3);have z2:(⟨#[120]⟩:zz).size=1:=rfl;have Q:=JL v ⟨#[120]⟩ (by omega);have y:=A5 hc;clear hc;simp only[fH,E0,LW,S7,S8,S9,Kg,Of,Og,Ph,Pj,Pc,Pd,Pe,Pf,No,Oe,Pg,JF,G4,fstC,sndC];go_wp2;refine⟨?_,SU rfl rfl⟩;have H:(w.setCell ⟨a2,i*4+3,Z⟩ (A4 (Y ⟨w.heap.size,0,Z⟩) 1 1)).heap.size=w.heap.size:=by simp
 refine⟨?_,?_,λb z hlt=>?_⟩;·show((w.setCell ⟨a2,i*4+3,Z⟩ (A4 (Y ⟨w.heap.size,0,Z⟩) 1 1)).heap.push _)[a2]?=_;rw[H_ (by omega),<-EP];exact F2 w a2 (i*4+3) _ _ _ y.out
 ·exact F7 _ _ _ H.symm
 show((w.setCell ⟨a2,i*4+3,Z⟩ (A4 (Y ⟨w.heap.size,0,Z⟩) 1 1)).heap.push _)[b]?=_;rw[H_ (by omega),<-EP];exact HP _ _ _ _ (show b≠a2 from z)
noncomputable def qg:Bg:=fstC kT
noncomputable def z_:Bg:=match kT with|Bh _ (kp _ a _)=>a|_=>VG
def aZJ:kT=Bh qg (kp (An 119) z_ VG):=by kernel_rfl
def aJC(a2 cap i:Nat)(L:List Rel)(s t:zz)(g2 AM fk g0 g7 hw ip s1 p3 pp p2 lc y4 BD y6 B6 BE B7 y3:A1)(g:Nat->A1)(w:A0)(Ar:L.length=15)(hi:i<L.length)(z:Ih w a2 L)(hs:NI w L[i] s)(y:w.cell? ⟨5,15,Z⟩=Y (A7 F1 4)):qg.wp A6 (λe b w'=>e=HN/\b.defers=[]/\AX w.heap.size w w'/\b.tmps[119]?=Y (Af (s.toList==t.toList))/\FR g2 AM fk g0 g7 hw ip s1 p3 (A4 (Y ⟨a2,0,Z⟩) 15 cap) pp p2 lc (A7 A8 (i:Int)) (J t) y4 BD y6 B6 BE B7 y3 b.tmps) ⟨E0 g2 AM fk g0 g7 hw ip s1 p3 (A4 (Y ⟨a2,0,Z⟩) 15 cap) pp p2 lc (A7 A8 (i:Int)) (J t) y4 BD y6 B6 BE B7 y3 g,[]⟩ w:=by
 have H:=A5 (a4V L[i] s w hs y);obtain⟨K,M,N,Q⟩:=z i hi;clear hs y z;generalize L[i]=r at*;obtain⟨p,v,m,U,B0,BN,g5⟩:=r;simp only[N']at H K M N Q;have k:i<15:=by omega
 simp only[qg,kT,E0,LW,S7,S8,S9,Kg,Of,Og,Ph,Pj,Pc,Pd,Pe,Pf,No,Oe,Pg,JF,G4,fstC,sndC];go_wp2_with(go_at_call 31;refine H.out.mono ?_;rintro e w1⟨rfl,h⟩;have I:=A5 h;clear h);exact⟨I.out,SU rfl rfl⟩
def uq:JF.results=#[a16 6]:=by kernel_rfl
def aXp(b y n c m e:Nat)(a d:Option Ak)(s l:zz)(g2 AM fk g0 g7 hw ip s1 p3 wt lc rt p4 y6 B6 BE B7 y3:A1)(g:Nat->A1)(w:A0)(H:w.heap[b]?=Y (AF #[A4 a n c,J s] 59))(h3:w.heap[y]?=Y (AF #[A4 d m e,J s] 59))(hs:s.size<=1000000)(N:l.size<=10000)(I:∀k,k+l.size<=s.size->s.extract k (k+l.size)≠l):Pg.wp A6 (a1P A6 JF λe K=>∃v,e=AZ v/\v=Af A3/\K.heap=w.heap) ⟨E0 g2 AM fk g0 g7 hw ip s1 p3 wt (Ad (Y ⟨b,0,Z⟩)) DS lc rt p4 (J l) (Ad (Y ⟨y,0,Z⟩)) y6 B6 BE B7 y3 g,[]⟩ w:=by
 have U:w.cell? ⟨b,1,Z⟩=Y (J s):=by rw[Ao H];rfl
 have t:w.cell? ⟨y,1,Z⟩=Y (J s):=by rw[Ao h3];rfl
 clear H h3;simp only[E0,LW,S7,S8,S9,Kg,Of,Og,Ph,Pj,Pc,Pd,Pe,Pf,No,Oe,Pg,JF,G4,fstC,sndC];go_wp2_with fail;go_loopw[17,18]λr k wr=>∃j:Nat,r=Af A9/\k=A7 A8 (j:Int)/\j<=s.size+1/\wr=w(λ_ k _=>s.size+1-match k with|A7 _ z=>z.toNat|_=>0);case atStart=>exact⟨0,rfl,rfl,by omega,rfl⟩
 case round=>
  obtain⟨j,rfl,rfl,M,rfl⟩:=hrel;by_cases hlt:j+l.size<=s.size
  ·have Q:((s.extract j (j+l.size)).toList==l.toList)=A9:=by rw[beq_eq_false_iff_ne];exact λh=>I j hlt ((dQ _ _).1 h)
   go_wp2_with fail;refine⟨⟨j+1,rfl,by rw[a2J];rfl,by omega,trivial⟩,?_⟩;show s.size+1-((j:Int)+1).toNat<s.size+1-(j:Int).toNat;omega
  go_wp2_with fail;go_ret;exact⟨_,rfl,rfl,rfl⟩
def aXr(N K n c a2 cap i I:Nat)(a:Option Ak)(s l p v:zz)(q:A1)(g2 AM fk g0 g7 hw ip s1 p3 lc p4 y6 B6 BE B7 y3:A1)(g:Nat->A1)(w:A0)(h1:w.heap[N]?=Y (AF #[A4 a n c,J s] 59))(h3:w.heap[K]?=Y (AF #[A4 Z 0 0,J ⟨#[]⟩] 59))(hs:s.size<=1000000)(AE:l.size<=10000)(AV:I+l.size<=s.size)(U:s.extract I (I+l.size)=l)(AK:KF 0 w q (Y (7,0,p,v)))(hi:i<15)(r0:w.cell? ⟨a2,i*4,Z⟩=Y (J p))(r1:w.cell? ⟨a2,i*4+1,Z⟩=Y (J v)):Pg.wp A6 (a1P A6 JF λe w1=>∃v,e=AZ v/\v=Af A3/\w.heap.size<=w1.heap.size/\∀b,b<w.heap.size->w1.heap[b]?=w.heap[b]?) ⟨E0 g2 AM fk g0 g7 hw ip s1 p3 (A4 (Y ⟨a2,0,Z⟩) 15 cap) (Ad (Y ⟨N,0,Z⟩)) (EL 96 q) lc (A7 A8 (i:Int)) p4 (J l) (Ad (Y ⟨K,0,Z⟩)) y6 B6 BE B7 y3 g,[]⟩ w:=by
 have S:w.cell? ⟨N,1,Z⟩=Y (J s):=by rw[Ao h1];rfl
 have t:w.cell? ⟨K,0,Z⟩=Y (A4 Z 0 0):=by rw[Ao h3];rfl
 have P:w.cell? ⟨K,1,Z⟩=Y (J ⟨#[]⟩):=by rw[Ao h3];rfl
 have H:=A5 (oq 7 p v q w AK);have C2:=A5 (zj (zj r0 r1) (zj t P));clear h1 h3 AK t P r0 r1;simp only[E0,LW,S7,S8,S9,Kg,Of,Og,Ph,Pj,Pc,Pd,Pe,Pf,No,Oe,Pg,JF,G4,fstC,sndC];go_wp2_with fail;go_loopw[17,18]λr k wr=>∃(j:Nat)(b:Bool),r=Af b/\k=A7 A8 (j:Int)/\j<=s.size+1/\(b=A3∨j<=I)/\wr=w(λ_ k _=>s.size+1-match k with|A7 _ z=>z.toNat|_=>0);case atStart=>exact⟨0,A9,rfl,rfl,by omega,AJ (Jf _),rfl⟩
 case round=>
  obtain⟨j,b,rfl,rfl,W,M,rfl⟩:=hrel;by_cases hlt:j+l.size<=s.size
  ·cases b with
   |true=>go_wp2_with fail;refine⟨⟨j+1,A3,rfl,by rw[a2J];rfl,by omega,AD rfl,trivial⟩,?_⟩;show s.size+1-((j:Int)+1).toNat<s.size+1-(j:Int).toNat;omega
   |false=>
    go_wp2_with fail;refine⟨⟨j+1,_,rfl,by rw[a2J];rfl,by omega,?_,trivial⟩,?_⟩
    ·rcases Nat.lt_or_ge j I with h|h;·exact AJ h
     have Q:j=I:=by have:=M.resolve_left (by decide);omega
     left;rw[Q,U,beq_self_eq_true]
    show s.size+1-((j:Int)+1).toNat<s.size+1-(j:Int).toNat;omega
  obtain rfl:b=A3:=M.resolve_right λh=>by omega
  go_wp2_with(go_at_call 32;refine H.out.mono ?_;rintro e w1⟨rfl,Au⟩;have y:=A5 Au;clear Au;(have t:=Am y.out C2.out.2.1);(have P:=Am y.out C2.out.2.2);(have r0:=Am y.out C2.out.1.1);(have r1:=Am y.out C2.out.1.2));go_ret;exact⟨_,rfl,rfl,y.out.size,λb M=>y.out.block b M⟩
def Hb(g:AR)(w:A0)(Post:AR->A0->Prop):Prop:=∀(t:Trace)(q:Nat->Nat),De A6 (λ_=>False) #[g] w t q g->∃(N:Nat)(b:AR)(w':A0)(h:Trace),Ey A6 N (Dr g w) t=(Ds (Dr b w'),h)/\De A6 (λ_=>False) #[b] w' h q b/\Post b w'
def Hb.here{Post:AR->A0->Prop}(h:Post g w):Hb g w Post:=λt _ hc=>⟨0,g,w,t,rfl,hc,h⟩
def Hb.bind{Post P:AR->A0->Prop}(h:Hb g w Post)(k:∀b w',Post b w'->Hb b w' P):Hb g w P:=by intro t q hc;obtain⟨N,y,w1,Q,K,c1,H⟩:=h t q hc;obtain⟨s,z,w2,U,M,c2,I⟩:=k y w1 H Q q c1;exact⟨N+s,z,w2,U,bf K M,c2,I⟩
def Hb.step{g':AR}{es:Array Event}{Post:AR->A0->Prop}(hs:g.status=.running)(h:Bi A6 A3 g w=.go g' w' es)(y:EB w w' #[] es)(k:Hb g' w' Post):Hb g w Post:=by intro t q hc;obtain⟨e1,c1⟩:=kL hs h y hc;obtain⟨b,s,K,I,H,c2,z⟩:=k _ q c1;refine⟨b+1,s,K,I,?_,c2,z⟩;rw[Ey,e1];exact H
def Hb.ctl{g':AR}{Post:AR->A0->Prop}(hs:g.status=.running)(h:∀w,Bi A6 A3 g w=.go g' w #[])(k:Hb g' w Post):Hb g w Post:=.step hs (h w) (EB.refl w #[]) k
def Hb.pure{b:Ag}{a:Act}{rest:List Nat}{Post:AR->A0->Prop}(v:A1)(s:ops[i]?=Y o)(I:Gt o (I6 ops a.tmps)=A3)(H:b.kind≠.early)(h:∀w,(Ab a.eval o).runT A6 w #[]=(Ac (D6 v) w,#[]))(k:Hb (G (b.at (a.put o.dst v) (B1 ops rest::q)) cs) w Post):Hb (G (b.at a (B1 ops (i::rest)::q)) cs) w Post:=by
 have z:((b.at a (B1 ops (i::rest)::q)).kind==.early)=A9:=by simpa[Frame.at]using H
 have y:(b.at a (B1 ops (i::rest)::q)).finish v=b.at (a.put o.dst v) (B1 ops rest::q):=by rw[LF,s];rfl
 refine .step (es:=seen A6 b.fn #[]) rfl ?_ ((EB.refl w #[]).seen _) k;rw[stepG_oper s I,Jh z (h w) rfl,y];rfl
def CZ.solo{Stop:AR->A0->Prop}{a:AR}(h:CZ A6 (λ_=>False) Stop a w):Hb a w Stop:=by
 induction h with
 |stop h=>rename_i g w;exact .here (h w.drawn)
 |go b hs h _ I=>
  rename_i g w _;intro t q hc;obtain⟨s,h2⟩:=h w.drawn;have s:Bi A6 A3 g w=.go (b w.drawn).g (b w.drawn).w (b w.drawn).es:=s;have y:=(De.own hc (a':=(b w.drawn).g) (w':=(b w.drawn).w) (AJ trivial) h2 g.frame.fn g.frame.place).2;have e:(#[g].map (woken A6 g (b w.drawn).g (b w.drawn).w)).setIfInBounds 0 (b w.drawn).g=#[(b w.drawn).g]:=by simp
  rw[e]at y;obtain⟨z,H,Q,N,M,c2,K⟩:=I w.drawn _ q y;refine⟨z+1,H,Q,N,?_,c2,K⟩;rw[Ey,(stepT_solo hs).trans (runT_solo_go s)];exact M
def zJ(f:Nat):Bool:=f==19||f==50||f==49||f==15
def a8a:mS A6 zJ:=by
 intro f b;unfold zJ at b;simp only[Bool.or_eq_true,beq_iff_eq]at b;rcases b with((rfl|rfl)|rfl)|rfl;·exact⟨lQ,(lQ.body).getD Kk,aEM,by kernel_rfl,by kernel_rfl,by kernel_rfl⟩
 ·exact⟨aEJ,(aEJ.body).getD Kk,Tryz.func50,by kernel_rfl,by kernel_rfl,by kernel_rfl⟩
 ·exact⟨aEI,(aEI.body).getD Kk,Tryz.func49,by kernel_rfl,by kernel_rfl,by kernel_rfl⟩
 exact⟨aEF,(aEF.body).getD Kk,Tryz.func15,by kernel_rfl,by kernel_rfl,by kernel_rfl⟩
def aVm:(A6.funcs.all λf=>(f.body.map readies).all (·.isEmpty))=A3:=by kernel_rfl
def aXQ(g:Nat):A6.stepOf g=Z:=by unfold a_1;rw[Array.findIdx?_eq_none_iff];intro f s;have h:=Array.all_eq_true'.1 aVm f s;cases b:f.body with|none=>rfl|some c=>rw[b]at h;have h:(readies c).isEmpty=A3:=h;simp[List.isEmpty_iff.1 h]
def Hb.small{f:Nat}{args:zw}{c':Ag}{cs':List Ag}{Q:A1->A0->Prop}(AK:zJ f=A3)(h:Ai A6 f args w λe b=>∃v,e=AZ v/\Q v b):Hb (G (HO A6 f args GG) (c'::cs')) w λU w'=>∃v,U=G (c'.finish v) cs'/\Q v w':=by
 intro t q hc;obtain⟨e,b,s,⟨v,rfl,AH⟩,⟨N,k⟩,X,H,AS,hk,z,S,W⟩:=h [bot];obtain⟨t1,r1,c1⟩:=aY0 aXQ a8a N (l:=[]) (base:=c'::cs') (Ml.enter a8a AK args) (AD rfl) (λc hc=>by cases hc) k H hc;have y:=(a9F (P:=A6) z s.tmps).runs b #[];have I:=Rs (P:=A6) (D_ z s.tmps) b #[];rw[W]at I;cases M:(D_ z s.tmps).runT A6 b #[]with
 |mk r K=>
  rw[M]at I y;cases I;have y:EB b b #[] K:=y;have Bm:Bi A6 A3 (G s (c'::cs')) b=.go (G (c'.finish v) cs') b (seen A6 s.fn K):=by rw[Qp rfl H];exact Rz AS H hk S M
  obtain⟨e1,c2⟩:=kL rfl Bm (y.seen _) c1;refine⟨N+1,_,b,_,bf r1 (N2:=1) (r:=(Ds (Dr (G (c'.finish v) cs') b),_)) ?_,c2,v,rfl,AH⟩;rw[Ey,e1];rfl
def aLc(y:Ol w):Closed CM (λb=>Ci<=b/\b<w.heap.size) (λb=>b<Ci) w:=by refine⟨λb h=>?_,λb h x=>t_ _ (Ku h x.1),λb h=>h⟩;obtain⟨cs,t,s,h2⟩:=y b h;refine⟨_,s,.cells t (Aq.WU λv hv=>?_) (Nt.refl _)⟩;obtain⟨j,z⟩:=List.mem_iff_getElem?.1 hv;obtain⟨k,n,rfl⟩:=h2 j v (by simpa using z);exact .int k n
def gx(p:Nat->Nat)(x:C')(o:BR):zy|0=>MQ o=A3/\o.op=Mb (An 8)/\o.dst=Y (p 0)|1=>o.guard=Z/\o.op=.call {callee:=N7 (.func 20),args:=#[An (p 0)],argTypes:=#[34]}/\o.dst=Y (p 1)|2=>MQ o=A3/\o.op=Mb (An 9)/\o.dst=Y (p 2)|3=>MQ o=A3/\o.op=gB 59 (An 10) 1/\o.dst=Y (p 3)|4=>MQ o=A3/\o.op=R0 9 (An (p 3))/\o.dst=Y (p 4)|5=>o.guard=Z/\o.op=.call {callee:=N7 (.func 30),args:=#[An (p 1),An (p 2),x],argTypes:=#[9,47,9]}/\o.dst=Y (p 5)|6=>MQ o=A3/\o.op=Mb (An (p 5))/\o.dst=Y (p 6)|7=>MQ o=A3/\o.op=a00 (An (p 6)) 0/\o.dst=Y (p 7)|8=>MQ o=A3/\o.op=a00 (An (p 6)) 1/\o.dst=Y (p 8)|9=>MQ o=A3/\o.op=.alloc 59/\o.dst=Y (p 9)|10=>MQ o=A3/\o.op=.store 59 (An (p 9)) (An (p 7))/\o.dst=Z|11=>MQ o=A3/\o.op=SK (An (p 8))/\o.dst=Y (p 11)|_=>False
def Xm(D:Nat->Bool):Nat->Bool|0=>A3|1=>D 0|2=>A3|3=>A3|4=>D 3|5=>D 1&&(D 2&&D 4)|6=>D 5|7=>D 6|8=>D 6|9=>A3|10=>D 9&&D 7|11=>D 8&&D 10|_=>A9
def bO(kds:List Nat)(D:Nat->Bool):List Nat->Bool|[]=>D 11|i::r=>match kds[i]? with|Y k=>!D k&&(Xm D k&&bO kds (λj=>j==k||D j) r)|Z=>A9
def n9(j k:Nat)(h:Xm D k=A3):Xm (λi=>i==j||D i) k=A3:=by match k,h with|0,_=>rfl|1,h=>exact O_ j 0 h|2,_=>rfl|3,_=>rfl|4,h=>exact O_ j 3 h|5,h=>have h:(D 1&&(D 2&&D 4))=A3:=h;simp only[G0]at h;show((1==j||D 1)&&((2==j||D 2)&&(4==j||D 4)))=A3;simp[h.1,h.2.1,h.2.2]|6,h=>exact O_ j 5 h|7,h=>exact O_ j 6 h|8,h=>exact O_ j 6 h|9,_=>rfl|10,h=>have h:(D 9&&D 7)=A3:=h;simp only[G0]at h;show((9==j||D 9)&&(7==j||D 7))=A3;simp[h.1,h.2]|11,h=>have h:(D 8&&D 10)=A3:=h;simp only[G0]at h;show((8==j||D 8)&&(10==j||D 10))=A3;simp[h.1,h.2]|n+12,h=>exact h
structure a8(p:Nat->Nat)(x:C')(kds:List Nat)(ops:Array BR)(BM bb:Nat)(C1:A1)(Hq GO:zz)(H9:A1->A1->A0->Prop)(T0:zw)(w0:A0)(BX:zy):Prop where
 each:∀(i k:Nat),kds[i]?=Y k->∃o,ops[i]?=Y o/\gx p x o k
 inj:∀i j,i<12->j<12->p i=p j->i=j
 Mm:∀i,i<12->p i<200/\[0,25].contains (p i)=A9/\p i≠8/\p i≠9
 three:4∈kds->3∈kds
 zK:3∈kds->(∀i,i<12->p i≠10)/\T0[10]?=Y (Ad (Y ⟨bb,0,Z⟩))/\BX bb/\∃x,w0.heap[bb]?=Y (AF #[x,J GO] 59)
 qL:x=Iy (J GO)∨x=An (p 4)
 size:T0.size=200
 ew:T0[8]?=Y (Ad (Y ⟨BM,0,Z⟩))
 v9:T0[9]?=Y C1
 said:∀w,(∀b,BX b->w.heap[b]?=w0.heap[b]?)->Ai A6 20 #[Ad (Y ⟨BM,0,Z⟩)] w λe w'=>e=AZ (J Hq)/\∃q,w'=w.drewN q
 res:∀(DY CJ:A1)(w w':A0),H9 DY CJ w->(∀(b:Nat)(c:zw),w.heap[b]?=Y (AF c 150 (0,0))->w'.heap[b]?=Y (AF c 150 (0,0)))->H9 DY CJ w'
 shape:∀DY CJ w,H9 DY CJ w->∃HF ID Cv s,DY=A_ #[A4 HF ID Cv,J s]
 load:∀(Wb R:zy)(w:A0)(c':Ag)(cs':List Ag),(∀b,BX b->R b/\w.heap[b]?=w0.heap[b]?)->Holds Wb R w->Goes Wb (G (HO A6 30 #[J Hq,C1,J GO] GG) (c'::cs')) w λBW g' w'=>∃R' DY CJ,g'=G (c'.finish (Ay #[DY,CJ])) cs'/\AN CM (C_ R') (Ay #[DY,CJ]) (Ay #[DY,CJ])/\(∀b,R b->R' b)/\Holds BW R' w'/\(∀b,R b->w'.heap[b]?=w.heap[b]?)/\H9 DY CJ w'
def tL(p:Nat->Nat)(x:C')(BM bb:Nat)(C1:A1)(Hq GO:zz)(H9:A1->A1->A0->Prop)(BX:zy)(DY CJ:A1)(DW:Nat)(D:Nat->Bool)(R:zy)(T:zw)(w:A0):zy|0=>T[p 0]?=Y (Ad (Y ⟨BM,0,Z⟩))|1=>T[p 1]?=Y (J Hq)|2=>T[p 2]?=Y C1|3=>D 4=A3∨T[p 3]?=Y (Ad (Y ⟨bb,1,Z⟩))|4=>x=Iy (J GO)∨T[p 4]?=Y (J GO)|5=>T[p 5]?=Y (Ay #[DY,CJ])/\H9 DY CJ w|6=>T[p 6]?=Y (Ay #[DY,CJ])|7=>T[p 7]?=Y DY|8=>T[p 8]?=Y CJ|9=>T[p 9]?=Y (Ad (Y ⟨DW,0,Z⟩))/\R DW/\¬BX DW/\(D 10=A9/\w.heap[DW]?=Y (AF #[A4 Z 0 0,J ⟨#[]⟩] 59)∨D 10=A3/\∃b y h s,DY=A_ #[A4 b y h,J s]/\w.heap[DW]?=Y (AF #[A4 b y h,J s] 59))|11=>T[p 11]?=Y CJ|_=>True
structure SS(p:Nat->Nat)(x:C')(BM bb:Nat)(C1:A1)(Hq GO:zz)(H9:A1->A1->A0->Prop)(T0:zw)(w0:A0)(BX:zy)(DY CJ:A1)(DW:Nat)(D:Nat->Bool)(R:zy)(T:zw)(w:A0):Prop where
 size:T.size=200
 rest:∀j,(∀i,i<12->j≠p i)->T[j]?=T0[j]?
 old:∀b,BX b->R b/\w.heap[b]?=w0.heap[b]?
 left:∀k,D k=A3->tL p x BM bb C1 Hq GO H9 BX DY CJ DW D R T w k
 JM:∀k,D k=A3->Xm D k=A3
section
variable{p:Nat->Nat}{x:C'}{kds:List Nat}{ops:Array BR}{BM bb:Nat}{C1:A1}{Hq GO:zz}{H9:A1->A1->A0->Prop}{T0:zw}{w0:A0}{BX:zy}{DY CJ:A1}{DW:Nat}{D:Nat->Bool}{R:zy}{T:zw}{w:A0}
def SS.put(S:a8 p x kds ops BM bb C1 Hq GO H9 T0 w0 BX)(h:SS p x BM bb C1 Hq GO H9 T0 w0 BX DY CJ DW D R T w){k:Nat}(hk:k<12)(wN:k≠10)(Bw:D k=A9)(EN:Xm D k=A3){v:A1}{t P:A1}{W:Nat}{R':zy}{w':A0}(s2:∀b,R b->R' b)(e:∀b,R b->w'.heap[b]?=w.heap[b]?)(I:D 5=A3->t=DY/\P=CJ/\(H9 DY CJ w->H9 DY CJ w'))(HU:D 9=A3->W=DW)(AE:tL p x BM bb C1 Hq GO H9 BX t P W (λj=>j==k||D j) R' (T.setIfInBounds (p k) v) w' k):SS p x BM bb C1 Hq GO H9 T0 w0 BX t P W (λj=>j==k||D j) R' (T.setIfInBounds (p k) v) w':=by
 have y:∀i,i<12->i≠k->∀u,T[p i]?=Y u->(T.setIfInBounds (p k) v)[p i]?=Y u:=λi hi s u hu=>aP hu λe=>s (S.inj i k hi hk e.symm);have UO:(λj=>j==k||D j) 10=D 10:=by simp[Gu wN]
 refine⟨by rw[Pk];exact h.size,λj H1=>?_,λb U=>⟨s2 b (h.old b U).1,(e b (h.old b U).1).trans (h.old b U).2⟩,λi hi=>?_,λi hi=>?_⟩;·rw[Gp (Gu (H1 k hk))];exact h.rest j H1
 ·by_cases s:i=k;·rw[s];exact AE
  have K:D i=A3:=by simpa[s]using hi
  have Ar:=h.left i K;have H:i=6∨i=7∨i=8∨i=11->D 5=A3:=λhc=>by
   have N:D 6=A3->D 5=A3:=λz=>h.JM 6 z;have M:D 8=A3->D 6=A3:=λz=>h.JM 8 z;rcases hc with rfl|rfl|rfl|rfl;·exact N K
   ·exact N (h.JM 7 K)
   ·exact N (M K)
   have:=h.JM 11 K;have this:(D 8&&D 10)=A3:=this;exact N (M (Bool.and_eq_true_iff.1 this).1)
  match i,s,Ar,K,H with|0,s,Ar,_,_=>exact y 0 (by decide) s _ Ar|1,s,Ar,_,_=>exact y 1 (by decide) s _ Ar|2,s,Ar,_,_=>exact y 2 (by decide) s _ Ar|3,s,Ar,_,_=>exact Ar.imp (O_ k 4) λz=>y 3 (by decide) s _ z|4,s,Ar,_,_=>exact Ar.imp id λz=>y 4 (by decide) s _ z|5,s,Ar,X,_=>obtain⟨rfl,rfl,Q⟩:=I X;exact⟨y 5 (by decide) s _ Ar.1,Q Ar.2⟩|6,s,Ar,_,H=>obtain⟨rfl,rfl,_⟩:=I (H (by simp));exact y 6 (by decide) s _ Ar|7,s,Ar,_,H=>obtain⟨rfl,rfl,_⟩:=I (H (by simp));exact y 7 (by decide) s _ Ar|8,s,Ar,_,H=>obtain⟨rfl,rfl,_⟩:=I (H (by simp));exact y 8 (by decide) s _ Ar|9,s,Ar,X,_=>obtain rfl:=HU X;obtain⟨Cj,CS,Ra,TL⟩:=Ar;refine⟨y 9 (by decide) s _ Cj,s2 _ CS,Ra,?_⟩;rw[UO,e _ CS];refine TL.imp id ?_;rintro⟨z,el⟩;have dt:(D 9&&D 7)=A3:=h.JM 10 z;have vz:D 5=A3:=h.JM 6 (h.JM 7 (Bool.and_eq_true_iff.1 dt).2);obtain⟨rfl,_,_⟩:=I vz;exact⟨z,el⟩|10,_,_,_,_=>exact trivial|11,s,Ar,_,H=>obtain⟨rfl,rfl,_⟩:=I (H (by simp));exact y 11 (by decide) s _ Ar|n+12,_,_,_,_=>exact trivial
 by_cases s:i=k;·rw[s];exact n9 k k EN
 exact n9 k i (h.JM i (by simpa[s]using hi))
def SS.calm(S:a8 p x kds ops BM bb C1 Hq GO H9 T0 w0 BX)(h:SS p x BM bb C1 Hq GO H9 T0 w0 BX DY CJ DW D R T w){k:Nat}(I:k<12)(K:k≠10)(N:D k=A9)(H:Xm D k=A3){v:A1}{R':zy}{w':A0}(s:∀b,R b->R' b)(e:w'.heap=w.heap)(M:tL p x BM bb C1 Hq GO H9 BX DY CJ DW (λj=>j==k||D j) R' (T.setIfInBounds (p k) v) w' k):SS p x BM bb C1 Hq GO H9 T0 w0 BX DY CJ DW (λj=>j==k||D j) R' (T.setIfInBounds (p k) v) w':=h.put S I K N H s λb _=>by rw[e] (λ_=>⟨rfl,rfl,λz=>S.res _ _ _ _ z λb c y=>by rw[e];exact y⟩) (λ_=>rfl) M
def SS.at(S:a8 p x kds ops BM bb C1 Hq GO H9 T0 w0 BX)(h:SS p x BM bb C1 Hq GO H9 T0 w0 BX DY CJ DW D R T w)(j:Nat)(u:A1)(b:∀i,i<12->p i≠j)(hu:T0[j]?=Y u):T[j]?=Y u:=(h.rest j λi hi e=>b i hi e.symm).trans hu
end
def aXO{kds:List Nat}{bb:Nat}{Hq GO:zz}{DW:Nat}{k:Nat}{rest:List Nat}(S:a8 p x kds ops BM bb C1 Hq GO H9 T0 w0 BX)(P:Holds Wb R w)(W:Ax R (Cd [0,25] T))(h:SS p x BM bb C1 Hq GO H9 T0 w0 BX DY CJ DW D R T w)(hi:kds[i]?=Y k)(t:D k=A9)(N:Xm D k=A3)(K:∀(BW R':zy)(w':A0)(BV:zw)(DY CJ:A1)(DW:Nat),Holds BW R' w'->Ax R' (Cd [0,25] BV)->SS p x BM bb C1 Hq GO H9 T0 w0 BX DY CJ DW (λj=>j==k||D j) R' BV w'->Goes BW (G ((AW 8).at ⟨BV,[]⟩ (B1 ops rest::q)) cs) w' Post):Goes Wb (G ((AW 8).at ⟨T,[]⟩ (B1 ops (i::rest)::q)) cs) w Post:=by
 obtain⟨o,AA,d0⟩:=S.each i k hi;have HT:=h.at S 8 _ (λi hi=>(S.Mm i hi).2.2.1) S.ew;have HU:=h.at S 9 _ (λi hi=>(S.Mm i hi).2.2.2) S.v9;have Cy:∀k,k<12->∀v,(T.setIfInBounds (p k) v)[p k]?=Y v:=λk hk v=>get_at (by rw[h.size];exact(S.Mm k hk).1);match k,d0 with
 |0,⟨h1,h2,h3⟩=>exact Goes.eQ AA h1 (AD h2) h3 (S.Mm 0 (by decide)).2.1 HT P W λR' w' e H I M=>K Wb R' w' _ DY CJ DW I M (h.calm S (by decide) (by decide) t N H e (Cy 0 (by decide) _))
 |1,⟨h1,h2,h3⟩=>
  have AV:T[p 0]?=Y (Ad (Y ⟨BM,0,Z⟩)):=h.left 0 N;refine Goes.a3q (f:=20) (fn:=Tryz.f20) (opd:=#[An (p 0)]) (ats:=#[34]) (args:=#[Ad (Y ⟨BM,0,Z⟩)]) (Q:=λv w'=>v=J Hq/\w'.heap=w.heap) AA (MS h1 _) h2 h3 aEP (by kernel_rfl) (by kernel_rfl) (S.Mm 1 (by decide)).2.1 (by simp[Hj AV]) P W (.cons (Ax.TS W (p 0) (S.Mm 0 (by decide)).2.1 AV) .nil) (λy=>?_) ?_
  ·refine CallsC.mono (Q:=λv w'=>∃u:A0,w'.heap=u.heap/\v=J Hq/\u.heap=w.heap) (CallsC.lone (UI _ (by kernel_rfl)) aEP (by kernel_rfl) λBK=>?_) ?_;·refine(S.said (on (w.at y) BK) λb U=>(h.old b U).2).mono ?_;rintro e u⟨rfl,q,rfl⟩;exact⟨_,rfl,rfl,rfl⟩
   rintro v w'⟨u,e1,e2,Co⟩;exact⟨e2,e1.trans Co⟩
  rintro BW R' v w'⟨rfl,e⟩H I M;exact K BW R' w' _ DY CJ DW I M (h.calm S (by decide) (by decide) t N H e (Cy 1 (by decide) _))
 |2,⟨h1,h2,h3⟩=>exact Goes.eQ AA h1 (AD h2) h3 (S.Mm 2 (by decide)).2.1 HU P W λR' w' e H I M=>K Wb R' w' _ DY CJ DW I M (h.calm S (by decide) (by decide) t N H e (Cy 2 (by decide) _))
 |3,⟨h1,h2,h3⟩=>obtain⟨t1,t2,t3,_⟩:=S.zK (U8 hi);exact Goes.aL' AA h1 h2 h3 (S.Mm 3 (by decide)).2.1 (h.at S 10 _ t1 t2) P W λR' w' e H I M=>K Wb R' w' _ DY CJ DW I M (h.calm S (by decide) (by decide) t N H e (AJ (Cy 3 (by decide) _)))
 |4,⟨h1,h2,h3⟩=>
  have aT:D 4=A3∨T[p 3]?=Y (Ad (Y ⟨bb,1,Z⟩)):=h.left 3 N;have vE:=aT.resolve_left λz=>by rw[t]at z;cases z
  obtain⟨t1,t2,t3,y,t4⟩:=S.zK (S.three (U8 hi));exact Goes.aQx AA h1 h2 h3 (S.Mm 4 (by decide)).2.1 vE ((h.old bb t3).2.trans t4) P W λR' w' e H I M=>K Wb R' w' _ DY CJ DW I M (h.calm S (by decide) (by decide) t N H e (AJ (Cy 4 (by decide) _)))
 |5,⟨h1,h2,h3⟩=>
  have AS:(D 1&&(D 2&&D 4))=A3:=N;simp only[G0]at AS;have GZ:T[p 1]?=Y (J Hq):=h.left 1 AS.1;have F9:T[p 2]?=Y C1:=h.left 2 AS.2.1;have v3:Cg ⟨T,[]⟩ x=J GO:=by
   have h4:x=Iy (J GO)∨T[p 4]?=Y (J GO):=h.left 4 AS.2.2;rcases h4 with h4|h4;·rw[h4];rfl
   rcases S.qL with X|X;·rw[X];rfl
   rw[X];exact Hj h4
  refine .ctl rfl (λ_=>Tg (f:=30) (fn:=N8) (c:=Ji) (az:=#[.tmp (p 1),.tmp (p 2),x]) (ats:=#[9,47,9]) AA (MS h1 _) (by simp[AW]) h2 X' (by kernel_rfl) (by kernel_rfl)) λd=>?_;have L':(#[.tmp (p 1),.tmp (p 2),x]:Array C').map (Cg ⟨T,[]⟩)=#[.string Hq,C1,.string GO]:=by simp[Hj GZ,Hj F9,v3]
  rw[L'];refine(S.load Wb R (w.at d) _ cs h.old (P.at d)).bind ?_;rintro BW g' w'⟨R',aE,aN,rfl,hv,H,I,Dz,F'⟩;rw[LF,AA,SZ,h3];refine K BW R' w' _ aE aN DW I (Ax.Rw (Ax.mono W H) hv (S.Mm 5 (by decide)).2.1) (h.put S (by decide) (by decide) t N H Dz (λz=>by rw[t]at z;cases z) (λ_=>rfl) ⟨Cy 5 (by decide) _,F'⟩)
 |6,⟨h1,h2,h3⟩=>have X:=(h.left 5 N).1;exact Goes.eQ AA h1 (AD h2) h3 (S.Mm 6 (by decide)).2.1 X P W λR' w' e H I M=>K Wb R' w' _ DY CJ DW I M (h.calm S (by decide) (by decide) t N H e (Cy 6 (by decide) _))
 |7,⟨h1,h2,h3⟩=>have CN:T[p 6]?=Y (Ay #[DY,CJ]):=h.left 6 N;exact Goes.aAZ AA h1 h2 h3 (S.Mm 7 (by decide)).2.1 CN rfl P W λR' w' e H I M=>K Wb R' w' _ DY CJ DW I M (h.calm S (by decide) (by decide) t N H e (Cy 7 (by decide) _))
 |8,⟨h1,h2,h3⟩=>have CN:T[p 6]?=Y (Ay #[DY,CJ]):=h.left 6 N;exact Goes.aAZ AA h1 h2 h3 (S.Mm 8 (by decide)).2.1 CN rfl P W λR' w' e H I M=>K Wb R' w' _ DY CJ DW I M (h.calm S (by decide) (by decide) t N H e (Cy 8 (by decide) _))
 |9,⟨h1,h2,h3⟩=>
  have Du:∀b,R b->b<w.heap.size:=λb U=>P.closed.lt U;have ai:D 10=A9:=by cases el:D 10 with|false=>rfl|true=>have AS:(D 9&&D 7)=A3:=h.JM 10 el;rw[t]at AS;cases AS
  refine Goes.aHp AA h1 h2 h3 (S.Mm 9 (by decide)).2.1 P W λR' w' e H I M=>K Wb R' w' _ DY CJ w.heap.size I M (h.put S (by decide) (by decide) t N H (λb U=>?_) (λ_=>⟨rfl,rfl,λz=>S.res _ _ _ _ z λb c U=>?_⟩) (λz=>by rw[t]at z;cases z) ⟨Cy 9 (by decide) _,?_,λz=>?_,AD ⟨by simpa using ai,?_⟩⟩);·rw[e,H_ (Du b U),<-EP]
  ·have hlt:=(Array.getElem?_eq_some_iff.1 U).1;rw[e,H_ hlt,<-EP];exact U
  ·exact AN.YL (Ax.TS M (p 9) (S.Mm 9 (by decide)).2.1 (Cy 9 (by decide) _))
  ·exact t_ _ (Du _ (h.old _ z).1)
  rw[e,SD,if_pos rfl]
 |10,⟨h1,h2,h3⟩=>
  have AS:(D 9&&D 7)=A3:=N;obtain⟨w5,dt⟩:=Bool.and_eq_true_iff.1 AS;obtain⟨Cj,CS,Ra,TL⟩:=h.left 9 w5;have ED:T[p 7]?=Y DY:=h.left 7 dt;have vz:D 5=A3:=h.JM 6 (h.JM 7 dt);have F':=(h.left 5 vz).2;obtain⟨HF,ID,Cv,s,rfl⟩:=S.shape _ _ _ F';have Jm:w.heap[DW]?=Y (AF #[A4 Z 0 0,J ⟨#[]⟩] 59):=by
   rcases TL with⟨_,z⟩|⟨z,_⟩;·exact z
   rw[t]at z;cases z
  refine Goes.zD AA h1 h2 h3 Cj ED Jm P W λR' w' e1 e2 H I M=>K Wb R' w' T (A_ #[A4 HF ID Cv,J s]) CJ DW I M ⟨h.size,h.rest,λb U=>⟨H b (h.old b U).1,(e2 b λz=>Ra (z▸U)).trans (h.old b U).2⟩,λi hi=>?_,λi hi=>?_⟩
  ·by_cases ik:i=10;·rw[ik];exact trivial
   have Xv:D i=A3:=by simpa[ik]using hi
   have Ar:=h.left i Xv;match i,ik,Ar with|0,_,Ar=>exact Ar|1,_,Ar=>exact Ar|2,_,Ar=>exact Ar|3,_,Ar=>exact Ar.imp (O_ 10 4) id|4,_,Ar=>exact Ar|5,_,Ar=>refine⟨Ar.1,S.res _ _ _ _ Ar.2 λb c U=>(e2 b λz=>?_).trans U⟩;subst z;rw[Jm]at U;exact absurd U (by simp)|6,_,Ar=>exact Ar|7,_,Ar=>exact Ar|8,_,Ar=>exact Ar|9,_,Ar=>exact⟨Ar.1,H _ Ar.2.1,Ar.2.2.1,AJ ⟨at8 10,HF,ID,Cv,s,rfl,e1⟩⟩|10,ik,_=>exact absurd rfl ik|11,_,Ar=>exact Ar|n+12,_,_=>exact trivial
  by_cases H':i=10;·rw[H'];exact n9 10 10 N
  exact n9 10 i (h.JM i (by simpa[H']using hi))
 |11,⟨h1,h2,h3⟩=>have AS:(D 8&&D 10)=A3:=N;have aM2:T[p 8]?=Y CJ:=h.left 8 (Bool.and_eq_true_iff.1 AS).1;exact Goes.eQ AA h1 (AJ h2) h3 (S.Mm 11 (by decide)).2.1 aM2 P W λR' w' e H I M=>K Wb R' w' _ DY CJ DW I M (h.calm S (by decide) (by decide) t N H e (Cy 11 (by decide) _))
 |n+12,d0=>exact d0.elim
def yl{p:Nat->Nat}{x:C'}{kds:List Nat}{ops:Array BR}{BM bb:Nat}{C1:A1}{Hq GO:zz}{H9:A1->A1->A0->Prop}{T0:zw}{w0:A0}{BX:zy}{q:List Cb}{cs:List Ag}{Post:zv}(S:a8 p x kds ops BM bb C1 Hq GO H9 T0 w0 BX)(K:∀(y R':zy)(w':A0)(BV:zw)(H:Option Ak)(M I:Nat)(s:zz)(CJ:A1)(DW:Nat),Holds y R' w'->Ax R' (Cd [0,25] BV)->BV.size=200->(∀j,(∀i,i<12->j≠p i)->BV[j]?=T0[j]?)->(∀b,BX b->R' b/\w'.heap[b]?=w0.heap[b]?)->BV[p 9]?=Y (Ad (Y ⟨DW,0,Z⟩))->R' DW->¬BX DW->w'.heap[DW]?=Y (AF #[A4 H M I,J s] 59)->BV[p 11]?=Y CJ->H9 (A_ #[A4 H M I,J s]) CJ w'->Goes y (G ((AW 8).at ⟨BV,[]⟩ q) cs) w' Post):∀(l:List Nat)(D:Nat->Bool)(Wb R:zy)(w:A0)(T:zw)(DY CJ:A1)(DW:Nat),bO kds D l=A3->Holds Wb R w->Ax R (Cd [0,25] T)->SS p x BM bb C1 Hq GO H9 T0 w0 BX DY CJ DW D R T w->Goes Wb (G ((AW 8).at ⟨T,[]⟩ (B1 ops l::q)) cs) w Post
 |[],D,Wb,R,w,T,DY,CJ,DW,B3,t,P,h=>by
  have U:D 11=A3:=B3;have AS:(D 8&&D 10)=A3:=h.JM 11 U;have W:=(Bool.and_eq_true_iff.1 AS).2;have X:(D 9&&D 7)=A3:=h.JM 10 W;obtain⟨w5,dt⟩:=Bool.and_eq_true_iff.1 X;obtain⟨Cj,CS,Ra,TL⟩:=h.left 9 w5;rcases TL with⟨z,_⟩|⟨_,H,M,I,s,rfl,Jm⟩;·rw[W]at z;cases z
  refine .ctl rfl (λ_=>Hs) λd=>?_;exact K Wb R (w.at d) T H M I s CJ DW (t.at d) P h.size h.rest (λb N=>h.old b N) Cj CS Ra Jm (h.left 11 U) (S.res _ _ _ _ (h.left 5 (h.JM 6 (h.JM 7 dt))).2 λb c N=>N)
 |i::l,D,Wb,R,w,T,DY,CJ,DW,B3,t,P,h=>by unfold bO at B3;cases Q:kds[i]? with|none=>rw[Q]at B3;cases B3|some k=>rw[Q]at B3;simp only[G0,Qw]at B3;exact aXO S t P h Q B3.1 B3.2.1 λy R' w' BV aE aN jm a b c=>yl S K l _ y R' w' BV aE aN jm B3.2.2 a b c
def Zy(K:List BO)(f0 f:Rel->zz)(L:List Rel)(f2:List (Nat×Nat))(DY CJ:A1)(w':A0):Prop:=∃A,O2 L f2 A/\((CJ=DS/\(K=[]∨∀x∈A,f0 x.rel=f x.rel)/\∃a c E,DY=A_ #[A4 a (Go.Proofs.YtcfhleenecfghaaGreatDoor.names (Ec A A.length)).length c,J ⟨(Be E).toArray⟩]/\E.Perm (ET f (Es A))/\Oj E)∨K≠[]/\∃x∈A,f0 x.rel≠f x.rel/\DY=A_ #[A4 Z 0 0,J ⟨#[]⟩]/\∃q,CJ=EL 96 q/\KF 0 w' q (Y (7,0,x.rel.p,x.rel.v)))
def Zy.Am{f0 f:Rel->zz}(h:Zy K f0 f L f2 DY CJ w)(e:∀(b:Nat)(c:zw),w.heap[b]?=Y (AF c 150 (0,0))->w'.heap[b]?=Y (AF c 150 (0,0))):Zy K f0 f L f2 DY CJ w':=by obtain⟨A,I,h⟩:=h;refine⟨A,I,h.imp id ?_⟩;rintro⟨s,x,hx,h2,h3,q,h4,b,y,z,H⟩;exact⟨s,x,hx,h2,h3,q,h4,b,y,z,e _ _ H⟩
def Zy.shape{f0 f:Rel->zz}(h:Zy K f0 f L f2 DY CJ w):∃b z y s,DY=A_ #[A4 b z y,J s]:=by
 obtain⟨A,_,⟨_,_,a,c,E,h,_⟩|⟨_,x,_,_,h,_⟩⟩:=h;·exact⟨_,_,_,_,h⟩
 exact⟨_,_,_,_,h⟩
section
variable{AY:Nat->Nat->Nat}{g5:Nat->Nat->List (Nat×Nat)}{f2:List (Nat×Nat)}{w0 w:A0}{L:List Rel}{a2 cap:Nat}{E3:Az->zz}{dK BX:zy}
def V0(h:K2 AY g5 w0 a2 L E3)(k:Holds dK BX w0)(hv:AN CM (C_ BX) (A4 (Y ⟨a2,0,Z⟩) 15 cap) (A4 (Y ⟨a2,0,Z⟩) 15 cap))(e:∀b,BX b->w.heap[b]?=w0.heap[b]?):K2 AY g5 w a2 L E3:=by
 have y:BX a2:=AN.Uj hv;have hc:=λo=>FG (w:=w0) (w':=w) (a:=⟨a2,o,Z⟩) (e a2 y);obtain⟨g6,s,t⟩:=h.row;refine⟨h.len,λj H=>?_,λi hi=>?_,g6,(e a2 y).trans s,t⟩
 ·obtain⟨K,M,N,Q,U,P,S,b,z,W,X⟩:=h.rel j H;refine⟨K,M,N,Q,U,P,S,b,z,W,(e b ?_).trans X⟩;obtain⟨o,I,wz⟩:=k.closed.heap a2 y;rw[s]at I;obtain rfl:=CH I;cases wz with
  |cells _ JS _=>
   have h3:g6[j*4+3]?=Y (A4 L[j].BP L[j].B0 L[j].BN):=by have:=(h.reg j H).2.2.2;rw[Ao s]at this;exact this
   have h4:=Aq.nth (j*4+3) JS (by simpa using h3);rw[z]at h4;exact AN.Uj h4
 obtain⟨a,b,c,d⟩:=h.reg i hi;exact⟨(hc _).trans a,(hc _).trans b,(hc _).trans c,(hc _).trans d⟩
def dd(z:Ol w0)(y:Holds dK BX w0)(e:∀b,BX b->w.heap[b]?=w0.heap[b]?):Ol w:=λb h=>by obtain⟨cs,t,s,h2⟩:=z b h;exact⟨cs,t,(e b (y.closed.EX b h)).trans s,h2⟩
def QH{b o:Nat}(y:b<Ci)(h:w0.cell? ⟨b,o,Z⟩=Y v)(s:Holds dK BX w0)(e:∀b,BX b->w.heap[b]?=w0.heap[b]?):w.cell? ⟨b,o,Z⟩=Y v:=(FG (a:=⟨b,o,Z⟩) (e b (s.closed.EX b y))).trans h
variable[CV]
def aRB{m:Int}(K:List BO)(f0:Rel->zz)(Al:UA AY g5 f2)(h:K2 AY g5 w0 a2 L E3)(AI:Ol w0)(hm:w0.cell? ⟨0,0,Z⟩=Y (A7 A8 m))(JQ:w0.cell? ⟨5,15,Z⟩=Y (A7 F1 4))(I:Holds dK BX w0)(hv:AN CM (C_ BX) (A4 (Y ⟨a2,0,Z⟩) 15 cap) (A4 (Y ⟨a2,0,Z⟩) 15 cap))(UQ:Wn K)(iI:K=[]∨∀A,O2 L f2 A->K.Perm (ET f0 (Es A)))(Wb R:zy)(w:A0)(c':Ag)(cs':List Ag)(k:∀b,BX b->R b/\w.heap[b]?=w0.heap[b]?)(s:Holds Wb R w):Goes Wb (G (HO A6 30 #[J (Is V.W_ f2),A4 (Y ⟨a2,0,Z⟩) 15 cap,J ⟨(Be K).toArray⟩] GG) (c'::cs')) w λQ U w'=>∃R' DY CJ,U=G (c'.finish (Ay #[DY,CJ])) cs'/\AN CM (C_ R') (Ay #[DY,CJ]) (Ay #[DY,CJ])/\(∀b,R b->R' b)/\Holds Q R' w'/\(∀b,R b->w'.heap[b]?=w.heap[b]?)/\Zy K f0 (EI E3) L f2 DY CJ w':=by
 have e:∀b,BX b->w.heap[b]?=w0.heap[b]?:=λb N=>(k b N).2;have t:AN CM (C_ R) (A4 (Y ⟨a2,0,Z⟩) 15 cap) (A4 (Y ⟨a2,0,Z⟩) 15 cap):=hv.mono (OM λb N=>(k b N).1);have Ar:=xh Al (V0 h I hv e) (dd AI I e) (QH (by decide) hm I e) (QH (by decide) JQ I e) s t;have P:=h.len;have S:=aRA (cap:=cap) (c':=c') (cs':=cs') K f0 Ar s (.cons (.string _) (.cons (by rw[P];exact t) (.cons (.string _) .nil))) UQ (iI.imp id λhk A H h2 h3 h4=>hk A ⟨H,h2,h3,h4⟩);rw[P]at S;refine S.bind ?_;rintro Q U w'⟨R',v,A,rfl,y,W,X,Dz,wU,H,h2,h3,h4⟩;refine .here ?_;rcases wU with⟨M,a,n,c,E,rfl,BB,m9,QV⟩|⟨M,x,hx,AS,q,rfl,AK⟩
 ·refine⟨R',_,_,rfl,y,W,X,Dz,A,⟨H,h2,h3,h4⟩,AD ⟨rfl,M,a,c,E,?_,BB,m9⟩⟩;have hn:n=(Go.Proofs.YtcfhleenecfghaaGreatDoor.names (Ec A A.length)).length:=by
   rcases QV with⟨e,z⟩|⟨g,c2,e,_⟩;·injection e with _ e _;rw[z,e];rfl
   injection e with _ e _
  rw[hn]
 exact⟨R',_,_,rfl,y,W,X,Dz,A,⟨H,h2,h3,h4⟩,AJ ⟨M,x,hx,AS,rfl,q,rfl,AK⟩⟩
end
def dE(BM:Nat)(C:zw)(b:Nat):Prop:=b<Ci∨b=BM∨∃(i m c:Nat),C[i]?=Y (A4 (Y ⟨b,0,Z⟩) m c)
def a8H{cs:zw}{t:Aj}(h:∀(j:Nat)(u:A1),cs[j]?=Y u->∃k n,u=A7 k n):Ge CM (C_ R) (AF cs t (0,0)) (AF cs t (0,0)):=by refine .cells t (Aq.WU λv hv=>?_) (Nt.refl _);obtain⟨j,b⟩:=List.mem_iff_getElem?.1 hv;obtain⟨k,n,rfl⟩:=h j v (by simpa using b);exact .int k n
def aTh{l:List (Nat×Nat)}(h:LR w B v l):v=A4 Z 0 0∨∃g cap g6,v=A4 (Y ⟨g,0,Z⟩) l.length cap/\w.heap[g]?=Y (AF g6 45 (0,0))/\∀(j:Nat)(u:A1),g6[j]?=Y u->∃k n,u=A7 k n:=by
 rcases h.1.2 with⟨b,_⟩|⟨g,cap,g6,b,h2,h3,_,_,h4,y⟩;·exact AD b
 refine AJ ⟨g,cap,g6,b,h3,λj u hu=>?_⟩;by_cases H:j<l.length*2
 ·have z:(Qm l)[j]?=Y u:=by rw[<-y,a2W,if_pos H];simpa using hu
  have s:=U8 z;unfold Qm at s;obtain⟨x,_,hx⟩:=List.mem_flatMap.1 s;simp only[JG,He,or_false]at hx;rcases hx with rfl|rfl;·exact⟨_,_,rfl⟩
  exact⟨_,_,rfl⟩
 exact h.2 g cap g6 45 (0,0) b h3 j u (by omega) hu
def aS5(h:XZ w B BM C f2)(AI:Ol w):Closed CM (λb=>b<w.heap.size/\¬dE BM C b) (dE BM C) w:=by
 obtain⟨N,h2,h3,v,h4,_,Q⟩:=h;have M:∀(i:Nat)(u:A1),C[i]?=Y u->(∃k n,u=A7 k n)∨u=A4 Z 0 0∨∃g m cap g6,u=A4 (Y ⟨g,0,Z⟩) m cap/\w.heap[g]?=Y (AF g6 45 (0,0))/\∀(j:Nat)(u:A1),g6[j]?=Y u->∃k n,u=A7 k n:=by
  intro i u hu;have hi:i<31:=by have:=(Array.getElem?_eq_some_iff.1 hu).1;rw[h2.size]at this;exact this
  by_cases P:i<15;·obtain⟨x,hx,_⟩:=h2.AY (i/3) (i%3) (by omega) (by omega);rw[show i/3*3+i%3=i by omega,hu]at hx;exact AD ⟨_,_,CH hx⟩
  have K:∃l,LR w B u l:=by
   by_cases H:i=30;·subst H;rw[hu]at h4;obtain rfl:=CH h4;exact⟨_,Q⟩
   obtain⟨S,l,e,_,I⟩:=h3 ((i-15)/3) ((i-15)%3) (by omega) (by omega);rw[show 15+(i-15)/3*3+(i-15)%3=i by omega,hu]at e;obtain rfl:=CH e;exact⟨l,I⟩
  obtain⟨l,I⟩:=K;rcases aTh I with s|⟨g,cap,g6,s,z,U⟩;·exact AJ (AD s)
  exact AJ (AJ ⟨g,_,cap,g6,s,z,U⟩)
 refine⟨λb y=>?_,λb y x=>x.2 y,λb y=>AD y⟩;rcases y with y|rfl|⟨i,m,c,hi⟩;·obtain⟨cs,t,s,z⟩:=AI b y;exact⟨_,s,a8H z⟩
 ·refine⟨_,N,.cells 43 (Aq.WU λu hu=>?_) (Nt.refl _)⟩;obtain⟨i,hi⟩:=List.mem_iff_getElem?.1 hu;have hi:C[i]?=Y u:=by simpa using hi
  rcases M i u hi with⟨k,n,rfl⟩|rfl|⟨g,m,cap,g6,rfl,_⟩;·exact .int k n
  ·exact .HL 0 0
  exact .slice m cap ⟨⟨rfl,AJ (AJ ⟨i,m,cap,hi⟩)⟩,rfl,rfl⟩
 rcases M i _ hi with⟨k,n,e⟩|e|⟨g,W,cap,g6,e,s,z⟩;·cases e
 ·cases e
 injection e with e _ _;injection e with e;injection e with e _ _;subst e;exact⟨_,s,a8H z⟩
section
variable{g2 AM fk g0 g7 hw ip s1 p3 wt pp p2 lc rt p4 y4 BD y6 B6 BE B7 y3 N6 DI GF IH Ob Oc S6 Od Z' Z0 Yo Yp Yq Yr Ys Yt Yu Yv Yw Yx Yy Yz:A1}{T BV:zw}
def QB(h:FR g2 AM fk g0 g7 hw ip s1 p3 wt pp p2 lc rt p4 y4 BD y6 B6 BE B7 y3 T):T.size=200/\T.toList.take 22=[g2,AM,fk,g0,g7,hw,ip,s1,p3,wt,pp,p2,lc,rt,p4,y4,BD,y6,B6,BE,B7,y3]:=by obtain⟨g,rfl⟩:=h;refine⟨a2N,?_⟩;rw[tJ];exact aHC rfl
def FR.get(h:FR g2 AM fk g0 g7 hw ip s1 p3 wt pp p2 lc rt p4 y4 BD y6 B6 BE B7 y3 T)(i:Nat){v:A1}(hi:[g2,AM,fk,g0,g7,hw,ip,s1,p3,wt,pp,p2,lc,rt,p4,y4,BD,y6,B6,BE,B7,y3][i]?=Y v):T[i]?=Y v:=by
 rw[<-(QB h).2,a2W]at hi;split at hi;·simpa using hi
 cases hi
def FR.put(h:FR g2 AM fk g0 g7 hw ip s1 p3 wt pp p2 lc rt p4 y4 BD y6 B6 BE B7 y3 T)(d:Nat)(v:A1)(e:[g2,AM,fk,g0,g7,hw,ip,s1,p3,wt,pp,p2,lc,rt,p4,y4,BD,y6,B6,BE,B7,y3].set d v=[N6,DI,GF,IH,Ob,Oc,S6,Od,Z',Z0,Yo,Yp,Yq,Yr,Ys,Yt,Yu,Yv,Yw,Yx,Yy,Yz]):FR N6 DI GF IH Ob Oc S6 Od Z' Z0 Yo Yp Yq Yr Ys Yt Yu Yv Yw Yx Yy Yz (T.setIfInBounds d v):=by refine SU (by rw[Pk];exact(QB h).1) ?_;rw[zr,<-e,<-(QB h).2,a2d]
def FR.same(h:FR g2 AM fk g0 g7 hw ip s1 p3 wt pp p2 lc rt p4 y4 BD y6 B6 BE B7 y3 T)(hs:BV.size=200)(e:∀i,i<22->BV[i]?=T[i]?):FR g2 AM fk g0 g7 hw ip s1 p3 wt pp p2 lc rt p4 y4 BD y6 B6 BE B7 y3 BV:=by obtain⟨g,rfl⟩:=h;exact a2M hs λi hi=>(e i hi).trans (aGd i hi)
def FR.from(h:FR g2 AM fk g0 g7 hw ip s1 p3 wt pp p2 lc rt p4 y4 BD y6 B6 BE B7 y3 T){v u:A1}(hs:BV.size=200)(y:BV[a]?=Y v)(s:BV[11]?=Y u)(I:a<22)(z:∀j,j<22->j≠a->j≠11->BV[j]?=T[j]?)(e:([g2,AM,fk,g0,g7,hw,ip,s1,p3,wt,pp,p2,lc,rt,p4,y4,BD,y6,B6,BE,B7,y3].set a v).set 11 u=[N6,DI,GF,IH,Ob,Oc,S6,Od,Z',Z0,Yo,Yp,Yq,Yr,Ys,Yt,Yu,Yv,Yw,Yx,Yy,Yz]):FR N6 DI GF IH Ob Oc S6 Od Z' Z0 Yo Yp Yq Yr Ys Yt Yu Yv Yw Yx Yy Yz BV:=by
 have H:=(QB h).1;have h2:FR N6 DI GF IH Ob Oc S6 Od Z' Z0 Yo Yp Yq Yr Ys Yt Yu Yv Yw Yx Yy Yz ((T.setIfInBounds a v).setIfInBounds 11 u):=by refine SU (by rw[Pk,Pk];exact H) ?_;rw[zr,zr,<-e,<-(QB h).2,a2d,a2d]
 refine h2.same hs λi hi=>?_;by_cases b:i=11;·rw[b,s,get_at (by rw[Pk];omega)]
 by_cases h2:i=a;·rw[Gp (Gu b),h2,y,get_at (by omega)]
 rw[Gp (Gu b),Gp (Gu h2)];exact z i hi h2 b
def FR.Cd(h:FR g2 AM fk g0 g7 hw ip s1 p3 wt pp p2 lc rt p4 y4 BD y6 B6 BE B7 y3 T)(hs:BV.size=T.size)(e:∀i,[0,25].contains i=A9->BV[i]?=T[i]?):∃y,FR y AM fk g0 g7 hw ip s1 p3 wt pp p2 lc rt p4 y4 BD y6 B6 BE B7 y3 BV:=by
 have z:=(QB h).1;refine⟨BV.getD 0 A',(h.put 0 (BV.getD 0 A') rfl).same (by omega) λi hi=>?_⟩;by_cases b:i=0;·rw[b,get_at (by omega),Iv,EP (by omega)];rfl
 rw[Gp (Gu b)];refine e i ?_;have s:i≠25:=by omega
 simp[b,s]
end
def IF(l:List Nat)(i:Nat):Nat:=l.getD i 0
def aTm(h:∀i j:_root_.Fin 12,IF l i.val=IF l j.val->i=j)(i j:Nat)(hi:i<12)(b:j<12)(e:IF l i=IF l j):i=j:=congrArg aD3 (h ⟨i,hi⟩ ⟨j,b⟩ e)
def yP{Q:zy}(h:∀i:_root_.Fin 12,Q (IF l i.val))(i:Nat)(hi:i<12):Q (IF l i):=h ⟨i,hi⟩
noncomputable def pk:Array BR:=YX zd
def aTY:zd=Ej 6 pk A9:=by kernel_rfl
def aAH:pk.size=10:=by kernel_rfl
noncomputable def pn:Array BR:=YX ze
def aTZ:ze=Ej 9 pn A3:=by kernel_rfl
def aAI:pn.size=12:=by kernel_rfl
noncomputable def pg:Array BR:=YX za
def aTW:za=Ej 20 pg A3:=by kernel_rfl
def aAG:pg.size=12:=by kernel_rfl
def aKI(i k:Nat)(h:[0,1,2,5,6,7,8,9,10,11][i]?=Y k):∃o,pk[i]?=Y o/\gx (IF [30,31,32,198,199,33,29,34,35,10,197,11]) (Iy (J ⟨#[]⟩)) o k:=by match i,h with|0,h|1,h|2,h|3,h|4,h|5,h|6,h|7,h|8,h|9,h=>obtain rfl:=CH h;exact⟨_,opAt aAH _ (by decide),by kernel_rfl,by kernel_rfl,by kernel_rfl⟩|n+10,h=>simp at h
def aKJ(i k:Nat)(h:[0,1,2,3,4,5,6,7,8,9,10,11][i]?=Y k):∃o,pn[i]?=Y o/\gx (IF [39,40,41,42,43,44,38,45,46,12,197,11]) (An 43) o k:=by match i,h with|0,h|1,h|2,h|3,h|4,h|5,h|6,h|7,h|8,h|9,h|10,h|11,h=>obtain rfl:=CH h;exact⟨_,opAt aAI _ (by decide),by kernel_rfl,by kernel_rfl,by kernel_rfl⟩|n+12,h=>simp at h
def aKH(i k:Nat)(h:[0,1,2,3,4,5,6,7,8,9,10,11][i]?=Y k):∃o,pg[i]?=Y o/\gx (IF [121,122,123,124,125,126,120,127,128,16,197,11]) (An 125) o k:=by match i,h with|0,h|1,h|2,h|3,h|4,h|5,h|6,h|7,h|8,h|9,h|10,h|11,h=>obtain rfl:=CH h;exact⟨_,opAt aAG _ (by decide),by kernel_rfl,by kernel_rfl,by kernel_rfl⟩|n+12,h=>simp at h
def yI(x:Array Bool)(l:List (Array Bool)):List (Array Bool):=if l.contains x then l else x::l
def aA9:∀{l:List (Array Bool)}{x:Array Bool},x∈l->x∈l.foldr yI []
 |y::l,x,h=>by
  rw[List.foldr_cons];unfold yI;rcases List.mem_cons.1 h with rfl|h
  ·split;·rename_i hc;simpa using hc
   exact Je ..
  have:=aA9 h;split;·exact this
  exact Jd _ this
def aI(ops:Array BR)(kds:List Nat):Nat->List (Array Bool)->Bool|0,h=>h.all λs=>s.getD 11 A9|n+1,h=>(h.all λs=>!(Py ZS ops s).isEmpty&&(Py ZS ops s).all λi=>Bz (i<s.size)&&(kds[i]?==Y i&&(!s.getD i A9&&Xm (λk=>s.getD k A9) i)))&&aI ops kds n ((h.flatMap λs=>(Py ZS ops s).map λi=>s.setIfInBounds i A3).foldr yI [])
def a42{ops:Array BR}{kds:List Nat}:∀(n:Nat)(y:List (Array Bool)),aI ops kds n y=A3->∀s∈y,∀o∈PW ZS ops n s,bO kds (λk=>s.getD k A9) o=A3
 |0,y,h,s,hs,o,b=>by
  have z:=List.all_eq_true.1 h s hs;obtain rfl:o=[]:=by simpa[PW]using b
  exact z
 |n+1,y,h,s,hs,o,b=>by
  unfold aI at h;obtain⟨z,h2⟩:=Bool.and_eq_true_iff.1 h;have h3:=List.all_eq_true.1 z s hs;obtain⟨h4,K⟩:=Bool.and_eq_true_iff.1 h3;unfold PW at b;rw[if_neg (by simpa using h4)]at b;obtain⟨i,hi,b⟩:=List.mem_flatMap.1 b;obtain⟨N,M,rfl⟩:=List.mem_map.1 b;have CN:=List.all_eq_true.1 K i hi;simp only[G0,decide_eq_true_eq,beq_iff_eq,Qw]at CN;have I:=a42 n _ h2 (s.setIfInBounds i A3) (aA9 (List.mem_flatMap.2 ⟨s,hs,List.mem_map.2 ⟨i,hi,rfl⟩⟩)) N M;have e:(λk=>(s.setIfInBounds i A3).getD k A9)=λj=>j==i||s.getD j A9:=by
   funext j;rw[Iv,Iv];by_cases H:j=i;·rw[H,SE CN.1];simp
   rw[Gp (Gu H)];simp[H]
  rw[e]at I;unfold bO;rw[CN.2.1];simp only[CN.2.2.1,CN.2.2.2,I,Bool.not_false,Bool.and_self]
def aJF:aI pn [0,1,2,3,4,5,6,7,8,9,10,11] 12 [MU 12 A9]=A3:=by kernel_rfl
def aJE:aI pg [0,1,2,3,4,5,6,7,8,9,10,11] 12 [MU 12 A9]=A3:=by kernel_rfl
def aTa(h:aI ops [0,1,2,3,4,5,6,7,8,9,10,11] 12 [MU 12 A9]=A3)(o:List Nat)(s:o∈PW ZS ops 12 (MU 12 A9)):bO [0,1,2,3,4,5,6,7,8,9,10,11] (λ_=>A9) o=A3:=by
 have b:=a42 12 _ h _ (List.mem_singleton.2 rfl) o s;have e:(λk=>(MU 12 A9).getD k A9)=λ_:Nat=>A9:=by funext k;rw[Iv,aCm];split<;>rfl
 rw[e]at b;exact b
def aT_:bO [0,1,2,5,6,7,8,9,10,11] (λj=>j==3||j==4) [0,1,2,3,4,5,6,7,8,9]=A3:=by kernel_rfl
def a4X{id bb:Nat}{Hq GO:zz}(S:a8 p x [0,1,2,3,4,5,6,7,8,9,10,11] ops BM bb C1 Hq GO H9 T0 w0 BX)(t:ops.size=12)(P:aI ops [0,1,2,3,4,5,6,7,8,9,10,11] 12 [MU 12 A9]=A3)(N:Holds Wb BX w0)(Q:Ax BX (Cd [0,25] T0))(K:∀(y R':zy)(w':A0)(BV:zw)(H:Option Ak)(M I:Nat)(s:zz)(CJ:A1)(DW:Nat),Holds y R' w'->Ax R' (Cd [0,25] BV)->BV.size=200->(∀j,(∀i,i<12->j≠p i)->BV[j]?=T0[j]?)->(∀b,BX b->R' b/\w'.heap[b]?=w0.heap[b]?)->BV[p 9]?=Y (Ad (Y ⟨DW,0,Z⟩))->R' DW->¬BX DW->w'.heap[DW]?=Y (AF #[A4 H M I,J s] 59)->BV[p 11]?=Y CJ->H9 (A_ #[A4 H M I,J s]) CJ w'->Goes y (G ((AW 8).at ⟨BV,[]⟩ q) cs) w' Post):Goes Wb (G ((AW 8).at ⟨T0,[]⟩ (BS (Ej id ops A3)::q)) cs) w0 Post:=by refine .draw λo z d=>?_;rw[t]at z;exact yl S K o (λ_=>A9) Wb BX (w0.at d) T0 A' A' 0 (aTa P o z) (N.at d) Q ⟨S.size,λ_ _=>rfl,λb U=>⟨U,rfl⟩,λk h=>(by cases h),λk h=>by cases h⟩
def YZ:Z8 ⟨T,[]⟩ (Y d) v=⟨T.setIfInBounds d v,[]⟩:=rfl
def aI5:LW=Bh zZ (Bh qh (Bh bn (Bh bo Kg))):=by kernel_rfl
def aKW(x y z:A1):HO A6 8 #[x,y,z] GG=(AW 8).at ⟨E0 x y z A' A' A' A' A' A' A' A' A' A' A' A' A' A' A' A' A' A' A' λ_=>A',[]⟩ [BS LW]:=by rw[uT Tu (show JF.body=Y LW by kernel_rfl)];kernel_rfl
noncomputable def jw:Array BR:=YX zZ
def aTQ:zZ=Ej 0 jw A9:=by kernel_rfl
def aAF:jw.size=1:=by kernel_rfl
noncomputable def bR:Array BR:=YX qh
def aTR:qh=Ej 1 bR A9:=by kernel_rfl
def pf:bR.size=2:=by kernel_rfl
noncomputable def zb:Bg:=fstC bn
noncomputable def aCd:Bg:=match bn with|Bh _ (kp _ a _)=>a|_=>VG
def aZL:bn=Bh zb (kp (An 24) aCd VG):=by kernel_rfl
noncomputable def bS:Array BR:=YX zb
def aTS:zb=Ej 2 bS A9:=by kernel_rfl
def yK:bS.size=2:=by kernel_rfl
noncomputable def YW:Array BR:=YX bo
def aTT:bo=Ej 4 YW A9:=by kernel_rfl
def jx:YW.size=3:=by kernel_rfl
def aIz(n c:Nat)(s:Option Ak)(m:Int)(w:A0)(hn:n<=4611686018427387904)(X:P8 w w.heap.size (A4 s n c) n)(AI:Ol w)(hm:w.cell? ⟨0,0,Z⟩=Y (A7 A8 m))(T:zw)(hs:T.size=200)(AV:T[0]?=Y (A4 s n c)):Hb (G ((AW 8).at ⟨T,[]⟩ [BS LW]) []) w λg' z=>∃(k:Nat)(C:zw)(f2:List (Nat×Nat)),g'=G ((AW 8).at ⟨(((((((T.setIfInBounds 6 (Af A9)).setIfInBounds 22 (Af A3)).setIfInBounds 7 (Af A3)).setIfInBounds 23 (Af A3)).setIfInBounds 24 (Af A9)).setIfInBounds 25 (A4 s n c)).setIfInBounds 26 (Ad (Y ⟨k+1,0,Z⟩))).setIfInBounds 8 (Ad (Y ⟨k+1,0,Z⟩)),[]⟩ [BS Kg]) []/\XZ z (k+2) (k+1) C f2/\w.heap.size<=k/\z.os=w.os/\z.output=w.output/\k<=z.heap.size/\∀b,b<w.heap.size->z.heap[b]?=w.heap[b]?:=by
 rw[aI5];refine .ctl rfl (λ_=>FT) ?_;rw[aTQ];refine .ctl rfl (λ_=>II) ?_;rw[aAF];show Hb (G ((AW 8).at ⟨T,[]⟩ (B1 jw [0]::[BS (Bh qh (Bh bn (Bh bo Kg)))])) []) _ _;refine Hb.pure (Af A9) (opAt aAF 0 (by decide)) (MS (by kernel_rfl) _) (by simp[AW]) (λw=>?_) ?_
 ·have h:(Lq jw 0).op=SK (Iy (Af A9)):=by kernel_rfl
  unfold Ab;rw[h];rfl
 rw[show(Lq jw 0).dst=Y 6 by kernel_rfl,YZ];refine .ctl rfl (λ_=>Hs) ?_;refine .ctl rfl (λ_=>FT) ?_;rw[aTR];refine .ctl rfl (λ_=>II) ?_;rw[pf];show Hb (G ((AW 8).at ⟨T.setIfInBounds 6 (Af A9),[]⟩ (B1 bR [0,1]::[BS (Bh bn (Bh bo Kg))])) []) _ _;obtain⟨N,H⟩:∃c,a0C.body=Y c:=⟨(a0C.body).getD Kk,by kernel_rfl⟩;refine .ctl rfl (λ_=>Tg (f:=13) (fn:=a0C) (c:=N) (az:=#[]) (ats:=#[]) (opAt pf 0 (by decide)) (MS (by kernel_rfl) _) (by simp[AW]) (by kernel_rfl) s' (by kernel_rfl) H) ?_;rw[show(#[]:Array C').map (Cg ⟨T.setIfInBounds 6 (.bool A9),[]⟩)=#[]by simp];have P:CM 13:=UI _ (by kernel_rfl);have hb:=tx Ry (λ_=>trivial) (Wb:=λb=>Ci<=b/\b<w.heap.size) (R:=λb=>b<Ci) (c':=(AW 8).at ⟨T.setIfInBounds 6 (.bool A9),[]⟩ (.inRegion bR [0,1]::[.code (.seq bn (.seq bo Kg))])) (cs':=[]) (w:=w) (args:=#[]) (Q:=λv w1=>v=.bool A3/\w.heap.size<=w1.heap.size/\∀b,b<w.heap.size->w1.heap[b]?=w.heap[b]?) s' H (bI 13 _ _ (AD P) s' H).1 (bI 13 _ _ (AD P) s' H).2 (λt K=>?_) .nil (aLc AI) (λb hb=>hb.2) λT0=>?_;rotate_left;·have K:t∈E5 13:=K;rw[k2 P]at K;cases K
 ·refine(aIB m (on w T0) hm).mono ?_;rintro e u⟨rfl,hb⟩;exact⟨_,rfl,rfl,hb.size,λb Mp=>hb.block b Mp⟩
 refine((hb.Am).wide (Wc:=λ_=>False) λ_ x=>x.elim).solo.bind ?_;rintro Cx y⟨⟨Bb,v,w1,rfl,_,⟨rfl,S,M⟩,_,e2,_,_,_⟩,hk⟩;rw[<-e2]at S M;rw[LF,opAt pf 0 (by decide),SZ,show(Lq bR 0).dst=Y 22 by kernel_rfl,YZ];refine Hb.pure (.bool A3) (opAt pf 1 (by decide)) (MS (by kernel_rfl) _) (by simp[AW]) (λw=>?_) ?_
 ·have h:(Lq bR 1).op=.assign (.tmp 22):=by kernel_rfl
  unfold Ab;rw[h];simp only[Hj (get_at (T:=T.setIfInBounds 6 (.bool A9)) (d:=22) (v:=.bool A3) (by simp only[Pk];omega))];rfl
 rw[show(Lq bR 1).dst=Y 7 by kernel_rfl,YZ];refine .ctl rfl (λ_=>Hs) ?_;refine .ctl rfl (λ_=>FT) ?_;rw[aZL];refine .ctl rfl (λ_=>FT) ?_;rw[aTS];refine .ctl rfl (λ_=>II) ?_;rw[yK];show Hb (G ((AW 8).at ⟨((T.setIfInBounds 6 (.bool A9)).setIfInBounds 22 (.bool A3)).setIfInBounds 7 (.bool A3),[]⟩ (.inRegion bS [0,1]::[.code (.cond (.tmp 24) aCd .skip),.code (.seq bo Kg)])) []) _ _;refine Hb.pure (.bool A3) (opAt yK 0 (by decide)) (MS (by kernel_rfl) _) (by simp[AW]) (λw=>?_) ?_
 ·have h:(Lq bS 0).op=.move (.tmp 7):=by kernel_rfl
  unfold Ab;rw[h];simp only[Hj (get_at (T:=(T.setIfInBounds 6 (.bool A9)).setIfInBounds 22 (.bool A3)) (d:=7) (v:=.bool A3) (by simp only[Pk];omega))];rfl
 rw[show(Lq bS 0).dst=Y 23 by kernel_rfl,YZ];refine Hb.pure (.bool A9) (opAt yK 1 (by decide)) (MS (by kernel_rfl) _) (by simp[AW]) (λw=>?_) ?_
 ·have h:(Lq bS 1).op=.unOp .not 4 (.tmp 23):=by kernel_rfl
  unfold Ab;rw[h];simp only[Hj (get_at (T:=((T.setIfInBounds 6 (.bool A9)).setIfInBounds 22 (.bool A3)).setIfInBounds 7 (.bool A3)) (d:=23) (v:=.bool A3) (by simp only[Pk];omega))];rfl
 rw[show(Lq bS 1).dst=Y 24 by kernel_rfl,YZ];refine .ctl rfl (λ_=>Hs) ?_;refine .ctl rfl (λ_=>cC (t:=A9) (Hj (get_at (T:=(((T.setIfInBounds 6 (.bool A9)).setIfInBounds 22 (.bool A3)).setIfInBounds 7 (.bool A3)).setIfInBounds 23 (.bool A3)) (d:=24) (v:=.bool A9) (by simp only[Pk];omega)))) ?_;refine .ctl rfl (λ_=>a'J) ?_;refine .ctl rfl (λ_=>FT) ?_;rw[aTT];refine .ctl rfl (λ_=>II) ?_;rw[jx];show Hb (G ((AW 8).at ⟨((((T.setIfInBounds 6 (.bool A9)).setIfInBounds 22 (.bool A3)).setIfInBounds 7 (.bool A3)).setIfInBounds 23 (.bool A3)).setIfInBounds 24 (.bool A9),[]⟩ (.inRegion YW [0,1,2]::[.code Kg])) []) _ _;refine Hb.pure (.slice s n c) (opAt jx 0 (by decide)) (MS (by kernel_rfl) _) (by simp[AW]) (λw=>?_) ?_
 ·have h:(Lq YW 0).op=.move (.tmp 0):=by kernel_rfl
  unfold Ab;rw[h];simp only[Hj (aP (d:=24) (v:=.bool A9) (aP (d:=23) (v:=.bool A3) (aP (d:=7) (v:=.bool A3) (aP (d:=22) (v:=.bool A3) (aP (d:=6) (v:=.bool A9) AV (by decide)) (by decide)) (by decide)) (by decide)) (by decide))];rfl
 rw[show(Lq YW 0).dst=Y 25 by kernel_rfl,YZ];obtain⟨U,W⟩:∃c,lQ.body=Y c:=⟨(lQ.body).getD .ret,by kernel_rfl⟩;refine .ctl rfl (λ_=>Tg (f:=19) (fn:=lQ) (c:=U) (az:=#[.tmp 25]) (ats:=#[33]) (opAt jx 1 (by decide)) (MS (by kernel_rfl) _) (by simp[AW]) (by kernel_rfl) aEM (by kernel_rfl) W) ?_;have L':(#[.tmp 25]:Array C').map (Cg ⟨(((((T.setIfInBounds 6 (.bool A9)).setIfInBounds 22 (.bool A3)).setIfInBounds 7 (.bool A3)).setIfInBounds 23 (.bool A3)).setIfInBounds 24 (.bool A9)).setIfInBounds 25 (.slice s n c),[]⟩)=#[.slice s n c]:=by simp[Hj (get_at (T:=((((T.setIfInBounds 6 (.bool A9)).setIfInBounds 22 (.bool A3)).setIfInBounds 7 (.bool A3)).setIfInBounds 23 (.bool A3)).setIfInBounds 24 (.bool A9)) (d:=25) (v:=.slice s n c) (by simp only[Pk];omega))]
 rw[L'];refine(Hb.small (Q:=λv w'=>∃C f2,v=.pointer (Y ⟨y.heap.size+1,0,Z⟩)/\XZ w' (y.heap.size+2) (y.heap.size+1) C f2/\AX y.heap.size y w') (by kernel_rfl) ?_).bind ?_;·refine(aS4 n c s y hn (aV_ X S M)).mono ?_;rintro e u⟨C,f2,rfl,h1,h2⟩;exact⟨_,rfl,C,f2,rfl,h1,h2⟩
 rintro g4 z⟨v,rfl,C,f2,rfl,Uc,I⟩;rw[LF,opAt jx 1 (by decide),SZ,show(Lq YW 1).dst=Y 26 by kernel_rfl,YZ];refine Hb.pure (.pointer (Y ⟨y.heap.size+1,0,Z⟩)) (opAt jx 2 (by decide)) (MS (by kernel_rfl) _) (by simp[AW]) (λw=>?_) ?_
 ·have h:(Lq YW 2).op=.assign (.tmp 26):=by kernel_rfl
  unfold Ab;rw[h];simp only[Hj (get_at (T:=(((((T.setIfInBounds 6 (.bool A9)).setIfInBounds 22 (.bool A3)).setIfInBounds 7 (.bool A3)).setIfInBounds 23 (.bool A3)).setIfInBounds 24 (.bool A9)).setIfInBounds 25 (.slice s n c)) (d:=26) (v:=.pointer (Y ⟨y.heap.size+1,0,Z⟩)) (by simp only[Pk];omega))];rfl
 rw[show(Lq YW 2).dst=Y 8 by kernel_rfl,YZ];refine .ctl rfl (λ_=>Hs) ?_;exact .here ⟨y.heap.size,C,f2,rfl,Uc,S,I.os.trans hk.os,I.output.trans hk.output,I.size,λb hb=>(I.block b (by omega)).trans (M b hb)⟩
def Ax.aBj(h:Ax R (Cd [0,25] T))(b:[0,25].contains d=A3):Ax R (Cd [0,25] (T.setIfInBounds d v)):=by rw[aPJ b];exact h
def aY9{k:Nat}(n c:Nat)(b:Option Ak)(z:Int)(h:Bool)(I:R (k+1))(T:zw)(s:T=E0 (A4 b n c) (A7 A8 z) (Af h) A' A' A' A' A' A' A' A' A' A' A' A' A' A' A' A' A' A' A' λ_=>A'):Ax R (Cd [0,25] ((((((((T.setIfInBounds 6 (Af A9)).setIfInBounds 22 (Af A3)).setIfInBounds 7 (Af A3)).setIfInBounds 23 (Af A3)).setIfInBounds 24 (Af A9)).setIfInBounds 25 (A4 b n c)).setIfInBounds 26 (Ad (Y ⟨k+1,0,Z⟩))).setIfInBounds 8 (Ad (Y ⟨k+1,0,Z⟩)))):=by
 have H:Ax R (MU 200 A'):=qP λj u hu=>by
  rw[aCm]at hu;split at hu;·rw[<-CH hu];exact AN.tuple Aq.nil
  cases hu
 have y:AN CM (C_ R) (Ad (Y ⟨k+1,0,Z⟩)) (Ad (Y ⟨k+1,0,Z⟩)):=AN.ptr ⟨⟨rfl,I⟩,rfl,rfl⟩;have e:(E0 (A4 b n c) (A7 A8 z) (Af h) A' A' A' A' A' A' A' A' A' A' A' A' A' A' A' A' A' A' A' λ_=>A')=(((MU 200 A').setIfInBounds 0 (A4 b n c)).setIfInBounds 1 (A7 A8 z)).setIfInBounds 2 (Af h):=by kernel_rfl
 rw[e]at s;subst s;exact Ax.Rw (Ax.Rw (Ax.aBj (Ax.Rw (Ax.Rw (Ax.Rw (Ax.Rw (Ax.Rw (Ax.Rw (Ax.Rw (Ax.aBj (Aq.jS H _) (by decide)) (.int _ _) (by decide)) (.bool _) (by decide)) (.bool _) (by decide)) (.bool _) (by decide)) (.bool _) (by decide)) (.bool _) (by decide)) (.bool _) (by decide)) (by decide)) y (by decide)) y (by decide)
def aHx(n c k:Nat)(b:Option Ak)(z:Int)(h:Bool)(T:zw)(s:T=E0 (A4 b n c) (A7 A8 z) (Af h) A' A' A' A' A' A' A' A' A' A' A' A' A' A' A' A' A' A' A' λ_=>A'):FR (A4 b n c) (A7 A8 z) (Af h) A' A' A' (Af A9) (Af A3) (Ad (Y ⟨k+1,0,Z⟩)) A' A' A' A' A' A' A' A' A' A' A' A' A' ((((((((T.setIfInBounds 6 (Af A9)).setIfInBounds 22 (Af A3)).setIfInBounds 7 (Af A3)).setIfInBounds 23 (Af A3)).setIfInBounds 24 (Af A9)).setIfInBounds 25 (A4 b n c)).setIfInBounds 26 (Ad (Y ⟨k+1,0,Z⟩))).setIfInBounds 8 (Ad (Y ⟨k+1,0,Z⟩))):=by subst s;exact SU (by kernel_rfl) (by kernel_rfl)
def aZT:Kg=Bh zc Of:=by kernel_rfl
def aZU:Of=Bh zd Og:=by kernel_rfl
def aZV:Og=Bh qi Ph:=by kernel_rfl
def aZW:Ph=Bh ze Pj:=by kernel_rfl
def aZX:Pj=Bh qc Pc:=by kernel_rfl
def aZN:Pc=Bh qd Pd:=by kernel_rfl
def aZO:Pd=Bh qe Pe:=by kernel_rfl
def aZP:Pe=Bh qf Pf:=by kernel_rfl
def aZQ:Pf=Bh fH No:=by kernel_rfl
def aZR:No=Bh kT Oe:=by kernel_rfl
def aZS:Oe=Bh za Pg:=by kernel_rfl
def aJy:ES A6 DV IE [1000007,1000008] 8 qi=A3:=by kernel_rfl
def aJt:ES A6 DV IE [1000007,1000008] 8 qc=A3:=by kernel_rfl
def aJu:ES A6 DV IE [1000007,1000008] 8 qd=A3:=by kernel_rfl
def aJv:ES A6 DV IE [1000007,1000008] 8 qe=A3:=by kernel_rfl
def aJw:ES A6 DV IE [1000007,1000008] 8 qf=A3:=by kernel_rfl
def a4P:ES A6 DV IE [1000007,1000008] 8 fH=A3:=by kernel_rfl
def aJx:ES A6 DV IE [1000007,1000008] 8 qg=A3:=by kernel_rfl
def a4Q:ES A6 DV IE [1000007,1000008] 8 Pg=A3:=by kernel_rfl
def FR.after{g2 AM fk g0 g7 hw ip s1 p3 wt pp p2 lc rt p4 y4 BD y6 B6 BE B7 y3 N6 DI GF IH Ob Oc S6 Od Z' Z0 Yo Yp Yq Yr Ys Yt Yu Yv Yw Yx Yy Yz:A1}{BV:zw}(h:FR g2 AM fk g0 g7 hw ip s1 p3 wt pp p2 lc rt p4 y4 BD y6 B6 BE B7 y3 T){u:A1}(AE:(IF l 9=a/\a<22/\IF l 11=11)/\∀i:_root_.Fin 12,IF l i.val<22->IF l i.val=a∨IF l i.val=11)(hs:BV.size=200)(s:BV[IF l 9]?=Y v)(b:BV[IF l 11]?=Y u)(z:∀j,(∀i,i<12->j≠IF l i)->BV[j]?=T[j]?)(e:([g2,AM,fk,g0,g7,hw,ip,s1,p3,wt,pp,p2,lc,rt,p4,y4,BD,y6,B6,BE,B7,y3].set a v).set 11 u=[N6,DI,GF,IH,Ob,Oc,S6,Od,Z',Z0,Yo,Yp,Yq,Yr,Ys,Yt,Yu,Yv,Yw,Yx,Yy,Yz]):FR N6 DI GF IH Ob Oc S6 Od Z' Z0 Yo Yp Yq Yr Ys Yt Yu Yv Yw Yx Yy Yz BV:=by
 rw[AE.1.1]at s;rw[AE.1.2.2]at b;refine h.from hs s b AE.1.2.1 (λj H y h2=>z j λi hi e=>?_) e;rcases AE.2 ⟨i,hi⟩ (by show IF l i<22;omega)with h|h;·exact y (e.trans h)
 exact h2 (e.trans h)
def Goes.aK7{k:List Cb}{t:A1->A0->Prop}(s:T[6]?=Y v)(y:∀d,t v (w.at d)):Goes Wb (G ((AW 8).at ⟨T,[]⟩ (BS Kk::k)) []) w λ_ h w'=>fQ A6 t h w':=by
 refine .ctl rfl (λw=>(by simp[G,Bi,stepG.exec,Frame.at]:Bi A6 A3 (G ((AW 8).at ⟨T,[]⟩ (.code .ret::k)) []) w=.go (G {(AW 8).at ⟨T,[]⟩ (.code .ret::k)with mode:=.returning} []) w)) λd=>.here ⟨rfl,λH z=>⟨v,?_,?_⟩⟩;·rw[Qp rfl rfl];refine aCH rfl rfl rfl Tu (by kernel_rfl) ?_;show(D_ JF T).runT A6 H #[]=_;rw[aBN uq,Iv,s];rfl
 obtain⟨b,rfl⟩:=z;exact y b
noncomputable def eX:Array BR:=match z_ with|Bh (Ej _ ops _) _=>ops|_=>#[]
def aZK:z_=Bh (Ej 19 eX A9) Kk:=by kernel_rfl
def aTU:eX[0]?=Y (eX.getD 0 Aw):=by kernel_rfl
def aTV:eX.size=1:=by kernel_rfl
section
variable[CV]
variable{AY:Nat->Nat->Nat}{g5:Nat->Nat->List (Nat×Nat)}{f2:List (Nat×Nat)}{w0:A0}{L:List Rel}{a2 cap BM bb:Nat}{E3:Az->zz}{dK BX:zy}{m:Int}{C:zw}{T0:zw}
def zC{kds l:List Nat}{ops:Array BR}(K:List BO)(f0:Rel->zz)(s:∀(i k:Nat),kds[i]?=Y k->∃o,ops[i]?=Y o/\gx (IF l) x o k)(AE:(∀i j:_root_.Fin 12,IF l i.val=IF l j.val->i=j)/\∀i:_root_.Fin 12,IF l i.val<200/\[0,25].contains (IF l i.val)=A9/\IF l i.val≠8/\IF l i.val≠9)(b:4∈kds->3∈kds)(y:3∈kds->(∀i,i<12->IF l i≠10)/\T0[10]?=Y (Ad (Y ⟨bb,0,Z⟩))/\BX bb/\∃x,w0.heap[bb]?=Y (AF #[x,J ⟨(Be K).toArray⟩] 59))(hx:x=Iy (J ⟨(Be K).toArray⟩)∨x=An (IF l 4))(M:UA AY g5 f2)(t:K2 AY g5 w0 a2 L E3)(AI:Ol w0)(hm:w0.cell? ⟨0,0,Z⟩=Y (A7 A8 m))(P:w0.cell? ⟨5,15,Z⟩=Y (A7 F1 4))(I:Holds dK BX w0)(S:NC AY g5 f2 BM w0)(U:w0.heap[BM]?=Y (AF C 43 (0,0)))(W:Wn K)(X:K=[]∨∀A,O2 L f2 A->K.Perm (ET f0 (Es A)))(N:Ax BX (Cd [0,25] T0))(hs:T0.size=200)(z:T0[8]?=Y (Ad (Y ⟨BM,0,Z⟩)))(H:T0[9]?=Y (A4 (Y ⟨a2,0,Z⟩) 15 cap)):a8 (IF l) x kds ops BM bb (A4 (Y ⟨a2,0,Z⟩) 15 cap) (Is V.W_ f2) ⟨(Be K).toArray⟩ (Zy K f0 (EI E3) L f2) T0 w0 BX where
 each:=s
 inj:=aTm AE.1
 Mm:=yP (Q:=λn=>n<200/\[0,25].contains n=A9/\n≠8/\n≠9) AE.2
 three:=b
 zK:=y
 qL:=hx
 size:=hs
 ew:=z
 v9:=H
 said w e:=aY4 w (Twin.NC.xR S I (AN.YL (Ax.TS N 8 (by decide) z)) U e) M
 res _ _ _ _ h e:=h.Am e
 shape _ _ _ h:=h.shape
 load:=aRB K f0 M t AI hm P I (Ax.TS N 9 (by decide) H) W X
def aIw{i Cc Fy c1:Nat}{a1:Option Ak}{As:Rel}{hW:List BO}{Tm:List Bu}{T:zw}{Wb R:zy}{w:A0}{g2 AM fk g0 g7 hw ip s1 p2 lc BD y6 B6 BE B7 y3:A1}(Al:UA AY g5 f2)(P:FL AY g5 f2 L)(hi:i<L.length)(Fi:K2 AY g5 w a2 (L.set i As) E3)(hn:As.p=L[i].p/\As.v=L[i].v)(Dz:∀j(H1:j<L.length),j≠i->EI E3 L[j]=EI Ez L[j])(AI:Ol w)(hm:w.cell? ⟨0,0,Z⟩=Y (A7 A8 m))(JQ:w.cell? ⟨5,15,Z⟩=Y (A7 F1 4))(I:Holds Wb R w)(g9:Ax R (Cd [0,25] T))(nZ:FR g2 AM fk g0 g7 hw ip s1 (Ad (Y ⟨BM,0,Z⟩)) (A4 (Y ⟨a2,0,Z⟩) 15 cap) (Ad (Y ⟨Cc,0,Z⟩)) p2 lc (A7 A8 (i:Int)) (J (EI Ez L[i])) (J (Gf (L[i].name,EI Ez L[i]))) BD y6 B6 BE B7 y3 T)(vU:NC AY g5 f2 BM w)(hC:w.heap[BM]?=Y (AF C 43 (0,0)))(Au:w.heap[Cc]?=Y (AF #[A4 a1 Fy c1,J ⟨(Be hW).toArray⟩] 59))(K:O2 L f2 Tm)(Ir:hW.Perm (ET (EI Ez) (Es Tm)))(Lg:Oj hW):Goes Wb (G ((AW 8).at ⟨T,[]⟩ [BS No]) []) w λ_ g' w'=>fQ A6 (λv w'=>v=Af A3/\∀b,R b->w'.heap[b]?=w.heap[b]?) g' w':=by
 have iw:L.length=15:=P.len;have bC:(L.set i As).length=L.length:=List.length_set;have b4:As.name=L[i].name:=Q7 hn.1 hn.2;have av:FL AY g5 f2 (L.set i As):=Fi.law Al;have K6:∀(E3:Az->zz)(r:Rel),Qb (EI E3 r)=A3:=λE3 r=>a8O (p:=r.p) (v:=r.v) (m:=r.m) (x:=NL) (y:=E3 r.name) (by simp[EI]);obtain⟨UQ,na⟩:=P.again K (λr _=>K6 Ez r) Ir Lg;have x7:∀{T:zw}{R:zy},Ax R (Cd [0,25] T)->T[9]?=Y (A4 (Y ⟨a2,0,Z⟩) 15 cap)->AN CM (C_ R) (A4 (Y ⟨a2,0,Z⟩) 15 cap) (A4 (Y ⟨a2,0,Z⟩) 15 cap):=λh e=>Ax.TS h 9 (by decide) e;have aMP:=xh Al Fi AI hm JQ I (x7 g9 (nZ.get 9 rfl));have CR:i<(L.set i As).length:=by omega
 have a7b:(L.set i As)[i]=As:=tQ ..;rw[aZR,aZJ];refine .ctl rfl (λ_=>FT) λBC=>?_;refine .Ye (Q:=λT u=>(w.heap.size<=u.heap.size/\∀b,b<w.heap.size->u.heap[b]?=w.heap[b]?)/\T[119]?=Y (Af ((EI E3 As).toList==(EI Ez L[i]).toList))/\FR g2 AM fk g0 g7 hw ip s1 (Ad (Y ⟨BM,0,Z⟩)) (A4 (Y ⟨a2,0,Z⟩) 15 cap) (Ad (Y ⟨Cc,0,Z⟩)) p2 lc (A7 A8 (i:Int)) (J (EI Ez L[i])) (J (Gf (L[i].name,EI Ez L[i]))) BD y6 B6 BE B7 y3 T) aJx g9 (I.at BC) (λd T0=>?_) ?_;·obtain⟨g,Ct⟩:=nZ;rw[Ct];refine JZ ?_ (aJC a2 cap i (L.set i As) (EI E3 As) (EI Ez L[i]) _ _ _ _ _ _ _ _ _ _ _ _ _ _ _ _ _ _ _ g (on ((w.at BC).at d) T0) (by omega) CR Fi.reg (by rw[a7b];exact zF (aMP.GO As (aH5 hi As)) λ_ _=>rfl) JQ);rintro e a' w'⟨h1,h2,h3,h4,li⟩;exact⟨h1,h2,⟨h3.size,λb z=>h3.block b z⟩,h4,li⟩
 rintro Bb BK Dk u w1⟨⟨GL,W⟩,uy,OB⟩G8 rg e1 Dn Er Il;have uy:=(G8 119 (by decide)).trans uy;obtain⟨g2,M⟩:=OB.Cd rg G8;rw[<-e1]at GL W;have hlt:∀b,R b->b<w.heap.size:=λb z=>I.closed.lt z;refine .ctl rfl (λ_=>cC (t:=(EI E3 As).toList==(EI Ez L[i]).toList) (Hj uy)) λd1=>?_;by_cases GB:EI E3 As=EI Ez L[i]
 ·rw[GB,beq_self_eq_true,if_pos rfl,aZK];refine .ctl rfl (λ_=>FT) λd2=>?_;refine .ctl rfl (λ_=>II) λd3=>?_;rw[aTV];show Goes _ (G ((AW 8).at ⟨BK,[]⟩ (B1 eX [0]::[BS Kk,BS Oe])) []) _ _;refine Goes.dR (v:=Af A3) (d:=6) aTU (MS (by kernel_rfl) _) (by kernel_rfl) (by kernel_rfl) (by kernel_rfl) (by kernel_rfl) (by kernel_rfl) af (by decide) (((Il.at d1).at d2).at d3) Dn (λw=>?_) ?_
  ·have AA:(eX.getD 0 Aw).op=SK (Iy (Af A3)):=by kernel_rfl
   unfold Ab;rw[AA];rfl
  intro Sa w3 Co QN Xw RJ;refine .ctl rfl (λ_=>Hs) λd4=>?_;refine Goes.aK7 (v:=Af A3) (get_at (by rw[(QB M).1];decide)) λd=>⟨rfl,λb z=>?_⟩;show w3.heap[b]?=_;rw[Co];exact W b (hlt b z)
 have i6:((EI E3 As).toList==(EI Ez L[i]).toList)=A9:=by rw[beq_eq_false_iff_ne];exact λh=>GB ((dQ _ _).1 h)
 rw[i6,if_neg (by decide)];refine .ctl rfl (λ_=>a'J) λd2=>?_;have bD:∀b,R b->w1.heap[b]?=w.heap[b]?:=λb z=>W b (hlt b z);rw[aZS];refine .ctl rfl (λ_=>FT) λd3=>?_;rw[aTW];have a6P:Bb Cc:=AN.YL (Ax.TS Dn 10 (by decide) (M.get 10 rfl));have aO4:BM<w.heap.size:=Kw hC;have aNc:=V0 (w:=((w1.at d1).at d2).at d3) Fi I (x7 g9 (nZ.get 9 rfl)) bD;have S:=zC (w0:=((w1.at d1).at d2).at d3) (bb:=Cc) (l:=[121,122,123,124,125,126,120,127,128,16,197,11]) (x:=An 125) (kds:=[0,1,2,3,4,5,6,7,8,9,10,11]) hW (λr=>TK L (EI Ez) r.name) aKH (by decide) (by decide) (λ_=>⟨yP (Q:=λn=>n≠10) (by decide),M.get 10 rfl,a6P,_,(W Cc (Kw Au)).trans Au⟩) (AJ rfl) Al aNc (dd AI I bD) (QH (by decide) hm I bD) (QH (by decide) JQ I bD) (((Il.at d1).at d2).at d3) (vU.same W) ((W BM aO4).trans hC) UQ (AJ λA v6=>by rw[<-P.known av K v6];exact Ir) Dn (QB M).1 (M.get 8 rfl) (M.get 9 rfl);refine a4X S aAG aJE (((Il.at d1).at d2).at d3) Dn ?_;intro a_Y h0 H E2 HF ID Cv s CJ DW Kz NP eE oM D7 HU aag aac Jm NN F';have aZ:=M.after (a:=16) (by decide) eE HU NN oM rfl;have a6O:H.heap[Cc]?=Y (AF #[A4 a1 Fy c1,J ⟨(Be hW).toArray⟩] 59):=(D7 Cc a6P).2.trans ((W Cc (Kw Au)).trans Au);have Fh:∀b,R b->H.heap[b]?=w.heap[b]?:=λb z=>(D7 b (Er b z)).2.trans (bD b z);have aa:∀b,R b->b<H.heap.size:=λb z=>Kz.closed.lt (D7 b (Er b z)).1;have aOq:Ih H a2 (L.set i As):=(V0 (w:=H) Fi I (x7 g9 (nZ.get 9 rfl)) Fh).reg;obtain⟨Gl,k1,_,_⟩:=aOq i CR;rw[a7b]at Gl k1;obtain⟨Z1,g3,dq⟩:=F';obtain⟨t1,t2⟩:=P.qL hi av b4 Dz GB K g3 Ir;have TG:(Ha (Be hW).toArray).size<=1000000:=by
  have h1:=uS hW λy hy=>by have:=(na y hy).1.size;omega hW.length (Ae _);rw[O3]at h1;have h2:hW.length<=15:=by
   have h3:=N.pT (U:=L.map Rel.name) K.nodup λx hx=>by obtain⟨y,hy,rfl⟩:=List.mem_map.1 hx;exact List.mem_map.2 ⟨y.rel,K.MH y hy,rfl⟩
   have h4:=(Ir.map (·.1)).length_eq;rw[h_,Ks]at h4;rw[Ks]at h3;omega
  rw[bsize,List.toList_toArray];omega
 obtain⟨y,DI,GF,IH⟩:=P.md (DU hi);have KY:=xr DI GF (K6 Ez L[i]);rw[<-IH]at KY;have a7J:(Gf (L[i].name,EI Ez L[i])).size<=10000:=by have h1:=KY.1.size;have h2:=a4e _ KY.1;rw[bsize,pB,H7,<-bsize];show _+1<=_;omega
 by_cases X:(L[i].name,EI Ez L[i])∈hW
 ·obtain⟨⟨x,hx,aPg⟩,xM⟩:=t1 X;rcases dq with⟨_,AV,_⟩|⟨_,fk,Ll,QQ,QO,q,rfl,AK⟩
  ·rcases AV with AV|AV;·rw[AV]at X;cases X
   exact absurd (AV x hx) aPg
  cases QO;rw[xM fk Ll QQ]at AK;obtain⟨Uk,Y8,ao⟩:=aLN X;refine Goes.a8b (r:=6) (Q:=λv u=>v=Af A3/\H.heap.size<=u.heap.size/\∀b,b<H.heap.size->u.heap[b]?=H.heap[b]?) Tu a4Q NP Kz uq (by decide) (by kernel_rfl) (λT0=>?_) ?_;·obtain⟨g,Ct⟩:=aZ;rw[Ct];exact aXr Cc DW Fy c1 a2 cap i Uk a1 _ _ As.p As.v q _ _ _ _ _ _ _ _ _ _ _ _ _ _ _ _ g (on H T0) a6O Jm TG a7J Y8 ao AK (by omega) Gl k1
  rintro v u w'⟨rfl,_,z⟩e;refine⟨rfl,λb Mp=>?_⟩;rw[e,z b (aa b Mp)];exact Fh b Mp
 have hk:=t2 X;rcases dq with⟨rfl,_,a3,c3,ER,QO,Lh,aOS⟩|⟨_,fk,Ll,QQ,_⟩;rotate_left;·exact absurd (hk fk Ll) QQ
 cases QO;have d9:ER=hW:=by refine uU ?_ (av.Tb g3 Lh aOS) (P.Tb K Ir Lg);refine Lh.trans (aGh ?_ Ir.symm);rw[P.known av K g3 (EI Ez)];unfold ET;rw[a2Y λr A2=>?_];obtain⟨y,hy,rfl⟩:=List.mem_map.1 A2;show(y.rel.name,EI E3 y.rel)=(y.rel.name,TK L (EI Ez) y.rel.name);rw[hk y hy]
 subst d9;refine Goes.a8b (r:=6) (Q:=λv u=>v=Af A3/\u.heap=H.heap) Tu a4Q NP Kz uq (by decide) (by kernel_rfl) (λT0=>?_) ?_;·obtain⟨g,Ct⟩:=aZ;rw[Ct];exact aXp Cc DW Fy c1 _ _ a1 _ _ _ _ _ _ _ _ _ _ _ _ _ _ _ _ _ _ _ _ _ g (on H T0) a6O Jm TG a7J λk hk=>aLO KY.1 KY.2.1 (λy hy=>⟨(na y hy).1,(na y hy).2.1,(na y hy).2.2.trans KY.2.2.symm⟩) X k hk
 rintro v u w'⟨rfl,z⟩e;refine⟨rfl,λb Mp=>?_⟩;rw[e,z];exact Fh b Mp
end
noncomputable def eY:Array BR:=YX zc
def aTX:zc=Ej 5 eY A9:=by kernel_rfl
def pj:eY.size=3:=by kernel_rfl
def aJ1[CV]{U:zy}(m z:Int)(IQ:Bool)(x:A1)(M:A0)(B BM:Nat)(C:zw)(f2:List (Nat×Nat))(DF:-9223372036854775808<=z)(CO:z<=9223372036854775807)(Uc:XZ M B BM C f2)(AI:Ol M)(hm:M.cell? ⟨0,0,Z⟩=Y (A7 A8 m))(JQ:M.cell? ⟨5,15,Z⟩=Y (A7 F1 4))(Kz:Holds U R M)(E2:zw)(NP:Ax R (Cd [0,25] E2))(aZ:FR x (A7 A8 z) (Af IQ) A' A' A' (Af A9) (Af A3) (Ad (Y ⟨BM,0,Z⟩)) A' A' A' A' A' A' A' A' A' A' A' A' A' E2):Goes U (G ((AW 8).at ⟨E2,[]⟩ [BS Kg]) []) M λ_ g' w'=>fQ A6 (λv w'=>v=Af A3/\∀b,R b->w'.heap[b]?=M.heap[b]?) g' w':=by
 obtain⟨AY,g5,Al,Gg⟩:=aS6 Uc;have NO:∀b,R b->b<M.heap.size:=λb s=>Kz.closed.lt s;rw[aZT];refine .ctl rfl (λ_=>FT) λd1=>?_;rw[aTX];refine .ctl rfl (λ_=>II) λd2=>?_;rw[pj];show Goes _ (G ((AW 8).at ⟨E2,[]⟩ (B1 eY [0,1,2]::[BS Of])) []) _ _;refine Goes.eQ (opAt pj 0 (by decide)) (by kernel_rfl) (AD (by kernel_rfl)) (show(Lq eY 0).dst=Y 27 by kernel_rfl) (by decide) (aZ.get 8 rfl) ((Kz.at d1).at d2) NP ?_;intro Zw Dq J6 Xy aV dk;have J6:Dq.heap=M.heap:=J6;have a5l:=aZ.put 27 (Ad (Y ⟨BM,0,Z⟩)) rfl;have a5W:(E2.setIfInBounds 27 (Ad (Y ⟨BM,0,Z⟩)))[27]?=Y (Ad (Y ⟨BM,0,Z⟩)):=get_at (by rw[(QB aZ).1];decide);have aMM:NC AY g5 f2 BM Dq:=Gg.same λb _=>by rw[J6]
 refine Goes.a3q (f:=27) (fn:=Tryz.f27) (opd:=#[An 27]) (ats:=#[34]) (args:=#[Ad (Y ⟨BM,0,Z⟩)]) (Q:=λv w'=>∃u:A0,w'.heap=u.heap/\∃L,Vb AY g5 Dq.heap.size v u L/\Dq.heap.size<=u.heap.size/\∀b,b<Dq.heap.size->u.heap[b]?=Dq.heap[b]?) (opAt pj 1 (by decide)) (MS (by kernel_rfl) _) (by kernel_rfl) (show(Lq eY 1).dst=Y 28 by kernel_rfl) aEU (by kernel_rfl) (by kernel_rfl) (by decide) (by simp[Hj a5W]) aV dk (.cons (Ax.TS dk 27 (by decide) a5W) .nil) (λy=>CallsC.lone (UI _ (by kernel_rfl)) aEU (by kernel_rfl) λT0=>?_) ?_
 ·have OC:NC AY g5 f2 BM (on (Dq.at y) T0):=aMM.same λb _=>rfl;refine(aVx AY g5 BM (on (Dq.at y) T0) (λq k AH hk=>⟨(OC.ey q k AH hk).1,by have:=(OC.ey q k AH hk).2;omega⟩) λq k AH hk=>?_).mono ?_;·obtain⟨a,eV,E8,I,h2⟩:=OC.D' q k AH hk;refine⟨a,eV,E8,I,h2,(Al.D' q k AH hk).2,(Al.D' q k AH hk).1.1⟩
  rintro e u⟨v,L,rfl,A2⟩;exact⟨v,rfl,L,A2.plain,A2.below.size,λb s=>A2.below.block b s⟩
 rintro aHd aHY ew Tk⟨u8,a4a,L,Gk,aB_,LW⟩nf nY ng;have Gk:Vb AY g5 Dq.heap.size ew Tk L:=Gk.heap a4a;rw[<-a4a]at aB_ LW;obtain⟨a2,cap,rfl,aam⟩:∃a2 cap,ew=A4 (Y ⟨a2,0,Z⟩) 15 cap/\Dq.heap.size<=a2:=by
  rcases Gk.own.2 with⟨_,AV⟩|⟨g,cap,g6,I,h2,_⟩;·cases AV
  exact⟨g,cap,I,h2⟩
 have aMH:=a5l.put 28 (A4 (Y ⟨a2,0,Z⟩) 15 cap) rfl;refine Goes.eQ (opAt pj 2 (by decide)) (by kernel_rfl) (AJ (by kernel_rfl)) (show(Lq eY 2).dst=Y 9 by kernel_rfl) (by decide) (get_at (d:=28) (v:=A4 (Y ⟨a2,0,Z⟩) 15 cap) (by rw[(QB a5l).1];decide)) nY ng ?_;intro P7 N Vo vY K iP;have Xx:=aMH.put 9 (A4 (Y ⟨a2,0,Z⟩) 15 cap) rfl;generalize((E2.setIfInBounds 27 (Ad (Y ⟨BM,0,Z⟩))).setIfInBounds 28 (A4 (Y ⟨a2,0,Z⟩) 15 cap)).setIfInBounds 9 (A4 (Y ⟨a2,0,Z⟩) 15 cap)=a3B at Xx iP⊢;refine .ctl rfl (λ_=>Hs) λd3=>?_;have a7Z:Vb AY g5 Dq.heap.size (A4 (Y ⟨a2,0,Z⟩) 15 cap) N L:=Gk.heap Vo;have Fi:K2 AY g5 N a2 L Ez:=a7Z.aYA Al;have t:=Fi.law Al;have iw:=Fi.len;have ab5:Dq.heap.size=M.heap.size:=by rw[J6]
 have RL:∀b,b<M.heap.size->N.heap[b]?=M.heap[b]?:=λb s=>by rw[Vo,LW b (by omega),J6]
 have Xz:∀b,R b->P7 b:=λb s=>vY b (nf b (Xy b s));have wE:Ol N:=dd AI Kz λb s=>RL b (NO b s);have j3:=QH (w:=N) (by decide) hm Kz λb s=>RL b (NO b s);have o5:=QH (w:=N) (by decide) JQ Kz λb s=>RL b (NO b s);have a5o:NC AY g5 f2 BM N:=Gg.same RL;have vL:N.heap[BM]?=Y (AF C 43 (0,0)):=(RL BM (Kw Uc.1)).trans Uc.1;have a7N:P7 BM:=AN.YL (Ax.TS iP 8 (by decide) (Xx.get 8 rfl));have JS:AN CM (C_ P7) (A4 (Y ⟨a2,0,Z⟩) 15 cap) (A4 (Y ⟨a2,0,Z⟩) 15 cap):=Ax.TS iP 9 (by decide) (Xx.get 9 rfl);rw[aZU];refine .ctl rfl (λ_=>FT) λd4=>?_;rw[aTY];refine .ctl rfl (λ_=>II) λd5=>?_;rw[aAH];show Goes _ (G ((AW 8).at ⟨a3B,[]⟩ (B1 pk [0,1,2,3,4,5,6,7,8,9]::[BS Og])) []) _ _;have a5d:=((K.at d3).at d4).at d5;have aHZ:=zC (w0:=((N.at d3).at d4).at d5) (bb:=0) (l:=[30,31,32,198,199,33,29,34,35,10,197,11]) (x:=Iy (J ⟨#[]⟩)) (kds:=[0,1,2,5,6,7,8,9,10,11]) [] (EI Ez) aKI (by decide) (by decide) (λh=>absurd h (by decide)) (AD rfl) Al (V0 Fi K JS λ_ _=>rfl) wE j3 o5 a5d (a5o.same λ_ _=>rfl) vL aKa (AD rfl) iP (QB Xx).1 (Xx.get 8 rfl) (Xx.get 9 rfl);refine yl aHZ ?_ [0,1,2,3,4,5,6,7,8,9] (λj=>j==3||j==4) _ P7 _ a3B A' A' 0 aT_ a5d iP ⟨(QB Xx).1,λ_ _=>rfl,λb s=>⟨s,rfl⟩,λk hk=>?_,λk hk=>?_⟩;rotate_left
 ·have aT:k=3∨k=4:=by simpa using hk
  rcases aT with rfl|rfl;·exact AD rfl
  exact AD rfl
 ·have aT:k=3∨k=4:=by simpa using hk
  rcases aT with rfl|rfl;·rfl
  rfl
 intro a_Z a2s fB a_S a1 Fy c1 JX CJ H a5e aMa aPC aOr aOY aM4 aOH aad aOG aLl F';have aMI:=Xx.after (a:=10) (by decide) aPC aM4 aLl aOr rfl;obtain⟨Tm,g1,⟨rfl,_,a',c',hW,QO,Ir,Lg⟩|⟨h,_⟩⟩:=F';rotate_left;·exact absurd rfl h
 have Ud:Fy=(Go.Proofs.YtcfhleenecfghaaGreatDoor.names (Ec Tm Tm.length)).length/\JX=⟨(Be hW).toArray⟩:=by cases QO;exact⟨rfl,rfl⟩
 obtain⟨Ud,rfl⟩:=Ud;clear QO;have vG:∀b,P7 b->a2s b/\fB.heap[b]?=N.heap[b]?:=λb s=>aOY b s;have wY:a2s H/\fB.heap[H]?=Y (AF #[A4 a1 Fy c1,J ⟨(Be hW).toArray⟩] 59):=⟨aOH,aOG⟩;have K6:∀(E3:Az->zz)(r:Rel),Qb (EI E3 r)=A3:=λE3 r=>a8O (p:=r.p) (v:=r.v) (m:=r.m) (x:=NL) (y:=E3 r.name) (by simp[EI]);obtain⟨UQ,_⟩:=t.again g1 (λr _=>K6 Ez r) Ir Lg;rw[aZV];refine .Ye (Q:=λT u=>(fB.heap.size<=u.heap.size/\∀b,b<fB.heap.size->u.heap[b]?=fB.heap[b]?)/\FR x (A7 A8 z) (Af IQ) A' A' A' (Af A9) (Af A3) (Ad (Y ⟨BM,0,Z⟩)) (A4 (Y ⟨a2,0,Z⟩) 15 cap) (Ad (Y ⟨H,0,Z⟩)) DS A' A' A' A' A' A' A' A' A' A' T) aJy aMa a5e (λd T0=>?_) ?_;·obtain⟨g,P⟩:=aMI;rw[P];refine JZ ?_ (aJD _ _ _ _ _ _ _ _ _ _ _ _ _ _ _ _ _ _ _ _ _ g (on (fB.at d) T0));rintro e a' w'⟨I,h2,rfl,h4⟩;exact⟨I,h2,⟨Ae _,λ_ _=>rfl⟩,h4⟩
 rintro a2t a_T Dk u qS⟨⟨aOz,iS⟩,S⟩W X e a61 a5w a5f;obtain⟨x,iG⟩:=S.Cd X W;rw[<-e]at aOz iS;have Vt:∀b,P7 b->a2t b/\qS.heap[b]?=N.heap[b]?:=λb s=>⟨a5w b (vG b s).1,(iS b (a5e.closed.lt (vG b s).1)).trans (vG b s).2⟩;have j7:a2t H/\qS.heap[H]?=Y (AF #[A4 a1 Fy c1,J ⟨(Be hW).toArray⟩] 59):=⟨a5w H wY.1,(iS H (Kw wY.2)).trans wY.2⟩;rw[aZW];refine .ctl rfl (λ_=>FT) λd6=>?_;rw[aTZ];have aH_:=zC (w0:=qS.at d6) (bb:=H) (l:=[39,40,41,42,43,44,38,45,46,12,197,11]) (x:=An 43) (kds:=[0,1,2,3,4,5,6,7,8,9,10,11]) hW (λr=>TK L (EI Ez) r.name) aKJ (by decide) (by decide) (λ_=>⟨yP (Q:=λn=>n≠10) (by decide),iG.get 10 rfl,j7.1,_,j7.2⟩) (AJ rfl) Al (V0 (w:=qS.at d6) Fi K JS λb s=>(Vt b s).2) (dd wE K λb s=>(Vt b s).2) (QH (by decide) j3 K λb s=>(Vt b s).2) (QH (by decide) o5 K λb s=>(Vt b s).2) (a5f.at d6) (Twin.NC.xR a5o K a7N vL λb s=>(Vt b s).2) ((Vt BM a7N).2.trans vL) UQ (AJ λA v6=>by rw[<-t.known t g1 v6];exact Ir) a61 (QB iG).1 (iG.get 8 rfl) (iG.get 9 rfl);refine a4X aH_ aAI aJF (a5f.at d6) a61 ?_;intro a__ a2u fC a_U FY JA c2 Rt CJ YS a5g aMb aPD aOs oG aM5 aaf aae aOI aLm F';have aMJ:=iG.after (a:=12) (by decide) aPD aM5 aLm aOs rfl;obtain⟨aZf,Cx,dq⟩:=F';rcases dq with⟨rfl,_,a',c',C4,QO,OI,b7⟩|⟨_,fk,Ll,QQ,_⟩;rotate_left;·exact absurd (ot t.T_ (Cx.MH fk Ll)) QQ
 have d9:C4=hW:=by refine uU (OI.trans (aGh ?_ Ir.symm)) (t.Tb Cx OI b7) (t.Tb g1 Ir Lg);rw[t.known t g1 Cx (EI Ez),t.known t Cx Cx (EI Ez)]
 have aOF:JA=Fy/\Rt=⟨(Be hW).toArray⟩:=by cases QO;rw[Ud,d9,t.aXy t g1 Cx];exact⟨rfl,rfl⟩
 obtain⟨rfl,rfl⟩:=aOF;clear QO;have vH:∀b,P7 b->a2u b/\fC.heap[b]?=N.heap[b]?:=λb s=>⟨(oG b (Vt b s).1).1,(oG b (Vt b s).1).2.trans (Vt b s).2⟩;have o9:a2u H/\fC.heap[H]?=Y (AF #[A4 a1 JA c1,J ⟨(Be hW).toArray⟩] 59):=⟨(oG H j7.1).1,(oG H j7.1).2.trans j7.2⟩;rw[aZX];refine .Ye (Q:=λT u=>(fC.heap.size<=u.heap.size/\∀b,b<fC.heap.size->u.heap[b]?=fC.heap[b]?)/\FR x (A7 A8 z) (Af IQ) A' A' A' (Af A9) (Af A3) (Ad (Y ⟨BM,0,Z⟩)) (A4 (Y ⟨a2,0,Z⟩) 15 cap) (Ad (Y ⟨H,0,Z⟩)) DS (Ad (Y ⟨YS,0,Z⟩)) A' A' A' A' A' A' A' A' A' T) aJt aMb a5g (λd T0=>?_) ?_;·obtain⟨g,P⟩:=aMJ;rw[P];refine JZ ?_ (aJ6 H YS JA c1 c2 a1 FY ⟨(Be hW).toArray⟩ _ _ _ _ _ _ _ _ _ _ _ _ _ _ _ _ _ _ _ g (on (fC.at d) T0) o9.2 aOI);rintro e a' w'⟨I,h2,rfl,h4⟩;exact⟨I,h2,⟨Ae _,λ_ _=>rfl⟩,h4⟩
 rintro a2v a_V Dk u fD⟨⟨aP',vk⟩,S⟩W X e aMc a5x a5h;obtain⟨x,aMK⟩:=S.Cd X W;rw[<-e]at aP' vk;have vI:∀b,P7 b->a2v b/\fD.heap[b]?=N.heap[b]?:=λb s=>⟨a5x b (vH b s).1,(vk b (a5g.closed.lt (vH b s).1)).trans (vH b s).2⟩;have wZ:a2v H/\fD.heap[H]?=Y (AF #[A4 a1 JA c1,J ⟨(Be hW).toArray⟩] 59):=⟨a5x H o9.1,(vk H (Kw o9.2)).trans o9.2⟩;obtain⟨i,i2,aNX⟩:=aU0 z;have hi:i<L.length:=by omega
 rw[aZN];refine .Ye (Q:=λT u=>(fD.heap.size<=u.heap.size/\∀b,b<fD.heap.size->u.heap[b]?=fD.heap[b]?)/\FR x (A7 A8 z) (Af IQ) A' A' A' (Af A9) (Af A3) (Ad (Y ⟨BM,0,Z⟩)) (A4 (Y ⟨a2,0,Z⟩) 15 cap) (Ad (Y ⟨H,0,Z⟩)) DS (Ad (Y ⟨YS,0,Z⟩)) (A7 A8 (i:Int)) A' A' A' A' A' A' A' A' T) aJu aMc a5h (λd T0=>?_) ?_;·obtain⟨g,P⟩:=aMK;rw[P];refine JZ ?_ (aJ7 z a2 cap _ _ _ _ _ _ _ _ _ _ _ _ _ _ _ _ _ _ _ _ g (on (fD.at d) T0) DF CO);rintro e a' w'⟨I,h2,rfl,h4⟩;rw[i2]at h4;exact⟨I,h2,⟨Ae _,λ_ _=>rfl⟩,h4⟩
 rintro a2w a_W Dk u Wh⟨⟨xA,vl⟩,S⟩W X e a62 a5y vR;obtain⟨x,a5m⟩:=S.Cd X W;rw[<-e]at xA vl;have Vu:∀b,P7 b->a2w b/\Wh.heap[b]?=N.heap[b]?:=λb s=>⟨a5y b (vI b s).1,(vl b (a5h.closed.lt (vI b s).1)).trans (vI b s).2⟩;have w_:a2w H/\Wh.heap[H]?=Y (AF #[A4 a1 JA c1,J ⟨(Be hW).toArray⟩] 59):=⟨a5y H wZ.1,(vl H (Kw wZ.2)).trans wZ.2⟩;have xA:NI Wh L[i] (EI Ez L[i]):=(xh (cap:=cap) Al (V0 Fi K JS λb s=>(Vu b s).2) (dd wE K λb s=>(Vu b s).2) (QH (by decide) j3 K λb s=>(Vu b s).2) (QH (by decide) o5 K λb s=>(Vu b s).2) vR (Ax.TS a62 9 (by decide) (a5m.get 9 rfl))).GO _ (DU hi);rw[aZO];refine .Ye (Q:=λT u=>(Wh.heap.size<=u.heap.size/\∀b,b<Wh.heap.size->u.heap[b]?=Wh.heap[b]?)/\FR x (A7 A8 z) (Af IQ) A' A' A' (Af A9) (Af A3) (Ad (Y ⟨BM,0,Z⟩)) (A4 (Y ⟨a2,0,Z⟩) 15 cap) (Ad (Y ⟨H,0,Z⟩)) DS (Ad (Y ⟨YS,0,Z⟩)) (A7 A8 (i:Int)) (J (EI Ez L[i])) A' A' A' A' A' A' A' T) aJv a62 vR (λd T0=>?_) ?_;·obtain⟨g,P⟩:=a5m;rw[P];refine JZ ?_ (aJ8 a2 cap i L (EI Ez L[i]) _ _ _ _ _ _ _ _ _ _ _ _ _ _ _ _ _ _ _ _ g (on (Wh.at d) T0) iw hi (V0 (w:=on (Wh.at d) T0) Fi K JS λb s=>(Vu b s).2).reg (zF xA λ_ _=>rfl) (QH (w:=on (Wh.at d) T0) (by decide) o5 K λb s=>(Vu b s).2));rintro e a' w'⟨I,h2,h3,h4⟩;exact⟨I,h2,⟨h3.size,λb s=>h3.block b s⟩,h4⟩
 rintro a2x Ml Dk u bj⟨⟨aP0,vm⟩,S⟩W X e aMd a5z a5i;obtain⟨x,aML⟩:=S.Cd X W;rw[<-e]at aP0 vm;have nU:∀b,P7 b->a2x b/\bj.heap[b]?=N.heap[b]?:=λb s=>⟨a5z b (Vu b s).1,(vm b (vR.closed.lt (Vu b s).1)).trans (Vu b s).2⟩;have wb:a2x H/\bj.heap[H]?=Y (AF #[A4 a1 JA c1,J ⟨(Be hW).toArray⟩] 59):=⟨a5z H w_.1,(vm H (Kw w_.2)).trans w_.2⟩;obtain⟨y,DI,GF,IH⟩:=t.md (DU hi);have KY:=(xr DI GF (K6 Ez L[i])).1.size;rw[<-IH]at KY;rw[aZP];refine .Ye (Q:=λT u=>(bj.heap.size<=u.heap.size/\∀b,b<bj.heap.size->u.heap[b]?=bj.heap[b]?)/\FR x (A7 A8 z) (Af IQ) A' A' A' (Af A9) (Af A3) (Ad (Y ⟨BM,0,Z⟩)) (A4 (Y ⟨a2,0,Z⟩) 15 cap) (Ad (Y ⟨H,0,Z⟩)) DS (Ad (Y ⟨YS,0,Z⟩)) (A7 A8 (i:Int)) (J (EI Ez L[i])) (J (Gf (L[i].name,EI Ez L[i]))) A' A' A' A' A' A' T) aJw aMd a5i (λd T0=>?_) ?_;·obtain⟨g,P⟩:=aML;rw[P];refine JZ ?_ (aJ9 a2 cap i L (EI Ez L[i]) _ _ _ _ _ _ _ _ _ _ _ _ _ _ _ _ _ _ _ g (on (bj.at d) T0) iw hi (V0 (w:=on (bj.at d) T0) Fi K JS λb s=>(nU b s).2).reg KY.1 (by have:=KY.2.1;show L[i].v.size<=1000;exact G3 this (by decide)) KY.2.2);rintro e a' w'⟨I,h2,h3,h4⟩;exact⟨I,h2,⟨by rw[h3];exact Ae _,λ_ _=>by rw[h3];rfl⟩,h4⟩
 rintro tf a_X Dk u S3⟨⟨aP1,vn⟩,S⟩W X e a63 Vw vS;obtain⟨x,a5n⟩:=S.Cd X W;rw[<-e]at aP1 vn;have iA:∀b,P7 b->tf b/\S3.heap[b]?=N.heap[b]?:=λb s=>⟨Vw b (nU b s).1,(vn b (a5i.closed.lt (nU b s).1)).trans (nU b s).2⟩;have we:tf H/\S3.heap[H]?=Y (AF #[A4 a1 JA c1,J ⟨(Be hW).toArray⟩] 59):=⟨Vw H wb.1,(vn H (Kw wb.2)).trans wb.2⟩;obtain⟨g6,Gh,_⟩:=(V0 Fi K JS λb s=>(iA b s).2).row;have il:=V0 (w:=S3) Fi K JS λb s=>(iA b s).2;have aan:P7 a2:=AN.Uj JS;have o6:L[i].m=Is (V.mp (i/3)) (g5 (i/3) (i%3)):=(a7Z.rel i hi).pJ;have RN:∀(tn Sb:zy)(S4:A0)(Xg:zw)(x:A1)(As:Rel)(E3:Az->zz),K2 AY g5 S4 a2 (L.set i As) E3->As.p=L[i].p/\As.v=L[i].v->(∀j(H1:j<L.length),j≠i->EI E3 L[j]=EI Ez L[j])->Holds tn Sb S4->Ax Sb (Cd [0,25] Xg)->FR x (A7 A8 z) (Af IQ) A' A' A' (Af A9) (Af A3) (Ad (Y ⟨BM,0,Z⟩)) (A4 (Y ⟨a2,0,Z⟩) 15 cap) (Ad (Y ⟨H,0,Z⟩)) DS (Ad (Y ⟨YS,0,Z⟩)) (A7 A8 (i:Int)) (J (EI Ez L[i])) (J (Gf (L[i].name,EI Ez L[i]))) A' A' A' A' A' A' Xg->(∀b,tf b->Sb b)->(∀b,b≠a2->b<S3.heap.size->S4.heap[b]?=S3.heap[b]?)->Goes tn (G ((AW 8).at ⟨Xg,[]⟩ [BS No]) []) S4 λ_ g' w'=>fQ A6 (λv w'=>v=Af A3/\∀b,R b->w'.heap[b]?=M.heap[b]?) g' w':=by
  intro tn Sb S4 Xg x As E3 aNd aOe GM iF iQ iH iM a6R;have aao:M.heap.size<=a2:=by omega
  have Du:∀b,b<M.heap.size->b<S3.heap.size->S4.heap[b]?=S3.heap[b]?:=λb s kc=>a6R b (by omega) kc;have Vw:∀b,R b->S4.heap[b]?=M.heap[b]?:=λb s=>by rw[Du b (NO b s) (vS.closed.lt (iA b (Xz b s)).1),(iA b (Xz b s)).2,RL b (NO b s)]
  have a7M:R BM:=AN.YL (Ax.TS NP 8 (by decide) (aZ.get 8 rfl));have aOE:S4.heap[H]?=Y (AF #[A4 a1 JA c1,J ⟨(Be hW).toArray⟩] 59):=(a6R H (λe=>by have h:=we.2;rw[e,Gh]at h;exact absurd h (by simp)) (Kw we.2)).trans we.2;refine(aIw (cap:=cap) Al t hi aNd aOe GM (dd AI Kz Vw) (QH (by decide) hm Kz Vw) (QH (by decide) JQ Kz Vw) iF iQ iH (Twin.NC.xR Gg Kz a7M Uc.1 Vw) ((Vw BM a7M).trans Uc.1) aOE g1 Ir Lg).bind ?_;rintro BW g' w'⟨I,h2⟩;refine .here ⟨I,λd8 bi=>?_⟩;obtain⟨v,h3,h4,li⟩:=h2 d8 bi;exact⟨v,h3,h4,λb s=>(li b (iM b (iA b (Xz b s)).1)).trans (Vw b s)⟩
 rw[aZQ];cases IQ with
 |true=>
  refine .Ye (Q:=λT u=>u.heap[a2]?=Y (AF (g6.setIfInBounds (i*4+2) (J (L[i].m++TR))) 75 (0,0))/\(∀b,b≠a2->b<S3.heap.size->u.heap[b]?=S3.heap[b]?)/\FR x (A7 A8 z) (Af A3) A' A' A' (Af A9) (Af A3) (Ad (Y ⟨BM,0,Z⟩)) (A4 (Y ⟨a2,0,Z⟩) 15 cap) (Ad (Y ⟨H,0,Z⟩)) DS (Ad (Y ⟨YS,0,Z⟩)) (A7 A8 (i:Int)) (J (EI Ez L[i])) (J (Gf (L[i].name,EI Ez L[i]))) A' A' A' A' A' A' T) a4P a63 vS (λd T0=>?_) ?_;·obtain⟨g,P⟩:=a5n;rw[P];refine JZ ?_ (aJB a2 cap i L g6 _ _ _ _ _ _ _ _ _ _ _ _ _ _ _ _ _ _ _ g (on (S3.at d) T0) iw hi il.reg Gh (G3 (il.rel i hi).y2 (by decide)));rintro e a' w'⟨I,h2,h3,h4,li⟩;exact⟨I,h2,h3,h4,li⟩
  rintro Sb Xg Dk u S4⟨h3,h4,S⟩W X e iQ iM iF;obtain⟨x,iH⟩:=S.Cd X W;rw[<-e]at h3 h4;refine RN _ Sb S4 Xg x _ _ (il.aT6 Al hi o6 Gh h3 h4) ⟨rfl,rfl⟩ (λj H1 MC=>?_) iF iQ iH iM h4;have AS:Sk Ez L[i].name (Ez L[i].name) L[j].name=Ez L[j].name:=by
   unfold Sk;split;·rename_i e;rw[e]
   rfl
  unfold EI;rw[AS]
 |false=>
  refine .Ye (Q:=λT u=>a2m S3 a2 i g6 L[i].v u/\FR x (A7 A8 z) (Af A9) A' A' A' (Af A9) (Af A3) (Ad (Y ⟨BM,0,Z⟩)) (A4 (Y ⟨a2,0,Z⟩) 15 cap) (Ad (Y ⟨H,0,Z⟩)) DS (Ad (Y ⟨YS,0,Z⟩)) (A7 A8 (i:Int)) (J (EI Ez L[i])) (J (Gf (L[i].name,EI Ez L[i]))) A' A' A' A' A' A' T) a4P a63 vS (λd T0=>?_) ?_;·obtain⟨g,P⟩:=a5n;rw[P];refine JZ ?_ (aJA a2 cap i L g6 _ _ _ _ _ _ _ _ _ _ _ _ _ _ _ _ _ _ _ g (on (S3.at d) T0) iw hi il.reg Gh (G3 KY.2.1 (by decide)));rintro e a' w'⟨I,h2,h3,li⟩;exact⟨I,h2,h3,li⟩
  rintro Sb Xg Dk u S4⟨⟨h3,h4,li⟩,S⟩W X e iQ iM iF;obtain⟨x,iH⟩:=S.Cd X W;rw[<-e]at h3 h4 li;refine RN _ Sb S4 Xg x _ _ (il.aL3 Al hi Gh h3 li h4) ⟨rfl,rfl⟩ (λj H1 MC=>?_) iF iQ iH iM li;have AS:Sk Ez L[i].name (L[i].v++hf) L[j].name=Ez L[j].name:=by unfold Sk;rw[if_neg λe=>MC (t.T_.inj H1 hi e)]
  unfold EI;rw[AS]
def aJ4(n c:Nat)(H:Option Ak)(z:Int)(I:Bool)(m:Int)(w:A0)(hn:n<=4611686018427387904)(DF:-9223372036854775808<=z)(CO:z<=9223372036854775807)(IX:P8 w w.heap.size (A4 H n c) n)(AI:Ol w)(hm:w.cell? ⟨0,0,Z⟩=Y (A7 A8 m))(JQ:w.cell? ⟨5,15,Z⟩=Y (A7 F1 4)):∃N s o w' Bf,Ey A6 (N+1) (Dr (G (HO A6 8 #[A4 H n c,A7 A8 z,Af I] GG) []) w) #[]=(sN o w',Bf)/\runN A6 N (Dr (G (HO A6 8 #[A4 H n c,A7 A8 z,Af I] GG) []) w)=Ds s/\step A6 s=sN o w'/\aD9 A6 (λv y=>v=Af A3/\y.os=w.os/\y.output=w.output/\w.heap.size<=y.heap.size/\∀b,b<w.heap.size->y.heap[b]?=w.heap[b]?) s o w' Bf:=by
 letI:CV:=⟨3⟩;rw[aKW];generalize S:(E0 (A4 H n c) (A7 A8 z) (Af I) A' A' A' A' A' A' A' A' A' A' A' A' A' A' A' A' A' A' A' λ_=>A')=T;obtain⟨N0,g4,Q,t4,EH,c4,k,C,f2,rfl,Uc,K5,TA,RU,L5,W⟩:=aIz n c H m w hn IX AI hm T (by rw[<-S];exact a2N) (by rw[<-S];rfl) #[] (λ_=>0) (aId _ _ w);have AV:0<w.heap.size:=(Array.getElem?_eq_some_iff.1 (AI 0 (by decide)).choose_spec.choose_spec.1).1;have Du:∀b,b<Ci->b<w.heap.size:=λb hb=>by obtain⟨cs,t,h,_⟩:=AI b hb;exact(Array.getElem?_eq_some_iff.1 h).1
 have nx:Ol Q:=λb hb=>by obtain⟨cs,t,h1,h2⟩:=AI b hb;exact⟨cs,t,(W b (Du b hb)).trans h1,h2⟩
 have Hm:=aS5 Uc nx;have m0:=aJ1 (R:=dE (k+1) C) (U:=λb=>b<Q.heap.size/\¬dE (k+1) C b) m z I (A4 H n c) Q (k+2) (k+1) C f2 DF CO Uc nx ((FG (a:=⟨0,0,Z⟩) (W 0 AV)).trans hm) ((FG (a:=⟨5,15,Z⟩) (W 5 (Du 5 (by decide)))).trans JQ) ⟨Hm,λb hb=>hb.1⟩ _ (aY9 n c H z I (AJ (AD rfl)) T S.symm) (aHx n c k H z I T S.symm);obtain⟨NF,gs,g',Dq,sl,t5,Jq,Wb,HJ,c5,_,YA,PK,ix⟩:=m0 (λ_=>False) (λb=>b<Q.heap.size/\¬dE (k+1) C b) (by funext b;simp) (λb hb=>⟨λx=>x,hb.1⟩) #[_] Z t4 (λ_=>0) c4;obtain⟨B,CW⟩:=c5.past;obtain⟨K,s,o,w2,t2,e1,e2,Co,Dy⟩:=beside_ends (P:=A6) (Post:=λv y=>v=Af A3/\y.os=w.os/\y.output=w.output/\w.heap.size<=y.heap.size/\∀b,b<w.heap.size->y.heap[b]?=w.heap[b]?) (sl:=sl) (D:=λ_ _ es=>∀e∈es,EvL (λl=>∃b,Wb b/\G2 l b) B e) (n:=0) (λ_ _ _ x=>x) c5.zero c5.leave CW λd8 bi=>by
  obtain⟨v,h1,h2,h3⟩:=ix d8 bi;obtain⟨d,rfl⟩:=bi;have X:=YA.at d;refine⟨PK,v,#[],h1,λe he=>by simp at he,h2,X.os.trans TA,X.output.trans RU,by have:=X.size;omega,λb hb=>?_⟩;have M:b<Q.heap.size:=by omega
  refine aD2 ?_ (W b hb);by_cases s2:dE (k+1) C b;·exact h3 b s2
  exact X.same b ⟨M,s2⟩ M
 refine⟨N0+(NF+K),s,o,w2,t2,?_,?_,Co,Dy⟩;·rw[me,me];exact bf EH (bf HJ e1)
 rw[runN_add,<-runNT_fst A6 _ _ #[],EH];show runN A6 (NF+K) _=_;rw[solo_eq_crowd,runN_add,<-runNT_fst A6 _ _ t4,HJ];exact e2
end
end Go.Proofs.YtcfhleenecfghaaGreatDoor.Twin
namespace Go.Proofs.YtcfhleenecfghaaGreatDoor
section
open Go.ChangeShapes Go.WideShapes Go.ChangeAt Go.WideMaps Go.WideElems Go.RowKit
variable{H:Type}
def laidOut:laidOutB A6=A3:=by kernel_rfl
def aIp:A6.cellsOf 3=1:=by kernel_rfl
def own:ownKnob A6.godebug=Z:=by kernel_rfl
def aZH{enc:Aj×A1->H}{C:Checked}{os:Os}{f:FuncId}{fn:Func}{s:ChangeSpec}{apart fresh k again:Bool}{X:A0->zw->Prop}(own:ownKnob C.prog.godebug=Z)(S:os.Started)(Bl:C.prog.funcs[f]?=Y fn)(U:∃(w:A0)(b:Tape)(i:Input),w.os=os/\(w.forCall b i).Shaped C.prog/\i.vars=[]/\Input.okWide C.prog (w.forCall b i) gH w.heap.size f i/\((s.pre enc C.prog fn [] apart (w.forCall b i).memory i.args/\X (w.forCall b i).memory i.args)/\a1g enc C.prog fn (a06 s) apart (w.forCall b i).memory i.args)/\({}:Assume).holds C.prog (lone (HO C.prog f i.args GG) [] (w.forCall b i)))(z:∀(W:A0)(base:Nat)(args:zw)(I gs:List (DataW H))(h:List MemPlace),(∀(j:Nat)t v,fn.params[j]?=Y t->args[j]?=Y v->aFO C.prog W gH base t v)->DataW.Whole enc C.prog fn.params.toList s.vars apart W args.toList I gs h->(aDk C.prog (fn.params.toList++s.plain.varTypes C.prog) (I++gs)).all (·<=aFY)=A3->W.ShapedOpen C.prog->X W.memory args->∃N y o w' K,Ey C.prog (N+1) (Dr (Go.Conc.G (HO C.prog f args GG) []) W) #[]=(sN o w',K)/\runN C.prog N (Dr (Go.Conc.G (HO C.prog f args GG) []) W)=Ds y/\step C.prog y=sN o w'/\aD9 C.prog (λv Sd=>s.post enc C.prog fn apart fresh k again W args v Sd) y o w' K):aFB {} C os f gH (λw args=>(s.pre enc C.prog fn [] apart w args/\X w args)/\a1g enc C.prog fn (a06 s) apart w args) (s.post enc C.prog fn apart fresh k again):=by refine returnsInLeavingWide_of_good own S U ?_;intro w b i _ Lj _ B3 bA _;obtain⟨_,_,_,M,Q,_,_,_,_,QY⟩:=B3;have e:M=fn:=CH (Q.symm.trans Bl);subst e;obtain⟨⟨⟨I,gs,h,P,_⟩,M7⟩,el⟩:=bA;have JU:=aZw (w':=w.forCall b i) (by rfl) P;obtain⟨N,y,o,w',K,h1,h2,h3,h4⟩:=z (w.forCall b i) w.heap.size i.args I gs h QY JU (el.weights P) Lj M7;exact⟨N,y,o,w',K,h1,h2,h3,aDA h4 λv hp=>aZk hp⟩
def aY6(y:Looks){p:Pinned}{s:OpenSpec}{c:OpenClaim}(kinds:List LaidKind)(H:Bool)(M8:Bool×String)(b:Bool)(hc:c.holds p s)(k:c.wfByText s=A3)(z:c.laidByTextAt y p kinds H)(Bm:c.start=.entering)(P:c.noBlocks=A9/\c.again=A9)(U:p.checked.prog.mainIs=Y (M8.1,M8.2.toList))(hn:(!M8.1&&M8.2.isEmpty&&!b)=A9)(Q:∀f I,p.checked.prog.funcNamed c.func=Y f->p.checked.prog.funcs[f]?=Y I->b=p.checked.prog.looks []/\∀(j:Nat)t,I.params[j]?=Y t->p.checked.prog.wantsStandIn t=A9)(N:A3=c.goesBy p.checked.prog):Claim7.holds p (.plain s) {stood:={row:=c,standIns:=[],harness:=M8,looks:=b},kinds:=[],alts:=[],goes:=A3,laidByText:=A3,laidKinds:=kinds,laidTests:=H,laidLooks:=y}:=by
 have K:∀r:OpenClaim,aD8 {stood:={row:=r,standIns:=[],harness:=M8,looks:=b},kinds:=[]}=A9:=λr=>by simpa[aD8]using hn
 exact⟨Claim7.tied_new_at y kinds H (Claim7.new_of_sixth hc M8 b Bm P U (K c) Q) k,(λD M=>by cases M),z,(λh=>by cases h),N⟩
def aVa{enc:Aj×A1->H}{W:A0}{a0:Option Ak}{n c fuel:Nat}{x:DataW H×List MemPlace}(AK:DataW.trod enc A6 W 0 (λ_=>A3) A3 fuel 33 (A4 a0 n c).cells.toList=Y x)(t:∀k s,x.1=.slice k s->k.length<=4611686018427387904):P8 W W.heap.size (A4 a0 n c) n/\n<=4611686018427387904:=by
 rcases open_ints a0k Lx aIp AK with⟨y,_⟩|⟨a,P,aG,U,y,_,AE,S,X,hx,I,N⟩;·simp[cc]at y;obtain⟨rfl,rfl,rfl⟩:=y;exact⟨⟨Z,0,rfl,AD rfl⟩,by omega⟩
 simp[cc]at y;obtain⟨rfl,rfl,rfl⟩:=y;simp only[if_true]at X;have L0:n<=4611686018427387904:=by
  have li:=t _ _ (by rw[hx]);have CN:(lits (H:=H) A8 (U.take n)).length=n:=by simp[lits];omega
  omega
 refine⟨⟨Y a,c,rfl,?_⟩,L0⟩;by_cases hn:n=0;·exact AD hn
 obtain⟨b,Q,z⟩:=a;have M:z=Z:=by simpa[Addr.add]using World.cell?_spot (I 0 (by omega))
 subst M;refine AJ ⟨b,Q,rfl,?_,λj H1=>?_⟩;·have h4:b<W.heap.size:=FA (h:=I 0 (by omega));omega
 have K:j<U.length:=by omega
 have hc:=I j K;rw[add_plain]at hc;have hb:=a1Q (N (U.getD j 0) (by rw[List.getD_eq_getElem?_getD,K1 K];exact DU K));exact⟨_,hc,hb.1,hb.2⟩
def aIy(os:Os)(kM:os.Started)(H:Type)(enc:Aj×A1->H):aFB {} a0B os 8 gH (λw s=>(sE.pre enc A6 JF [] A9 w s/\a1W A6 SM.laid w)/\a1g enc A6 JF (a06 sE) A9 w s) (sE.post enc A6 JF A9 A3 A9 A9):=by
 refine aZH (C:=a0B) (X:=λw _=>a1W A6 SM.laid w) own kM Tu (aZl (enc:=enc) (C:=a0B) (os:=os) (X:=λw _=>a1W A6 SM.laid w) A9 (World.laidAll A6 os SM.laid) #[A4 Z 0 0,A7 A8 0,Af A9] 8 (World.laidAll_os _ _ _) (World.shaped_of_ZipB (by kernel_rfl) (by kernel_rfl)) (by kernel_rfl) (by kernel_rfl) (by kernel_rfl) (by rw[aDy _ _ _ (by kernel_rfl)];exact laidMet_laidAll _ (by kernel_rfl) (by kernel_rfl))) ?_;intro W I s Vm gs Q S E4 U Lj M7;have k:∀(j:Nat)t v,JF.params[j]?=Y t->s[j]?=Y v->aFO A6 W gH I t v:=S;have vc:=E4;obtain⟨p,q,nV,Hz,rfl,_,_⟩:=E4;have v6:DataW.TrodAll enc A6 W 0 (λ_=>A3) A3 JF.params.toList s.toList Vm p:=nV;have U:(aDk A6 (JF.params.toList++sE.plain.varTypes A6) (Vm++gs)).all (·<=aFY)=A3:=U;rw[aEl]at v6 k U;obtain⟨a_j⟩:=s;obtain⟨v0,acH,BC,a_q,P,FK,L',rfl,rfl,AV,r0⟩:=a'F v6;obtain⟨GZ,acI,d1,a_r,Lr,Bp,rfl,rfl,rfl,h1,r1⟩:=a'F r0;obtain⟨F9,acJ,d2,a_s,K8,C8,rfl,rfl,rfl,h2,r2⟩:=a'F r1;obtain⟨rfl,rfl,rfl⟩:=trodAll_nil r2;simp only at L';subst L';obtain⟨rfl,rfl⟩:=trodVars_none Hz;obtain⟨z,rfl,rfl,rfl,fF⟩:=open_int Lx (k 1 3 GZ rfl rfl) h1;obtain⟨IQ,rfl,rfl,rfl⟩:=open_bool O' (k 2 4 F9 rfl rfl) h2;obtain⟨a0,I2,c0,rfl⟩:=okWide_slice a0k (k 0 33 v0 rfl rfl);have aLk:=AV;obtain⟨a_w,OD⟩:=AV;clear nV;obtain⟨m,hm⟩:=Tryz.aQe.s1_3 W Lj;simp only[List.append_nil]at vc;have K:∀x∈P,x.block<W.heap.size:=λx hx=>vc.lt x (by simp[hx]);have RV:=aVa OD λnF y e=>by
  have e:BC=.slice nF y:=e;have aMr:A6.bytesOf 3=8:=by kernel_rfl
  have:=sized_slice (j:=0) (e:=3) U rfl (by rw[e];rfl) a0k;rw[aMr]at this;have aa0:=reachBytes_lt;omega
 have aNo:laidMet A6 SM.laid W.memory:=by rw[<-aDy _ _ _ (by kernel_rfl)];exact M7
 obtain⟨N,M,o,w',Bf,e1,e2,Co,Dy⟩:=Twin.aJ4 I2 c0 a0 z IQ m W RV.2 (a1Q fF).1 (a1Q fF).2 RV.1 (aLd Lj) hm (show W.cell? ⟨5,15,Z⟩=Y (A7 F1 4)from aXn (W:=W.memory) aNo);refine⟨N,M,o,w',Bf,e1,e2,Co,aDA Dy λv hv=>?_⟩;obtain⟨rfl,TA,RU,hs,hb⟩:=hv;have Dz:∀x∈P,W.sameAt w' x:=λx hx=>by have hx:=K x hx;cases x with|cell b o=>exact FG (w:=W) (hb b hx)|map b=>exact hb b hx
 have Fv:DataW.Trod enc A6 w' 0 (λb=>Bz (b<W.heap.size)) A3 33 (A4 a0 I2 c0) BC P:=a_I laidOut (by kernel_rfl) (of_decide_eq_true (by kernel_rfl)) aLk Dz (λx hx=>by simpa using K x hx);refine⟨_,_,_,[],P++([]++([]++[])),[],vc,trodAll_mk1 (shut_bool O' _),a1i Fv (a1i (shut_int Lx fF) (a1i (shut_bool O' _) trodAll_mk0)),rfl,?_,λh=>by cases h⟩;refine⟨TA,RU,λi hi=>?_⟩;rw[hb i hi];split<;>simp_all
def aJ2:Rows.CheckedSaid:=a_' 8 JF rfl rfl rfl rfl rfl rfl rfl ⟨rfl,rfl,rfl,rfl,rfl⟩ rfl rfl rfl rfl rfl (by kernel_rfl) Tu aIv (of_decide_eq_true (by kernel_rfl)) (by unfold Func.isWrapper;first|(rw[if_pos (by decide+kernel)];kernel_rfl)|(rw[if_neg (by decide+kernel)];exact⟨rfl,rfl⟩)) λh s H b _=>aIy h s H b
theorem checked_card:Rows.CheckedCardSaid:=aY6 .later _ _ _ _ aJ2 (by as_aux_lemma=>kernel_rfl) checked_row_tie rfl ⟨rfl,rfl⟩ (by as_aux_lemma=>kernel_rfl) rfl (λf h y z=>by
 obtain rfl:f=8:=CH ((show A6.funcNamed JF.name=Y 8 from by as_aux_lemma=>kernel_rfl).symm.trans y)|>.symm;obtain rfl:h=JF:=(CH (Tu.symm.trans z)).symm;exact⟨by as_aux_lemma=>kernel_rfl,λj t b=>by
  rw[aEl]at b;have H:t∈[33,3,4]:=by simpa using Array.mem_of_getElem? b
  have s:([33,3,4].all λu=>!A6.wantsStandIn u)=A3:=(by as_aux_lemma=>kernel_rfl);exact show A6.wantsStandIn t=A9 by simpa using List.all_eq_true.1 s t H⟩) (by as_aux_lemma=>kernel_rfl)
end
end Go.Proofs.YtcfhleenecfghaaGreatDoor
