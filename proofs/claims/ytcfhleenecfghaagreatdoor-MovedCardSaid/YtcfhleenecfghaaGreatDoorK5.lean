import Derived.Test.YtcfhleenecfghaaGreatDoorCards
import Derived.Conc.Holds
import Derived.Conc.LeavingOf
import Derived.Leaving
import Derived.OpenShut
import Derived.LaidMore
import Derived.Lay
import Derived.Stop.Joined
import Derived.HandedShaped
import Derived.ShutString
import Derived.Carry
import Derived.ChangeSlices
import Derived.Test.YtcfhleenecfghaaGreatDoorK4
set_option linter.all false
set_option maxHeartbeats 4000000
set_option maxRecDepth 100000
open And renaming intro->aU
open Array renaming getD_eq_getD_getElem?->QP,getElem?_eq_getElem->G8,getElem?_eq_none->Ml,getElem?_setIfInBounds->HX,getElem?_setIfInBounds_self_of_lt->Va,getElem?_toList->eO,length_toList->a'v,replicate->OG,setIfInBounds->a'z
open Bool renaming false->A9,true->A5
open ByteArray renaming size->a_r
open Classical renaming byContradiction->eV,not_not->a_s,skolem->r7
open Decidable renaming decide->BK
open Eq renaming trans->aDg
open Go renaming Addr->An,Calls->Ab,Code->DK,Ending->a0Y,Frame->Ah,Goroutine->AY,Oper->B8,Operand->BP,ReturnsInLeavingWide->aFW,TypeId->BL,Value->A3,World->A1,below_drewN->KP,bodyPost->W1,bodyPost_ret->IT,bounds_i64->lh,execOp->AM,heap_setCell_same->CO,info_parts->FJ,laidMetH->a1Y,maxLen->BZ,reachBytes->aFu,results->D5,runNT->EE,sizeOf->Rb,sizedMet->a1f,stepG->B9,trodAll_cons_mk->a1h,undef->AN,wpAnyH_done->lq,wpAnyH_ready->OT,wpList_append_own->IU,wp_region_held_drew->a1j,wp_seq->a1k
open Go.Act renaming eval->FG,put->IP
open Go.AllReadyH renaming cons->Mn,nil->OJ
open Go.BinOp renaming eql->OK
open Go.Builtin renaming append->QR,clear_->kr,zeroCells->Mo
open Go.CallKind renaming normal->EI
open Go.Callee renaming builtin->Fw
open Go.Cell renaming ok->aDp
open Go.ChangeShapes renaming trodAll_cons->a0F
open Go.ChangeSpec renaming post_blind->a_x,witness_shaped->a_y
open Go.Claim7 renaming isSixth->aDq
open Go.Code renaming loop->ed,ret->M4,rounds->a0G,seq->Hu,wp_mono->rG
open Go.Conc renaming Good->aDr,solo->Df
open Go.Conc.Good renaming mono->aDs
open Go.ConcR renaming Payload->Bg
open Go.DataW renaming weightsEach->aEU
open Go.DataW.Whole renaming of_heap->aa6
open Go.Ending renaming returned->AV
open Go.Exit renaming inBlock->Sg,normal->Vq
open Go.Fn renaming func->Bo
open Go.Frame renaming enter->Fa
open Go.Instr renaming lookup->Fb
open Go.IntKind renaming i64->AJ,wrap_i64->RU
open Go.Item renaming code->Aw,inRegion->Ak
open Go.Lib renaming cell_of_heap->A_,compareBytes->Fx,frozen_of_heap->C'
open Go.MakeChecks renaming laidMetH_plain->aEq
open Go.Next renaming skip->JN,value->BB
open Go.Obj renaming cells->A7,map->B4,row?->aEs
open Go.Op renaming alloc->Vv,binOp->KM,box->N_,build->b1,buildSlice->lL,call->Em,fieldAddr->OP,indexAddr->U9,load->ED,makeFunc->b4,store->La
open Go.OpenClaim renaming holds_of_wide_leaving->aa9
open Go.OpenSpec renaming ofChange->a0x
open Go.Operand renaming tmp->Aa
open Go.Program renaming stepOf->aaE
open Go.Proofs renaming intOf->B0
open Go.Proofs.Tryz renaming checked->a0z,f10->QV,f13->aFB,f144->sK,f15->aFC,f155->RX,f19->aFD,f26->a10,f38->a13,f49->aFH,f50->aFI,f73->lR,f75->lS,func10->lT,func13->a16,func15->aFJ,func73->aFM,params10->aFN,prog->A6,underlying124->Vw,underlying3->fF,underlying33->UA,underlying39->aFQ,zeroCells67->a1E
open Go.Proofs.YtcfhleenecfghaaGreatDoor.Rows renaming movedRow->PO,movedSpec->sP
open Go.Reach renaming any->fJ
open Go.RowKit renaming Below->AO
open Go.RowKit.Below renaming heap_setCell->DC,refl->Az
open Go.Stepped renaming ended->sV
open Go.Value renaming agg->AH,bool->Ag,cells->lZ,func->Br,iface->DD,int->AB,map->AL,nilIface->CN,okWide->aFf,ownBlock->Kt,pointer->B2,slice->A0,string->A4,tuple->Aj
open Go.WideElems renaming Trod_stays->aaT
open Go.World renaming alloc->la,block_lt_of_cell?->Cn,cell?->Cr,cell?_of_block->C8,ownsRow_nil->PR
open Int renaming emod_lt_of_pos->aH4,emod_nonneg->aH5
open List renaming Nodup->Lc,all_eq_true->Ha,append_assoc->T1,append_nil->YU,cons_append->UJ,filter_append->aHP,filter_eq_self->aHQ,findIdx_lt_length_of_exists->aHS,getD_eq_getElem?_getD->P_,getElem?_append_left->mY,getElem?_cons_succ->te,getElem?_eq_getElem->En,getElem?_eq_some_iff->bW,getElem?_map->YV,getElem?_take_of_lt->a2a,getElem?_toArray->tf,getElem_map->tg,getElem_mem->Ci,getElem_of_mem->Rk,length_append->DV,length_cons->T3,length_filter_le->aHb,length_map->Gf,length_nil->aHc,length_pos_iff->YW,length_singleton->a2b,length_take->UK,map_append->Pa,map_cons->Ee,map_map->Ld,map_nil->Iw,map_toArray->JO,mem_append->E8,mem_cons->DO,mem_cons_of_mem->G1,mem_cons_self->Le,mem_flatMap->YX,mem_iff_getElem->Mw,mem_iff_getElem?->tj,mem_map->Bt,mem_map_of_mem->Rl,mem_of_find?_eq_some->aHf,mem_of_getElem?->Jq,mem_of_mem_take->mb,mem_range->Pb,mem_singleton->ES,mem_zipIdx_iff_getElem?->tk,nodup_append->gC,not_mem_nil->IX,pairwise_iff_getElem->Qc,pairwise_map->I8,range->Lf,replicate->Dt,setIfInBounds_toArray->MF,set_cons_succ->MG,set_cons_zero->MH,sublist_append_left->mc,take_add_one->a2e,take_length->Hb,zipIdx_append->me
open List.Pairwise renaming and->aHE,imp_of_mem->bV,sublist->aHF
open List.Perm renaming cons->aaf
open List.Sublist renaming refl->aHH
open List.cons renaming injEq->aHK
open Nat renaming add_assoc->mh,add_zero->aHn,blt->gH,le_of_lt->gI,le_refl->Ad,le_trans->Dn,lt_irrefl->WK,lt_trans->aHt,lt_trichotomy->tu,min_eq_left->a2i,ne_of_lt->UN,zero_add->My,zero_le->JS
open Ne renaming symm->Gy
open Option renaming getD_some->MJ,none->J,some->Z
open Option.some renaming inj->CP
open Or renaming inl->AA,inr->AF
open Prod renaming ext->Ro,fst->Ya,snd->bf
namespace Go.Proofs.YtcfhleenecfghaaGreatDoor.Twin
section
open Go.Proofs.YtcfhleenecfghaaGreatDoor
open Go.Conc Go.RowKit
open Go.ConcR(Payload)
noncomputable def nE:DK:=(lR.body).getD M4
noncomputable def pT:Array B8:=IL (fstC (sndC (sndC nE)))
noncomputable def aQ:DK:=sndC (sndC (sndC nE))
def aKa:Nat->List Nat|1=>[0]|4=>[3]|5=>[1,2,4]|7=>[6]|8=>[5,7]|9=>[8]|_=>[]
theorem pTa:(SN .any pT pT (OG pT A9)).all (dY aKa [0,1,2,3,4,5,6,7] [[8,9]] λ_=>A9)=A5:=by
 rw[show pT.size=9+1 from A8];simp only[SN];rw[show Region.ready .any pT (OG (9+1) A9)=[0,2,3,6] from A8];simp only[List.isEmpty_cons,List.all_flatMap,List.all_cons,List.all_nil,Bool.and_true,Bool.and_eq_true,Bool.false_eq_true,if_false];refine⟨?_,?_,?_,?_⟩<;>as_aux_lemma=>kernel_rfl
variable{w w':A1}{x:BP}{ρ:BP->A3}{m:Int}{d9:List Rel}{a:Option An}{f:Rel->zz}
noncomputable def a4O:DK:=sndC (sndC (J1 26))
section
variable{ρ:BP->A3}{w:A1}{o:B8}{x y:BP}{b:Nat}{Hn:Option An}{HE Bm:Nat}{s:zz}
end
def aKT:a4O=sndC (sndC ((a10.body).getD M4)):=rfl
def aRE{v:Nat->A3}{B r HE Bm:Nat}{Hn:Option An}{s:zz}(w:A1)(hB:w.heap[B]?=Z (A7 #[A0 J 0 0,A4 ⟨#[]⟩] 59))(I:w.heap[r]?=Z (A7 #[A0 Hn HE Bm,s] 59))(hne:B≠r)(h4:v 4=AT B)(h6:v 6=AT r)(h7:v 7=CN):a4O.wp A6 (W1 A6 a10 λe U=>∃v,e=AV v/\v=Aj #[AH #[A0 Hn HE Bm,s],Ag A5]/\w.heap.size<=U/\∀b,b<w.heap.size->b≠B->U.heap[b]?=w.heap[b]?) ⟨Ax 17 v,[]⟩ w:=by
 have N:Ax 17 v=#[v 0,v 1,v 2,v 3,v 4,v 5,v 6,v 7,v 8,v 9,v 10,v 11,v 12,v 13,v 14,v 15,v 16]:=A8;rw[N,h4,h6,h7];clear N h4 h6 h7;have H:w.cell? ⟨B,0,J⟩=Z (A0 J 0 0):=Af (A_ hB);have q1:w.cell? ⟨B,1,J⟩=Z (A4 ⟨#[]⟩):=Af (A_ hB);have q2:w.cell? ⟨r,0,J⟩=Z (A0 Hn HE Bm):=Af (A_ I);have q3:w.cell? ⟨r,1,J⟩=Z s:=Af (A_ I);have K:=C' hB 0;have z1:=C' hB 1;have z:=A2 hB;have F:∀w,(binOp OK 24 CN CN).run A6 w=.ok (Ag A5) w:=λw=>rfl;clear hB I;rw[aKT];simp only[a10,MJ,fstC,sndC,AT];go_wp2_with fail;have W:(⟨B,0,J⟩:An)≠⟨r,0,J⟩:=λh=>hne (congrArg Addr.block h);go_region_held2 λu=>u.cell? ⟨r,0,J⟩=Z (A0 Hn HE Bm)/\u.cell? ⟨r,1,J⟩=Z s(first|(go_keep;done)|exact⟨(C8 (by rw[DC _ _ _ _ (Gy hne),DC _ _ _ _ (Gy hne)];rfl)).trans q2,(C8 (by rw[DC _ _ _ _ (Gy hne),DC _ _ _ _ (Gy hne)];rfl)).trans q3⟩)(fail);all_goals
  go_wp2_with fail;(try simp only[Sg,Exit.then]);refine IT (results_cell_tmp rfl _ _ B 59 _ _ _ rfl (CO _ B 1 _ _ s (CO _ B 0 _ _ (A0 Hn HE Bm) z)) Tryz.underlying59 rfl (rfl)) rfl ⟨_,rfl,rfl,?_,λb hb hb2=>?_⟩;.exact(((Az 0 w).setCell (JS _) (A0 Hn HE Bm)).setCell (JS _) (A4 s)).size
  show((w.setCell ⟨B,0,J⟩ (A0 Hn HE Bm)).setCell ⟨B,1,J⟩ s).heap[b]?=_;rw[DC _ _ _ _ (hb2),DC _ _ _ _ (hb2)]
def Rn.on{Wb R R' Ek root own rt a9}(hL:Rn w R Ek root own rt a9 d9 m f)(I:CC Wb R' w')(hk:∀b,R b->R' b/\w'.heap[b]?=w.heap[b]?):Rn w' R' Ek root own rt a9 d9 m f:=by
 have hs:=λb hb=>(hk b (hL.sub b hb)).2;let h:∀b o,Ek b->w'.cell? ⟨b,o,J⟩=w.cell? ⟨b,o,J⟩:=λb o hb=>C8 (hs b hb);refine⟨hL.GL,hL.lines,hL.size,hL.whole,hL.Xe,hL.check,hL.pb,λi hi=>?_,λb hb=>(hk b (hL.sub b hb)).1,hL.Gp.same hs ?_,hL.R2,hL.files,(h 0 0 (hL.Gp.Ca 0 Ac)).trans hL.Ca,(h 5 15 (hL.Gp.Ca 5 Ac)).trans hL.a5M,λr hr=>aCO (hL.aCP r hr) λa ha=>hs _ (hL.files r hr a ha),hL.aCQ,hL.sep⟩;.let⟨a,b,c,d⟩:=hL.reg i hi;exact⟨(h _ _ hL.R2).trans a,(h _ _ hL.R2).trans b,(h _ _ hL.R2).trans c,(h _ _ hL.R2).trans d⟩
 have:=I.closed.lt (hk _ (hL.sub _ (hL.Gp.Ca (CX-1) Ac))).1;omega
def a2V(d9:List Rel)(rt:List AW)(u:A3)(w:A1):Prop:=∃Hn HE Bm s A,u=Aj #[AH #[A0 Hn HE Bm,A4 s],Ag A5]/\EL w (A0 Hn HE Bm) (names (Cc A A))/\He A/\(∀x∈A,x.rel∈d9)/\(names A).Nodup/\∀x,x∈names A↔N.Reach (Ej d9) rt x
def aRF[Bg]{Wb R Ek:zy}{root own:zz}{rt:List AW}{a9 cap:Nat}(hL:Rn w R Ek root own rt a9 d9 m f)(r:CC Wb R w)(Et:Ey R #[root,A0 (Z ⟨a9,0,J⟩) d9 cap]):HJ 26 #[root,A0 (Z ⟨a9,0,J⟩) d9 cap] Wb R w (a2V d9 rt):=by
 intro x c' cs';refine Be.enter 17 (rfl) ?_;let S0:Ap 17 [] w R Wb R (w.at x) (Ep 26 #[root,BG a9 0 d9 cap]).1:=⟨r.at x,Cb.Ep Et,λb hb=>⟨hb,rfl⟩⟩;refine S0.alloc (A7 #[A0 J 0 0,A4 ⟨#[]⟩] 59) (e:=4) (rfl) (λ_ _ h=>qA h) λip w1 N Er Ez Dc hb1=>?_;refine N.Og (az:=#[root,BG a9 0 d9 cap,A4 ⟨#[]⟩]) (e:=11) A8 (rfl) (aRC (hL.on N.H N.S) N.H) λLi Fg u w2 I DR hq=>?_;obtain⟨A,⟨Hn,HE,Bm,s,rfl,hmd⟩,hord,H9,hnd,hreach⟩:=hq;refine I.alloc (A7 #[A0 J 0 0,A4 ⟨#[]⟩] 59) (e:=6) (rfl) (λ_ _ h=>qA h) λDp w3 Bu K0 W Mc X=>?_;refine Bu.store w2 (A7 #[A0 Hn HE Bm,s] 59) (λh=>?_) (p:=La 59 (Aa 6) (Aa 12)) (rfl) (λx T0 o h=>⟨_,zQ h rfl rfl W,z_ W⟩) λIA U Cj Lm LJ V' vp=>?_;.let h1:=r.closed.lt h;let h2:=I.H.closed.lt (I.S _ h).1;omega
 let ns:ip (AR w):=AK.Kf (N.V 4 Ac rfl);let z:=(DR _ ns).2.trans Ez;let F:=TF z;refine Cj.tail 2 (λv w1=>v=Aj #[AH #[A0 Hn HE Bm,s],Ag A5]/\AR U<=w1/\∀b,b<U.heap.size->b≠w->JE b w1 U) Tryz.func26 (rfl) (rfl) (λx T0=>aRE (on (U.at x) T0) ((V' _ (UN F)).trans ((X _ F).trans z)) vp (UN F) rfl rfl rfl) ?_;rintro Hd v a_J Bd⟨rfl,dE,EG⟩e5 hv Ln vy;let Px:∀b,Fg b->b≠w.heap.size->Bd.heap[b]?=w2.heap[b]?:=λb hb hne=>by let h1:=I.H.closed.lt hb;rw[e5,EG b A' hne,V' b A',X b h1]
 have j7:=λb hb=>Ln b (Lm b (K0 b hb));refine .here ⟨Hd,_,rfl,hv,λb hb=>j7 b (I.S b hb).1,vy,λb hb=>(Px b (I.S b hb).1 (UN (r.closed.lt hb))).trans (I.S b hb).2,Hn,HE,Bm,s,A,rfl,?_,hord,H9,hnd,hreach⟩;by_cases K:names (Cc A A)=[]
 .rcases hmd with h|⟨g,c,h,_⟩;.exact AA h
  exact AF ⟨g,c,h,λj hj=>by rw[K]at hj;cases hj⟩
 refine SI hmd λg hg=>Px g ?_ λe=>?_;.have h2:=I.V 11 Ac rfl;cases h2 with|tuple hv=>cases Al.nth 0 hv rfl with|agg h2=>exact AK.QC (Al.nth 0 h2 rfl) hg
 subst e;rcases hmd with⟨h,h0⟩|⟨g2,c2,h,hat⟩;.exact K h0
 rw[h]at hg;have hg:=CP hg;subst hg;let h3:=(hat 0 (YW.2 K)).1;rw[Nat.zero_mul,A_ z]at h3;cases h3
theorem aQL(bi)(w):Ab A6 319 #[AL (Z bi)] w λe w'=>e=AV (Br (Bo 385) #[] #[AT w])/\w'=w.alloc (A7 #[AL (Z bi)] 131):=by go_wp2;go_ret;simp_all
abbrev mf:Type:={x:AW//x.2.size<=40}
instance:Inhabited mf:=⟨⟨(⟨#[]⟩,⟨#[]⟩),by show(0:Nat)<=40;omega⟩⟩
def XJ(L:List AW)(hv:∀x∈L,x.2.size<=40):List mf:=L.pmap (λx h=>⟨x,h⟩) hv
theorem aSH(L)(hv):(XJ L hv).map (·.1)=L:=by simp_all[XJ,List.map_pmap]
def aIw:∀w,(isAgg (Tryz.zg.t 24)).run A6 w=.ok A5 w:=by intro w;rfl
def aXh:∀w,(Rb (Tryz.zg.t 24)).run A6 w=.ok 2 w:=by intro w;rfl
theorem aLB:∀h w,(callFunc 203 h).run A6 w=.ok (.enter 203 h) w:=by simp_all
def aXy(g cap)(m)(L)(w)(hl:L.length<=1000000)(hv:∀x∈L,x.2.size<=40)(r:g≠0)(u:g<w.heap.size)(hr:JP w g L)(z:∀o,w.frozen? ⟨g,o,J⟩=A9)(hm:w.cell? ⟨0,0,J⟩=Z (AB AJ m)):Ab A6 384 #[A0 (Z ⟨g,0,J⟩) L cap,Br (Bo 203) #[] #[]] w λe w'=>e=AV (Aj #[])/\∃K:List AW,K.Perm L/\(K.Pairwise λa b=>F6 a b<=0)/\JP w' g K/\CV g w w w':=by
 have h0:=Cn (h:=hm);let hlen:(XJ L hv).length=L.length:=by simp[XJ]
 let I:∀j(h:j<(XJ L hv).length),(XJ L hv)[j].1=L[j]' A':=λj h=>by simp[XJ]
 let h:=qK (α:=mf) Tryz.aXx 2 aIw aXh (λx=>[A4 x.1.1,A4 x.1.2]) (λ_=>rfl) Ac λx v hx=>by simp at hx;rcases hx with rfl|rfl<;>rfl (λx y=>F6 x.1 y.1) (Zn.back λx:mf=>x.1) 203 aLB g cap (XJ L hv) w A' u (λj hj o ho=>?_) z λF hx x y=>nP x.1 y.1 m F x.2 y.2 ((C8 (hx 0 h0 (Gy r))).trans hm)
 .rw[hlen]at h;refine h.mono ?_;rintro e w'⟨rfl,K,hp,ho,hc,hb⟩;refine⟨rfl,K.map (·.1),?_,?_,?_,hb⟩;.have:=hp.map (·.1);rwa[aSH]at this
  .rwa[I8]
  intro j hj;have U:=Ai hj;let h0:=hc j U 0 A';simpa using⟨h0,hc j U 1 A'⟩
 let N:=hr j A';rw[I j hj];match o,ho with|0,_=>exact N.1|1,_=>exact N.2
def a2g(P:List (AW×Nat))(w:A1)(v:A3)(w':A1):Prop:=∃K g cap,v=A0 (Z ⟨g,0,J⟩) K.length cap/\w<=g/\K.Perm (P.map (·.1))/\(K.Pairwise λa b=>F6 a b<=0)/\JP w' g K
def pH{g l}(h:JP w g l)(e:w'.heap=w.heap):JP w' g l:=λj hj=>⟨(C8 (by rw[e])).trans (h j hj).1,(C8 (by rw[e])).trans (h j hj).2⟩
section
variable{Wb R:zy}{w:A1}{P:List (AW×Nat)}{c bi Ay:Nat}{m:Int}
def aK8(r:w.heap[bi]?=Z (B4 (Ba P) c))(hc:P<=c)(N:P.length<=1000000)(U:w.heap[Ay]?=Z (A7 #[AL (Z bi)] 131))(I:CC Wb R w)(z:Ey R #[Br (Bo 385) #[] #[AT Ay]]):HJ 383 #[Br (Bo 385) #[] #[AT Ay]] Wb R w (a2T P w):=by intro x c' cs';refine Be.enter 5 rfl ?_;let S0:Ap 5 [] w R Wb R (w.at x) (Ep 383 #[Br (Bo 385) #[] #[AT Ay]]).1:=⟨I.at x,Cb.Ep z,λb hb=>⟨hb,rfl⟩⟩;exact S0.Og (e:=4) A8 (rfl) (aJ' r hc N U S0.H) λF W u w1 h _⟨K,a,b⟩=>h.ret (rfl) (h.val 4 rfl (rfl)) λd=>⟨K,a,Zu b λ_ _ _=>rfl⟩
def aY6(F:w.heap[bi]?=Z (B4 (Ba P) c))(hc:P<=c)(W:P.length<=1000000)(hne:P≠[])(hs:∀x∈P,x.1.2.size<=40)(X:w.heap[Ay]?=Z (A7 #[AL (Z bi)] 131))(hm:w.cell? ⟨0,0,J⟩=Z (AB AJ m))(r:CC Wb R w)(Et:Ey R #[Br (Bo 385) #[] #[AT Ay],Br (Bo 203) #[] #[]]):HJ 318 #[Br (Bo 385) #[] #[AT Ay],Br (Bo 203) #[] #[]] Wb R w (a2g P w):=by
 intro x c' cs';refine Be.enter 12 rfl ?_;let S0:Ap 12 [] w R Wb R (w.at x) (Ep 318 #[Br (Bo 385) #[] #[AT Ay],Br (Bo 203) #[] #[]]).1:=⟨r.at x,Cb.Ep Et,λb hb=>⟨hb,rfl⟩⟩;refine S0.Og (e:=7) A8 (rfl) (aK8 F hc W X S0.H) λL1 ip u U N hk⟨K,hK,hown⟩=>?_;let aMy:0<K.length:=by rw[hK.length_eq,Gf];exact YW.2 hne
 rcases hown.2 with⟨_,h⟩|⟨g,cap,cur,rfl,hg,hcur,_⟩;.omega
 have h0:=Cn (h:=hm);let hat:JP U g K:=by
  rcases jR hown with⟨e,_⟩|⟨g2,c2,e,_,h,_⟩;.cases e
  cases e;exact h
 refine N.dT (e:=10) (Q:=λ_ w'=>∃I,I.Perm K/\(I.Pairwise λa b=>F6 a b<=0)/\JP w' g I/\∀b,b<AR U->b≠g->JE b w' U) A8 (rfl) (λT x=>(aXy g cap m K (on (U.at x) T) (by rwa[hK.length_eq,Gf]) (λx hx=>?_) (by have:w<=g:=hg;omega) (B3 hcur) (pH hat rfl) (λo=>C' hcur o) ((C8 (N.S 0 (r.closed.Ca 0 Ac)).2).trans hm)).mono λe w'⟨a,I,h1,h2,h3,h4⟩=>⟨_,a,I,h1,h2,h3,h4.block⟩) (λu w'⟨_,_,_,_,h⟩b hb=>h b (N.H.closed.lt (N.S b hb).1) (by have:=r.closed.lt hb;have:w<=g:=hg;omega)) λLi Fg u w2 w3 z hR e3⟨I,hp,ho,hat',_⟩=>z.ret A8 (z.val 5 rfl A8) λd=>⟨I,g,cap,by rw[hp.length_eq],hg,hp.trans hK,ho,pH hat' e3⟩;obtain⟨y,hy,rfl⟩:=Bt.1 (hK.mem_iff.1 hx);exact hs y hy
def aWr{o b}(ho:o.op=OP 136 x 1)(h:ρ x=AT b):(AM ρ o).run A6 w=.ok (BB (B2 (Z ⟨b,1,J⟩))) w:=by unfold AM;rw[ho];simp[go_sem,h,Tryz.underlying136]
def aX3{o b v}(ho:o.op=ED 131 x)(hx:ρ x=B2 (Z ⟨b,1,J⟩))(h:w.heap[b]?=Z (A7 #[v,AL (Z bi)] 136)):(AM ρ o).run A6 w=.ok (BB (AL (Z bi))) w:=by unfold AM;rw[ho];simp[go_sem,hx,Cr,h]
def qC{o:B8}{n c bi:Nat}(ho:o.op=N_ 136 x)(hx:ρ x=AH #[A0 a n c,AL (Z bi)]):(AM ρ o).run A6 w=.ok (BB (AT w)) (w.alloc (A7 #[A0 a n c,AL (Z bi)] 136)):=by unfold AM;rw[ho];simp only[hx];rfl
def aT5{n cap:Nat}(W:w.heap[bi]?=Z (B4 (Ba P) c))(hc:P<=c)(X:P.length<=1000000)(hne:P≠[])(hs:∀x∈P,x.1.2.size<=40)(hm:w.cell? ⟨0,0,J⟩=Z (AB AJ m))(r:CC Wb R w)(F:Ey R #[AH #[A0 a n cap,AL (Z bi)]]):HJ 220 #[AH #[A0 a n cap,AL (Z bi)]] Wb R w (a2g P w):=by
 intro x c' cs';have Hm:=by let h:=Ey.nth F 0 rfl;cases h with|agg h=>exact AK.Q6 (Al.nth 1 h rfl)
 refine Be.enter 7 rfl ?_;let S0:Ap 7 [] w R Wb R (w.at x) (Ep 220 #[AH #[A0 a n cap,AL (Z bi)]]).1:=⟨r.at x,Cb.Ep F,λb hb=>⟨hb,rfl⟩⟩;refine S0.alloc (A7 #[A0 a n cap,AL (Z bi)] 136) (e:=1) (rfl) (λ_ _ h=>qC (x:=Aa 0) h (rfl)) λip w1 t0 Er Ez Dc HP=>?_;refine t0.calm (O8 (AR w) 1) (e:=3) (rfl) (λ_ _ _ h=>⟨_,aWr (x:=Aa 1) h (rfl),rfl⟩) λFg w2 v9 MR e2=>?_;refine v9.calm (AL (Z bi)) (e:=4) (rfl) (λx T _ h=>⟨_,aX3 (x:=Aa 3) h (rfl) (by show w2.heap[_]?=_;rwa[e2]),rfl⟩) λDp N Bu K0 e3=>?_;refine Bu.lone (e:=5) (Q:=λu w'=>u=Br (Bo 385) #[] #[AT (AR N)]/\w'.heap=N.heap.push (A7 #[AL (Z bi)] 131)) A8 (rfl) (λT x=>(aQL bi (on (N.at x) T)).mono λe w'⟨a,b⟩=>⟨_,a,⟨rfl,Af b⟩,λz hz=>As b (BU _ _ _ hz)⟩) λTD IA u w4 I LC⟨w4',e4,hu,e4'⟩=>?_;subst hu;let e4:=e4.trans e4';let LJ:w.heap.size<=w4:=by rw[e4,e3,e2];simp;rw[Dc];show _<=w.heap.size+1+1;omega
 exact I.Og (e:=6) A8 (rfl) (aY6 ((I.S bi Hm).2.trans W) hc X hne hs (by rw[e4,Array.getElem?_push_size]) ((C8 (I.S 0 (r.closed.Ca 0 Ac)).2).trans hm) I.H) λa3J Hd u Bd U _⟨K,g,cp,a,b,d,e,f⟩=>U.ret (rfl) (U.val 6 rfl (rfl)) λ_=>⟨K,g,cp,a,Dn LJ b,d,e,pH f rfl⟩
end
def a3C(v):Ax 62 v=#[v 0,v 1,v 2,v 3,v 4,v 5,v 6,v 7,v 8,v 9,v 10,v 11,v 12,v 13,v 14,v 15,v 16,v 17,v 18,v 19,v 20,v 21,v 22,v 23,v 24,v 25,v 26,v 27,v 28,v 29,v 30,v 31,v 32,v 33,v 34,v 35,v 36,v 37,v 38,v 39,v 40,v 41,v 42,v 43,v 44,v 45,v 46,v 47,v 48,v 49,v 50,v 51,v 52,v 53,v 54,v 55,v 56,v 57,v 58,v 59,v 60,v 61]:=A8
def aSl(n:Nat)(w)(h:n<=1000000):(Instr.makeMap 345 (Z (n:Int))).run A6 w=.ok (AL (Z w)) (w.alloc (B4 #[] 0)):=by rfl
def NG(R:List AW)(but:zz)(k:Nat):List AW:=(R.take k).filter λx=>!x.1.toList==but.toList
theorem aQt(R)(but)(k)(h):NG R but (k+1)=NG R but k++if(R[k].1.toList==but.toList)=A9 then[R[k]]else[]:=by unfold NG;rw[KA R k h,aHP];grind
theorem p9{R but k x}(h:x∈NG R but k):x∈R.take k/\x.1≠but:=by let⟨h1,h2⟩:=List.mem_filter.1 h;grind
def CV.cell{r:Nat}{w w':A1}(h:CV r w w w'){b o:Nat}{v:A3}(hb:b≠r)(hc:w.cell? ⟨b,o,J⟩=v):w'.cell? ⟨b,o,J⟩=v:=(C8 (h.block b (Cn (h:=hc)) hb)).trans hc
noncomputable def a4c:DK:=fstC (sndC (sndC (J1 144)))
def aQr(w:A1)(R:List AW)(but:zz)(a:Option An)(c fk:Nat)(v:Nat->A3)(h0:v 0=A0 a R c)(h2:v 2=but)(h7:v 7=AL (Z fk))(hR:EL w (A0 a R c) R)(hl:R.length<=1000000)(F:∀x∈R,x.1.size<=60)(hd:(R.map (·.1)).Nodup)(r:w.heap[fk]?=Z (B4 #[] 0)):a4c.wp A6 (λe a' w'=>e=Vq/\a'.defers=[]/\∃v',a'.tmps=Ax 62 v'/\(v' 2=but/\v' 4=v 4/\v' 7=AL (Z fk))/\w'.heap[fk]?=Z (B4 (NM (NG R but R)) (NG R but R.length))/\CV fk w w w') ⟨Ax 62 v,[]⟩ w:=by
 rw[a3C,h0,h2,h7,show a4c=fstC (sndC (sndC ((sK.body).getD M4)))by kernel_rfl];obtain⟨a',c',MT,K⟩:=Zm hR;injection MT with e1 _ e2;subst e1 e2;have v3:=A2 K;have cu:=B3 r;have W:=A2 r;have X:=A2 F;have Fe:=A2 hd;clear hR K r F hd;simp only[sK,MJ,fstC,sndC];go_wp2;go_loopw[20]λi wr=>∃k:Nat,k<=R/\i=AX k/\AE (Fl wr fk (B4 (NM (NG R but k)) (NG R but k))/\CV fk w w wr)(λi _=>R-(B0 i).toNat);case atStart=>exact⟨0,A',rfl,A2 ⟨W,CV.refl ..⟩⟩
 case round=>
  obtain⟨k,hk,rfl,H⟩:=hrel;obtain⟨Ja,hb⟩:=H.o;have Ew:=A2 Ja;have I:=A2 hb;have Dd:=hb.size;clear H Ja hb;by_cases hlt:k<R
  .obtain⟨g2,rfl,hc⟩:=v3.o k hlt;have hne:g2≠fk:=λe=>by have:=hc.1;rw[e]at this;unfold Cr at this;rw[W.o]at this;cases this
   have c0:=CV.cell I hne hc.1;have c1:=CV.cell I hne hc.2;have h:=A2 (aQt R but k hlt);have N:AE (∀x∈NG R but k,x.1≠R[k].1):=λx hx e=>by
    obtain⟨h1,_⟩:=p9 hx;obtain⟨j,hj,rfl⟩:=Mw.1 h1;let Hl:j<k:=by simp at hj;omega
    rw[List.getElem_take]at e;let hp:=Fe;rw[Lc,Qc]at hp;exact hp j k Av (Ai hlt) Hl (Ai e)
   have U:AE (R[k].1.size<=BZ):=A2 (by have:=X.o _ (Ci hlt);unfold BZ;omega);let Dy:AE (∀x∈NG R but k,x.1<=BZ):=A2 λx hx=>by have:=X x (mb (p9 hx).1);unfold BZ;omega
   generalize R[k]=x at c0 c1 h N U;obtain⟨p,v⟩:=x;simp only at c0 c1 h N U;clear hc;let Nr:AE (CV fk w w (wr.alloc (A7 #[p,v] 221))):=A2 (I.o.below ((Az w wr).alloc Dd _));let u:AE ((wr.alloc (A7 #[p,v] 221)).heap[fk]?=Z (B4 (NM (NG R but k)) (NG R but k))):=A2 (by rwa[BU _ _ _ A']);by_cases z:(p.toList==but.toList)=A5;.rw[z,if_neg AD,YU]at h;go_wp2;exact⟨⟨k+1,A',BV,A2 ⟨Ar h,Nr⟩⟩,by simp[B0];omega⟩
   rw[Bool.not_eq_true]at z;rw[z,if_pos rfl]at h;have dB:=aUU fk (NG R but k) (p,v) (wr.alloc (A7 #[p,v] 221)) U Dy N u;simp only at dB;go_wp2;exact⟨⟨k+1,A',BV,A2 ⟨by rw[h.o];show a'z ..[fk]?=_;rw[Va (by rw[Ck];omega),DV];rfl,Nr.o.set _⟩⟩,by simp[B0];omega⟩
  obtain rfl:k=R:=A';go_wp2;exact⟨_,uH rfl,⟨rfl,rfl,rfl⟩,Ew,I⟩
def aHB(w:A1)(K:List AW)(but:zz)(v:A3)(w':A1):Prop:=∃S,S.Sublist K/\(∀x∈S,x.1≠but)/\w'.ownsRow w 221 2 v S.length (Bb S)/\AO w w w'
noncomputable def a4b:DK:=sndC (fstC (sndC (sndC (sndC (sndC (J1 144))))))
def aQs(w:A1)(m:Int)(L K:List AW)(but:zz)(kg kc fk:Nat)(v:Nat->A3)(h7:v 7=AL (Z fk))(Nw:v 10=A0 J 0 0)(cN:v 34=A0 (Z ⟨kg,0,J⟩) K kc)(F:v 35=(K.length:Int))(nl:v 36=AB AJ 0)(hK:JP w kg K)(hl:K.length<=1000000)(Cv:∀x∈K,x.1.size<=60/\x.2.size<=40)(W:∀x∈L,x.1.size<=60/\x.2.size<=40)(X:∀x∈L,x.1≠but)(O':w.heap[fk]?=Z (B4 (NM L) L))(hm:w.cell? ⟨0,0,J⟩=Z (AB AJ m)):a4b.wp A6 (λe a' w'=>e=Vq/\a'.defers=[]/\∃v',a'.tmps=Ax 62 v'/\aHB w K but (v' 10) w') ⟨Ax 62 v,[]⟩ w:=by
 rw[a3C,h7,Nw,cN,F,nl,show a4b=sndC (fstC (sndC (sndC (sndC (sndC ((sK.body).getD M4))))))by kernel_rfl];clear h7 Nw cN F nl;obtain⟨i0,hi,hz0,hz1,hz2⟩:=FJ Ze;have Ew:=A2 hK;have z9:=A2 Cv;have bP:=A2 W;have aGb:=A2 X;have wt:=A2 O';have HM:=A2 hm;have cu:=B3 O';clear hK Cv W X O' hm;simp only[sK,MJ,fstC,sndC];go_wp2;go_loopw[10,36]λv i wr=>∃k:Nat,k<=K.length/\i=AX k/\AE (∃S,S.Sublist (K.take k)/\(∀x∈S,x.1≠but)/\wr.ownsRow w.heap.size 221 2 v S.length (Bb S)/\AO w w wr)(λ_ i _=>K.length-(B0 i).toNat);case atStart=>exact⟨0,A',rfl,A2 ⟨[],AD,AD,PR ..,Az ..⟩⟩
 case round=>
  obtain⟨k,hk,rfl,H⟩:=hrel;obtain⟨S,Z6,cT,hown,hb⟩:=H.o;obtain⟨DJ,C3,rfl⟩:=EA hown;have w9:=by have:=Z6.length_le;simp at this;omega
  have mS:=A2 Z6;have UG:=A2 cT;have m3:=A2 hown;have z:=A2 hb;have Dd:=hb.size;clear H Z6 cT hown hb;by_cases hlt:k<K.length
  .let hc:=Ew.o k hlt;have c0:=keep z.o hc.1;have c1:=keep z.o hc.2;have Au:=A2 (KA K k hlt);have Cl:=A2 (z9.o _ (Ci hlt));generalize K[k]=x at c0 c1 Au Cl;obtain⟨p,v⟩:=x;simp only at c0 c1 Au Cl;clear hc;have Dk:=Cn (h:=c0);let GN:=aRK fk L L p (wr.alloc (A7 #[p,v] 85)) (by have:=Cl.o.1;unfold BZ;omega) λx hx=>by have:=(bP x hx).1;unfold BZ;omega (by rw[BU _ _ _ A'];exact De ((z).mono (Ad _)) wt);rcases GN with GN|⟨x,hx,K8,GN⟩;.let ip:AE (∃S',S'.Sublist (K.take (k+1))/\(∀x∈S',x.1≠but)/\((wr.alloc (A7 #[p,v] 85)).alloc (A7 #[A4 ⟨#[]⟩,A4 ⟨#[]⟩] 221)).ownsRow w.heap.size 221 2 (A0 DJ S C3) S'.length (Bb S')/\AO w.heap.size w ((wr.alloc (A7 #[p,v] 85)).alloc (A7 #[A4 ⟨#[]⟩,A4 ⟨#[]⟩] 221))):=A2 ⟨S,mS.o.trans (As Au (mc ..)),UG,(m3.o.alloc _).alloc _,(z.o.alloc Dd _).alloc (by rw[Ck];omega) _⟩;go_wp2;exact⟨⟨k+1,A',BV,ip⟩,by simp[B0];omega⟩
   let Zc:=bP x hx;have a2H:AE (p≠but):=(by rw[<-K8];exact aGb.o x hx);have fr:=A2 Zc.2;obtain⟨I,N⟩:=x;simp only at K8 GN fr;subst K8;clear hx Zc;have W7:AE (AO w w ((wr.alloc (A7 #[I,v] 85)).alloc (A7 #[I,N] 221))):=(z.o.alloc Dd _).alloc (by rw[Ck];omega) _;have bJ:=A2 (qV v N m ((wr.alloc (A7 #[I,v] 85)).alloc (A7 #[I,N] 221)) Cl.o.2 fr (keep W7 HM));have uO:((wr.alloc (A7 #[I,v] 85)).alloc (A7 #[I,N] 221)).heap[wr.heap.size]?=Z (A7 #[I,v] 85):=by rw[BU _ _ _ (by simp only[Ck];omega)];exact CS _ _ _ rfl
   have tw:AE (((wr.alloc (A7 #[I,v] 85)).alloc (A7 #[I,N] 221)).ownsRow w 221 2 (A0 DJ S C3) S (Bb S)):=(m3.o.alloc _).alloc _;go_wp2_with fail;have HB:((wr.alloc (A7 #[I,v] 85)).alloc (A7 #[I,N] 221)).heap.size=wr+2:=by simp only[Ck]
   generalize(wr.alloc (A7 #[I,v] 85)).alloc (A7 #[I,N] 221)=w3 at W7 bJ uO tw HB;refine bJ.o.mono ?_;rintro e U⟨rfl,Cz,_⟩;have eR:=A2 (W7.o.trans (Cz.mono W7.o.size));have wD:=De Cz uO;have EY:U.cell? ⟨wr,0,J⟩=Z I:=by rw[A_ wD];rfl
   have z1:U.cell? ⟨wr,1,J⟩=Z v:=by rw[A_ wD];rfl
   have tx:=A2 (VA tw Cz);have LJ:wr.heap.size+2<=U:=by have:=Cz.size;omega
   clear Cz wD uO tw;generalize hq:V.order v N=q;by_cases Ta:q<=0
   .have Fg:AE (∀(v':A3)(r:A1),r.ownsRow w 221 2 v' (S+1) (Bb S++[A4 I,A4 v])->AO w.heap.size w r->∃S',S'.Sublist (K.take (k+1))/\(∀x∈S',x.1≠but)/\r.ownsRow w.heap.size 221 2 v' S'.length (Bb S')/\AO w w r):=λv' r h1 h2=>by
     refine⟨S++[(I,v)],by rw[Au.o];exact mS.o.append (aHH _),λx hx=>?_,by rwa[R5,DV],h2⟩;rcases E8.1 hx with hx|hx;.exact UG.o x hx
     rwa[ES.1 hx]
    go_wp2_with(at_builtin;refine IU _ rfl _ _ 124 rfl w.heap.size 221 i0 (AH #[A4 ⟨#[]⟩,A4 ⟨#[]⟩]) 2 32 Vw hi hz0 hz1 hz2 rfl Ac _ _ _ rfl (tx.o.alloc _) ⟨U,0,J⟩ 1 1 [I,v] rfl rfl ?c1 Of DQ A' ?c5 ?_);case c1=>intro j u hj;have Eb:=CS U (A7 #[I,v] 221) _ rfl;(rw[Ea]);(try rw[My]);rw[A_ Eb];simpa using hj
    case c5=>simp only[Ck];omega
    intro v' r C2 BN _;obtain⟨aem,aen,rfl⟩:=EA C2;have Dp:=A2 (Fg _ r C2 ((eR.o.alloc A' _).grown BN (by simp only[Ck];omega) λb hb=>by
     have ho:=tx.o.2;rcases ho with⟨e,_⟩|⟨Bv,cap,cur,e,h1,_⟩;.injection e with e;subst e;simp[Kt]at hb
     injection e with e;subst e;simp[Kt]at hb;omega));clear C2 BN;go_wp2;exact⟨⟨k+1,A',BV,Dp⟩,by simp[B0];omega⟩
   have ip:AE (∃S',S'.Sublist (K.take (k+1))/\(∀x∈S',x.1≠but)/\U.ownsRow w.heap.size 221 2 (A0 DJ S C3) S'.length (Bb S')/\AO w.heap.size w U):=A2 ⟨S,mS.o.trans (by rw[Au.o];exact mc ..),UG,tx,eR⟩;go_wp2;exact⟨⟨k+1,A',BV,ip⟩,by simp[B0];omega⟩
  obtain rfl:k=K:=A';go_wp2;exact⟨_,uH rfl,S,by have:=mS;rwa[Hb]at this,UG,m3,z⟩
def jb{B e z n:Nat}{v xs}(h:w.ownsRow B e z v n xs)(k:w'.heap=w.heap):w'.ownsRow B e z v n xs:=Zu h λb _ _=>by rw[k]
def aHC(P:List (AW×Nat))(but:zz)(w:A1)(v:A3)(w':A1):Prop:=∃K S,K.Perm (P.map (·.1))/\(K.Pairwise λa b=>F6 a b<=0)/\S.Sublist K/\(∀x∈S,x.1≠but)/\w'.ownsRow w 221 2 v S.length (Bb S)
section
variable{Wb gc:zy}{w:A1}{P:List (AW×Nat)}{c aAh bi dj rc:Nat}{m:Int}{a D9:Option An}{R:List AW}{but:zz}{ρ:BP->A3}{o:B8}{x:BP}
def aXD{n:Nat}(ho:o.op=.makeMap 345 (Z x))(hx:ρ x=n)(h:n<=1000000):(AM ρ o).run A6 w=.ok (BB (AL (Z w))) (w.alloc (B4 #[] 0)):=by unfold AM;rw[ho];simp[hx,aSl n w h]
def aX5{b n c}(ho:o.op=ED 136 x)(hx:ρ x=AT b)(h:w.heap[b]?=Z (A7 #[A0 a n c,AL (Z bi)] 136)):(AM ρ o).run A6 w=.ok (BB (AH #[A0 a n c,AL (Z bi)])) w:=by unfold AM;rw[ho];simp[go_sem,hx,Cr,h]
def aX9{n:Nat}(ho:o.op=Em {callee:=Fw .len,args:=#[x],argTypes:=#[124]})(hx:ρ x=A0 a n c):(AM ρ o).run A6 w=.ok (BB n) w:=by unfold AM;rw[ho];simp[go_sem,hx]
def aQv(hR:EL w (A0 a R c) R)(hl:R.length<=1000000)(Cv:∀x∈R,x.1.size<=60/\x.2.size<=40)(hd:(R.map (·.1)).Nodup)(E5:w.heap[bi]?=Z (B4 (Ba P) aAh))(hc:P<=aAh)(y4:P.length<=1000000)(hne:P≠[])(hs:∀x∈P,x.1.1.size<=60/\x.1.2.size<=40)(hm:w.cell? ⟨0,0,J⟩=Z (AB AJ m))(W:CC Wb gc w)(Et:Ey gc #[A0 a R c,AH #[A0 D9 dj rc,AL (Z bi)],but]):HJ 144 #[A0 a R c,AH #[A0 D9 dj rc,AL (Z bi)],but] Wb gc w (aHC P but w):=by
 intro x c' cs';let h0:=W.closed.Ca 0 Ac;let Hm:gc bi:=by let h:=Ey.nth Et 1 rfl;cases h with|agg h=>exact AK.Q6 (Al.nth 1 h rfl)
 refine Be.enter 62 (rfl) ?_;let S0:Ap 62 [] w gc Wb gc (w.at x) (Ep 144 #[A0 a R.length c,AH #[A0 D9 dj rc,AL (Z bi)],but]).1:=⟨W.at x,Cb.Ep Et,λb hb=>⟨hb,rfl⟩⟩;refine S0.alloc (A7 #[A0 D9 dj rc,AL (Z bi)] 136) (e:=4) (rfl) (λ_ _ h=>qC (x:=Aa 1) h (rfl)) λip U t0 Er Ez Dc HP=>?_;refine t0.calm (AX R) (e:=16) (rfl) (λ_ _ _ h=>⟨_,aX9 (x:=Aa 15) (a:=a) (c:=c) h (rfl),rfl⟩) λFg w2 v9 MR e2=>?_;refine v9.g_ (B4 #[] 0) (λz=>AL (Z z)) (e:=17) (rfl) (λ_ _ h=>aXD (x:=Aa 16) h (rfl) hl) λDp w3 X K0 KZ Mc LD=>?_;let Dc:U.heap.size=w+1:=Dc;rw[e2]at Mc LD;let K2:=(LD w A').trans Ez;let Ws:=X.jC (b:=w) 4 rfl (rfl);let C1:∀b,b<w.heap.size->w3.heap[b]?=w.heap[b]?:=λb hb=>As (LD b A') (HP b hb);refine X.piece 3 (r:=[Aw (sndC (sndC (sndC (J1 144))))]) (λv' w'=>(v' 2=but/\v' 4=AT w/\v' 7=AL (Z w2))/\w'.heap[w2.heap.size]?=Z (B4 (NM (NG R but R)) (NG R but R.length))/\w3.heap.size<=w'/\∀b,b<w3.heap.size->b≠w2.heap.size->w'.heap[b]?=w3.heap[b]?) (rfl) (rfl) (λx T=>rG ?_ (aQr (on (w3.at x) T) R but a c w2 _ (rfl) (rfl) (rfl) ?_ hl (λx hx=>(Cv x hx).1) hd KZ)) ?_;.rintro e a' w'⟨h1,h2,v',h3,⟨h4,h5,h6⟩,h7,h8⟩;exact⟨h1,h2,v',h3,⟨h4,h5.trans (rfl),h6⟩,h7,h8.size,h8.block⟩
 .exact SI hR λg hg=>C1 g (W.closed.lt (AK.QC (Ey.nth Et 0 rfl) hg))
 rintro IA P9 w4' w4⟨⟨q2,q4,q7⟩,Pz,LJ,V'⟩e4 aNV Lm Yx;rw[<-e4]at Pz LJ V';rw[e2]at Pz V' q7;let iq:∀b,b<=w.heap.size->b≠U.heap.size:=λb hb=>A';let Cj:Ap 62 [] w gc Wb IA w4 P9:=⟨Yx,aNV,λb hb=>⟨Lm b (X.S b hb).1,by have:=W.closed.lt hb;rw[V' b A' A'];exact(X.S b hb).2⟩⟩;refine Ap.fix [(2,but),(4,AT w),(7,AL (Z U))] (by simp[q2,q4,q7]) Cj λCj=>?_;refine Cj.calm (AH #[A0 D9 dj rc,AL (Z bi)]) (e:=33) A8 (λx T _ h=>⟨_,aX5 (x:=Aa 4) h A8 ((V' _ A' A').trans K2),rfl⟩) λHd Bd N Ln e5=>?_;let aO_:=N.xh (b:=U) 7 rfl A8;refine N.Og (e:=34) A8 A8 (aT5 (a:=D9) (n:=dj) (cap:=rc) ((N.S bi Hm).2.trans E5) hc y4 hne (λx hx=>(hs x hx).2) ((C8 (N.S 0 h0).2).trans hm) N.H) λn9 Js u EC Dh oI⟨K,kg,kc,hu,hkg,hK,hKo,hKat⟩=>?_;subst hu;refine Dh.calm (AX K) (e:=35) A8 (λ_ _ _ h=>⟨_,aBs (x:=Aa 34) (a:=Z ⟨kg,0,J⟩) (cap:=kc) h A8,rfl⟩) λJt F I Wo e7=>?_;refine I.piece 2 (r:=[Aw (sndC (sndC (sndC (sndC (sndC (J1 144))))))]) (λv' w'=>∃S,S.Sublist K/\(∀x∈S,x.1≠but)/\w'.ownsRow F.heap.size 221 2 (v' 10) S.length (Bb S)/\∀b,b<F.heap.size->w'.heap[b]?=F.heap[b]?) A8 A8 (λx T=>rG ?_ (aQs (on (F.at x) T) m (NG R but R) K but kg kc U _ A8 A8 A8 A8 A8 (pH hKat e7) (by rwa[hK.length_eq,Gf]) (λx hx=>?_) (λx hx=>Cv x (mb (p9 hx).1)) (λx hx=>(p9 hx).2) (by show F.heap[_]?=_;rwa[e7,(oI _ aO_).2,e5]) ((C8 (I.S 0 h0).2).trans hm))) ?_;.rintro e a' w'⟨h1,h2,v',h3,S,h4,h5,h6,h7⟩;exact⟨h1,h2,v',h3,S,h4,h5,h6,h7.block⟩
 .obtain⟨z,hz,rfl⟩:=Bt.1 (hK.mem_iff.1 hx);exact hs z hz
 rintro KV aCr qd HG⟨S,a1,a2,a3,a5⟩JW aNW iC nt;let Gg:Ap 62 [] w gc n9 KV HG aCr:=⟨nt,aNW,λb hb=>⟨iC b (I.S b hb).1,by rw[JW,a5 b (I.H.closed.lt (I.S b hb).1)];exact(I.S b hb).2⟩⟩;exact Ap.ret Gg A8 (Gg.val 10 rfl rfl) λd=>⟨K,S,hK,hKo,a1,a2,jb (Q8 a3 (gI (I.H.closed.lt (Wo _ (oI _ (Ln _ (Lm _ Ws))).1)))) JW⟩
end
section
variable{Wb R:zy}{ops:Array B8}{i:Nat}{rest:List Nat}{q:List Item}{cs:List Ah}{o:B8}{T:zw}{w:A1}{d:Nat}{Post:zv}
end
end
section
open Go.Proofs.YtcfhleenecfghaaGreatDoor
open Go.RowKit
variable{D7:AW->Bool}{C L:List AW}{k:Nat}
def aLR(a)(n c)(w):(binOp OK 124 (A0 (Z a) n c) (A0 J 0 0)).run A6 w=.ok (Ag A9) w:=rfl
def aJX(w):(Instr.buildSlice 124 0 #[]).run A6 w=.ok (A0 (Z ⟨w,0,J⟩) 0 0) (w.alloc (A7 #[] 221)):=A8
theorem yG:∀(L)(j)(u),(Bb L)[j]?=Z u->∃k,∃h:k<L.length,j=k*2/\u=A4 L[k].1∨j=k*2+1/\u=A4 L[k].2|[],j,u,h=>by trivial|m::L,0,u,h=>⟨0,AD,AA ⟨rfl,by grind[Bb]⟩⟩|m::L,1,u,h=>⟨0,AD,AF ⟨rfl,by grind[Bb]⟩⟩|m::L,j+2,u,h=>by let⟨k,hk,h1⟩:=yG L j u (by simpa[Bb]using h);refine⟨k+1,Av,?_⟩;grind
def aJy(N Bm:Nat)(L:List AW)(w:A1)(hl:L.length<=1000000)(hne:L≠[])(hat:JP w N L):Ab A6 150 #[A0 (Z ⟨N,0,J⟩) L Bm] w λe w'=>∃I cc,e=AV (A0 (Z ⟨I,0,J⟩) L cc)/\w'.ownsRow w 221 2 (A0 (Z ⟨I,0,J⟩) L cc) L (Bb L)/\AO w w w':=by
 let⟨i0,hi,hz0,hz1,hz2⟩:=FJ Ze;have K:=YW.2 hne;have W:=aLR;have X:=aJX;have U:=A2 (yH L);have r:AE (∀j u,(Bb L)[j]?=Z u->Cf w N j u):=A2 λj u hj=>by
  let⟨k,hk,h⟩:=yG L j u hj;rcases h with⟨rfl,rfl⟩|⟨rfl,rfl⟩;.exact(hat k hk).1
  exact(hat k hk).2
 have z:AE (∀u∈Bb L,u.oneCell'=A5):=λu hu=>by let⟨j,hj⟩:=tj.1 hu;let⟨k,hk,h⟩:=yG L j u hj;rcases h with⟨_,rfl⟩|⟨_,rfl⟩<;>rfl
 generalize Bb L=xs at U r z⊢;generalize L.length=n at*;clear hat;go_enter Tryz.func150,Tryz.ntmps150;go_wp2_with(at_builtin;refine IU _ rfl _ _ 124 rfl (AR w) 221 i0 (AH #[A4 ⟨#[]⟩,A4 ⟨#[]⟩]) 2 32 Vw hi hz0 hz1 hz2 rfl Ac _ _ _ rfl ⟨rfl,AF ⟨AR w,0,#[],rfl,Ad _,heap_alloc_new w _,A',DQ,rfl,rfl⟩⟩ ⟨N,0,J⟩ n Bm xs rfl U ?c1 z DQ A' AD ?_);case c1=>intro j u hj;rw[Ea];exact BR (r j u hj) _
 intro v' w2 F BN _;have hb2:=((Az _ w).alloc (Ad _) _).grown BN AD (λk hk=>by simp[Kt]at hk;omega);obtain⟨I,cc,hv⟩:∃I cc,v'=BG I 0 n cc:=by
  rcases F.2 with⟨_,h0⟩|⟨I,cc,cur,hv,_⟩;.omega
  exact⟨I,cc,Ai hv⟩
 subst hv;have H:=A2 (Ai F);go_wp2;go_ret;exact⟨I,cc,rfl,H,hb2⟩
def aIt:∀w,(isAgg (Tryz.zh.t 24)).run A6 w=.ok A5 w:=by intro w;rfl
def aXe:∀w,(Rb (Tryz.zh.t 24)).run A6 w=.ok 2 w:=by intro w;rfl
theorem aLA:∀h w,(callFunc 152 h).run A6 w=.ok (.enter 152 h) w:=by simp_all
def aJe(a b:AW)(w:A1):Ab A6 152 #[AH #[a.1,a.2],AH #[b.1,b.2]] w λe w'=>e=AV (Fx a.1.data.toList b.1.data.toList)/\AO w w w'/\w.drawn<=w'.drawn:=by let⟨p,v⟩:=a;let⟨q,u⟩:=b;simp only;have h:AE (AO (AR w) w ((w.alloc (A7 #[p,v] 221)).alloc (A7 #[q,u] 221))/\w.drawn<=((w.alloc (A7 #[p,v] 221)).alloc (A7 #[q,u] 221)).drawn):=A2 ⟨K9 w ..,Ad _⟩;go_enter Tryz.func152,Tryz.ntmps152;go_wp2_with(refine(Tryz.strings_Compare p q _).mono ?_;rintro e I⟨rfl,rfl⟩);go_ret;trivial
instance:Inhabited AW:=⟨(⟨#[]⟩,⟨#[]⟩)⟩
theorem aY'(g cap)(L)(w)(hl:L.length<=1000000)(N:g<w.heap.size)(hr:JP w g L)(I:∀o,w.frozen? ⟨g,o,J⟩=A9):Ab A6 151 #[A0 (Z ⟨g,0,J⟩) L cap,Br (Bo 152) #[] #[]] w λe w'=>e=AV (Aj #[])/\∃K:List AW,K.Perm L/\(K.Pairwise λa b=>Fx a.1 b.1<=0)/\JP w' g K/\CV g w w w':=by
 let h:=qK (α:=AW) Tryz.aXz 2 aIt aXe (λx=>[x.1,x.2]) (λ_=>rfl) Ac λx v hx=>by simp at hx;rcases hx with rfl|rfl<;>rfl (λx y=>Fx x.1 y.1) (V.c7.1.back λa:AW=>a.1) 152 aLA g cap L w hl N (λj hj o ho=>?_) I λU hx x y=>aJe x y U;.refine h.mono ?_;rintro e w'⟨rfl,K,hp,ho,hc,hb⟩;refine⟨rfl,K,hp,ho,?_,hb⟩;intro j hj;let h0:=hc j hj 0 A';grind
 let h1:=hr j hj;grind
def I2(w:A1)(g S:Nat)(C:List AW):Prop:=∃cur,w.heap[g]?=Z (A7 cur 221)/\cur=S/\∀j(h:j<C.length),cur[j*2]?=Z (A4 C[j].1)/\cur[j*2+1]?=Z (A4 C[j].2)
section
variable{w w':A1}{g S:Nat}{C:List AW}
def I2.pG(h:I2 w g S C):JP w g C:=λj hj=>by let⟨cur,h1,_,h3⟩:=h;exact⟨(A_ h1 _).trans (h3 j hj).1,(A_ h1 _).trans (h3 j hj).2⟩
theorem I2.frozen(h:I2 w g S C)(o):w.frozen? ⟨g,o,J⟩=A9:=by let⟨cur,h1,_⟩:=h;exact C' h1 o
theorem I2.lt(h:I2 w g S C):g<w:=by let⟨cur,h1,_⟩:=h;grind
def I2.keep(h:I2 w g S C)(k:w'.heap[g]?=w.heap[g]?):I2 w' g S C:=by let⟨cur,h1,h2⟩:=h;exact⟨cur,k.trans h1,h2⟩
def I2.put(h:I2 w g S C){i:Nat}(hi:i<C)(p v:zz):I2 ((w.setCell ⟨g,i*2,J⟩ p).setCell ⟨g,i*2+1,J⟩ v) g S (C.set i (p,v)):=by
 let⟨cur,h1,h2,h3⟩:=h;let hc:=(h3 i hi).2;have hlt:=B3 hc;let hx1:=CO w g (i*2) _ _ p h1;let hx2:=CO _ g (i*2+1) _ _ v hx1;refine⟨_,hx2,Ai h2,λj hj=>?_⟩;have N:=Ai hj;let U:=h3 j N;simp only[HX,List.getElem_set,Array.size_setIfInBounds];by_cases e:i=j;.subst e;simp;omega
 let I:¬i*2+1=j*2:=A';let a2:¬i*2=j*2:=A';let a3:¬i*2+1=j*2+1:=A';let a4:¬i*2=j*2+1:=A';simp only[I,a2,a3,a4,e,if_false];exact U
end
def aWn(w:A1)(g o n c S ty:Nat)(C:List AW)(h:I2 w g S C)(hn:0<n)(hle:o+n*2<=S)(ho:∀j,j<C.length->j*2+1<o):∃w',(kr #[124] ty #[A0 (Z ⟨g,o,J⟩) n c]).run A6 w=.ok (Aj #[]) w'/\I2 w' g S C/\CV g w w w':=by
 obtain⟨cur,h1,h2,h3⟩:=h;obtain⟨n,rfl⟩:∃k,n=k+1:=⟨n-1,A'⟩;let hz:(zeroValue 221).run A6 w=.ok (AH #[A4 ⟨#[]⟩,A4 ⟨#[]⟩]) w:=rfl;let N:Mo #[A4 ⟨#[]⟩,A4 ⟨#[]⟩] (n+1)=(n+1)*2:=by simp[Mo]
 let U:∀v∈(Mo #[A4 ⟨#[]⟩,A4 ⟨#[]⟩] (n+1)).toList,v.oneCell'=A5:=by intro v hv;simp[Mo]at hv;obtain⟨a,_,rfl⟩:=hv;have:a%2=0∨a%2=1:=A';rcases this with e|e<;>rw[e]<;>rfl
 have hst:=run_storeCells_at (P:=A6) g o 221 (Mo #[A4 ⟨#[]⟩,A4 ⟨#[]⟩] (n+1)).toList 0 cur w h1 (by rw[a'v,N];omega) U;simp only[aHn]at hst;generalize r:(List.take o cur.toList++(Mo #[A4 ⟨#[]⟩,A4 ⟨#[]⟩] (n+1)).toList++List.drop (o+(Mo #[A4 ⟨#[]⟩,A4 ⟨#[]⟩] (n+1)).toList.length) cur.toList).toArray=I at hst;refine⟨w.setRow g I,?_,⟨I,setRow_heap w g cur I 221 (0,0) h1,?_,λj hj=>?_⟩,?_⟩;.unfold kr;simp[run_underlying Vw,hz,lZ,hst,Result.andThen]
 .rw[<-r,List.size_toArray,DV,DV,UK,List.length_drop,a'v,a'v,N];omega
 .have:=ho j hj;let u:=h3 j hj;rwa[<-r,tf,tf,T1,mY Av,mY Av,a2a A',a2a A',eO,eO]
 refine⟨rfl,rfl,rfl,AD,λb hb hn=>?_⟩;simp[World.setRow,Array.getElem?_modify,Gy hn]
def aPz(g c u:Nat)(L:List AW)(I:AW->Bool)(w:A1)(hat:JP w g L)(hl:L.length<=1000000)(z:∀U,AO w w U->∀p∈L,Ab A6 148 #[AH #[p.1,p.2],B2 (Z ⟨u,0,J⟩)] U λe w'=>e=AV (Ag (I p))/\AO U U w'):Ab A6 223 #[A0 (Z ⟨g,0,J⟩) L c,Br (Bo 148) #[] #[B2 (Z ⟨u,0,J⟩)]] w λe w'=>AO w w w'/\((e=AV (AB AJ (-1))/\∀x∈L,I x=A9)∨∃k:Nat,e=AV (k:Int)/\∃h:k<L,I L[k]=A5/\∀x∈L.take k,I x=A9):=by
 have X:=A2 hat;have Fe:=A2 z;clear hat z;go_enter Tryz.func223,Tryz.ntmps223;go_wp2;go_loopw[8]λi wr=>∃k:Nat,k<=L/\i=AX k/\AE (AO (AR w) w wr/\∀x∈L.take k,I x=A9)(λi _=>L-(B0 i).toNat);case atStart=>exact⟨0,A',rfl,A2 ⟨Az _ _,λx hx=>by simp at hx⟩⟩
 case round=>
  obtain⟨k,hk,rfl,H⟩:=hrel;obtain⟨hb,hz⟩:=H.o;have N:=A2 hb;have r:=A2 hz;clear H hz hb;by_cases hlt:k<L
  .have hc:=X.o k hlt;have c0:=keep N hc.1;have c1:=keep N hc.2;have Dk:g<AR wr:=Cn (h:=c0);have F:=A2 (Fe wr N _ (Ci hlt));have Au:AE (L.take (k+1)=L.take k++[L[k]]):=KA L k hlt;have K:AE (L[k]?=Z L[k]):=En hlt;clear hc;generalize L[k]=x at c0 c1 F Au K;obtain⟨p,v⟩:=x;simp only at c0 c1;go_wp2_with fail;refine F.o.mono ?_;rintro e w1⟨rfl,hb1⟩;have W:=A2 (N.o.trans (hb1.mono N.o.size));clear hb1;cases hm:I (p,v)with
   |true=>go_wp2;go_ret;refine⟨W,AF ⟨k,rfl,hlt,?_,r⟩⟩;rw[CP ((En hlt).symm.trans K.o)];exact hm
   |false=>
    have R:AE (AO (AR w) w w1/\∀x∈L.take (k+1),I x=A9):=A2 ⟨W,λy hy=>by
     rw[Au.o]at hy;rcases E8.1 hy with h|h;.exact r y h
     rw[ES.1 h];exact hm⟩;go_wp2;exact⟨⟨k+1,A',BV,R⟩,by simp[B0];omega⟩
  obtain rfl:k=L:=A';have hz:=r;rw[Hb]at hz;have WC:=A2 hz;clear hz;go_wp2;go_ret;exact⟨N,AA ⟨rfl,WC⟩⟩
def Kg(h:AW->Bool)(L:List AW)(k:Nat):List AW:=(L.take k).filter λx=>!h x
theorem p8(I)(L)(k)(h):Kg I L (k+1)=if I L[k]then Kg I L k else Kg I L k++[L[k]]:=by unfold Kg;rw[KA L k h,aHP];grind
def aQp(h)(L)(k):Kg h L k<=k:=Dn (aHb ..) BA
def aQq(I)(L)(k)(h:∀x∈L.take k,I x=A9):Kg I L k=L.take k:=by unfold Kg;rw[aHQ];intro x hx;rw[h x hx];rfl
structure T9(D7:AW->Bool)(L:List AW)(k:Nat)(C:List AW):Prop where
 len:C.length=L
 head:C.take (Kg D7 L k)=Kg D7 L k
 tail:∀j,k<=j->C[j]?=L[j]?
def T9.pass(h:T9 D7 L k C)(hk)(hd:D7 L[k]=A5):T9 D7 L (k+1) C:=by
 let e:Kg D7 L (k+1)=Kg D7 L k:=by rw[p8 D7 L k hk,if_pos hd]
 exact⟨h.len,As e h.head,λj hj=>h.tail j A'⟩
def T9.put(h:T9 D7 L k C)(hk)(hd:D7 L[k]=A9):T9 D7 L (k+1) (C.set (Kg D7 L k) L[k]):=by
 let e:Kg D7 L (k+1)=Kg D7 L k++[L[k]]:=by rw[p8 D7 L k hk,hd];rfl
 let hl:=aQp D7 L k;let hc:=h.len;refine⟨BA,?_,λj hj=>?_⟩;.rw[e,DV,a2b,a2e,List.take_set_of_le (Ad _),h.head,List.getElem?_set_self A'];rfl
 rw[List.getElem?_set_ne A'];exact h.tail j A'
theorem I2.take{w g S C}(h:I2 w g S C)(i):I2 w g S (C.take i):=by let⟨cur,h1,h2,h3⟩:=h;refine⟨cur,h1,h2,λj hj=>?_⟩;grind
def aK_(g c Jg S:Nat)(L:List AW)(N:AW->Bool)(w:A1)(N8:I2 w g S L)(v0:L*2<=S)(hl:L.length<=1000000)(Ux:L<=c)(cb:∀r,CV g w w r->∀p∈L,Ab A6 148 #[AH #[p.1,p.2],B2 (Z ⟨Jg,0,J⟩)] r λe w'=>e=AV (Ag (N p))/\AO r r w'):Ab A6 147 #[A0 (Z ⟨g,0,J⟩) L c,Br (Bo 148) #[] #[B2 (Z ⟨Jg,0,J⟩)]] w λe w'=>e=AV (A0 (Z ⟨g,0,J⟩) (L.filter λx=>!N x) c)/\I2 w' g S (L.filter λx=>!N x)/\CV g w w w':=by
 have X:=A2 (aPz g c Jg L N w N8.pG hl λr hb p hp=>cb r ((CV.refl g w w).below hb) p hp);have fR:=A2 N8;have Fe:=A2 cb;have Dk:=N8.lt;clear N8 cb;go_enter Tryz.func147,Tryz.ntmps147;go_wp2_with fail;refine X.o.mono λe w1⟨hb1,hcase⟩=>?_;have n3:=A2 ((CV.refl g w w).below hb1);have a1q:=A2 (fR.o.keep (hb1.block g Dk));clear hb1 X;have Dc:=n3.o.size;rcases hcase with⟨rfl,Qu⟩|⟨k0,rfl,F4,hd0,a6D⟩
 .have e:(L.filter λx=>!N x)=L:=by rw[aHQ];intro x hx;rw[Qu x hx];rfl
  clear Qu;go_wp2;go_ret;rw[e];exact⟨rfl,a1q.o,n3.o⟩
 have Lb:AE (T9 N L (k0+1) L/\Kg N L (k0+1)=k0):=by
  have e1:Kg N L (k0+1)=L.take k0:=by rw[p8 N L k0 F4,if_pos hd0,aQq N L k0 a6D]
  refine A2 ⟨⟨rfl,?_,λ_ _=>rfl⟩,?_⟩;.rw[e1];simp[a2i (gI F4)]
  rw[e1];simp;omega
 clear a6D hd0;go_wp2_with fail;go_loopw[5,6]λi j wr=>∃k I:Nat,k<=L/\j=AX k/\i=AX I/\I<k/\AE (∃C,T9 N L k C/\Kg N L k=I/\I2 wr g S C/\CV g w w wr)(λ_ j _=>L-(B0 j).toNat);case atStart=>exact⟨k0+1,k0,A',BV,rfl,A',A2 ⟨L,Lb.o.1,Lb.o.2,a1q.o,n3.o⟩⟩
 case round=>
  obtain⟨k,I,hk,rfl,rfl,acG,H⟩:=hrel;obtain⟨C,hst,Kb,hbk,N9⟩:=H.o;have UG:=A2 hst;have Re:=A2 Kb;have su:=A2 hbk;have z:=A2 N9;have Dd:w.heap.size<=wr:=N9.size;have abj:=hst.len;clear H hst Kb hbk N9;by_cases hlt:k<L
  .have a5e:C[k]' A'=L[k]:=by have:=UG.o.tail k (Ad _);rw[En A',En hlt]at this;exact CP this
   have u:=su.o.pG k A';rw[a5e]at u;have c0:=u.1;have c1:=u.2;have a6o:g<wr:=A';have Cg:=A2 λr hb=>Fe.o r hb _ (Ci hlt);have Mt:AE (L[k]?=Z L[k]):=A2 (En hlt);have WA:=A2 λh=>UG.o.pass hlt h;have tP:=A2 λh=>UG.o.put hlt h;have Gw:=A2 (p8 N L k hlt);rw[Re.o]at tP;clear a5e u;generalize L[k]=x at c0 c1 Cg WA tP Gw Mt;obtain⟨p,v⟩:=x;simp only at c0 c1;go_wp2_with fail;refine(Cg.o _ (z.o.below ((Az w wr).alloc Dd _))).mono ?_;rintro e U⟨rfl,m5⟩;have wE:AO wr wr U:=(Q9 ..).trans (m5.mono (by rw[Ck];omega));have F:=A2 (z.o.below (wE.mono Dd));have K:=A2 (su.o.keep (wE.block g a6o));have x7:Fl U (AR wr) (A7 #[A4 p,A4 v] 221):=De m5 (CS _ _ _ rfl);have KE:U.cell? ⟨wr,0,J⟩=Z (A4 p):=Af (A_ x7);have y1:U.cell? ⟨wr,1,J⟩=Z (A4 v):=Af (A_ x7);have ad':wr.heap.size<U:=B3 x7;clear m5 wE x7;cases oC:N (p,v)with
   |true=>have R:AE (∃C,T9 N L (k+1) C/\Kg N L (k+1)=I/\I2 U g S C/\CV g w w U):=A2 ⟨C,WA.o oC,by rwa[Gw.o,oC],K.o,F.o⟩;go_wp2;refine⟨⟨AX I,AX (k+1),_,_,_,_,_,_,_,_,_,_,_,_,_,_,_,_,_,_,_,_,_,⟨k+1,I,A',BV,rfl,A',R⟩,rfl⟩,?_⟩;simp[B0];omega
   |false=>
    have a6q:I<C:=A';have u:=K.o.pG I a6q;have p4:=u.1;have d1:=u.2;have f0:=K.o.frozen (I*2);have f1:=K.o.frozen (I*2+1);have acB:g<U:=K.o.lt;have R:AE (∃C,T9 N L (k+1) C/\Kg N L (k+1)=I+1/\I2 ((U.setCell ⟨g,I*2,J⟩ (A4 p)).setCell ⟨g,I*2+1,J⟩ (A4 v)) g S C/\CV g w w ((U.setCell ⟨g,I*2,J⟩ (A4 p)).setCell ⟨g,I*2+1,J⟩ (A4 v))):=by refine A2 ⟨C.set I (p,v),tP.o oC,by rw[Gw.o,oC];simp[Re.o],K.o.put a6q p v,F.o.os,F.o.tape,F.o.output,by simp;exact F.o.size,λb hb hn=>?_⟩;rw[DC _ _ _ _ (hn),DC _ _ _ _ (hn)];exact F.o.block b hb hn
    clear u;go_wp2;refine⟨⟨AX (I+1),AX (k+1),_,_,_,_,_,_,_,_,_,_,_,_,_,_,_,_,_,_,_,_,_,⟨k+1,I+1,A',BV,BV,A',R⟩,rfl⟩,?_⟩;simp[B0];omega
  obtain rfl:k=L:=A';have FD:(L.filter λx=>!N x)=C.take I:=by have:=UG.o.head;rw[Re.o]at this;rw[this];simp[Kg]
  obtain⟨Gt,H5,a6F,W⟩:=aWn wr g (I*2) (L-I) (c-I) S 0 (C.take I) (su.o.take I) A' A' (λj hj=>by simp at hj;omega);have BC:AE (I2 Gt g S (C.take I)/\CV g w w Gt/\C.take I=I):=A2 ⟨a6F,⟨W.os.trans z.o.os,W.tape.trans z.o.tape,W.output.trans z.o.output,Dn z.o.size W.size,λb hb hn=>(W.block b A' hn).trans (z.o.block b hb hn)⟩,Av⟩;have aGG:=A2 FD;clear FD a6F W;go_wp2;go_ret;rw[aGG.o,BC.o.2.2];exact⟨rfl,BC.o.1,BC.o.2.1⟩
end
end Go.Proofs.YtcfhleenecfghaaGreatDoor.Twin
namespace Go.Proofs.YtcfhleenecfghaaGreatDoor
section
open Go.RowKit
open Go.Proofs.YtcfhleenecfghaaGreatDoor.Twin
structure Bx(AI:Nat->Nat->Nat)(nd:Nat->Nat->List (Nat×Nat))(rt:List (Nat×Nat))(d9:List Rel):Prop where
 len:d9.length=15
 rel:∀j(h:j<d9.length),d9[j].p=V.mp (j/3)/\d9[j].v=V.CY (AI (j/3) (j%3))/\d9[j].Bs=(nd (j/3) (j%3)).map B1
 low:∀q k,q<5->k<3->AI q k<10
 inj:∀q j k,q<5->j<3->k<3->AI q j=AI q k->j=k
 FX:∀q k,q<5->k<3->∀x∈nd q k,x.1<5/\∃j,j<3/\x.2=AI x.1 j
 root:∀x∈rt,x.1<5/\∃j,j<3/\x.2=AI x.1 j
def JY(AI:Nat->Nat->Nat)(nd:Nat->Nat->List (Nat×Nat))(x:Nat×Nat):List (Nat×Nat):=match(Lf 3).find? λk=>AI x.1 k==x.2with|Z k=>nd x.1 k|J=>[]
theorem yJ{x y}(I:x.1<5/\x.2<30)(h2:y.1<5/\y.2<30)(h:B1 x=B1 y):x=y:=by let a:=Zp I.1 h2.1 (congrArg Ya h);let b:=a9q I.2 h2.2 (congrArg bf h);grind
section
variable{AI:Nat->Nat->Nat}{nd:Nat->Nat->List (Nat×Nat)}{rt:List (Nat×Nat)}{d9:List Rel}
theorem Bx.JY(h:Bx AI nd rt d9)(q k)(hq:q<5)(hk:k<3):JY AI nd (q,AI q k)=nd q k:=by unfold YtcfhleenecfghaaGreatDoor.JY;cases e:(Lf 3).find? λj=>AI q j==AI q k with|none=>have:=List.find?_eq_none.1 e k (Pb.2 hk);grind|some j=>obtain rfl:=h.inj q j k hq (Pb.1 (aHf e)) hk (Ai (List.find?_some e));rfl
def Bx.ok(h:Bx AI nd rt d9){x}(hr:N.Reach (YtcfhleenecfghaaGreatDoor.JY AI nd) rt x):x.1<5/\∃k,k<3/\x.2=AI x.1 k:=by induction hr with|root hx=>exact h.root _ hx|@step x y _ hy I=>let⟨h1,k,h2,h3⟩:=I;let e:x=(x.1,AI x.1 k):=Ro rfl h3;rw[e,h.JY x.1 k h1 h2]at hy;exact h.FX _ _ h1 h2 y hy
def Bx.name(h:Bx AI nd rt d9)(j)(hj):d9[j].name=B1 (j/3,AI (j/3) (j%3)):=by let⟨h1,h2,_⟩:=h.rel j hj;exact Ro h1 h2
def Bx.find(h:Bx AI nd rt d9)(q k)(hq:q<5)(hk:k<3):∃r∈d9,r.name=B1 (q,AI q k)/\r.Bs=(nd q k).map B1:=by
 let hj:q*3+k<d9:=by rw[h.len];omega
 let e1:(q*3+k)/3=q:=A';let e2:(q*3+k)%3=k:=A';exact⟨d9[q*3+k],Ci hj,by rw[h.name _ hj,e1,e2],by rw[(h.rel _ hj).2.2,e1,e2]⟩
def Bx.of(h:Bx AI nd rt d9){r}(hr:r∈d9):∃q k,q<5/\k<3/\r.name=B1 (q,AI q k)/\r.Bs=(nd q k).map B1:=by obtain⟨j,hj,rfl⟩:=Mw.1 hr;have:=h.len;exact⟨j/3,j%3,A',A',h.name j hj,(h.rel j hj).2.2⟩
theorem Bx.VR(h:Bx AI nd rt d9):Lg d9:=by
 refine⟨?_,λr hr=>?_,by grind[h.len]⟩;.rw[Lc,Qc];intro i j hi hj hij e;rw[tg,tg]at e;let hl:=h.len;rw[Gf]at hi hj;rw[h.name i hi,h.name j hj]at e;let e2:=yJ ⟨by show i/3<5;omega,by have:=h.low (i/3) (i%3) A' A';show AI (i/3) (i%3)<30;omega⟩ ⟨by show j/3<5;omega,by have:=h.low (j/3) (j%3) A' A';show AI (j/3) (j%3)<30;omega⟩ e;let a:i/3=j/3:=congrArg Ya e2;have b:=congrArg bf e2;rw[a]at b;have:=h.inj (j/3) (i%3) (j%3) A' A' A' b;omega
 let⟨q,k,hq,hk,e,_⟩:=h.of hr;rw[e];let I:(B1 (q,AI q k)).1.size=3:=XO q;let h2:(B1 (q,AI q k)).2.size<=9:=dV _;exact⟨DQ,DQ⟩
theorem Bx.Ej(h:Bx AI nd rt d9)(q k)(hq:q<5)(hk:k<3):Ej d9 (B1 (q,AI q k))=(nd q k).map B1:=by let⟨r,hr,h1,h2⟩:=h.find q k hq hk;grind[dW,h.VR]
def Bx.reach(h:Bx AI nd rt d9)(m):N.Reach (Twin.Ej d9) (rt.map B1) m↔∃x,N.Reach (YtcfhleenecfghaaGreatDoor.JY AI nd) rt x/\m=B1 x:=by
 constructor;.intro hr;induction hr with|root hx=>obtain⟨x,hx2,rfl⟩:=Bt.1 hx;exact⟨x,.root hx2,rfl⟩|step _ hy I=>obtain⟨x,hx,rfl⟩:=I;let⟨h1,k,h2,h3⟩:=h.ok hx;let e:x=(x.1,AI x.1 k):=Ro rfl h3;rw[e,h.Ej x.1 k h1 h2]at hy;obtain⟨y,hy2,rfl⟩:=Bt.1 hy;exact⟨y,.step hx (by rwa[e,h.JY x.1 k h1 h2]),rfl⟩
 rintro⟨x,hx,rfl⟩;induction hx with|root hx=>exact .root (Bt.2 ⟨_,hx,rfl⟩)|@step x y hx hy I=>let⟨h1,k,h2,h3⟩:=h.ok hx;let e:x=(x.1,AI x.1 k):=Ro rfl h3;refine .step I ?_;rw[e,h.JY x.1 k h1 h2]at hy;rw[e,h.Ej x.1 k h1 h2];exact Bt.2 ⟨y,hy,rfl⟩
end
def a9a{x y}(U:x.1<5/\x.2<10)(h2:y.1<5/\y.2<10)(ho:F6 (B1 x) (B1 y)<=0)(hne:x≠y):N.Lex x y:=by
 unfold F6 B1 at ho;simp only[V.XN,V.Zq]at ho;let ha:∀a b:Fin 5,(a.val<b.val->Fx (V.Je a.val) (V.Je b.val)=-1)/\(b.val<a.val->Fx (V.Je a.val) (V.Je b.val)=1)/\(a.val=b.val->Fx (V.Je a.val) (V.Je b.val)=0):=Ac;let hb:∀a b:Fin 10,b.val<a.val->V.order (V.LO a.val) (V.LO b.val)=1:=Rw;rcases tu x.1 y.1 with h|h|h;.exact AA h
 .right;refine⟨h,?_⟩;rw[(ha ⟨x.1,U.1⟩ ⟨y.1,h2.1⟩).2.2 h,if_neg AD]at ho;rcases tu x.2 y.2 with I|I|I;.exact I
  .exact absurd (Ro h I) hne
  rw[hb ⟨x.2,U.2⟩ ⟨y.2,h2.2⟩ I]at ho;exact absurd ho Ac
 rw[(ha ⟨x.1,U.1⟩ ⟨y.1,h2.1⟩).2.1 h,if_pos Ac]at ho;exact absurd ho Ac
theorem aSE{x y}(I:x.1<5/\x.2<10)(h2:y.1<5/\y.2<10)(ho:F6 (B1 x) (B1 y)=0):x=y:=by
 by_cases h:x=y;.grind
 unfold F6 B1 at ho;let ha:∀a b:Fin 5,Fx (V.Je a.val) (V.Je b.val)=0->a.val=b.val:=Ac;let hb:∀a b:Fin 10,V.order (V.LO a.val) (V.LO b.val)=0->a.val=b.val:=Rw;split at ho;.grind
 rename_i h0;exact Ro (ha ⟨x.1,I.1⟩ ⟨y.1,h2.1⟩ (a_s.1 h0)) (hb ⟨x.2,I.2⟩ ⟨y.2,h2.2⟩ ho)
def dq(x y:BI):Bool:=BK (x.rel.p.toList=y.rel.p.toList)
theorem aCZ(x)(L):∀k,Cc (x::L) (k+1)=(if XF (x::L) 0 then[x]else[])++Cc L k
 |0=>by grind[Cc]
 |k+1=>by
  have hl:XF (x::L) (k+1)=XF L k:=by unfold XF;simp
  rw[Cc,aCZ x L k,Cc];simp only[te,hl];split
  .split;.rw[T1]
   rfl
  rfl
theorem aC_:∀L:List BI,Cc L L=N.Co dq L|[]=>rfl|[x]=>by rfl|x::y::l=>by rw[T3,aCZ,aC_ (y::l),N.Co];grind[XF,dq]
theorem a9y:∀(A)(X),names A=X.map B1->(∀x∈X,x.1<5)->names (N.Co dq A)=(N.Co N.E6 X).map B1
 |[],[],_,_=>rfl
 |[],_::_,h,_=>by cases h
 |_::_,[],h,_=>by cases h
 |[a],[x],h,_=>h
 |[a],x::y::X,h,_=>by grind[names]
 |a::b::A,[x],h,_=>by grind[names]
 |a::b::A,x::y::X,h,hx=>by
  have U:a.rel.name::b.rel.name::names A=B1 x::B1 y::X.map B1:=h;injection U with e1 e2;let I:=e2;injection e2 with e2 e3;let ih:=a9y (b::A) (y::X) I λz hz=>hx z (G1 _ hz);let hs:dq a b=N.E6 x y:=by
   unfold dq N.E6;let p1:a.rel.p=V.mp x.1:=congrArg Ya e1;let p2:b.rel.p=V.mp y.1:=congrArg Ya e2;rw[p1,p2];by_cases e:x.1=y.1;.rw[e];simp
   have:=λhh=>e (Zp (hx x AD) (hx y AD) ((gi ..).1 hh));rw[decide_eq_false this];simp[e]
  rw[N.Co,N.Co,hs];cases N.E6 x y;.show a.rel.name::names (N.Co dq (b::A))=B1 x::(N.Co N.E6 (y::X)).map B1;rw[ih,e1]
  grind
theorem Bx.aRD{AI:Nat->Nat->Nat}{nd:Nat->Nat->List (Nat×Nat)}{rt:List (Nat×Nat)}{d9:List Rel}(h:Bx AI nd rt d9)(A)(hord:He A)(hnd:(names A).Nodup)(hreach:∀x,x∈names A↔N.Reach (Twin.Ej d9) (rt.map B1) x):∃X:List (Nat×Nat),X.Pairwise N.Lex/\(∀x,x∈X↔N.Reach (YtcfhleenecfghaaGreatDoor.JY AI nd) rt x)/\names (Cc A A)=(N.Co N.E6 X).map B1:=by
 let U:∀B:List BI,(∀m∈names B,∃x,N.Reach (YtcfhleenecfghaaGreatDoor.JY AI nd) rt x/\m=B1 x)->∃X:List (Nat×Nat),names B=X.map B1/\∀x∈X,N.Reach (YtcfhleenecfghaaGreatDoor.JY AI nd) rt x:=by
  intro B;induction B with
  |nil=>exact λ_=>⟨[],rfl,λx hx=>BA⟩
  |cons b B ih=>
   intro hB;let⟨x,hx,e⟩:=hB b.rel.name (Le ..);let⟨X,h1,h2⟩:=ih λm hm=>hB m (G1 _ hm);refine⟨x::X,?_,λy hy=>?_⟩;.show b.rel.name::names B=B1 x::X.map B1;rw[e,h1]
   grind
 let⟨X,h1,h2⟩:=U A λm hm=>(h.reach m).1 ((hreach m).1 hm);let hb:∀x,N.Reach (YtcfhleenecfghaaGreatDoor.JY AI nd) rt x->x.1<5/\x.2<10:=λx hx=>by let⟨a,k,b,c⟩:=h.ok hx;exact⟨a,As c (h.low _ _ a b)⟩
 refine⟨X,?_,λx=>⟨h2 x,λhx=>?_⟩,?_⟩
 .let hp:(names A).Pairwise λa b=>F6 a b<=0:=by unfold names;rwa[I8]
  rw[h1,I8]at hp;rw[h1,Lc,I8]at hnd;refine(List.pairwise_and_iff.2 ⟨hp,hnd⟩).imp_of_mem ?_;intro x y hx hy⟨a,b⟩;exact a9a (hb x (h2 x hx)) (hb y (h2 y hy)) a λe=>b (by rw[e])
 .have:=(hreach (B1 x)).2 ((h.reach _).2 ⟨x,hx,rfl⟩);rw[h1]at this;let⟨y,hy,e⟩:=Bt.1 this;let I:=hb x hx;let b2:=hb y (h2 y hy);rwa[yJ ⟨b2.1,A'⟩ ⟨I.1,A'⟩ e]at hy
 rw[aC_];exact a9y A X h1 λx hx=>(hb x (h2 x hx)).1
end
section
open Go.RowKit
open Go.Proofs.YtcfhleenecfghaaGreatDoor.Twin(fstC sndC)
variable{w:A1}{a:Act}{Q:Exit->Act->A1->Prop}
noncomputable def inLoop:DK->DK|.block _ (ed c)=>c|c=>c
theorem aTB{g l}(h:∀j(_:j<l.length),w.cell? ⟨g,j*2,J⟩=Z (AB AJ (l[j].1:Int))/\w.cell? ⟨g,j*2+1,J⟩=Z (AB AJ (l[j].2:Int)))(j)(u)(hj:(GX l)[j]?=Z u):w.cell? ((⟨g,0,J⟩:An).add j)=Z u:=by
 let hlen:(GX l).length=l*2:=by clear hj h;induction l with|nil=>rfl|cons x xs N=>show(_::_::GX xs).length=_;simp;omega
 let I:j<l*2:=As hlen.symm (Po hj);rw[Ea];let hg:=aA' l (j/2) A';grind
theorem jV(l):(GX l).length=l*2:=by induction l with|nil=>rfl|cons x xs h=>show(_::_::GX xs).length=_;grind
theorem yO(a b):GX (a++b)=GX a++GX b:=by simp[GX]
theorem aDF{ops:Array B8}{rest:List B8}{o:B8}(U:o.guard=J)(s x)(ho:o.op=Em {callee:=Fw QR,args:=#[s,x],argTypes:=#[39,39]})(B)(v)(l)(hs:a.eval s=v)(hown:w.ownsRow B 45 2 v l.length (GX l))(N)(I)(hx:a.eval x=N)(r:Nl w N I)(hlen:l+I.length<=1000000)(hB:B<=w)(h:∀v' w',w'.ownsRow B 45 2 v' (l++I) (GX (l++I))->w.grownBy w' v.ownBlock->wpList A6 ops Q rest (a.put o.dst v') w'):wpList A6 ops Q (o::rest) a w:=by
 let⟨i0,hi,hz0,hz1,hz2⟩:=FJ a8E;rcases r with⟨rfl,rfl⟩|⟨g,c,rfl,hc⟩;.refine wpList_append_own_none U s x 39 ho B 45 i0 2 aFQ hi v l (GX l) hs hown hx ?_;have:=h v w (Ar YU) ⟨rfl,rfl,rfl,Ad _,λ_ _ _=>rfl⟩;grind
 refine IU _ U s x 39 ho B 45 i0 (AH #[AX 0,AX 0]) 2 16 aFQ hi hz0 hz1 hz2 rfl Ac v l (GX l) hs hown ⟨g,0,J⟩ I c (GX I) hx (jV I) (aTB hc) (λu hu=>?_) DQ A' hB ?_;.let⟨y,_,hy⟩:=YX.1 hu;simp at hy;rcases hy with rfl|rfl<;>rfl
 grind[DV,yO]
def a_i:a1E=OG 100 (Ag A9):=rfl
section
variable{w:A1}{aba bs fd B:Nat}{got:Nat->Int}{aaw Ju l:List (Nat×Nat)}{v:A3}{wr:A1}
end
structure OW(AI:Nat->Nat->Nat)(nd:Nat->Nat->List (Nat×Nat))(rt:List (Nat×Nat))(fk:Nat)(w:A1):Prop where
 QK:∀q k,q<5->k<3->w.cell? ⟨fk,q*3+k,J⟩=Z (AB AJ (AI q k:Int))/\AI q k<10
 inj:∀q j k,q<5->j<3->k<3->AI q j=AI q k->j=k
 Bs:∀q k,q<5->k<3->∃a n c,w.cell? ⟨fk,15+q*3+k,J⟩=Z (A0 a n c)/\Nl w (A0 a n c) (nd q k)
 root:∃a n c,w.cell? ⟨fk,30,J⟩=Z (A0 a n c)/\Nl w (A0 a n c) rt
noncomputable def a3c:DK:=(a13.body).getD M4
noncomputable def uU:DK:=inLoop (fstC (sndC (sndC (sndC a3c))))
structure GV(w:A1)(q n:Nat)(Ju l:List (Nat×Nat))(v:A3)(wr:A1):Prop where
 below:AO w w wr
 box:wr.heap[w.heap.size]?=Z (A7 #[(q:Int),(n:Int)] 45)
 qG:∃C,wr.heap[w.heap.size+1]?=Z (A7 C 67)/\C.size=100/\∀p x,p<5->x<20->C[p*20+x]?=Z (Ag (BK ((p,x)∈Ju)))
 todo:wr.ownsRow (w+2) 45 2 v l (GX l)
section
variable{w:A1}{q n:Nat}{Ju l:List (Nat×Nat)}{v:A3}{wr:A1}
theorem GV.size(h:GV w q n Ju l v wr):w.heap.size+1<wr:=by let⟨C,h1,_⟩:=h.qG;grind
def GV.keep{w':A1}(h:GV w q n Ju l v wr)(hb:AO w w w')(hs:∀b,b<w.heap.size+2->w'.heap[b]?=wr.heap[b]?){l':List (Nat×Nat)}{v':A3}(ht:w'.ownsRow (w+2) 45 2 v' l' (GX l')):GV w q n Ju l' v' w':=by let⟨C,h1,h2,h3⟩:=h.qG;exact⟨hb,(hs _ A').trans h.box,⟨C,(hs _ A').trans h1,h2,h3⟩,ht⟩
def GV.drewN(h:GV w q n Ju l v wr)(k):GV w q n Ju l v (wr.drewN k):=h.keep (KP h.below k) (λ_ _=>rfl) h.todo
def GV.alloc(h:GV w q n Ju l v wr)(o):GV w q n Ju l v (wr.alloc o):=h.keep (h.below.alloc h.below.size o) (λb hb=>BU _ _ _ (BO h.size)) (h.todo.alloc o)
def GV.later{w':A1}(h:GV w q n Ju l v wr)(hb:AO wr wr w'):GV w q n Ju l v w':=h.keep (h.below.trans (hb.mono h.below.size)) (λb hk=>hb.block b (BO h.size)) (VA h.todo hb)
def GV.grown{w':A1}(h:GV w q n Ju l v wr)(hg:wr.grownBy w' v.ownBlock){l':List (Nat×Nat)}{v':A3}(ht:w'.ownsRow (w+2) 45 2 v' l' (GX l')):GV w q n Ju l' v' w':=by refine h.keep (h.below.grown hg h.below.size λk hk=>BO ((h.todo.lt k hk).1)) (λb hb=>?_) ht;refine hg.block b (BO h.size) λe=>?_;have:=(h.todo.lt b e.symm).1;omega
theorem GV.pop{x:Nat×Nat}{r:Option An}{k z:Nat}(h:GV w q n Ju (l++[x]) (A0 r k z) wr):k=l+1/\GV w q n Ju l (A0 r l z) wr/\∃g,r=Z ⟨g,0,J⟩/\l+1<=z/\wr.cell? ⟨g,l*2,J⟩=Z (AB AJ (x.1:Int))/\wr.cell? ⟨g,l*2+1,J⟩=Z (AB AJ (x.2:Int)):=by
 let hl:(l++[x]).length=l+1:=AD;let ht:=h.todo;rcases ht.2 with⟨_,h0⟩|⟨g,cap,cur,e,I,h2,h3,h4,h5,h6⟩;.grind
 injection e with e1 e2 e3;subst e1 e2 e3;rw[hl]at h3 h6;let hc:∀(o:Nat)(u:A3),(GX [x])[o]?=u->Cf wr g (l*2+o) u:=λo u hu=>by refine Lx ht (l*2+o) u ?_;rwa[yO,List.getElem?_append_right (by rw[jV];omega),jV,Nat.add_sub_cancel_left]
 refine⟨hl,h.keep h.below (λ_ _=>rfl) ⟨jV l,AF ⟨g,_,cur,rfl,I,h2,A',h4,h5,?_⟩⟩,g,rfl,A',hc 0 _ rfl,hc 1 _ rfl⟩;let h7:cur.toList.take (l*2)=(cur.toList.take ((l+1)*2)).take (l*2):=by rw[List.take_take,a2i A']
 rw[h7,h6,yO,<-jV l,List.take_left]
theorem GV.aC'(h:GV w q n Ju l v wr){x:Nat×Nat}(h1:x.1<5)(h2:x.2<20):GV w q n (Ju++[x]) l v (wr.setCell ⟨w+1,x.1*20+x.2,J⟩ (Ag A5)):=by
 let⟨C,c1,c2,c3⟩:=h.qG;let hne:∀b,b≠w.heap.size+1->JE b (wr.setCell ⟨w.heap.size+1,x.1*20+x.2,J⟩ (Ag A5)) wr:=λb hb=>DC _ _ _ _ hb;refine⟨h.below.setCell BA _,(hne _ A').trans h.box,⟨_,CO wr (AR w+1) _ _ _ _ c1,BA,λp y hp hy=>?_⟩,?_⟩;.grind
 let⟨a,y⟩:=h.todo;refine⟨a,y.imp (λz=>z) ?_⟩;rintro⟨g,cap,cur,I,N,U,d4⟩;exact⟨g,cap,cur,I,N,(hne _ A').trans U,d4⟩
theorem GV.cells(h:GV w q n Ju l v wr){p y:Nat}(hp:p<5)(hy:y<20):wr.cell? ⟨w+1,p*20+y,J⟩=Z (Ag (BK ((p,y)∈Ju)))/\wr.frozen? ⟨w+1,p*20+y,J⟩=A9/\wr.cell? ⟨w,0,J⟩=Z (AB AJ (q:Int))/\wr.cell? ⟨w,1,J⟩=Z (AB AJ (n:Int)):=by let⟨C,c1,c2,c3⟩:=h.qG;refine⟨?_,C' c1 _,Af (A_ h.box),Af (A_ h.box)⟩;rw[A_ c1];grind
theorem GV.val(h:GV w q n Ju l v wr):∃I N,v=A0 I l N:=by
 rcases h.todo.2 with⟨rfl,h0⟩|⟨g,cap,cur,rfl,_⟩;.exact⟨J,0,by rw[h0]⟩
 grind
end
def yY(E:Act->A1->Prop):Exit->Act->A1->Prop|.ret,a,w=>E a w|_,_,_=>False
def aRL{P c E}(n)(h:a0G P c (yY E) n a w)(k:∀a w,E a w->Q .ret a w):(ed c).wp P Q a w:=wp_mono (wp_loop_rounds n h) λe a w h=>by match e,h with|.ret,h=>exact k a w h|.exit _,h=>exact h.elim|Vq,h=>trivial
def aWI(AI:Nat->Nat->Nat)(nd:Nat->Nat->List (Nat×Nat))(rt:List (Nat×Nat))(F:Nat×Nat->List (Nat×Nat))(fk q k0:Nat)(w:A1)(hK:OW AI nd rt fk w)(hF:∀q k,q<5->k<3->F (q,AI q k)=nd q k)(hlen:∀q k,q<5->k<3->(nd q k).length<=5)(hq:q<5)(F4:AI q k0<10)(v1:∀x,N.Reach F [(q,AI q k0)] x->x.1<5/\∃k,k<3/\x.2=AI x.1 k)(hab:∃y,N.Reach F [(q,AI q k0)] y/\y.1=q/\AI q k0<y.2):∀(n:Nat)(x1 x2 x7 F1 I1 HT HU G7 HV HW a'E a'F a'G a'H a'I a'J a'K a'L a'M a'N a'O a'P a'Q a'R a'S a'T a'U a'V a'W a'X a'Y a'Z a'_ a'a a'b a'c a'd a'e a'f a'g a'h a'i a'j a'k a'l a'm a'n a'o a'p:A3)(S l:List (Nat×Nat))(v:A3)(wr:A1),GV w q (AI q k0) S l v wr->QX F [(q,AI q k0)] S l->(∀x∈S,¬(x.1=q/\AI q k0<x.2))->6*(15-S)+l<n->n<=1000->a0G A6 uU (yY λa w'=>a.defers=[]/\a.tmps[4]?=Z (Ag A5)/\AO w w w') n ⟨#[B2 (Z ⟨fk,0,J⟩),x1,x2,B2 (Z ⟨w,0,J⟩),Ag A9,B2 (Z ⟨w+1,0,J⟩),v,x7,F1,I1,HT,HU,G7,HV,HW,a'E,a'F,a'G,a'H,a'I,a'J,a'K,a'L,a'M,a'N,a'O,a'P,a'Q,a'R,a'S,a'T,a'U,a'V,a'W,a'X,a'Y,a'Z,a'_,a'a,a'b,a'c,a'd,a'e,a'f,a'g,a'h,a'i,a'j,a'k,a'l,a'm,a'n,a'o,a'p],[]⟩ wr:=by
 have Ew:=A2 hK;have v5:=A2 hF;have Re:=A2 hlen;have Sv:=A2 v1;have a1n:=A2 hab;clear hK hF hlen v1 hab;generalize XC:AI q k0=FW at F4 Sv a1n⊢;clear XC;intro n;induction n with
 |zero=>intro x1 x2 x7 F1 I1 HT HU G7 HV HW a'E a'F a'G a'H a'I a'J a'K a'L a'M a'N a'O a'P a'Q a'R a'S a'T a'U a'V a'W a'X a'Y a'Z a'_ a'a a'b a'c a'd a'e a'f a'g a'h a'i a'j a'k a'l a'm a'n a'o a'p S l v wr _ _ _ h _;omega
 |succ n ih=>
  have fu:=A2 ih;clear ih;intro x1 x2 x7 F1 I1 HT HU G7 HV HW a'E a'F a'G a'H a'I a'J a'K a'L a'M a'N a'O a'P a'Q a'R a'S a'T a'U a'V a'W a'X a'Y a'Z a'_ a'a a'b a'c a'd a'e a'f a'g a'h a'i a'j a'k a'l a'm a'n a'o a'p S l v wr hw hg Qu hn acX;rw[rounds_succ];generalize hR:a0G A6 uU (yY λa w'=>a.defers=[]/\a.tmps[4]?=Z (Ag A5)/\AO w w w') n=R at fu⊢;clear hR;simp only[uU,a3c,a13,MJ,fstC,sndC,inLoop];induction l using aXn with
  |none=>obtain⟨y,hy1,hy2,aPk⟩:=a1n.o;exact absurd ⟨hy2,aPk⟩ (Qu y ((hg.done y).2 hy1))
  |more l x _=>
   obtain⟨DJ,C3,rfl⟩:=hw.val;obtain⟨hl,y6,g,rfl,ad3,c0,c1⟩:=hw.pop;obtain⟨I,k,H,xd⟩:=Sv.o x (hg.todo x AD);obtain⟨p,y⟩:=x;simp only at I xd c0 c1;have hy:y<20:=BO ((Ew.o.QK p k I H).2);rw[hl]at hn⊢;have mU:=A2 xd;clear xd;have Qt:l.length<1000:=A';have Bh:=A2 y6;have IW:=A2 hg;have mL:=A2 Qu;clear hw y6 hg Qu;have e1:l.length+1-1=l:=A';have e2:0<l.length+1:=A';have e3:l.length<l+1:=A';have e4:l<=C3:=A';have i1:p<5:=A';have i2:y<20:=A';clear hl;have Ww:w.heap.size+1<wr:=Bh.o.size;have a6H:w.heap.size<wr:=A';have ir:w.heap.size≠wr:=A';obtain⟨_,_,E3,u⟩:=Bh.o.cells I hy;rcases(A':p=q/\FW<y∨p=q/\¬FW<y∨p≠q)with⟨rfl,oR⟩|⟨rfl,oR⟩|a7P;.have oR:FW<y:=A';have eq:=A2 (Bh.o.below.alloc Bh.o.below.size (A7 #[p,y] 45));go_wp2;exact⟨rfl,rfl,eq.o⟩
   .have acg:¬FW<y:=A';have tM:AE (∀z:Nat×Nat,z=(p,y)->¬(z.1=p/\FW<z.2)):=A2 λz hz h=>by subst hz;exact oR h.2
    clear oR;go_wp2_with fail;have X:=A2 (Bh.o.alloc (A7 #[p,y] 45));have IH:=CS wr (A7 #[p,y] 45) wr rfl;clear Bh c0 c1 E3 u;generalize wr.alloc (A7 #[p,y] 45)=W at X IH⊢;generalize wr.heap.size=r at IH Ww a6H ir⊢;have Ch:=A2 IH;clear IH;have p4:W.cell? ⟨r,0,J⟩=Z p:=Af (A_ Ch.o);have d1:W.cell? ⟨r,1,J⟩=Z y:=Af (A_ Ch.o);obtain⟨G5,EY,E3,u⟩:=X.o.cells I hy;clear E3 u;by_cases hs:(p,y)∈S;.rw[decide_eq_true hs]at G5;go_quiet(fail);go_wp2;exact fu.o _ _ _ _ _ _ _ _ _ _ _ _ _ _ _ _ _ _ _ _ _ _ _ _ _ _ _ _ _ _ _ _ _ _ _ _ _ _ _ _ _ _ _ _ _ _ _ _ _ S l _ _ (X.o.drewN nq) (IW.o.skip hs) mL.o A' A'
    rw[decide_eq_false hs]at G5;go_quiet(fail);have OU:=A2 (X.o.drewN nq);have PV:AE ((W.drewN nq).heap[r]?=_):=A2 Ch.o;clear p4 d1 G5 EY X Ch;generalize W.drewN nq=MN at OU PV⊢;have p4:MN.cell? ⟨r,0,J⟩=Z p:=Af (A_ PV.o);have d1:MN.cell? ⟨r,1,J⟩=Z y:=Af (A_ PV.o);obtain⟨G5,EY,E3,u⟩:=OU.o.cells I hy;clear E3 u;have ZN:w+1≠r:=A';have i1:(0:Int)<=(p:Int):=A';have i2:(p:Int)<5:=A';have aPn:(0:Int)<=(y:Int):=A';have aPo:(y:Int)<20:=A';go_wp2_with fail;go_region_held2 λd0=>d0.cell? ⟨r,0,J⟩=Z (p:Int)/\d0.cell? ⟨r,1,J⟩=Z (y:Int)(go_keep)(fail);have li:S.length+1<=15:=by
     have h1:=IW.o.more hs;have h2:=N.Tn (U:=(Lf 15).map λi=>(i/3,AI (i/3) (i%3))) h1.nodup λz hz=>by obtain⟨a1,k1,a2,a3⟩:=Sv.o z (h1.seen z hz);refine Bt.2 ⟨z.1*3+k1,Pb.2 A',?_⟩;have u:(z.1*3+k1)/3=z.1:=A';have b2:(z.1*3+k1)%3=k1:=A';rw[u,b2,<-a3]
     simpa using h2
    have Kv:=A2 li;have K:=A2 ((OU.o.aC' (x:=(p,y)) I hy).drewN 1);have YI:AE ((MN.setCell ⟨w+1,p*20+y,J⟩ (Ag A5)).drew.heap[r]?=Z (A7 #[(p:Int),(y:Int)] 45)):=A2 ((DC _ _ _ _ λe=>ZN e.symm).trans PV.o);clear p4 d1 G5 EY OU PV li;have K:AE (GV w _ FW (S++[(p,y)]) l (A0 (Z ⟨g,0,J⟩) l C3) (MN.setCell ⟨w+1,p*20+y,J⟩ (Ag A5)).drew):=K;generalize(MN.setCell ⟨w+1,p*20+y,J⟩ (Ag A5)).drew=JV at K YI⊢;have p4:JV.cell? ⟨r,0,J⟩=Z (p:Int):=Af (A_ YI.o);have d1:JV.cell? ⟨r,1,J⟩=Z (y:Int):=Af (A_ YI.o);obtain⟨na,G4,nc,hnd,EM⟩:=Ew.o.Bs p k I H;have Yu:=aAI AI fk p k na G4 nc JV I H (λj hj=>keep K.o.below (Ew.o.QK p j I hj).1) (λj hj e=>BO (Ew.o.inj p j k I A' H e)) (keep K.o.below hnd);rw[<-mU.o]at Yu;have sr:=A2 Yu;have GC:=A2 EM;clear Yu EM hnd;go_wp2_with(first|(go_at_call 29;refine sr.o.mono ?_;rintro e Bd⟨rfl,EG⟩;have UI:=A2 (K.o.later EG);clear EG)|(at_builtin;refine aDF rfl _ _ rfl (w+2) (A0 (Z ⟨g,0,J⟩) l C3) l rfl UI.o.todo (A0 na G4 nc) (nd p k) rfl (GC.o.later UI.o.below) (BO (Re.o p k I H)) (BO UI.o.size) ?_;intro aL EC TZ iR;have tX:=A2 (UI.o.grown iR TZ);clear TZ iR));have vw:F (p,y)=nd p k:=As mU.o (v5.o p k I H);have hgo:=IW.o.more hs;rw[vw]at hgo;exact fu.o _ _ _ _ _ _ _ _ _ _ _ _ _ _ _ _ _ _ _ _ _ _ _ _ _ _ _ _ _ _ _ _ _ _ _ _ _ _ _ _ _ _ _ _ _ _ _ _ _ (S++[(p,y)]) (l++nd p k) aL EC tX.o hgo (λz hz=>(E8.1 hz).elim (mL.o z) λhz=>tM.o z (ES.1 hz)) (by have:=Re.o p k I H;have:=Kv.o;simp only[DV,T3,aHc];omega) A'
   have acj:¬(p:Int)=(q:Int):=A';have tM:AE (∀z:Nat×Nat,z=(p,y)->¬(z.1=q/\FW<z.2)):=A2 λz hz h=>by subst hz;exact a7P h.1
   clear a7P;go_wp2_with fail;have X:=A2 (Bh.o.alloc (A7 #[AB AJ (p:Int),(y:Int)] 45));have IH:=CS wr (A7 #[(p:Int),(y:Int)] 45) wr rfl;clear Bh c0 c1 E3 u;generalize wr.alloc (A7 #[(p:Int),(y:Int)] 45)=W at X IH⊢;generalize wr.heap.size=r at IH Ww a6H ir⊢;have Ch:=A2 IH;clear IH;have p4:W.cell? ⟨r,0,J⟩=Z (p:Int):=Af (A_ Ch.o);have d1:W.cell? ⟨r,1,J⟩=Z (y:Int):=Af (A_ Ch.o);obtain⟨G5,EY,E3,u⟩:=X.o.cells I hy;clear E3 u;by_cases hs:(p,y)∈S;.rw[decide_eq_true hs]at G5;go_quiet(fail);go_wp2;exact fu.o _ _ _ _ _ _ _ _ _ _ _ _ _ _ _ _ _ _ _ _ _ _ _ _ _ _ _ _ _ _ _ _ _ _ _ _ _ _ _ _ _ _ _ _ _ _ _ _ _ S l _ _ (X.o.drewN nq) (IW.o.skip hs) mL.o A' A'
   rw[decide_eq_false hs]at G5;go_quiet(fail);have OU:=A2 (X.o.drewN nq);have PV:AE ((W.drewN nq).heap[r]?=_):=A2 Ch.o;clear p4 d1 G5 EY X Ch;generalize W.drewN nq=MN at OU PV⊢;have p4:MN.cell? ⟨r,0,J⟩=Z (p:Int):=Af (A_ PV.o);have d1:MN.cell? ⟨r,1,J⟩=Z (y:Int):=Af (A_ PV.o);obtain⟨G5,EY,E3,u⟩:=OU.o.cells I hy;clear E3 u;have ZN:w+1≠r:=A';have i1:(0:Int)<=(p:Int):=A';have i2:(p:Int)<5:=A';have aPn:(0:Int)<=(y:Int):=A';have aPo:(y:Int)<20:=A';go_wp2_with fail;go_region_held2 λd0=>d0.cell? ⟨r,0,J⟩=Z (p:Int)/\d0.cell? ⟨r,1,J⟩=Z (y:Int)(go_keep)(fail);have li:S.length+1<=15:=by
    have h1:=IW.o.more hs;have h2:=N.Tn (U:=(Lf 15).map λi=>(i/3,AI (i/3) (i%3))) h1.nodup λz hz=>by obtain⟨a1,k1,a2,a3⟩:=Sv.o z (h1.seen z hz);refine Bt.2 ⟨z.1*3+k1,Pb.2 A',?_⟩;have u:(z.1*3+k1)/3=z.1:=A';have b2:(z.1*3+k1)%3=k1:=A';rw[u,b2,<-a3]
    simpa using h2
   have Kv:=A2 li;have K:=A2 ((OU.o.aC' (x:=(p,y)) I hy).drewN 1);have YI:AE ((MN.setCell ⟨w+1,p*20+y,J⟩ (Ag A5)).drew.heap[r]?=Z (A7 #[(p:Int),(y:Int)] 45)):=A2 ((DC _ _ _ _ λe=>ZN e.symm).trans PV.o);clear p4 d1 G5 EY OU PV li;have K:AE (GV w _ FW (S++[(p,y)]) l (A0 (Z ⟨g,0,J⟩) l C3) (MN.setCell ⟨w+1,p*20+y,J⟩ (Ag A5)).drew):=K;generalize(MN.setCell ⟨w+1,p*20+y,J⟩ (Ag A5)).drew=JV at K YI⊢;have p4:JV.cell? ⟨r,0,J⟩=Z (p:Int):=Af (A_ YI.o);have d1:JV.cell? ⟨r,1,J⟩=Z (y:Int):=Af (A_ YI.o);obtain⟨na,G4,nc,hnd,EM⟩:=Ew.o.Bs p k I H;have Yu:=aAI AI fk p k na G4 nc JV I H (λj hj=>keep K.o.below (Ew.o.QK p j I hj).1) (λj hj e=>BO (Ew.o.inj p j k I A' H e)) (keep K.o.below hnd);rw[<-mU.o]at Yu;have sr:=A2 Yu;have GC:=A2 EM;clear Yu EM hnd;go_wp2_with(first|(go_at_call 29;refine sr.o.mono ?_;rintro e Bd⟨rfl,EG⟩;have UI:=A2 (K.o.later EG);clear EG)|(at_builtin;refine aDF rfl _ _ rfl (w+2) (A0 (Z ⟨g,0,J⟩) l C3) l rfl UI.o.todo (A0 na G4 nc) (nd p k) rfl (GC.o.later UI.o.below) (BO (Re.o p k I H)) (BO UI.o.size) ?_;intro aL EC TZ iR;have tX:=A2 (UI.o.grown iR TZ);clear TZ iR));have vw:F (p,y)=nd p k:=As mU.o (v5.o p k I H);have hgo:=IW.o.more hs;rw[vw]at hgo;exact fu.o _ _ _ _ _ _ _ _ _ _ _ _ _ _ _ _ _ _ _ _ _ _ _ _ _ _ _ _ _ _ _ _ _ _ _ _ _ _ _ _ _ _ _ _ _ _ _ _ _ (S++[(p,y)]) (l++nd p k) aL EC tX.o hgo (λz hz=>(E8.1 hz).elim (mL.o z) λhz=>tM.o z (ES.1 hz)) (by have:=Re.o p k I H;have:=Kv.o;simp only[DV,T3,aHc];omega) A'
def aIl(AI:Nat->Nat->Nat)(nd:Nat->Nat->List (Nat×Nat))(rt:List (Nat×Nat))(F:Nat×Nat->List (Nat×Nat))(fk q k0:Nat)(w:A1)(hK:OW AI nd rt fk w)(hF:∀q k,q<5->k<3->F (q,AI q k)=nd q k)(hlen:∀q k,q<5->k<3->(nd q k).length<=5)(hq:q<5)(U:k0<3)(h:∀x,N.Reach F [(q,AI q k0)] x->x.1<5/\∃k,k<3/\x.2=AI x.1 k)(hab:∃y,N.Reach F [(q,AI q k0)] y/\y.1=q/\AI q k0<y.2):Ab A6 38 #[B2 (Z ⟨fk,0,J⟩),AH #[(q:Int),(AI q k0:Int)]] w λe w'=>e=AV (Ag A5)/\AO w w w':=by
 have I:=A2 (aWI AI nd rt F fk q k0 w hK hF hlen hq (hK.QK q k0 hq U).2 h hab);clear hK hF hlen h hab;go_enter Tryz.func38,Tryz.ntmps38;go_wp2_with fail;let hw:GV w q (AI q k0) [] [(q,AI q k0)] (BG (AR w+2) 0 1 1) (((w.alloc (A7 #[AB AJ q,AB AJ (AI q k0)] 45)).alloc (A7 a1E 67)).alloc (A7 #[AB AJ q,AB AJ (AI q k0)] 45)):=by refine⟨R3 w (A7 #[AB AJ q,AB AJ (AI q k0)] 45) (A7 a1E 67) (A7 #[AB AJ q,AB AJ (AI q k0)] 45),Zg ..,⟨_,Zh ..,rfl,λp x hp hx=>?_⟩,rfl,AF ⟨_,1,_,rfl,Ad _,Zi ..,Ad _,Ac,rfl,rfl⟩⟩;rw[a_i,Array.getElem?_replicate,if_pos A'];rfl
 refine aRL 200 (I 200 _ _ _ _ _ _ _ _ _ _ _ _ _ _ _ _ _ _ _ _ _ _ _ _ _ _ _ _ _ _ _ _ _ _ _ _ _ _ _ _ _ _ _ _ _ _ _ _ _ [] [(q,AI q k0)] _ _ hw (QX.start F _) (λx hx=>by cases hx) AD A') λa w'⟨h1,h2,h3⟩=>?_;simp only[Sg,Exit.then];refine IT ?_ h1 ⟨rfl,h3⟩;unfold D5;rw[show a13.results=#[.tmp 4]by kernel_rfl];simp[h2]
end
section
open Go.RowKit
open Go.Proofs.YtcfhleenecfghaaGreatDoor.Twin
structure Mx(AI:Nat->Nat->Nat)(nd:Nat->Nat->List (Nat×Nat))(rt:List (Nat×Nat)):Prop where
 low:∀q k,q<5->k<3->AI q k<10
 inj:∀q j k,q<5->j<3->k<3->AI q j=AI q k->j=k
 FX:∀q k,q<5->k<3->∀x∈nd q k,x.1<5/\∃j,j<3/\x.2=AI x.1 j
 root:∀x∈rt,x.1<5/\∃j,j<3/\x.2=AI x.1 j
 Bs:∀q k,q<5->k<3->V.Qe (nd q k)/\(nd q k).length<=5
 roots:V.Qe rt/\rt.length<=5
theorem a5F{C p l}{AI:Nat->Nat->Nat}(h:PH C p l)(hv:∀q k,q<5->k<3->C[q*3+k]?=Z (AB AJ (AI q k:Int))):∀x∈l,x.1<5/\∃j,j<3/\x.2=AI x.1 j:=λx hx=>by let⟨h1,_,_,k,h2,h3⟩:=h.1 x hx;grind
theorem aRy{w B fk C rt}(h:WI w B fk C rt):∃AI nd,Mx AI nd rt/\OW AI nd rt fk w:=by
 let⟨h1,h2,h3,v,h30,hfr,hown⟩:=h;let hc:∀o,w.cell? ⟨fk,o,J⟩=C[o]?:=λo=>by rw[A_ h1]
 let a1:∀q k:Nat,∃n:Nat,q<5->k<3->C[q*3+k]?=Z (AX n)/\n<10:=λq k=>by
  by_cases hq:q<5/\k<3;.let⟨n,e,_,l⟩:=h2.AI q k hq.1 hq.2;exact⟨n,λ_ _=>⟨e,A'⟩⟩
  grind
 let⟨AI,hver⟩:=r7.1 λq=>r7.1 (a1 q);let a2:∀q k:Nat,∃l:List (Nat×Nat),q<5->k<3->PH C q l/\∃u,C[15+q*3+k]?=Z u/\w.ownsRow B 45 2 u l (GX l):=λq k=>by
  by_cases hq:q<5/\k<3;.let⟨u,l,e,f,o⟩:=h3 q k hq.1 hq.2;exact⟨l,λ_ _=>⟨f,u,e,o.1⟩⟩
  exact⟨[],λa b=>absurd ⟨a,b⟩ hq⟩
 let⟨nd,hnd⟩:=r7.1 λq=>r7.1 (a2 q);let U:∀{u:A3}{n:Nat}{xs:List A3},w.ownsRow B 45 2 u n xs->∃a m c,u=A0 a m c:=λho=>by
  rcases ho.2 with⟨e,_⟩|⟨g,cp,cur,e,_⟩;.exact⟨_,_,_,e⟩
  exact⟨_,_,_,e⟩
 let N:∀q j k,q<5->j<3->k<3->j<k->AI q j<AI q k:=by intro q j k hq hj hk z;have hs:=λi hi=>BO (h2.aJ q i _ _ hq hi (hver q i hq A').1 (hver q (i+1) hq A').1);let G5:=hs 0 A';let r:=hs 1 A';let e1:0+1=1:=rfl;let e2:1+1=2:=rfl;rw[e1]at G5;rw[e2]at r;have:j=0/\k=1∨j=0/\k=2∨j=1/\k=2:=A';rcases this with⟨rfl,rfl⟩|⟨rfl,rfl⟩|⟨rfl,rfl⟩<;>omega
 let I:∀q j k,q<5->j<3->k<3->AI q j=AI q k->j=k:=λq j k hq hj hk e=>by
  rcases tu j k with h|h|h;.have:=N q j k hq hj hk h;omega
  .exact h
  have:=N q k j hq hk hj h;omega
 refine⟨AI,nd,⟨λq k hq hk=>(hver q k hq hk).2,I,λq k hq hk=>a5F (hnd q k hq hk).1 λq k a b=>(hver q k a b).1,a5F hfr λq k a b=>(hver q k a b).1,λq k hq hk=>a5E (hnd q k hq hk).1,a5E hfr⟩,⟨λq k hq hk=>⟨(hc _).trans (hver q k hq hk).1,(hver q k hq hk).2⟩,I,λq k hq hk=>?_,?_⟩⟩;.let⟨_,u,e,o⟩:=hnd q k hq hk;obtain⟨a,m,c,rfl⟩:=U o;exact⟨a,m,c,(hc _).trans e,aA0 o⟩
 obtain⟨a,m,c,rfl⟩:=U hown.1;exact⟨a,m,c,(hc _).trans h30,aA0 hown.1⟩
structure Yd(AI:Nat->Nat->Nat)(nd:Nat->Nat->List (Nat×Nat))(B:Nat)(v:A3)(w:A1)(L:List Rel):Prop where
 len:L.length=15
 rel:∀j(h:j<L.length),gP AI nd B w (j/3) (j%3) L[j]
 own:w.ownsRow B 75 4 v 15 (Mi L)
 spare:GH Xd w 4 v 15
section
variable{AI:Nat->Nat->Nat}{nd:Nat->Nat->List (Nat×Nat)}{rt:List (Nat×Nat)}{B:Nat}{w w':A1}{v:A3}{L:List Rel}
def MK.plain{AU:A1}(h:MK AI nd AU 15 v w L):Yd AI nd AU v w L:=⟨h.len,h.rel,h.own,h.spare⟩
theorem Yd.heap(h:Yd AI nd B v w L)(e:w'.heap=w.heap):Yd AI nd B v w' L:=by refine⟨h.len,λj hj=>(h.rel j hj).same λb c q _=>by rw[e],?_,h.spare.same λg cap _=>by rw[e]⟩;have:=h.own;simp_all[World.ownsRow,this,e]
theorem OW.same{fk}(h:OW AI nd rt fk w)(e:∀b,b<w.heap.size->w'.heap[b]?=w.heap[b]?):OW AI nd rt fk w':=by
 let hc:∀{b o:Nat}{u:A3},Cf w b o u->Cf w' b o u:=λ{b o u}hu=>(C8 (e b (Cn (h:=hu)))).trans hu;let hn:∀{u:A3}{l:List (Nat×Nat)},Nl w u l->Nl w' u l:=λ{u l}hu=>by
  rcases hu with hu|⟨g,c,I,h2⟩;.exact AA hu
  exact AF ⟨g,c,I,λj hj=>⟨hc (h2 j hj).1,hc (h2 j hj).2⟩⟩
 refine⟨λq k hq hk=>⟨hc (h.QK q k hq hk).1,(h.QK q k hq hk).2⟩,h.inj,λq k hq hk=>?_,?_⟩;.let⟨a,n,c,I,h2⟩:=h.Bs q k hq hk;grind
 let⟨a,n,c,I,h2⟩:=h.root;grind
end
def RR(w:A1):Prop:=∀b,b<CX->∃cs t,w.heap[b]?=Z (A7 cs t (0,0))/\∀(j:Nat)(u:A3),cs[j]?=u->∃k n,u=AB k n
def z7(a9:Nat)(L:List Rel)(b:Nat):Prop:=b<CX∨b=a9∨∃r∈L,∃a,r.fa=Z a/\b=a.block
noncomputable def qO(N4:AW->zz)(r:Rel):zz:=⟨(V.dy r.p r.v r.m Qn (N4 r.name)).toArray⟩
structure a2z(AI:Nat->Nat->Nat)(nd:Nat->Nat->List (Nat×Nat))(w:A1)(q k:Nat)(r:Rel)(d:zz):Prop where
 path:r.p=V.mp q
 version:r.v=V.CY (AI q k)
 Bs:r.Bs=(nd q k).map B1
 GL:V.GL r.m
 lines:Kh (V.parse r.m).1=Gr (V.mp q) ((nd q k).map B1)
 a9p:r.m.size<=200
 aKm:d.size<=20
 file:∃b,r.fa=Z ⟨b,0,J⟩/\r.Am=1/\w.heap[b]?=Z (A7 #[Qn,d] 77)
structure UQ(AI:Nat->Nat->Nat)(nd:Nat->Nat->List (Nat×Nat))(w:A1)(a9:Nat)(L:List Rel)(N4:AW->zz):Prop where
 len:L.length=15
 rel:∀j(h:j<L.length),a2z AI nd w (j/3) (j%3) L[j] (N4 L[j].name)
 reg:Ix w a9 L
 row:∃cur,w.heap[a9]?=Z (A7 cur 75 (0,0))/\∀(j:Nat)(u:A3),60<=j->cur[j]?=u->Xd u
theorem VY{F:zy}{E:AZ}{c:zw}(h:∀(j:Nat)(u:A3),c[j]?=u->AK F E u u):Al F E c.toList c.toList:=Al.of rfl λi x y e I=>by grind
def aWF:V.path V.FY=A5:=Ac
def a9n(q):V.mp q≠V.FY:=λh=>by have:=congrArg a_r h;rw[XO]at this;trivial
def a9l(h)(hnm:h.size<=60)(l)(hl:l.length<=5):(GQ h l).size<=182:=by rw[<-aAe];exact aAf h hnm l _ hl
theorem aSG(x):D6 (B1 x):=by let h:(B1 x).1.size=3:=XO x.1;let h2:(B1 x).2.size<=9:=dV _;exact⟨by grind[BZ],by grind[BZ]⟩
section
variable{AI:Nat->Nat->Nat}{nd:Nat->Nat->List (Nat×Nat)}{rt:List (Nat×Nat)}{w:A1}{L:List Rel}{a9:Nat}{N4:AW->zz}
def UQ.law(h:UQ AI nd w a9 L N4)(hM:Mx AI nd rt):Bx AI nd rt L:=⟨h.len,λj hj=>⟨(h.rel j hj).path,(h.rel j hj).version,(h.rel j hj).Bs⟩,hM.low,hM.inj,hM.FX,hM.root⟩
def UQ.of(h:UQ AI nd w a9 L N4){r}(hr:r∈L):∃q k,q<5/\k<3/\a2z AI nd w q k r (N4 r.name):=by obtain⟨j,hj,rfl⟩:=Mw.1 hr;have:=h.len;exact⟨j/3,j%3,A',A',h.rel j hj⟩
theorem Yd.aZL{B cap}(hM:Mx AI nd rt)(h:Yd AI nd B (A0 (Z ⟨a9,0,J⟩) 15 cap) w L):UQ AI nd w a9 L bf:=by
 have hl:=h.len;obtain⟨g,I,cur,e,hb1,hb2,U,r,z,hb6⟩:∃g I cur,BG a9 0 15 cap=BG g 0 15 I/\B<=g/\Fl w g (A7 cur 75 (0,0))/\15<=I/\I<=BZ/\cur=I*4/\cur.toList.take (15*4)=Mi L:=by
  rcases h.own.2 with⟨e,_⟩|x;.cases e
  simp_all
 injection e with e1 _ e2;injection e1 with e1;injection e1 with e1;subst e1 e2;have N:∀(j:Nat)(u:A3),(Mi L)[j]?=u->Cf w a9 j u:=λj u hu=>by have hj:=Po hu;rw[<-hb6]at hu hj;rw[UK]at hj;rw[a2a A']at hu;grind[A_]
 refine⟨hl,λj hj=>?_,λi hi=>⟨N _ _ (jv L i hi 0 _ Ac rfl),N _ _ (jv L i hi 1 _ Ac rfl),N _ _ (jv L i hi 2 _ Ac rfl),N _ _ (jv L i hi 3 _ Ac rfl)⟩,cur,hb2,λj u hj hu=>h.spare _ _ cur 75 (0,0) rfl hb2 j u A' hu⟩;have hr:=h.rel j hj;let⟨n1,n2⟩:=hM.Bs (j/3) (j%3) A' A';have hp:V.path (V.mp (j/3))=A5:=by rw[V.XN];exact V.yM A'
 let⟨g1,g2⟩:=a9k hp n1;refine⟨hr.path,hr.version,hr.Bs,Ar hr.yC,Ar hr.yC,?_,?_,?_⟩;.rw[hr.yC];have:=a9l (V.mp (j/3)) (by rw[XO];omega) (nd (j/3) (j%3)) n2;omega
 .show L[j].v.size<=20;rw[hr.version];have:=dV (AI (j/3) (j%3));omega
 let⟨b,f1,f2,f3,f4⟩:=hr.file;exact⟨b,f1,f2,f4⟩
theorem aR9{Wb R m cap}(hM:Mx AI nd rt)(h:UQ AI nd w a9 L N4)(hg:RR w)(hm:w.cell? ⟨0,0,J⟩=Z (AB AJ m))(NC:w.cell? ⟨5,15,J⟩=Z (AB .u8 4))(F:CC Wb R w)(hv:AK CK (C7 R) (A0 (Z ⟨a9,0,J⟩) 15 cap) (A0 (Z ⟨a9,0,J⟩) 15 cap)):Rn w R (z7 a9 L) (GQ V.FY rt) V.FY (rt.map B1) a9 L m (qO N4):=by
 let hl:=h.len;let N:=h.law hM;let U:=a9k aWF hM.roots.1;let⟨cur,hb2,hsp⟩:=h.row;let K:∀(j:Nat)(u:A3),Cf w a9 j u->cur[j]?=u:=λj u hu=>by grind[A_]
 have W:=AK.V5 hv;let H:∀r∈L,∀a,r.fa=Z a->R a.block:=λr hr a ha=>by obtain⟨j,hj,rfl⟩:=Mw.1 hr;let⟨o,ho,hor⟩:=F.closed.heap a9 W;rw[hb2]at ho;obtain rfl:=CP ho;cases hor with|cells _ Me _=>let h4:=Al.nth (j*4+3) Me (Ai (K (j*4+3) _ (h.reg j hj).2.2.2));rw[ha]at h4;let⟨b,o,s⟩:=a;exact AK.V5 h4
 let ZW:∀b,z7 a9 L b->R b:=λb hb=>by
  rcases hb with hb|rfl|⟨r,hr,a,ha,rfl⟩;.exact F.closed.Ca b hb
  .exact W
  exact H r hr a ha
 refine⟨U.1,U.2,BO (a9l V.FY Ac rt hM.roots.2),⟨N.VR,λr hr=>?_,λr hr=>?_,A',λr hr=>?_,λr hr y hy=>?_,λy hy=>?_,by rw[Gf];have:=hM.roots.2;omega⟩,λx hx=>?_,λr hr=>?_,λr hr=>?_,λi hi=>?_,ZW,⟨λb hb=>?_,λb hb=>AA hb,F.closed.low⟩,AF (AA rfl),λr hr a ha=>AF (AF ⟨r,hr,a,ha,rfl⟩),hm,NC,λr hr=>?_,λr hr=>?_,λa ha b hb e=>?_⟩;.let⟨q,k,hq,hk,hr⟩:=h.of hr;let⟨n1,n2⟩:=hM.Bs q k hq hk;refine⟨hr.GL,by rw[hr.path,hr.Bs];exact hr.lines,BO hr.a9p,λy hy=>?_,by rw[hr.Bs,Gf];omega⟩;rw[hr.Bs]at hy;obtain⟨x,_,rfl⟩:=Bt.1 hy;exact⟨a9n x.1,aSG x⟩
 .let⟨q,k,hq,hk,hr⟩:=h.of hr;rw[hr.version];have:=dV (AI q k);omega
 .let⟨q,k,hq,hk,hr⟩:=h.of hr;rw[hr.Bs,Gf];have:=(hM.Bs q k hq hk).2;omega
 .let⟨q,k,hq,hk,hr⟩:=h.of hr;rw[hr.Bs]at hy;obtain⟨x,hx,rfl⟩:=Bt.1 hy;let⟨a,j,b,c⟩:=hM.FX q k hq hk x hx;let⟨r2,I,h2,_⟩:=N.find x.1 j a b;exact⟨r2,I,by rw[h2,<-c]⟩
 .obtain⟨x,hx,rfl⟩:=Bt.1 hy;let⟨a,j,b,c⟩:=hM.root x hx;let⟨r2,I,h2,_⟩:=N.find x.1 j a b;exact⟨r2,I,by rw[h2,<-c]⟩
 .obtain⟨y,hy,rfl⟩:=Bt.1 hx;exact a9n y.1
 .let⟨q,k,hq,hk,hr⟩:=h.of hr;rw[hr.path,hr.version];have:=hM.low q k hq hk;unfold V.IF V.MP V.TM;rw[V.XN,V.Zq,V.yM hq,V.a9s A'];rfl
 .let⟨q,k,hq,hk,hr⟩:=h.of hr;rw[hr.path,XO];omega
 .exact h.reg i hi
 .rcases hb with hb|rfl|⟨r,hr,a,ha,rfl⟩;.let⟨cs,t,I,h2⟩:=hg b hb;refine⟨_,I,.cells t (VY λj u hu=>?_) (NT.refl _),λc v4 p e=>by cases e;rfl⟩;obtain⟨k,n,rfl⟩:=h2 j u hu;exact .int k n
  .refine⟨_,hb2,.cells 75 (VY λj u hu=>?_) (NT.refl _),λc v4 p e=>by cases e;rfl⟩;by_cases hj:j<60
   .let X:j/4<L:=A';have ej:=A';let⟨k0,k1,k2,F5⟩:=h.reg (j/4) X;let hx:j%4=0∨j%4=1∨j%4=2∨j%4=3:=A';let z:∀{o:Nat}{x:A3},j=o->Cf w b o x->u=x:=λ{o x}e I=>by let h2:=K _ _ I;rw[<-e,hu]at h2;exact CP h2
    rcases hx with hx|hx|hx|hx;.rw[z A' k0];exact .string _
    .rw[z A' k1];exact .string _
    .rw[z A' k2];exact .string _
    rw[z A' F5];cases SA:L[j/4].fa with|none=>exact .FZ ..|some a=>exact .slice _ _ ⟨⟨rfl,AF (AF ⟨_,Ci X,a,SA,rfl⟩)⟩,rfl,rfl⟩
   rcases hsp j u A' hu with⟨s,rfl⟩|rfl;.exact .string s
   exact .FZ ..
  let⟨q,k,hq,hk,hr⟩:=h.of hr;let⟨b,f1,f2,f4⟩:=hr.file;rw[f1]at ha;obtain rfl:=CP ha;refine⟨_,f4,.cells 77 (VY λj u hu=>?_) (NT.refl _),λc v4 p e=>by cases e;rfl⟩;match j,hu with|0,hu=>cases hu;exact .string _|1,hu=>cases hu;exact .string _|j+2,hu=>simp at hu
 .let⟨q,k,hq,hk,hr⟩:=h.of hr;let⟨b,f1,f2,f4⟩:=hr.file;refine⟨b,Qn,N4 r.name,f1,f2,Af (A_ f4),Af (A_ f4),⟨?_,?_,?_,Ac,?_⟩,by simp[qO]⟩;.rw[hr.path,XO];omega
  .rw[hr.version];have:=dV (AI q k);omega
  .have:=hr.a9p;omega
  have:=hr.aKm;omega
 .have:(qO N4 r).size=V.dy r.p r.v r.m Qn (N4 r.name):=by show(V.dy r.p r.v r.m Qn (N4 r.name)).toArray.size=_;simp
  rw[this];unfold V.dy V.kD;rw[V.a6a];simp
 let⟨q,k,hq,hk,I,_⟩:=N.of ha;let⟨q',k',hq',hk',h2,_⟩:=N.of hb;rw[I,h2]at e⊢;rw[aSE ⟨hq,hM.low q k hq hk⟩ ⟨hq',hM.low q' k' hq' hk'⟩ e]
end
noncomputable def xq(t:BL):Bool:=A6.buildable t&&match A6.cellTypes A6.depth t with
 |Z ts=>ts.all λu=>match A6.underlying u with
  |Z (.int _)=>A5
  |_=>A9
 |J=>A9
noncomputable def Wi(g:Nat):Bool:=match(begin A6 (λ_ _=>0) default).world.heap[g]?.bind aEs with|Z (_,t)=>xq t|J=>A9
def aMJ:(Wi 0&&Wi 1&&Wi 2&&Wi 3&&Wi 4&&Wi 5)=A5:=A8
def aMK(g)(h:g<CX):Wi g=A5:=by have:=aMJ;simp only[Bool.and_eq_true]at this;obtain⟨⟨⟨⟨⟨h0,I⟩,h2⟩,h3⟩,h4⟩,h5⟩:=this;unfold CX at h;match g,h with|0,_=>exact h0|1,_=>exact I|2,_=>exact h2|3,_=>exact h3|4,_=>exact h4|5,_=>exact h5
def aQ9{d:Option TypeDesc}(h:(match d with|Z (.int _)=>A5|_=>A9)=A5):∃k,d=Z (.int k):=by
 split at h;.exact⟨_,rfl⟩
 cases h
def aJj{w b u v k}(hu:A6.underlying u=Z (.int k))(h:aDp A6 w fJ b u v):∃k n,v=AB k n:=by unfold aDp at h;rw[hu]at h;cases v<;>first|exact⟨_,_,rfl⟩|exact h.elim
def aMM{w}(h:w.ShapedOpen A6):RR w:=by intro g hg;let hb:=aMK g hg;unfold Wi at hb;let hG:A6.globals.size=6:=A8;cases e:(begin A6 (λ_ _=>0) default).world.heap[g]?.bind aEs with|none=>rw[e]at hb;cases hb|some N=>obtain⟨I,t⟩:=N;rw[e]at hb;let hb:xq t=A5:=hb;obtain⟨cs,U,_,h3⟩:=h.1 g I t (As hG hg) e;unfold xq at hb;obtain⟨hb1,hb2⟩:=Bool.and_eq_true_iff.1 hb;obtain⟨ts,ht,_,hc⟩:=h3 hb1;rw[ht]at hb2;refine⟨cs,t,U,λj u hu=>?_⟩;obtain⟨ty,r,z⟩:=hc j u hu;have:=Ha.1 hb2 ty (Jq r);obtain⟨k,e2⟩:=aQ9 this;exact aJj e2 z
end
section
open Go.RowKit
open Go.Proofs.YtcfhleenecfghaaGreatDoor
open Go.Conc Go.RowKit
def oz(k:Int)(p n:zz)(v:A3)(w:A1)(h:HK 0 w v (Z (k,0,p,n))):Ab A6 32 #[DD 96 v] w λe w'=>e=AV (Aj #[k,A4 p,A4 n])/\AO w w w':=by
 obtain⟨b,_,rfl,hb⟩:=h;have h0:w.cell? ⟨b,0,J⟩=Z k:=Af (A_ hb);have h2:w.cell? ⟨b,2,J⟩=Z (A4 p):=Af (A_ hb);have h3:w.cell? ⟨b,3,J⟩=Z (A4 n):=Af (A_ hb);have I:∀(v:A3)(w:A1),(Instr.typeAssert (DD 96 v) 24 96 A5).run A6 w=.ok (Aj #[v,Ag A5]) w:=by intro v w;kernel_rfl
 clear hb;go_enter Tryz.func32,Tryz.ntmps32;go_wp2_with fail;go_quiet(fail);go_wp2_with fail;(try simp);exact IT (results_tmp3 rfl ..) rfl ⟨rfl,rfl,rfl,rfl,Ad _,λ_ _=>rfl⟩
namespace Twin
section
variable{AI:Nat->Nat->Nat}{nd:Nat->Nat->List (Nat×Nat)}{rt:List (Nat×Nat)}{AU w:A1}{L:List Rel}{a9 cap:Nat}{N4:AW->zz}{Gi gc:zy}
def aW0(h:UQ AI nd AU a9 L N4)(N:CC Gi gc AU)(hv:AK CK (C7 gc) (A0 (Z ⟨a9,0,J⟩) 15 cap) (A0 (Z ⟨a9,0,J⟩) 15 cap))(e:∀b,gc b->w.heap[b]?=AU.heap[b]?):UQ AI nd w a9 L N4:=by
 have I:=AK.V5 hv;let hc:=λo=>C8 (a:=⟨a9,o,J⟩) (e a9 I);let⟨cur,hb2,hsp⟩:=h.row;refine⟨h.len,λj hj=>?_,λi hi=>?_,cur,(e a9 I).trans hb2,hsp⟩
 .let⟨a1,a2,a3,a4,a5,a6,a7,b,f1,f2,f3⟩:=h.rel j hj;refine⟨a1,a2,a3,a4,a5,a6,a7,b,f1,f2,(e b ?_).trans f3⟩;let⟨o,ho,hor⟩:=N.closed.heap a9 I;rw[hb2]at ho;obtain rfl:=CP ho;cases hor with
  |cells _ U _=>
   have h3:=by have:=(h.reg j hj).2.2.2;rwa[A_ hb2]at this
   let h4:=Al.nth (j*4+3) U (Ai h3);rw[f1]at h4;exact AK.V5 h4
 let⟨a,b,c,d⟩:=h.reg i hi;exact⟨(hc _).trans a,(hc _).trans b,(hc _).trans c,(hc _).trans d⟩
def a5N(hg:RR AU)(h:CC Gi gc AU)(e:∀b,gc b->w.heap[b]?=AU.heap[b]?):RR w:=λb hb=>by let⟨cs,t,h1,h2⟩:=hg b hb;exact⟨cs,t,(e b (h.closed.Ca b hb)).trans h1,h2⟩
def ni{b o v}(hb:b<CX)(h:AU.cell? ⟨b,o,J⟩=Z v)(I:CC Gi gc AU)(e:∀b,gc b->w.heap[b]?=AU.heap[b]?):w.cell? ⟨b,o,J⟩=Z v:=(C8 (e b (I.closed.Ca b hb))).trans h
end
end Twin
end
end Go.Proofs.YtcfhleenecfghaaGreatDoor
namespace Go.Proofs.YtcfhleenecfghaaGreatDoor.Twin
section
open Go.Proofs.YtcfhleenecfghaaGreatDoor
open Go.Conc Go.RowKit
open Go.ConcR(Payload)
variable{w w':A1}{v:A3}{g:AY}{C:zw}{B:Nat}
theorem aVk{n:Nat}(h:Oc w w v n)(hs:w.heap.size<=w')(e:∀b,b<w.heap.size->w'.heap[b]?=w.heap[b]?):Oc w' w' v n:=by
 obtain⟨D9,c,rfl,h⟩:=h;refine⟨D9,c,rfl,?_⟩;by_cases h0:n=0;.grind
 rcases h with h|⟨N,I,U,h2,h3⟩;.grind
 let hlt:N<w:=by let⟨x,hx,_⟩:=h3 0 A';exact Cn (h:=hx)
 refine AF ⟨N,I,U,A',λj hj=>?_⟩;let⟨x,hx,hr⟩:=h3 j hj;exact⟨x,(C8 (e N hlt)).trans hx,hr⟩
def OW.aPy{AI nd rt fk Wb R}{t:Nat}(h:OW AI nd rt fk w)(U:CC Wb R w)(N:R fk)(hC:w.heap[fk]?=Z (A7 C t (0,0)))(e:∀b,R b->w'.heap[b]?=w.heap[b]?):OW AI nd rt fk w':=by
 let hv:∀(o:Nat)(u:A3),w.cell? ⟨fk,o,J⟩=Z u->AK CK (C7 R) u u:=λo u hu=>by let⟨ob,I,h2⟩:=U.closed.heap fk N;rw[hC]at I;obtain rfl:=CP I;rw[A_ hC]at hu;cases h2 with|cells _ r _=>exact Al.nth o r BA
 let hc:∀{b o:Nat}{u:A3},R b->Cf w b o u->Cf w' b o u:=λ{b o u}hb hu=>(C8 (e b hb)).trans hu;let hn:∀{o:Nat}{u:A3}{l:List (Nat×Nat)},Cf w fk o u->Nl w u l->Nl w' u l:=λ{o u l}ho hu=>by
  rcases hu with hu|⟨g,c,I,h2⟩;.exact AA hu
  have hg:=by have:=hv o u ho;rw[I]at this;exact AK.V5 this
  exact AF ⟨g,c,I,λj hj=>⟨hc hg (h2 j hj).1,hc hg (h2 j hj).2⟩⟩
 refine⟨λq k hq hk=>⟨hc N (h.QK q k hq hk).1,(h.QK q k hq hk).2⟩,h.inj,λq k hq hk=>?_,?_⟩;.let⟨a,n,c,I,h2⟩:=h.Bs q k hq hk;exact⟨a,n,c,hc N I,hn I h2⟩
 let⟨a,n,c,I,h2⟩:=h.root;exact⟨a,n,c,hc N I,hn I h2⟩
section
variable[Bg]
end
def IV(g:AY)(w:A1)(Post:AY->A1->Prop):Prop:=∀(t:Trace)(q:Nat->Nat),Cx A6 (λ_=>False) #[g] w t q g->∃(N:Nat)(h:AY)(w':A1)(v4:Trace),EE A6 N (Df g w) t=(.next (Df h w'),v4)/\Cx A6 (λ_=>False) #[h] w' v4 q h/\Post h w'
def IV.here{Post}(h:Post g w):IV g w Post:=λt _ hc=>⟨0,g,w,t,rfl,hc,h⟩
def IV.bind{Post r}(h:IV g w Post)(k:∀I w',Post I w'->IV I w' r):IV g w r:=by intro t q hc;let⟨N,g1,w1,t1,r1,c1,p1⟩:=h t q hc;let⟨N2,g2,w2,t2,r2,c2,p2⟩:=k g1 w1 p1 t1 q c1;exact⟨N+N2,g2,w2,t2,Tp r1 r2,c2,p2⟩
def IV.step{g' es Post}(hs:g.status=.running)(h:B9 A6 A5 g w=.go g' w' es)(hm:E' w w' #[] es)(k:IV g' w' Post):IV g w Post:=by intro t q hc;let⟨e1,c1⟩:=kA hs h hm hc;let⟨N2,g2,w2,t2,r2,c2,p2⟩:=k _ q c1;exact⟨N2+1,g2,w2,t2,by rwa[EE,e1],c2,p2⟩
def IV.ctl{g' Post}(hs:g.status=.running)(h:∀w,B9 A6 A5 g w=.go g' w #[])(k:IV g' w Post):IV g w Post:=.step hs (h w) (E'.refl w #[]) k
def Cy.solo{Stop a}(h:Cy A6 (λ_=>False) Stop a w):IV a w Stop:=by induction h with|stop h=>rename_i g w;exact .here (h w.drawn)|go I hs h _ U=>rename_i g w _;intro t q hc;let⟨N,h2⟩:=h w.drawn;let N:B9 A6 A5 g w=.go (I w.drawn).g (I w.drawn).w (I w.drawn).es:=N;let hc':=(Cx.own hc (a':=(I w.drawn).g) (AF trivial) h2 g.frame.fn g.frame.place).2;let e:(#[g].map (woken A6 g (I w.drawn).g (I w.drawn).w)).setIfInBounds 0 (I w.drawn).g=#[(I w.drawn).g]:=AD;rw[e]at hc';let⟨N2,g2,w2,t2,r2,c2,p2⟩:=U w.drawn _ q hc';refine⟨N2+1,g2,w2,t2,?_,c2,p2⟩;rwa[EE,(stepT_solo hs).trans (runT_solo_go N)]
def zq(f:Nat):Bool:=f==19||f==50||f==49||f==15
def a8W:mW A6 zq:=by
 intro f hf;unfold zq at hf;simp at hf;rcases hf with((rfl|rfl)|rfl)|rfl;.exact⟨aFD,(aFD.body).getD M4,Tryz.func19,rfl,rfl,rfl⟩
 .exact⟨aFI,(aFI.body).getD M4,Tryz.func50,rfl,rfl,rfl⟩
 .exact⟨aFH,(aFH.body).getD M4,Tryz.func49,rfl,rfl,rfl⟩
 exact⟨aFC,(aFC.body).getD M4,aFJ,rfl,rfl,rfl⟩
def aVt:(A6.funcs.all λf=>(f.body.map readies).all (·.isEmpty))=A5:=A8
theorem aYL(g):A6.stepOf g=J:=by unfold aaE;rw[Array.findIdx?_eq_none_iff];intro f hf;let h:=Array.all_eq_true'.1 aVt f hf;cases hb:f.body with|none=>rfl|some c=>grind
def IV.small{f args c' cs'}{Q:A3->A1->Prop}(hf:zq f=A5)(h:Ab A6 f args w λe I=>∃v,e=AV v/\Q v I):IV (G (Fa A6 f args EI) (c'::cs')) w λg' w'=>∃v,g'=G (c'.finish v) cs'/\Q v w':=by intro t q hc;obtain⟨e,I,U,⟨v,rfl,hq⟩,⟨N,hN⟩,W,hm,hd,hk,u,H,K⟩:=h [bot];let⟨t1,r1,c1⟩:=aZ0 aYL a8W N (l:=[]) (N3.enter a8W hf args) (AA rfl) (λc hc=>BA) hN hm hc;let z:=(a9E (P:=A6) u U.tmps).runs I #[];let hrun:=X_ (P:=A6) (D5 u U.tmps) I #[];rw[K]at hrun;cases F:(D5 u U.tmps).runT A6 I #[]with|mk r es=>rw[F]at hrun z;cases hrun;let hst:B9 A6 A5 (G U (c'::cs')) I=.go (G (c'.finish v) cs') I (seen A6 U.fn es):=As (SX rfl hm) (SZ hd hm hk H F);let⟨e1,c2⟩:=kA rfl hst ((z).seen _) c1;refine⟨N+1,_,I,_,Tp r1 ?_,c2,v,rfl,hq⟩;rw[EE,e1];rfl
def aML(hg:RR w):Closed CK (λb=>CX<=b/\b<w) (λb=>b<CX) w:=by refine⟨λb hb=>?_,λb hb x=>WK _ (Nat.lt_of_lt_of_le hb x.1),λb hb=>hb⟩;let⟨cs,t,h1,h2⟩:=hg b hb;refine⟨_,h1,.cells t (Al.XR λv hv=>?_) (NT.refl _)⟩;let⟨j,hj⟩:=tj.1 hv;obtain⟨k,n,rfl⟩:=h2 j v BA;exact .int k n
noncomputable def Mg:Nat->DK|0=>(QV.body).getD M4|n+1=>sndC (Mg n)
theorem IV.BM{r f n D cs w Post}:∀(K){s},IV (G (Fr r f (Ax n (D2 n D K s).1) (D2 n D K s).2) cs) w Post->IV (G (Fr r f (Ax n s.1) s.2) cs) w Post
 |0,_,h=>h
 |K+1,s,h=>by
  unfold D2 at h;split at h;.rename_i hs;exact .ctl rfl (λ_=>qL hs) (IV.BM K h)
  grind
def aSt(n c)(D9)(p h m)(w)(hn:n<=4611686018427387904)(F:Oc w w (A0 D9 n c) n)(hg:RR w)(hm:w.cell? ⟨0,0,J⟩=Z (AB AJ m)):IV (G (Fa A6 10 #[A0 D9 n c,AB AJ p,AB AJ h] EI) []) w λg' I=>∃(k:Nat)(C:zw)(rt:List (Nat×Nat))(v:Nat->A3),g'=G (Fr (J,[]) 10 (Ax 215 v) [Aw (Mg 4)]) []/\(v 8=AT (k+1)/\v 1=p/\v 2=h)/\(∀R:zy,R (k+1)->Cb 215 [0,35] R v)/\WI I (k+2) (k+1) C rt/\w<=k/\I.os=w.os/\I.output=w.output/\k<=I/\∀b,b<w.heap.size->I.heap[b]?=w.heap[b]?:=by
 rw[vM 215 (rfl)];let H:∀R,Cb 215 [0,35] R (Ep 10 #[A0 D9 n c,AX p,AX h]).1:=λR j _ hd=>by match j,hd with|1,_=>exact .int ..|2,_=>exact .int ..|j+3,_=>exact AK.undef
 refine IV.BM (D:=[0,35]) 99 ?_;let c1:Lj 215 (D2 215 [0,35] 99 (Ep 10 #[A0 D9 n c,AX p,AX h]))=Z (13,#[],32):=A8;let z:=c6 (f:=10) (cs:=[]) c1 (rfl);refine .ctl rfl z.1 ?_;let N:CK 13:=TG _ (rfl);obtain⟨K,r⟩:∃c,aFB.body=Z c:=⟨(aFB.body).getD M4,rfl⟩;let hb:=Og kC (λ_=>trivial) (c':=Fr (J,[]) 10 (Ax 215 (D2 215 [0,35] 99 (Ep 10 #[A0 D9 n c,AX p,AX h])).1) (D2 215 [0,35] 99 (Ep 10 #[A0 D9 n c,AX p,AX h])).2) (cs':=[]) (Q:=λv w1=>v=Ag A5/\w.heap.size<=w1/\∀b,b<AR w->w1.heap[b]?=w.heap[b]?) a16 r (jI 13 _ _ (AA N) a16 r).1 (jI 13 _ _ (AA N) a16 r).2 (λt ht=>?_) .nil (aML hg) (λb hb=>hb.2) λT0=>?_;rotate_left;.cases ht
 .refine(aJG m (on w T0) hm).mono ?_;rintro e u⟨rfl,hb⟩;exact⟨_,rfl,rfl,hb.size,λb W=>hb.block b W⟩
 refine((hb.keep).wide λ_ x=>x.elim).solo.bind ?_;rintro g2 w2⟨⟨ip,v',w1,rfl,_,⟨rfl,z1,U⟩,_,e2,_,_,_⟩,hk⟩;rw[<-e2]at z1 U;rw[z.2];refine IV.BM (D:=[0,35]) 99 ?_;let c2:Lj 215 (D2 215 [0,35] 99 (EB (D2 215 [0,35] 99 (Ep 10 #[A0 D9 n c,AX p,AX h])) 32 (Ag A5)))=Z (19,#[A0 D9 n c],36):=A8;let s2:=c6 (f:=10) (cs:=[]) c2 (rfl);refine .ctl rfl s2.1 ?_;refine(IV.small (Q:=λv w'=>∃C rt,v=AT (AR w2+1)/\WI w' (AR w2+2) (AR w2+1) C rt/\AO w2 w2 w') (rfl) ?_).bind ?_;.refine(aRw n c D9 w2 hn (aVk F z1 U)).mono ?_;rintro e u⟨C,rt,rfl,h1,h2⟩;exact⟨_,rfl,C,rt,rfl,h1,h2⟩
 rintro g4 I⟨v',rfl,C,rt,rfl,X,hbl⟩;rw[s2.2];exact IV.BM 2 (.here ⟨w2,C,rt,_,by rw[show(D2 215 [0,35] 2 _).2=[Aw (Mg 4)]by kernel_rfl],⟨rfl,rfl,rfl⟩,λR hR=>Cb.D2 2 ((Cb.D2 99 ((Cb.D2 99 (H R)).upd λ_=>.bool _)).upd λ_=>.ptr ⟨⟨rfl,hR⟩,rfl,rfl⟩),X,z1,hbl.os.trans hk.os,hbl.output.trans hk.output,hbl.size,λb hb=>(hbl.block b A').trans (U b hb)⟩)
def Jt(fk:Nat)(C:zw)(b:Nat):Prop:=b<CX∨b=fk∨∃(i m c:Nat),C[i]?=Z (A0 (Z ⟨b,0,J⟩) m c)
def a8H{R cs t}(h:∀(j:Nat)(u:A3),cs[j]?=Z u->∃k n,u=AB k n):Ff CK (C7 R) (A7 cs t (0,0)) (A7 cs t (0,0)):=by refine .cells t (Al.XR λv hv=>?_) (NT.refl _);let⟨j,hj⟩:=tj.1 hv;obtain⟨k,n,rfl⟩:=h j v BA;exact .int k n
theorem aTp{l:List (Nat×Nat)}(h:Kz w B v l):v=A0 J 0 0∨∃g cap cur,v=A0 (Z ⟨g,0,J⟩) l cap/\w.heap[g]?=Z (A7 cur 45 (0,0))/\∀(j:Nat)(u),cur[j]?=Z u->∃k n,u=AB k n:=by
 rcases h.1.2 with⟨I,_⟩|⟨g,cap,cur,I,h2,h3,_,_,h4,h5⟩;.grind
 refine AF ⟨g,cap,cur,I,h3,λj u hu=>?_⟩;by_cases hj:j<l*2
 .let h6:(GX l)[j]?=Z u:=by rw[<-h5,List.getElem?_take,if_pos hj];simpa using hu
  let h7:=Jq h6;grind[GX]
 exact h.2 g cap cur 45 (0,0) I h3 j u A' hu
theorem aRx{fk:Nat}{rt:List (Nat×Nat)}(h:WI w B fk C rt)(hg:RR w):Closed CK (λb=>b<w/\¬Jt fk C b) (Jt fk C) w:=by
 let⟨h1,h2,h3,v,h4,_,h5⟩:=h;let hC:∀(i:Nat)(u:A3),C[i]?=Z u->(∃k n,u=AB k n)∨u=A0 J 0 0∨∃g m cap cur,u=BG g 0 m cap/\Fl w g (A7 cur 45 (0,0))/\∀(j:Nat)(u:A3),cur[j]?=Z u->∃k n,u=AB k n:=by
  intro i u hu;have hi:=by have:=B3 hu;rwa[h2.size]at this
  by_cases U:i<15;.let⟨x,hx,_⟩:=h2.AI (i/3) (i%3) A' A';grind
  let N:∃l,Kz w B u l:=by
   by_cases I:i=30;.subst I;rw[hu]at h4;obtain rfl:=CP h4;exact⟨_,h5⟩
   let⟨u',l,e,_,ho⟩:=h3 ((i-15)/3) ((i-15)%3) A' A';rw[show 15+(i-15)/3*3+(i-15)%3=i by omega,hu]at e;obtain rfl:=CP e;exact⟨l,ho⟩
  let⟨l,ho⟩:=N;rcases aTp ho with h6|⟨g,cap,cur,h6,h7,h8⟩;.exact AF (AA h6)
  grind
 refine⟨λb hb=>?_,λb hb x=>x.2 hb,λb hb=>AA hb⟩;rcases hb with hb|rfl|⟨i,m,c,hi⟩;.let⟨cs,t,h6,h7⟩:=hg b hb;exact⟨_,h6,a8H h7⟩
 .refine⟨_,h1,.cells 43 (Al.XR λu hu=>?_) (NT.refl _)⟩;let⟨i,hi⟩:=tj.1 hu;have hi:=Ai hi;rcases hC i u hi with⟨k,n,rfl⟩|rfl|⟨g,m,cap,cur,rfl,_⟩;.exact .int k n
  .exact .FZ 0 0
  exact .slice m cap ⟨⟨rfl,AF (AF ⟨i,m,cap,hi⟩)⟩,rfl,rfl⟩
 rcases hC i _ hi with⟨k,n,e⟩|e|⟨g,m',cap,cur,e,h6,h7⟩;.cases e
 .cases e
 injection e with e _ _;injection e with e;injection e with e _ _;subst e;exact⟨_,h6,a8H h7⟩
end
section
open Go.Proofs.YtcfhleenecfghaaGreatDoor
open Go.RowKit
variable{w:A1}{m:AW}{E L:List (List Nat)}{A:List BI}{M:List Int}{eb fk j k:Nat}{e:Nat×Nat}
def FO{P:Program}{ops:Array Oper}{Q:Exit->Act->World->Prop}{r:Region.Mode}{S:World->Prop}(i:Nat){u:Oper}{v:Value}{fuel:Nat}{listed:Array Bool}{a:Act}{w:World}{q:Prop}(g:q)(U:S w:=by assumption)(hi:ops[i]?=u:=by rfl)(hs:Region.noSelect ops=true:=by kernel_rfl)(hf:Region.free r ops listed i=true:=by kernel_rfl)(hr:(Region.ready r ops listed).contains i=true:=by kernel_rfl)(I:∀c a w,Q (.panic c) (a.put u.dst v) w->Q (.panic c) a w:=by exact λ_ _ _ h=>h)(hy:YieldsIf P ops S u v a:=by(refine Or.inl ⟨by rfl,?_⟩;intro wz hSw;(try obtain⟨s0,s1,s2,s3,s4⟩:=hSw);(try obtain⟨s0,s1,s2,s3⟩:=hSw);(try dsimp only at hSw);go_simp;try with_reducible rfl))(e:q->wpAnyH P r ops Q S fuel (listed.setIfInBounds i true) (a.put u.dst v) w:=by(intro hq;(try simp only[Act.put,List.setIfInBounds_toArray,List.set_cons_zero,List.set_cons_succ]);exact hq)):wpAnyH P r ops Q S (fuel+1) listed a w:=wpAnyH_take hi hs hf hr I hy U (e g)
def Qb(x0 x1 x2 x3 x4 x5 x6 x7 r u h I N U z:A3)(g:Nat->A3):zw:=#[x0,x1,x2,x3,x4,x5,x6,x7,r,u,h,I,N,U,z,g 15,g 16,g 17,g 18,g 19,g 20,g 21,g 22,g 23,g 24,g 25,g 26,g 27,g 28,g 29,g 30,g 31,g 32,g 33,g 34,g 35,g 36,g 37,g 38,g 39,g 40,g 41,g 42,g 43,g 44,g 45,g 46,g 47,g 48,g 49,g 50,g 51,g 52,g 53,g 54,g 55,g 56,g 57,g 58,g 59,g 60,g 61]
def k_(x0 x1 x2 x3 x4 x5 x6 x7 r u h I N U z:A3)(T:zw):Prop:=∃g,T=Qb x0 x1 x2 x3 x4 x5 x6 x7 r u h I N U z g
def aH7{T}(h:T.size=62):∃f,T=Qb (f 0) (f 1) (f 2) (f 3) (f 4) (f 5) (f 6) (f 7) (f 8) (f 9) (f 10) (f 11) (f 12) (f 13) (f 14) f:=by
 have e:∀f,(Qb (f 0) (f 1) (f 2) (f 3) (f 4) (f 5) (f 6) (f 7) (f 8) (f 9) (f 10) (f 11) (f 12) (f 13) (f 14) f).toList=(Lf 62).map f:=λf=>A8;refine⟨λi=>T.getD i AN,Array.toList_inj.1 (aDg ?_ (e λi=>T.getD i AN).symm)⟩;apply List.ext_getElem?;intro i;rw[eO,YV];by_cases hi:i<62;.rw[List.getElem?_range hi,Option.map_some,QP,G8 A'];rfl
 rw[Ml A',List.getElem?_eq_none Av];rfl
def WG{x0 x1 x2 x3 x4 x5 x6 x7 r u z F H I K T}(hs:T.size=62)(h:T.toList.take 15=[x0,x1,x2,x3,x4,x5,x6,x7,r,u,z,F,H,I,K]):k_ x0 x1 x2 x3 x4 x5 x6 x7 r u z F H I K T:=by obtain⟨f,rfl⟩:=aH7 hs;cases h;exact⟨f,rfl⟩
noncomputable def Ql:DK:=(RX.body).getD M4
noncomputable def a5G:DK:=fstC Ql
noncomputable def a5H:DK:=fstC (sndC Ql)
noncomputable def cK:DK:=fstC (sndC (sndC Ql))
noncomputable def cL:DK:=fstC (sndC (sndC (sndC Ql)))
noncomputable def cM:DK:=sndC (sndC (sndC (sndC Ql)))
def aJ9:Ql=Hu a5G (Hu a5H (Hu cK (Hu cL cM))):=rfl
def Ho(A:List BI)(k:Nat):List (AW×Nat):=((names A).take k).zipIdx
def BW(A:List BI)(m:AW):Nat:=(names A).findIdx λx=>BK (x=m)
theorem SJ(A):(names A).length=A:=by simp[names]
theorem aT2(h:k<=A):Ho A k=k:=by simp_all[Ho,SJ]
def aT3(A)(k)(h):Ho A (k+1)=Ho A k++[(A[k].rel.name,k)]:=by unfold Ho;rw[KA (names A) k (by rwa[SJ]),me];simp[names,a2i (gI h)]
theorem VK{x}(h:x∈Ho A k):x.2<k/\(names A)[x.2]?=Z x.1:=by unfold Ho at h;grind
theorem pM(h:m∈names A):(m,BW A m)∈Ho A A:=by unfold Ho BW;rw[<-SJ A,Hb,tk];grind
def aMN(w:A1)(A:List BI)(v:A3)(bi N:Nat)(x1 x2 x4 x5 x6 x7 K W X HU G7 HV HW y:A3)(hv:Hf w v A)(m9:A.length<=1000000)(hnd:(names A).Nodup)(Cv:∀m∈names A,D6 m)(U:w.heap[N]?=Z (A7 #[AL (Z bi),y] 260))(r:w.heap[bi]?=Z (B4 #[] 0))(g:Nat->A3):cK.wp A6 (λe a' w'=>e=Vq/\a'.defers=[]/\w'.heap[bi]?=Z (B4 (Ba (Ho A A)) A)/\CV bi w w w'/\∃PE PF,k_ v x1 x2 (B2 (Z ⟨N,0,J⟩)) PE PF x6 x7 K W X HU G7 HV HW a'.tmps) ⟨Qb v x1 x2 (B2 (Z ⟨N,0,J⟩)) x4 x5 x6 x7 K W X HU G7 HV HW g,[]⟩ w:=by
 obtain⟨a,c,rfl,f9⟩:=hv.open;have v3:=A2 f9;have Ch:=A2 hnd;have z9:=A2 Cv;have Cs:=A2 U;have bO:=A2 r;have dC:=B3 r;have o3:=B3 U;have M_:N≠bi:=λe=>by rw[e,r]at U;cases U
 clear hv f9 hnd Cv U r;simp only[cK,Qb,Ql,RX,MJ,fstC,sndC];go_wp2;go_loopw[19]λi wr=>∃k:Nat,k<=A/\i=k/\AE (wr.heap[bi]?=Z (B4 (Ba (Ho A k)) k)/\CV bi w w wr)(λi _=>A-(B0 i).toNat);case atStart=>exact⟨0,A',rfl,A2 ⟨bO,CV.refl ..⟩⟩
 case round=>
  obtain⟨k,hk,rfl,H⟩:=hrel;obtain⟨Ja,hb⟩:=H.o;have Ew:=A2 Ja;have I:=A2 hb;have Dd:=hb.size;clear H Ja hb;by_cases hlt:k<A
  .obtain⟨g2,rfl,hc,_⟩:=v3.o k hlt;have hne:g2≠bi:=λe=>by have:=hc.c0;rw[e]at this;unfold Cr at this;rw[bO.o]at this;cases this
   have c0:=CV.cell I hne hc.c0;have c1:=CV.cell I hne hc.c1;have c2:=CV.cell I hne hc.c2;have c3:=CV.cell I hne hc.c3;have c4:=CV.cell I hne hc.c4;have c5:=CV.cell I hne hc.c5;have Dj:=CV.cell I hne hc.Dj;have E4:=CV.cell I hne hc.E4;have Dk:=Cn (h:=c0);have p4:wr.cell? ⟨N,0,J⟩=Z (AL (Z bi)):=by rw[A_ ((I.o.block N o3 M_).trans Cs.o)];rfl
   have ac2:N<wr:=A';have u:=A2 (aT3 A k hlt);have H9:A[k].rel.name∈names A:=Bt.2 ⟨_,Ci hlt,rfl⟩;have z:=A2 (z9 _ H9);have F:AE (∀x∈Ho A k,x.1≠A[k].rel.name):=λx hx e=>by
    obtain⟨h1,h2⟩:=VK hx;have h3:(names A)[k]?=Z A[k].rel.name:=by simp[names,En hlt]
    have hp:=Ch;rw[Lc,Qc]at hp;refine hp x.2 k (by rw[SJ];omega) (by rw[SJ];omega) h1 ?_;have e1:=(bW.1 h2).2;have e2:=(bW.1 h3).2;rw[e1,e2,e]
   have Dy:AE (∀x∈Ho A k,D6 x.1):=λx hx=>z9 _ (Jq (VK hx).2);have Re:=A2 (aT2 A');clear hc H9;generalize A[k]=x at c0 c1 c2 c3 c4 c5 Dj E4 u z F;obtain⟨⟨p,v,m,fa,Am,fc,nd⟩,na,nc⟩:=x;simp only[BI.BF,Rel.name]at c0 c1 c2 c3 c4 c5 Dj E4 u z F;have Nr:AE (CV bi w w (wr.alloc (A7 #[p,v,p,v,m,A0 fa Am fc,AB AJ 0,A0 na nd nc] 234))):=I.o.below ((Az w wr).alloc Dd _);have dB:=aAq bi (Ho A k) (p,v) k (wr.alloc (A7 #[p,v,p,v,m,A0 fa Am fc,AB AJ 0,A0 na nd nc] 234)) z Dy F (by rwa[Re.o,BU _ _ _ A']);rw[Re.o,<-u.o]at dB;simp only[EH]at dB;go_wp2;exact⟨⟨k+1,A',BV,A2 ⟨by show a'z ..[bi]?=_;rw[Va (by rw[Ck];omega)],Nr.o.set _⟩⟩,by simp[B0];omega⟩
  obtain rfl:k=A:=A';go_wp2;exact⟨Ew,I,_,_,WG rfl rfl⟩
def GJ(A:List BI)(k:Nat):List (Nat×Nat):=((A.take k).zipIdx).flatMap λx=>x.1.rel.Bs.map λm=>(x.2,BW A m)
theorem a4e(A)(k)(h):GJ A (k+1)=GJ A k++A[k].rel.Bs.map λm=>(k,BW A m):=by unfold GJ;rw[KA A k h,me,List.flatMap_append];grind
theorem a4d(A):∀d i,i+d=A.length->(GJ A i).length<=(GJ A A.length).length|0,i,h=>by grind|d+1,i,h=>by have:=a4d A d (i+1) A';rw[a4e A i A',DV]at this;omega
def XV(h:m∈names A):BW A m<A:=by rw[<-SJ A];exact aHS ⟨m,h,AD⟩
def a9'(A)(bi c)(m)(w)(hnd:(names A).Nodup)(I:∀m∈names A,D6 m)(hm:m∈names A)(N:w.heap[bi]?=Z (B4 (Ba (Ho A A)) c)):(Fb 131 (AL (Z bi)) (AH #[m.1,m.2]) A9).run A6 w=.ok (BW A m:Int) w:=by
 have hin:=pM hm;rcases Zk bi c (Ho A A) m w (I m hm) (λx hx=>I _ (Jq (VK hx).2)) N with⟨_,h⟩|⟨x,hx,he,h⟩;.exact absurd rfl (h _ hin)
 let⟨i1,e1⟩:=bW.1 ((VK hx).2);let⟨i2,e2⟩:=bW.1 ((VK hin).2);have:x.2=BW A m:=by
  have hp:=hnd;rw[Lc,Qc]at hp;rcases tu x.2 (BW A m)with hh|hh|hh;.exact absurd (by rw[e1,e2,he]) (hp _ _ i1 i2 hh)
  .exact hh
  exact absurd (by rw[e1,e2,he]) (hp _ _ i2 i1 hh)
 rwa[this]at h
def _root_.Go.Proofs.YtcfhleenecfghaaGreatDoor.Fh.aAD{B:Nat}{V:List A3}(h:Fh w B eb V L){o:Nat}{s:zz}(hc:w.cell? ⟨eb,o,J⟩=Z (A4 s)):False:=by
 have hl:o<L:=by rw[A_ h.blk]at hc;have:=B3 hc;rw[<-h.len];simpa using this
 rw[h.cell hl]at hc;obtain⟨a,c,e⟩:=EA (h.row o hl);rw[e]at hc;cases hc
def YE(A:List BI)(bi N r h:Nat)(U CY:zz)(I:A1):Prop:=I.heap[bi]?=Z (B4 (Ba (Ho A A)) A)/\I.cell? ⟨N,0,J⟩=Z (AL (Z bi))/\I.cell? ⟨N,1,J⟩=Z (A0 (Z ⟨r,0,J⟩) A A)/\I.cell? ⟨h,0,J⟩=Z (A4 U)/\I.cell? ⟨h,1,J⟩=Z (A4 CY)
def aMO(w:A1)(A:List BI)(v:A3)(bi N I:Nat)(x1 x2 x4 x5 x6 x7 F1 I1 HT HU G7 HV HW:A3)(n5:List A3)(hv:Hf w v A)(m9:A.length<=1000000)(hnd:(names A).Nodup)(Cv:∀m∈names A,D6 m)(H5:∀x∈A,∀m∈x.rel.Bs,m∈names A)(Us:(GJ A A.length).length<=1000000)(m5:w.heap[N]?=Z (A7 #[AL (Z bi),A0 (Z ⟨I,0,J⟩) A A] 260))(FE:w.heap[bi]?=Z (B4 (Ba (Ho A A)) A))(Hz:Fh w w I n5 (rowsOf A []))(g:Nat->A3)(K:Act->A1->Prop)(B6:a0Y->A1->Prop)(hk:∀(Di:zw)(w':A1),CV I w w w'->(∃V,Fh w' w I V (rowsOf A (GJ A A)))->(∃ql eJ a'q,k_ v x1 x2 (B2 (Z ⟨N,0,J⟩)) x4 x5 ql eJ F1 a'q HT HU G7 HV HW Di)->K ⟨Di,[]⟩ w'):cL.wp A6 (Exit.then K (W1 A6 RX B6)) ⟨Qb v x1 x2 (B2 (Z ⟨N,0,J⟩)) x4 x5 x6 x7 F1 I1 HT HU G7 HV HW g,[]⟩ w:=by
 obtain⟨a,c,rfl,f9⟩:=hv.open;have v3:=A2 f9;have Ch:=A2 hnd;have z9:=A2 Cv;have Cg:=A2 H5;have Cs:=A2 m5;have bO:=A2 FE;have bN:=A2 Hz;have a1x:=A2 Us;have Ew:=A2 hk;have dC:bi<w:=B3 FE;have o3:N<w:=B3 m5;have a7F:I<w:=B3 Hz.blk;have wy:bi≠I:=λe=>by have:=Hz.blk;rw[<-e,FE]at this;cases this
 have M_:N≠I:=λe=>by have:=Hz.blk;rw[<-e,m5]at this;injection this with this;injection this with _ this;cases this
 clear hv f9 hnd Cv m5 FE Hz H5 Us hk;simp only[cL,Qb,Ql,RX,MJ,fstC,sndC];go_wp2;go_loopw[32]λi wr=>∃k:Nat,k<=A/\i=k/\AE (∃V,Fh wr w I V (rowsOf A (GJ A k))/\CV I w w wr)(λi _=>A-(B0 i).toNat);case atStart=>exact⟨0,A',rfl,A2 ⟨n5,bN.o,CV.refl _ _ _⟩⟩
 case round=>
  obtain⟨k,hk,rfl,H⟩:=hrel;obtain⟨Nq,EX,hb⟩:=H.o;have WB:=A2 EX;have u:=A2 hb;have Dd:w.heap.size<=wr:=hb.size;clear H EX hb;by_cases hlt:k<A
  .obtain⟨g2,rfl,hc,hmd⟩:=v3.o k hlt;have hne:g2≠I:=λe=>bN.o.aAD (e▸hc.c0);have c0:=CV.cell u.o hne hc.c0;have c1:=CV.cell u.o hne hc.c1;have c2:=CV.cell u.o hne hc.c2;have c3:=CV.cell u.o hne hc.c3;have c4:=CV.cell u.o hne hc.c4;have c5:=CV.cell u.o hne hc.c5;have Dj:=CV.cell u.o hne hc.Dj;have E4:=CV.cell u.o hne hc.E4;have Dk:g2<wr:=Cn (h:=c0);have Gw:=A2 (a4e A k hlt);have bJ:=A2 (Cg.o _ (Ci hlt));have YH:=A2 hmd;have iO:(GJ A (k+1)).length<=1000000:=Dn (a4d A (A-(k+1)) (k+1) A') a1x.o;rw[Gw.o,DV,Gf]at iO;clear hc hmd;generalize A[k]=x at c0 c1 c2 c3 c4 c5 Dj E4 Gw bJ YH iO;obtain⟨⟨p,v,m,fa,Am,fc,nd⟩,na,nc⟩:=x;simp only[BI.BF]at c0 c1 c2 c3 c4 c5 Dj E4 Gw bJ YH iO;have aGR:=A2 iO;have TX:nd.length<=1000000:=A';clear iO;have t0:AE (Fh (wr.alloc (A7 #[A4 p,A4 v,A4 p,A4 v,A4 m,A0 fa Am fc,AB AJ 0,A0 na nd nc] 234)) w I Nq (rowsOf A (GJ A k))/\CV I w w (wr.alloc (A7 #[A4 p,A4 v,A4 p,A4 v,A4 m,A0 fa Am fc,AB AJ 0,A0 na nd nc] 234))):=A2 ⟨WB.o.more λb hb _=>BU _ _ _ hb,u.o.below ((Az w wr).alloc Dd _)⟩;go_wp2;go_loopw[40]λi wr=>∃c:Nat,c<=nd/\i=c/\AE (∃V,Fh wr w I V (rowsOf A (GJ A k++(nd.take c).map λm=>(k,BW A m)))/\CV I w w wr)(λi _=>nd-(B0 i).toNat);case atStart=>refine⟨0,A',rfl,A2 ⟨Nq,?_,t0.o.2⟩⟩;rw[List.take_zero,Iw,YU];exact t0.o.1
   case round=>
    obtain⟨c',hc',rfl,H⟩:=hrel;by_cases Ur:c'<nd
    .obtain⟨X,h1,h2⟩:=H.o;obtain⟨XP,rfl,hat⟩:∃XP,na=Z ⟨XP,0,J⟩/\JP w XP nd:=by
      rcases YH.o with⟨_,e⟩|⟨XP,nc',e,hat⟩;.rw[e]at Ur;simp at Ur
      injection e with e;exact⟨XP,e,hat⟩
     have o0:=hat c' Ur;have TW:XP≠I:=λe=>bN.o.aAD (e▸o0.1);have p4:=CV.cell h2 TW o0.1;have d1:=CV.cell h2 TW o0.2;have wo:=bJ.o _ (Ci Ur);have Mt:AE (∀z:A1,z.heap[bi]?=w.heap[bi]?->(Fb 131 (AL (Z bi)) (AH #[A4 nd[c'].1,A4 nd[c'].2]) A9).run A6 z=.ok (BW A nd[c']:Int) z):=A2 λz hx=>a9' A bi A nd[c'] z Ch.o z9.o wo (hx.trans bO.o);have Ma:=XV wo;have Au:AE (GJ A k++(nd.take (c'+1)).map (λm=>(k,BW A m))=(GJ A k++(nd.take c').map λm=>(k,BW A m))++[(k,BW A nd[c'])]):=A2 (by rw[KA nd c' Ur,Pa,<-T1];rfl);have j1:(GJ A k++(nd.take c').map λm=>(k,BW A m)).length<=1000000:=by have:=aGR.o;simp;omega
     generalize BW A nd[c']=pl at Mt Ma Au;generalize nd[c']=Il at p4 d1 Mt;obtain⟨mp,CY⟩:=Il;simp only at p4 d1 Mt;generalize GJ A k++(nd.take c').map (λm=>(k,BW A m))=q at h1 Au j1;have hl:=dk A q;have hk':k<rowsOf A.length q:=by rwa[hl]
     have r1:=h1.row k hk';have cc:=h1.cell hk';have f1:=h1.frozen k;have LI:((rowsOf A.length q).getD k []).length<=1000000:=Dn (px _ _ _) j1;have hwr:w.heap.size<=wr:=h2.size;have a0:wr.cell? ⟨N,0,J⟩=Z (AL (Z bi)):=by rw[A_ ((h2.block N o3 M_).trans Cs.o)];rfl
     have a1:wr.cell? ⟨N,1,J⟩=Z (A0 (Z ⟨I,0,J⟩) A A):=by rw[A_ ((h2.block N o3 M_).trans Cs.o)];rfl
     have Uq:N<wr:=A';have iu:I<wr:=A';have aGr:AE (wr.heap[bi]?=Z (B4 (Ba (Ho A A)) A)):=A2 ((h2.block bi dC wy).trans bO.o);have GN:=Mt.o (wr.alloc (A7 #[A4 mp,A4 CY] 85)).drew ((BU _ _ _ A').trans (h2.block bi dC wy));have MC:AE (∀(F:A1),AO wr wr F->∀(v':A3)(w2:A1),w2.ownsRow w 3 1 v' ((rowsOf A.length q).getD k []+1) (JB ((rowsOf A.length q).getD k [])++[AB AJ (pl:Int)])->F.grownBy w2 (X.getD k AN).ownBlock->(∀g,v'.ownBlock=Z g->(X.getD k AN).ownBlock=Z g∨F<=g)->w2.cell? ⟨I,k,J⟩=Z (X.getD k AN)/\w2.frozen? ⟨I,k,J⟩=A9/\∃uJ,Fh (w2.setCell ⟨I,k,J⟩ v') w I uJ (rowsOf A (GJ A k++(nd.take (c'+1)).map λm=>(k,BW A m)))/\CV I w w (w2.setCell ⟨I,k,J⟩ v')):=by
      refine A2 λF W v' w2 ho hg hs=>?_;have X9:Fh F w I X (rowsOf A q):=h1.more λb hb _=>W.block b hb;have Ot:∀b,b<w.heap.size->w2.heap[b]?=wr.heap[b]?:=λb hb=>by refine(hg.block b (by have:=W.size;omega) λe=>?_).trans (W.block b A');have:=(XT r1 e.symm).1;omega
      refine⟨(C8 (a:=⟨I,k,J⟩) (Ot I a7F)).trans cc,C' ((Ot I a7F).trans h1.blk) k,X.set k v',?_,?_⟩;.rw[Au.o,zI];exact X9.put hk' ho hg hs
      refine⟨hg.os.trans (W.os.trans h2.os),hg.tape.trans (W.tape.trans h2.tape),hg.output.trans (W.output.trans h2.output),?_,λb hb hn=>?_⟩;.have:=hg.size;have:=W.size;simp;omega
      rw[DC _ _ _ _ (show b≠I from hn),Ot b hb];exact h2.block b hb hn
     have m3:AE (∀F:A1,AO wr wr F->F.ownsRow w 3 1 (X.getD k AN) ((rowsOf A.length q).getD k []) (JB ((rowsOf A q).getD k []))):=A2 λF W=>VA r1 W;obtain⟨Tt,Tu,hu⟩:=EA r1;rw[hu]at cc MC m3;clear H h1 h2 r1 hu Au wo hat o0;generalize((rowsOf A q).getD k []).length=HE at LI cc MC m3;generalize JB ((rowsOf A q).getD k [])=xs at MC m3;go_wp2_with fail;have OI:AE (AO wr wr ((wr.alloc (A7 #[A4 mp,A4 CY] 85)).drew.alloc (A7 #[(pl:Int)] 3))):=A2 ((show AO wr wr (wr.alloc (A7 #[A4 mp,A4 CY] 85)).drew from(Q9 wr _).drew).alloc (by show _<=(la _ _).heap.size;rw[Ck];omega) _);have Kv:AE (w.heap.size<=(wr.alloc (A7 #[A4 mp,A4 CY] 85)).drew.alloc (A7 #[AB AJ (pl:Int)] 3)):=A2 (Dn hwr OI.o.size);have G0:AE (((wr.alloc (A7 #[A4 mp,A4 CY] 85)).drew.alloc (A7 #[(pl:Int)] 3)).cell? ⟨wr+1,0,J⟩=Z (pl:Int)):=A2 (by rw[A_ (CS _ _ _ (by show _=(la _ _).heap.size;rw[Ck]))];rfl);have YL:AE (∀z:A1,(∀b,b=bi∨b=N∨b=wr->z.heap[b]?=(wr.alloc (A7 #[A4 mp,A4 CY] 85)).heap[b]?)->(YE A bi N I wr mp CY) z):=by refine A2 λz h=>?_;have e3:=(h N (AF (AA rfl))).trans (BU _ _ _ Uq);have KX:=(h wr (AF (AF rfl))).trans (CS _ _ _ rfl);exact⟨(h bi (AA rfl)).trans ((BU _ _ _ A').trans aGr.o),(C8 (a:=⟨N,0,J⟩) e3).trans a0,(C8 (a:=⟨N,1,J⟩) e3).trans a1,by rw[A_ KX];rfl,by rw[A_ KX];rfl⟩
     have Eb:∀b,b=bi∨b=N∨b=wr->b<(wr.alloc (A7 #[A4 mp,A4 CY] 85)).drew.heap.size/\b≠I:=λb hb=>by refine⟨?_,A'⟩;show b<la _ _;rw[Ck];omega
     have Rg:AE ((YE A bi N I wr mp CY) ((wr.alloc (A7 #[A4 mp,A4 CY] 85)).drew.alloc (A7 #[(pl:Int)] 3))):=A2 (YL.o _ λb hb=>BU _ _ _ (Eb b hb).1);have PU:AE (∀w2:A1,((wr.alloc (A7 #[A4 mp,A4 CY] 85)).drew.alloc (A7 #[(pl:Int)] 3)).grownBy w2 (A0 Tt HE Tu).ownBlock->(YE A bi N I wr mp CY) w2):=by refine A2 λw2 hg=>YL.o _ λb hb=>?_;have hown:=m3.o wr (Az _ _);refine(hg.block b (by rw[Ck];have:=(Eb b hb).1;omega) λe=>?_).trans (BU _ _ _ (Eb b hb).1);have:=XT hown e.symm;rcases hb with rfl|rfl|rfl<;>omega
     have fX:AE (∀(w2:A1)(x:A3),(YE A bi N I wr mp CY) w2->(YE A bi N I wr mp CY) (w2.setCell ⟨I,k,J⟩ x)):=A2 λw2 x h=>by have e:∀b o,b≠I->(w2.setCell ⟨I,k,J⟩ x).cell? ⟨b,o,J⟩=w2.cell? ⟨b,o,J⟩:=λb o hb=>C8 (a:=⟨b,o,J⟩) (DC _ _ _ _ (show b≠I from hb));unfold YE at h⊢;rwa[e _ _ M_,e _ _ M_,e _ _ A',e _ _ A',DC _ _ _ _ (show bi≠I from wy)]
     clear Eb;refine a1j (S:=YE A bi N I wr mp CY) A8 ?hS0 λr=>?_;case hS0=>exact YL.o _ λb hb=>rfl
     refine FO 0 ?_;refine FO 1 ?_;refine FO 2 ?_;refine FO 3 ?_;refine FO 4 ?_;refine FO 5 ?_;refine FO 6 ?_;refine FO 8 ?_;refine FO 9 ?_;refine FO 10 ?_;refine wpAnyH_take (i:=11) (v:=?_) rfl A8 A8 A8 (λ_ _ _ h=>h) (AA ⟨by rfl,?hy⟩) TE ?_;case hy=>(intro Iq iE;(obtain⟨G5,Gs,s2,Xa,dm⟩:=iE);have hl:=Mt.o Iq (G5.trans bO.o.symm);go_simp;(with_reducible rfl))
     simp only[IP,MF,MH,MG];refine OT (rs:=[7,12]) A8 AD ?_;refine Mn (i:=7) rfl (λU hK=>?_) (Mn (i:=12) rfl (λU hK=>?_) OJ)
     .skip;go_simp;refine hK.out _ _ r λr=>?_;clear hK U;try simp only[IP,MF,MH,MG]
      refine OT (rs:=[12]) A8 AD ?_;refine Mn (i:=12) rfl (λU hK=>?_) OJ;go_simp;refine hK.out _ _ Rg.o λr=>?_;clear hK U;try simp only[IP,MF,MH,MG]
      refine OT (rs:=[13]) A8 AD ?_;refine Mn (i:=13) rfl (λU hK=>?_) OJ;refine qM (k:=pl) (b:=wr+1) rfl rfl (by simp[FG]) (m3.o _ OI.o) (by simp[FG]) G0.o LI Kv.o λv' w2 ho hg hs=>?_;obtain⟨k1,f2,R⟩:=MC.o _ OI.o v' w2 ho hg hs;have v9:=PU.o w2 hg;obtain⟨DJ,C3,rfl⟩:=EA ho;have UF:=A2 R;clear R ho hg hs;refine hK.out _ _ v9 λr=>?_;clear hK U;try simp only[IP,MF,MH,MG]
      refine FO 14 ?_;refine OT (rs:=[15]) A8 AD ?_;refine Mn (i:=15) rfl (λU hK=>?_) OJ;go_simp;refine hK.out _ _ (fX.o _ _ r) λr=>?_;clear hK U;try simp only[IP,MF,MH,MG]
      refine lq A8 ?_ _;go_wp2;exact⟨⟨c'+1,A',BV,UF⟩,by simp[B0];omega⟩
     skip;go_simp;refine hK.out _ _ Rg.o λr=>?_;clear hK U;try simp only[IP,MF,MH,MG]
     refine OT (rs:=[7]) A8 AD ?_;refine Mn (i:=7) rfl (λU hK=>?_) OJ;go_simp;refine hK.out _ _ r λr=>?_;clear hK U;try simp only[IP,MF,MH,MG]
     refine OT (rs:=[13]) A8 AD ?_;refine Mn (i:=13) rfl (λU hK=>?_) OJ;refine qM (k:=pl) (b:=wr+1) rfl rfl (by simp[FG]) (m3.o _ OI.o) (by simp[FG]) G0.o LI Kv.o λv' w2 ho hg hs=>?_;obtain⟨k1,f2,R⟩:=MC.o _ OI.o v' w2 ho hg hs;have v9:=PU.o w2 hg;obtain⟨DJ,C3,rfl⟩:=EA ho;have UF:=A2 R;clear R ho hg hs;refine hK.out _ _ v9 λr=>?_;clear hK U;try simp only[IP,MF,MH,MG]
     refine FO 14 ?_;refine OT (rs:=[15]) A8 AD ?_;refine Mn (i:=15) rfl (λU hK=>?_) OJ;go_simp;refine hK.out _ _ (fX.o _ _ r) λr=>?_;clear hK U;try simp only[IP,MF,MH,MG]
     refine lq A8 ?_ _;go_wp2;exact⟨⟨c'+1,A',BV,UF⟩,by simp[B0];omega⟩
    obtain rfl:c'=nd:=A';have R:=H.o;rw[Hb,<-Gw.o]at R;have Q_:=A2 R;clear R H;go_wp2;exact⟨⟨k+1,A',BV,Q_⟩,by simp[B0];omega⟩
  obtain rfl:k=A:=A';go_wp2;exact Ew.o _ _ u.o ⟨Nq,WB.o⟩ ⟨_,_,_,WG rfl rfl⟩
def aMP(x0 x1 x4 x5 x6 x7 r u z F H K W b2 I bi h n g w)(hb2:w.heap[b2]?=Z (A7 #[AL J,A0 J 0 0] 260))(U:w.heap[I]?=Z (A7 #[AL (Z bi),A0 (Z ⟨h,0,J⟩) n n] 260))(N)(hR:N (AV (AH #[AL (Z bi),A0 (Z ⟨h,0,J⟩) n n])) ((w.setCell ⟨b2,0,J⟩ (AL (Z bi))).setCell ⟨b2,1,J⟩ (A0 (Z ⟨h,0,J⟩) n n))):cM.wp A6 (W1 A6 RX N) ⟨Qb x0 x1 (B2 (Z ⟨b2,0,J⟩)) (B2 (Z ⟨I,0,J⟩)) x4 x5 x6 x7 r u z F H K W g,[]⟩ w:=by have a0:w.cell? ⟨I,0,J⟩=Z (AL (Z bi)):=Af (A_ U);have a1:w.cell? ⟨I,1,J⟩=Z (A0 (Z ⟨h,0,J⟩) n n):=Af (A_ U);have c0:w.cell? ⟨b2,0,J⟩=Z (AL J):=Af (A_ hb2);have c1:w.cell? ⟨b2,1,J⟩=Z (A0 J 0 0):=Af (A_ hb2);have EY:=C' hb2 0;have z1:=C' hb2 1;have X:=A2 hb2;have BC:=A2 hR;simp only[cM,Qb,Ql,RX,MJ,sndC];go_wp2;exact IT (results_cell_row rfl _ _ b2 260 _ (0,0) _ rfl (CO _ b2 1 _ _ (BG h 0 n n) (CO w b2 0 _ _ (AL (Z bi)) X)) Tryz.underlying260 rfl (rfl)) rfl BC
def sn(A:List BI)(w:A1)(e:a0Y)(w':A1):Prop:=∃bi h B V,e=AV (AH #[AL (Z bi),A0 (Z ⟨h,0,J⟩) A A])/\w<=bi/\w<=h/\w'.heap[bi]?=Z (B4 (Ba (Ho A A)) A)/\Fh w' B h V (rowsOf A (GJ A A))/\AO w w w'
def aMQ(w W)(A)(v)(b2 N bi I)(x1 x4 x5 x6 x7 F1 I1 HT HU G7 HV HW)(g:Nat->A3)(hv:Hf w v A)(m9:A.length<=1000000)(hnd:(names A).Nodup)(Cv:∀m∈names A,D6 m)(H5:∀x∈A,∀m∈x.rel.Bs,m∈names A)(Us:(GJ A A.length).length<=1000000)(r:AO w w W)(hb2:W.heap[b2]?=Z (A7 #[AL J,A0 J 0 0] 260))(h:W.heap[N]?=Z (A7 #[AL (Z bi),A0 (Z ⟨I,0,J⟩) A A] 260))(z:W.heap[bi]?=Z (B4 #[] 0))(u:W.heap[I]?=Z (A7 (Dt A (A0 J 0 0)).toArray 33))(Qt:w.heap.size<=b2)(Eb:w.heap.size<=bi)(wb:w.heap.size<=I):(Hu cK (Hu cL cM)).wp A6 (W1 A6 RX (sn A w)) ⟨Qb v x1 (B2 (Z ⟨b2,0,J⟩)) (B2 (Z ⟨N,0,J⟩)) x4 x5 x6 x7 F1 I1 HT HU G7 HV HW g,[]⟩ W:=by
 have hrl:=B3 z;have TX:=B3 u;have aMZ:=B3 hb2;have F:=B3 h;let n1:N≠bi:=λe=>by rw[e,z]at h;cases h
 let n2:I≠bi:=λe=>by rw[e,z]at u;cases u
 let jU:b2≠bi:=λe=>by rw[e,z]at hb2;cases hb2
 let H:b2≠I:=λe=>by rw[e,u]at hb2;injection hb2 with hb2;injection hb2 with _ hb2;cases hb2
 refine a1k (rG ?_ (aMN W A v bi N x1 (XU b2) x4 x5 x6 x7 F1 I1 HT HU G7 HV HW _ (hv.below r) m9 hnd Cv h z g));rintro e⟨Di,ds⟩Nr⟨rfl,oA,aPC,K,PE,PF,g1,hT⟩;subst oA hT;have X:=K.block;have Dc:=K.size;let U:AO w w Nr:=⟨K.os.trans r.os,K.tape.trans r.tape,K.output.trans r.output,Dn r.size Dc,λb hb=>(X b A' A').trans (r.block b hb)⟩;refine a1k (aMO Nr A v bi N I x1 (XU b2) PE PF x6 x7 F1 I1 HT HU G7 HV HW (Dt A (A0 J 0 0)) (hv.below U) m9 hnd Cv H5 Us ((X _ F n1).trans h) aPC (zK A _ I Nr ((X _ TX n2).trans u) A') g1 _ _ ?_);rintro T2 MN iK⟨V,Ih⟩⟨ql,eJ,a'q,g2,rfl⟩;have DR:=iK.block;refine aMP v x1 PE PF ql eJ F1 a'q HT HU G7 HV HW b2 N bi I A g2 MN ((DR _ A' H).trans ((X _ aMZ jU).trans hb2)) ((DR _ A' λe=>by rw[e,u]at h;injection h with h;injection h with _ h;cases h).trans ((X _ F n1).trans h)) _ ⟨bi,I,AR Nr,V,rfl,Eb,wb,?_,Ih.more λb hb he=>?_,?_⟩;.rwa[DC _ _ _ _ (Gy jU),DC _ _ _ _ (Gy jU),DR bi A' (Gy n2)]
 .let hne:b≠b2:=by
   rcases he with rfl|he;.exact Gy H
   omega
  rw[DC _ _ _ _ (hne),DC _ _ _ _ (hne)]
 let Hj:AO w w MN:=⟨iK.os.trans U.os,iK.tape.trans U.tape,iK.output.trans U.output,Dn U.size iK.size,λb hb=>(DR b A' A').trans (U.block b hb)⟩;exact(Hj.setCell Qt _).setCell Qt _
def aMR(w W)(A)(v)(T)(b2 I bi h)(x1 x4 x5 x6 x7 r u N U z F H)(hv:Hf w v A)(K:A.length<=1000000)(hnd:(names A).Nodup)(X:∀m∈names A,D6 m)(H5:∀x∈A,∀m∈x.rel.Bs,m∈names A)(Us:(GJ A A.length).length<=1000000)(hT:k_ v x1 (B2 (Z ⟨b2,0,J⟩)) (B2 (Z ⟨I,0,J⟩)) x4 x5 x6 x7 r u N U z F H T)(CF:AO w w W)(hb:(W.heap[b2]?=Z (A7 #[AL J,A0 J 0 0] 260)/\W.heap[I]?=Z (A7 #[AL (Z bi),A0 (Z ⟨h,0,J⟩) A A] 260)/\W.heap[bi]?=Z (B4 #[] 0)/\W.heap[h]?=Z (A7 (Dt A (A0 J 0 0)).toArray 33))/\w<=b2/\w<=bi/\w<=h):(Hu cK (Hu cL cM)).wp A6 (W1 A6 RX (sn A w)) ⟨T,[]⟩ W:=by obtain⟨g,rfl⟩:=hT;let⟨⟨h1,h2,h3,h4⟩,h5,h6,h7⟩:=hb;exact aMQ w W A v b2 I bi h x1 x4 x5 x6 x7 r u N U z F H g hv K hnd X H5 Us CF h1 h2 h3 h4 h5 h6 h7
theorem Im(h:Array Obj)(a b c d:Obj):((((h.push a).push b).push c).push d)[h.size]?=a/\((((h.push a).push b).push c).push d)[h.size+1]?=b/\((((h.push a).push b).push c).push d)[h.size+2]?=c/\((((h.push a).push b).push c).push d)[h.size+3]?=d:=by grind
theorem bt(w)(a b c d):AO w.heap.size w ((((w.alloc a).drew.alloc b).alloc c).alloc d):=by
 refine⟨rfl,rfl,rfl,?_,λk hk=>?_⟩;.show _<=((((w.heap.push a).push b).push c).push d).size;grind
 show((((w.heap.push a).push b).push c).push d)[k]?=_;grind
def aZK(v):(#[v]++OG (RX.ntmps-(#[v]:zw)) AN:zw)=Qb v AN AN AN AN AN AN AN AN AN AN AN AN AN AN λ_=>AN:=A8
def vj(A v w)(hv:Hf w v A)(N:A.length<=1000000)(hnd:(names A).Nodup)(r:∀m∈names A,D6 m)(U:∀x∈A,∀m∈x.rel.Bs,m∈names A)(u:(GJ A A.length).length<=1000000):Ab A6 155 #[v] w (sn A w):=by have h:=A2 λW T b2 z bi F x1 x4 x5 x6 x7 H K X HU G7 HV HW=>aMR w W A v T b2 z bi F x1 x4 x5 x6 x7 H K X HU G7 HV HW hv N hnd r U u;obtain⟨DJ,C3,rfl,_⟩:=hv.open;clear hv hnd r U u;refine calls_of_wp Tryz.func155 (show RX.body=Ql by kernel_rfl) ?_;rw[aZK,aJ9];refine a1k ?_;generalize hgr:Hu cK (Hu cL cM)=rest at h;clear hgr;have Ja:=λI=>a9O A I;have Gn:=λI=>yB A I N;simp only[a5G,Qb,Ql,RX,MJ,fstC];go_wp2;simp only[a5H,Ql,RX,MJ,fstC,sndC];go_region_held2 λ_=>True(trivial)(fail);all_goals go_wp2;first|exact h _ _ w (w+3) (w+1) (w+2) _ _ _ _ _ _ _ _ _ _ _ _ (WG rfl rfl) (bt w _ _ _ _) ⟨⟨(Im w.heap _ _ _ _).1,(Im w.heap _ _ _ _).2.2.2,(Im w.heap _ _ _ _).2.1,(Im w.heap _ _ _ _).2.2.1⟩,A',A',A'⟩|exact h _ _ w (w+2) (w+1) (w+3) _ _ _ _ _ _ _ _ _ _ _ _ (WG rfl rfl) (bt w _ _ _ _) ⟨⟨(Im w.heap _ _ _ _).1,(Im w.heap _ _ _ _).2.2.1,(Im w.heap _ _ _ _).2.1,(Im w.heap _ _ _ _).2.2.2⟩,A',A',A'⟩|exact h _ _ w (w+3) (w+2) (w+1) _ _ _ _ _ _ _ _ _ _ _ _ (WG rfl rfl) (bt w _ _ _ _) ⟨⟨(Im w.heap _ _ _ _).1,(Im w.heap _ _ _ _).2.2.2,(Im w.heap _ _ _ _).2.2.1,(Im w.heap _ _ _ _).2.1⟩,A',A',A'⟩|exact h _ _ w (w+1) (w+2) (w+3) _ _ _ _ _ _ _ _ _ _ _ _ (WG rfl rfl) (bt w _ _ _ _) ⟨⟨(Im w.heap _ _ _ _).1,(Im w.heap _ _ _ _).2.1,(Im w.heap _ _ _ _).2.2.1,(Im w.heap _ _ _ _).2.2.2⟩,A',A',A'⟩|exact h _ _ w (w+2) (w+3) (w+1) _ _ _ _ _ _ _ _ _ _ _ _ (WG rfl rfl) (bt w _ _ _ _) ⟨⟨(Im w.heap _ _ _ _).1,(Im w.heap _ _ _ _).2.2.1,(Im w.heap _ _ _ _).2.2.2,(Im w.heap _ _ _ _).2.1⟩,A',A',A'⟩|exact h _ _ w (w+1) (w+3) (w+2) _ _ _ _ _ _ _ _ _ _ _ _ (WG rfl rfl) (bt w _ _ _ _) ⟨⟨(Im w.heap _ _ _ _).1,(Im w.heap _ _ _ _).2.1,(Im w.heap _ _ _ _).2.2.2,(Im w.heap _ _ _ _).2.2.1⟩,A',A',A'⟩
structure FF(A:List BI):Prop where
 len:A.length<=1000
 nodup:(names A).Nodup
 short:∀m∈names A,m.1.size<=60/\m.2.size<=40
 closed:∀x∈A,∀m∈x.rel.Bs,m∈names A
 cE:(GJ A A.length).length<=100000
def DH(A:List BI):List (List Nat):=rowsOf A (GJ A A)
def TO(A:List BI):List (List Nat):=rowsOf A (turns (DH A))
section
variable{A:List BI}
def Ol:(DH A).length=A:=dk ..
def hD:(TO A).length=A:=dk ..
theorem vI(h:(j,k)∈GJ A A):∃x,A[j]?=Z x/\∃m∈x.rel.Bs,k=BW A m:=by grind[GJ,Hb,tk]
def aKv{x:BI}(h:A[j]?=Z x)(hm:m∈x.rel.Bs):(j,BW A m)∈GJ A A:=by unfold GJ;rw[Hb];exact YX.2 ⟨(x,j),Ar (tk),Bt.2 ⟨m,hm,rfl⟩⟩
theorem aKw(h:e∈GJ A A):e.1<A:=by let⟨x,hx,_⟩:=vI h;grind
def vf(j k):k∈(DH A).getD j []↔(j,k)∈GJ A A:=pL (λ_ h=>aKw h) j k
def FF.Yq(h:FF A):∀j,∀k∈(DH A).getD j [],k<DH A:=λj k hk=>by obtain⟨x,hx,m,hm,rfl⟩:=vI ((vf j k).1 hk);rw[Ol];exact XV (h.closed x (Jq hx) m hm)
theorem aCl{E:List (List Nat)}(hE:∀j,∀k∈E.getD j [],k<E)(h:e∈turns E):e.1<E/\e.2<E:=by let⟨h1,h2⟩:=aCm h;grind
def FF.vg(h:FF A)(j k):k∈(TO A).getD j []↔(j,k)∈turns (DH A):=pL (λe he=>As Ol.symm ((aCl h.Yq he).1)) j k
def FF.a5I(h:FF A):∀j,∀k∈(TO A).getD j [],k<TO A:=λj k hk=>by rw[hD,<-Ol];exact(aCl h.Yq ((h.vg j k).1 hk)).2
theorem aCk(E):∀d i,i+d=E.length->(Kk E i).length+LS (E.drop i)=(turns E).length+d
 |0,i,h=>by simp_all[aHn,LS,turns]
 |d+1,i,h=>by
  have hi:i<E.length:=A';let I:=aCk E d (i+1) A';rw[a'' E i hi,DV,Gf]at I;rw[List.drop_eq_getElem_cons hi];simp only[LS,Ee,List.sum_cons];let e:E.getD i []=E[i].length:=by rw[P_,En hi];rfl
  unfold LS at I;omega
theorem aZa(n)(q):LS (rowsOf n q)<=n+q:=by
 have:∀(q:List (Nat×Nat))(L:List (List Nat)),LS (q.foldl push L)<=LS L+q:=by intro q;induction q with|nil=>grind|cons e q I=>intro L;let h:=I (push L e);let h2:=zt L e.1 e.2;simp;unfold push at h;unfold push;omega
 let h:=this q (Dt n []);let h2:LS (Dt n [])=n:=by simp[LS]
 rwa[h2]at h
def FF.aCj(h:FF A):(turns (DH A)).length<=100000:=by
 let I:=aCk (DH A) (DH A) 0 A';let h2:=aZa A (GJ A A);let h3:=h.cE;let h4:Kk (DH A) 0=[]:=by simp[Kk]
 let h5:=Ol (A:=A);rw[h4,List.drop_zero]at I;unfold DH at I h5⊢;simp at I;omega
theorem FF.back(h:FF A){a b}:EF (TO A) a b↔EF (DH A) b a:=by
 constructor;.exact a8k λj k hk=>(aCm ((h.vg j k).1 hk)).2
 refine a8k λj k hk=>?_;by_cases hj:j<DH A;.exact(h.vg k j).2 (aZk hj hk)
 grind
theorem FF.XI(h:FF A):∀m∈names A,D6 m:=λm hm=>by have:=h.short m hm;exact⟨by grind[BZ],by grind[BZ]⟩
theorem yN{x}(h:A[j]?=Z x):(names A)[j]?=Z x.rel.name:=by grind[names]
theorem FF.Zx(h:FF A)(hm:(names A)[j]?=Z m):BW A m=j:=by let⟨i2,e2⟩:=bW.1 ((VK (pM (Jq hm))).2);let hp:=h.nodup;rw[Lc,Qc]at hp;grind
def FF.aZo(h:FF A):∀x∈Ho A A,x.1=m->x.2=BW A m:=λx hx e=>by have:=(VK hx).2;rw[e]at this;exact(h.Zx this).symm
def FF.keys(h:FF A):∀x∈Ho A A,D6 x.1:=λx hx=>h.XI _ (Jq (VK hx).2)
end
theorem zJ{B:Nat}{V:List A3}(h:Fh w B eb V L)(N:w<=fk)(j)(hj):fx w fk V[j] (L.getD j []):=by
 let ho:=h.row j (by grind[h.len]);rw[P_,En hj]at ho;rcases ho.2 with⟨I,h2⟩|⟨g,cap,cur,I,h2,h3,_⟩;.exact AA ⟨I,List.eq_nil_of_length_eq_zero h2⟩
 let hg:=B3 h3;refine AF ⟨g,cap,I,A',λk hk=>?_⟩;exact Lx (I▸ho) k _ (by rw[JB,YV,En hk];rfl)
def pv{w' v l}(h:fx w fk v l)(k:∀b,b<w.heap.size->b≠fk->w'.heap[b]?=w.heap[b]?):fx w' fk v l:=by
 rcases h with h|⟨g,c,I,h2,h3⟩;.exact AA h
 exact AF ⟨g,c,I,h2,λi hi=>(C8 (k g (Cn (h:=h3 i hi)) h2)).trans (h3 i hi)⟩
structure YD(A:List BI)(w:A1)(bi eb fk:Nat)(V:List A3)(E:List (List Nat)):Prop where
 map:w.heap[bi]?=Z (B4 (Ba (Ho A A)) A)
 len:V.length=E
 blk:w.heap[eb]?=Z (A7 V.toArray 33)
 row:∀j(h:j<V.length),fx w fk V[j] (E.getD j [])
 ne:eb≠fk/\bi≠fk
def YD.keep{w' bi V}(h:YD A w bi eb fk V E)(k:∀b,b<w.heap.size->b≠fk->w'.heap[b]?=w.heap[b]?):YD A w' bi eb fk V E:=⟨(k _ (B3 h.map) h.ne.2).trans h.map,h.len,(k _ (B3 h.blk) h.ne.1).trans h.blk,λj hj=>pv (h.row j hj) k,h.ne⟩
theorem zm{bi r u:Nat}{V:List A3}{mark:Int}(hF:FF A)(hg:YD A w bi eb fk V E)(I:E.length=A)(hE:∀j,∀k∈E.getD j [],k<E)(hc:cost E M<=1000000)(hm:m∈names A)(hM:w.heap[fk]?=Z (A7 (ints M) 3))(hlen:M.length=E)(hk:mark≠0):Ab A6 222 #[AH #[AL (Z bi),A0 (Z ⟨eb,0,J⟩) A r],AH #[A4 m.1,A4 m.2],mark,A0 (Z ⟨fk,0,J⟩) A u] w λe w'=>e=AV (Aj #[])/\∃M',H' E mark (BW A m) M [] M'/\w'.heap[fk]?=Z (A7 (ints M') 3)/\M3 fk w w':=by let hl:=hF.len;let h:=aYD (Ho A A) E V M mark m (BW A m) bi A eb r fk u w hg.map hF.keys (hF.XI m hm) ⟨_,pM hm,rfl⟩ (λx hx e=>hF.aZo x hx e) hg.len λj hj=>by rw[A_ hg.blk];simp hg.row hg.ne.1 hM hlen hE (As I (XV hm)) hk hc A';grind
def Fo(A:List BI)(M:List Int)(CQ:List BI)(k:Nat):List (Nat×Nat):=(CQ.take k).map λx=>((M.getD (BW A x.rel.name) 0-1).toNat,BW A x.rel.name)
def aNe(A)(M)(CQ)(k)(h):Fo A M CQ (k+1)=Fo A M CQ k++[((M.getD (BW A CQ[k].rel.name) 0-1).toNat,BW A CQ[k].rel.name)]:=by unfold Fo;rw[KA CQ k h,Pa];rfl
def aNc(A:List BI)(R:List AW)(CQ:List BI)(rv tv:A3)(bi eb B:Nat)(V:List A3)(w:A1)(hF:FF A)(hR:EL w rv R)(Z3:R.length<=1000)(Uo:∀r∈R,r∈names A)(hT:Hf w tv CQ)(wA:CQ.length<=1000)(JZ:∀x∈CQ,x.rel.name∈names A/\∃r∈R,EF (DH A) (BW A r) (BW A x.rel.name))(E5:w.heap[bi]?=Z (B4 (Ba (Ho A A)) A))(Ih:Fh w B eb V (DH A)):Ab A6 226 #[rv,AH #[AL (Z bi),A0 (Z ⟨eb,0,J⟩) A A],tv] w λe w'=>∃hb qx uK M,e=AV (A0 (Z ⟨hb,0,J⟩) R R)/\w<=hb/\PX (DH A) (R.map (BW A)) 0 M/\Fh w' qx hb uK (rowsOf R (Fo A M CQ CQ))/\AO w w w':=by
 obtain⟨D9,rc,rfl,iw⟩:=Zm hR;obtain⟨dz,eA,rfl,a7J⟩:=hT.open;have tW:=A2 iw;have aH0:=A2 a7J;have v5:=A2 hF;have fg:=A2 Uo;have UH:=A2 JZ;have Om:=hF.len;have Ja:=λN=>yA A N A';have wx:=λN=>yB R N A';have QY:AE (YD A ((w.alloc (A7 #[AL (Z bi),A0 (Z ⟨eb,0,J⟩) A A] 260)).alloc (A7 (ints (Dt A 0)) 3)) bi eb (w+1) V (DH A)):=by
  have TX:eb<w:=B3 Ih.blk;have hrl:bi<w:=B3 E5;have hk:∀b,b<w.heap.size->((w.alloc (A7 #[AL (Z bi),A0 (Z ⟨eb,0,J⟩) A.length A.length] 260)).alloc (A7 (ints (Dt A.length 0)) 3)).heap[b]?=w.heap[b]?:=λb hb=>by rw[BU _ _ _ (by rw[Ck];omega),BU _ _ _ hb]
  exact A2 ⟨(hk _ hrl).trans E5,Ih.len,(hk _ TX).trans Ih.blk,λj hj=>pv (zJ Ih A' j hj) λb hb _=>hk b hb,A',A'⟩
 have Bh:AE (AO w w ((w.alloc (A7 #[AL (Z bi),A0 (Z ⟨eb,0,J⟩) A A] 260)).alloc (A7 (ints (Dt A 0)) 3))):=A2 (K9 _ _ _);have YN:AE (((w.alloc (A7 #[AL (Z bi),A0 (Z ⟨eb,0,J⟩) A A] 260)).alloc (A7 (ints (Dt A 0)) 3)).heap[w.heap.size]?=Z (A7 #[AL (Z bi),A0 (Z ⟨eb,0,J⟩) A A] 260)):=A2 (by rw[BU _ _ _ (by rw[Ck];omega)];exact CS _ _ _ rfl);have Rh:AE (((w.alloc (A7 #[AL (Z bi),A0 (Z ⟨eb,0,J⟩) A A] 260)).alloc (A7 (ints (Dt A 0)) 3)).heap[w.heap.size+1]?=Z (A7 (ints (Dt A 0)) 3)):=A2 (CS _ _ _ (by rw[Ck]));have Wp:(w.alloc (A7 #[AL (Z bi),A0 (Z ⟨eb,0,J⟩) A.length A.length] 260)).alloc (A7 (ints (Dt A.length 0)) 3)=w.heap.size+2:=by simp only[Ck]
 clear hF hR iw Uo hT a7J JZ E5 Ih;go_enter Tryz.func226,Tryz.ntmps226;go_wp2_with fail;generalize(w.alloc (A7 #[AL (Z bi),A0 (Z ⟨eb,0,J⟩) A A] 260)).alloc (A7 (ints (Dt A 0)) 3)=W at QY Bh YN Rh Wp⊢;go_loopw[8]λi wr=>∃k:Nat,k<=R/\i=AB AJ ((k:Int)-1)/\AE (∃M,PX (DH A) (R.map (BW A)) k M/\wr.heap[w.heap.size+1]?=Z (A7 (ints M) 3)/\M3 (w+1) W wr)(λi _=>(B0 i+1).toNat);case atStart=>refine⟨R.length,A',BV,A2 ⟨Dt A 0,?_,Rh.o,rfl,rfl,rfl,Ad _,λ_ _ _=>rfl⟩⟩;have:=PX.start (E:=DH A) (ps:=R.map (BW A));rwa[Gf,Ol]at this
 case round=>
  obtain⟨k,hk,rfl,H⟩:=hrel;obtain⟨M,hL,iB,m9⟩:=H.o;have Dy:=A2 hL;have bL:=A2 iB;have U:=A2 m9;clear H hL iB m9;have ac0:W.heap.size<=wr.heap.size:=U.o.size;cases k with
  |succ k=>
   obtain⟨g,rfl,H4,Eh⟩:=tW.o k A';have wT:g<w:=Cn (h:=H4);have c0:=U.o.cell A' (keep Bh.o H4);have c1:=U.o.cell A' (keep Bh.o Eh);have Dk:g<wr:=A';have dL:wr.heap[w.heap.size]?=Z (A7 #[AL (Z bi),A0 (Z ⟨eb,0,J⟩) A A] 260):=(U.o.block _ A' A').trans YN.o;have EY:wr.cell? ⟨w,0,J⟩=Z (AL (Z bi)):=by rw[A_ dL];rfl
   have z1:wr.cell? ⟨w,1,J⟩=Z (A0 (Z ⟨eb,0,J⟩) A A):=by rw[A_ dL];rfl
   have Cz:w.heap.size<wr:=A';have H9:=fg.o _ (Ci (show k<R by omega));have UD:=A2 H9;have ZR:(R.map (BW A))[k]?=Z (BW A R[k]):=by rw[YV,En (show k<R by omega)];rfl
   have mP:=A2 ZR;clear H4 Eh dL H9 ZR;have e2:((k+1:Nat):Int)-1=k:=A';rw[e2];clear e2;generalize R[k]=r at c0 c1 UD mP;obtain⟨p,v⟩:=r;simp only at c0 c1;have Sw:AE (∀w4:A1,(∀b:Nat,w4.heap[b]?=wr.heap[b]?)->Ab A6 222 #[AH #[AL (Z bi),A0 (Z ⟨eb,0,J⟩) A A],AH #[A4 p,A4 v],AB AJ ((k:Int)+1),A0 (Z ⟨w+1,0,J⟩) A A] w4 λe w'=>e=AV (Aj #[])/\∃M',H' (DH A) ((k:Int)+1) (BW A (p,v)) M [] M'/\w'.heap[w.heap.size+1]?=Z (A7 (ints M') 3)/\M3 (w.heap.size+1) w4 w'):=by refine A2 λw4 a7u=>zm (m:=(p,v)) v5.o (QY.o.keep λb hb hn=>(a7u b).trans (U.o.block b hb hn)) Ol v5.o.Yq ?_ UD.o ((a7u _).trans bL.o) Dy.o.len A';have h1:=ux A (GJ A A) M;have h2:=v5.o.cE;unfold DH;omega
   have Gw:AE (∀(X:A1)(M':List Int),H' (DH A) ((k:Int)+1) (BW A (p,v)) M [] M'->X.heap[w.heap.size+1]?=Z (A7 (ints M') 3)->M3 (w+1) wr.drew X->X.cell? ⟨w,0,J⟩=Z (AL (Z bi))/\X.cell? ⟨w,1,J⟩=Z (A0 (Z ⟨eb,0,J⟩) A A)/\X.cell? ⟨g,k*2,J⟩=Z (A4 p)/\X.cell? ⟨g,k*2+1,J⟩=Z (A4 v)/\∃M,PX (DH A) (R.map (BW A)) k M/\X.heap[w.heap.size+1]?=Z (A7 (ints M) 3)/\M3 (w+1) W X):=by refine A2 λX M' hsp NC K=>⟨K.cell A' EY,K.cell A' z1,K.cell A' c0,K.cell A' c1,M',Dy.o.next mP.o v5.o.Yq (by rw[Ol];exact XV UD.o) hsp,NC,K.os.trans U.o.os,K.tape.trans U.o.tape,K.output.trans U.o.output,Dn U.o.size K.size,λb hb hn=>(K.block b (by show b<wr;omega) hn).trans (U.o.block b hb hn)⟩
   go_wp2_with fail;have oL:k<R.length:=A';have ad9:AJ.wrap ((k:Int)+1)=(k:Int)+1:=by have:=RU ((k:Int)+1);omega
   refine a1j (S:=λN=>N.cell? ⟨w.heap.size,0,J⟩=Z (AL (Z bi))/\N.cell? ⟨w.heap.size,1,J⟩=Z (A0 (Z ⟨eb,0,J⟩) A.length A.length)/\N.cell? ⟨g,k*2,J⟩=Z (A4 p)/\N.cell? ⟨g,k*2+1,J⟩=Z (A4 v)) A8 ⟨EY,z1,c0,c1⟩ λF=>?_;refine FO 0 ?_;refine FO 1 ?_;refine FO 2 ?_;refine FO 3 ?_;refine FO 4 ?_;refine FO 5 ?_;refine FO 6 ?_;refine FO 7 ?_;refine OT (rs:=[8]) A8 AD ?_;refine Mn (i:=8) rfl (λz hK=>?_) OJ;go_simp;have H5:=Sw.o wr.drew λ_=>rfl;refine H5.mono ?_;rintro e X⟨rfl,M',hsp,NC,K⟩;obtain⟨KE,y1,y2,y3,R⟩:=Gw.o X M' hsp NC K;have BC:=A2 R;clear R hsp NC K;refine hK.out _ _ ⟨KE,y1,y2,y3⟩ λF=>?_;clear hK z;try simp only[IP,MF,MH,MG]
   refine lq A8 ?_ _;go_wp2;exact⟨⟨k,A',BV,BC⟩,by simp[B0]⟩
  |zero=>
   have a5m:=Dy.o.len;rw[Ol]at a5m;obtain⟨I,Zb⟩:∃I,I=wr:=⟨wr,rfl⟩;subst Zb;go_wp2_with fail;have bN:=A2 (zK R.length (I+1) I (I.alloc (A7 (OG R (A0 J 0 0)) 33)) (by rw[CS _ _ _ rfl];simp) A');have Sx:AE (AO I I (I.alloc (A7 (OG R (A0 J 0 0)) 33))):=A2 (Q9 _ _);have R0:I.alloc (A7 (OG R.length (A0 J 0 0)) 33)=I.heap.size+1:=Ck _ _;generalize I.alloc (A7 (OG R.length (A0 J 0 0)) 33)=Iq at bN Sx R0⊢;go_loopw[38]λi wr=>∃k:Nat,k<=CQ/\i=k/\AE (∃Gh,Fh wr (I+1) I Gh (rowsOf R (Fo A M CQ k))/\AO I Iq wr)(λi _=>CQ-(B0 i).toNat);case atStart=>exact⟨0,A',rfl,A2 ⟨_,bN.o,Az _ _⟩⟩
   case round=>
    obtain⟨k,hk,rfl,H⟩:=hrel;by_cases hlt:k<CQ
    .obtain⟨Nq,EX,hb1⟩:=H.o;have WB:=A2 EX;have n3:=A2 hb1;clear H EX hb1;obtain⟨g,rfl,hc,_⟩:=aH0.o k hlt;have wT:g<w:=Cn (h:=hc.c0);have xe:Iq.heap.size<=wr:=n3.o.size;have XD:∀b,b<I.heap.size->wr.heap[b]?=I.heap[b]?:=λb hb=>(n3.o.block b hb).trans (Sx.o.block b hb);have aaa:=A2 XD;have D8:∀{b o:Nat}{u:A3},w.cell? ⟨b,o,J⟩=Z u->wr.cell? ⟨b,o,J⟩=Z u:=λ{b o u}h=>by have hb:b<w:=Cn (h:=h);exact(C8 (a:=⟨b,o,J⟩) (XD b A')).trans (U.o.cell A' (keep Bh.o h))
     have c0:=D8 hc.c0;have c1:=D8 hc.c1;have c2:=D8 hc.c2;have c3:=D8 hc.c3;have c4:=D8 hc.c4;have c5:=D8 hc.c5;have Dj:=D8 hc.Dj;have E4:=D8 hc.E4;have Dk:g<wr:=Cn (h:=c0);have dL:wr.heap[w.heap.size]?=Z (A7 #[AL (Z bi),A0 (Z ⟨eb,0,J⟩) A A] 260):=(XD _ A').trans ((U.o.block _ A' A').trans YN.o);have EY:wr.cell? ⟨w,0,J⟩=Z (AL (Z bi)):=by rw[A_ dL];rfl
     have Cz:w.heap.size<wr:=A';have Ja:wr.heap[w.heap.size+1]?=Z (A7 (ints M) 3):=(XD _ A').trans bL.o;have E5:wr.heap[bi]?=Z (B4 (Ba (Ho A A)) A):=(XD _ (by have:=B3 QY.o.map;omega)).trans ((U.o.block _ (B3 QY.o.map) QY.o.ne.2).trans QY.o.map);have dC:bi<wr:=B3 E5;obtain⟨hin,r0,Hz,hle⟩:=UH.o _ (Ci hlt);obtain⟨i0,LQ,K4,Wn,-⟩:=Dy.o.Fo (Rl Hz) hle;have hi1:i0<R:=by have:=Po K4;simpa using this
     have NB:M.getD (BW A CQ[k].rel.name) 0=(i0:Int)+1:=by rw[P_,Wn];rfl
     have Gw:=A2 (aNe A M CQ k hlt);rw[NB]at Gw;have e0:((i0:Int)+1-1).toNat=i0:=A';rw[e0]at Gw;have Ma:=XV hin;have Ym:wr.cell? ⟨w+1,BW A CQ[k].rel.name,J⟩=Z ((i0:Int)+1):=by rw[A_ Ja];simp[ints,Wn]
     have Mt:AE (∀N:A1,N.heap[bi]?=wr.heap[bi]?->(Fb 131 (AL (Z bi)) (AH #[A4 CQ[k].rel.name.1,A4 CQ[k].rel.name.2]) A9).run A6 N=.ok (BW A CQ[k].rel.name:Int) N):=A2 λN hx=>a9' A bi A _ N v5.o.nodup v5.o.XI hin (hx.trans E5);clear hc D8 dL Ja E5 hin Hz hle K4 Wn NB e0;generalize BW A CQ[k].rel.name=pl at Gw Ma Ym Mt;generalize CQ[k]=x at c0 c1 c2 c3 c4 c5 Dj E4 Mt;obtain⟨⟨p,v,rm,fa,Am,fc,nd⟩,na,nc⟩:=x;simp only[BI.BF,Rel.name]at c0 c1 c2 c3 c4 c5 Dj E4 Mt;have GN:=Mt.o (wr.alloc (A7 #[A4 p,A4 v,A4 p,A4 v,A4 rm,A0 fa Am fc,AB AJ 0,A0 na nd nc] 234)) (BU _ _ _ dC);have hq:=WB.o;have hl:=dk R (Fo A M CQ k);have hk':i0<rowsOf R.length (Fo A M CQ k):=by rwa[hl]
     have r1:=hq.row i0 hk';have cc:=hq.cell hk';have f1:=hq.frozen i0;have LI:((rowsOf R.length (Fo A M CQ k)).getD i0 []).length<=1000000:=by
      have h1:=px R i0 (Fo A M CQ k);have h2:(Fo A M CQ k).length<=CQ.length:=by simp[Fo];omega
      omega
     have iu:I.heap.size<wr:=A';have ad7:AJ.wrap ((i0:Int)+1-1)=(i0:Int):=by have:=RU ((i0:Int)+1-1);omega
     have ad8:AJ.wrap (i0:Int)=(i0:Int):=by have:=RU (i0:Int);omega
     have MC:AE (∀(L2:A1),AO wr wr L2->∀(v':A3)(w2:A1),w2.ownsRow (I+1) 3 1 v' ((rowsOf R.length (Fo A M CQ k)).getD i0 []+1) (JB ((rowsOf R.length (Fo A M CQ k)).getD i0 [])++[AB AJ (pl:Int)])->L2.grownBy w2 (Nq.getD i0 AN).ownBlock->(∀g,v'.ownBlock=Z g->(Nq.getD i0 AN).ownBlock=Z g∨L2<=g)->w2.cell? ⟨I,i0,J⟩=Z (Nq.getD i0 AN)/\w2.frozen? ⟨I,i0,J⟩=A9/\∃Gh,Fh (w2.setCell ⟨I,i0,J⟩ v') (I+1) I Gh (rowsOf R (Fo A M CQ (k+1)))/\AO I Iq (w2.setCell ⟨I,i0,J⟩ v')):=by
      refine A2 λL2 L5 v' w2 ho hg hs=>?_;have X9:Fh L2 (I+1) I Nq (rowsOf R (Fo A M CQ k)):=hq.more λb hb _=>L5.block b hb;have Ot:∀b,b<I.heap.size+1->w2.heap[b]?=wr.heap[b]?:=λb hb=>by refine(hg.block b (by have:=L5.size;omega) λe=>?_).trans (L5.block b A');have:=(XT r1 e.symm).1;omega
      refine⟨(C8 (a:=⟨I.heap.size,i0,J⟩) (Ot I A')).trans cc,C' ((Ot I A').trans hq.blk) i0,Nq.set i0 v',?_,?_⟩;.rw[Gw.o,zI];exact X9.put hk' ho hg hs
      exact Below.setCell (p:=⟨I,i0,J⟩) ⟨hg.os.trans (L5.os.trans n3.o.os),hg.tape.trans (L5.tape.trans n3.o.tape),hg.output.trans (L5.output.trans n3.o.output),by have:=hg.size;have:=L5.size;omega,λb hb=>(Ot b A').trans (n3.o.block b hb)⟩ (show I.heap.size<=I from Ad _) _
     have m3:AE (∀L2:A1,AO wr wr L2->L2.ownsRow (I+1) 3 1 (Nq.getD i0 AN) ((rowsOf R.length (Fo A M CQ k)).getD i0 []) (JB ((rowsOf R.length (Fo A M CQ k)).getD i0 []))):=A2 λL2 L5=>VA r1 L5;obtain⟨Tt,Tu,hu⟩:=EA r1;rw[hu]at cc MC m3;clear hq r1 hu hl hk';generalize((rowsOf R (Fo A M CQ k)).getD i0 []).length=HE at LI cc MC m3;generalize JB ((rowsOf R (Fo A M CQ k)).getD i0 [])=xs at MC m3;go_wp2_with fail;have OI:AE (AO wr wr ((wr.alloc (A7 #[A4 p,A4 v,A4 p,A4 v,A4 rm,A0 fa Am fc,AB AJ 0,A0 na nd nc] 234)).drew.alloc (A7 #[(pl:Int)] 3))):=A2 ((show AO wr wr (wr.alloc (A7 #[A4 p,A4 v,A4 p,A4 v,A4 rm,A0 fa Am fc,AB AJ 0,A0 na nd nc] 234)).drew from(Q9 wr _).drew).alloc (by show _<=(la _ _).heap.size;rw[Ck];omega) _);have Kv:AE (I.heap.size+1<=(wr.alloc (A7 #[A4 p,A4 v,A4 p,A4 v,A4 rm,A0 fa Am fc,AB AJ 0,A0 na nd.length nc] 234)).drew.alloc (A7 #[AB AJ (pl:Int)] 3)):=A2 (by have:=OI.o.size;omega);have G0:AE (((wr.alloc (A7 #[A4 p,A4 v,A4 p,A4 v,A4 rm,A0 fa Am fc,AB AJ 0,A0 na nd nc] 234)).drew.alloc (A7 #[(pl:Int)] 3)).cell? ⟨wr+1,0,J⟩=Z (pl:Int)):=A2 (by rw[A_ (CS _ _ _ (by show _=(la _ _).heap.size;rw[Ck]))];rfl);have YL:AE (∀N:A1,N.heap[w.heap.size+1]?=wr.heap[w.heap.size+1]?->(λN:A1=>N.cell? ⟨w+1,pl,J⟩=Z ((i0:Int)+1)) N):=A2 λN h=>(C8 (a:=⟨w+1,pl,J⟩) h).trans Ym;have Rg:AE ((λN:A1=>N.cell? ⟨w+1,pl,J⟩=Z ((i0:Int)+1)) ((wr.alloc (A7 #[A4 p,A4 v,A4 p,A4 v,A4 rm,A0 fa Am fc,AB AJ 0,A0 na nd nc] 234)).drew.alloc (A7 #[(pl:Int)] 3))):=A2 (YL.o _ (OI.o.block (w+1) A'));have PU:AE (∀w2:A1,((wr.alloc (A7 #[A4 p,A4 v,A4 p,A4 v,A4 rm,A0 fa Am fc,AB AJ 0,A0 na nd nc] 234)).drew.alloc (A7 #[(pl:Int)] 3)).grownBy w2 (A0 Tt HE Tu).ownBlock->(λN:A1=>N.cell? ⟨w+1,pl,J⟩=Z ((i0:Int)+1)) w2):=by refine A2 λw2 hg=>YL.o _ ?_;have hown:=m3.o wr (Az _ _);refine(hg.block (w+1) (by have:=OI.o.size;omega) λe=>?_).trans (OI.o.block (w+1) A');have:=XT hown e.symm;omega
     have fX:AE (∀(w2:A1)(x:A3),(λN:A1=>N.cell? ⟨w+1,pl,J⟩=Z ((i0:Int)+1)) w2->(λN:A1=>N.cell? ⟨w+1,pl,J⟩=Z ((i0:Int)+1)) (w2.setCell ⟨I,i0,J⟩ x)):=A2 λw2 x h=>(C8 (a:=⟨w+1,pl,J⟩) (DC _ _ _ _ (show w.heap.size+1≠I by omega))).trans h;refine a1j (S:=λN:A1=>N.cell? ⟨w+1,pl,J⟩=Z ((i0:Int)+1)) A8 ?hS0 λF=>?_;case hS0=>exact YL.o _ (BU _ _ _ A')
     refine FO 0 ?_;refine FO 1 ?_;refine FO 2 ?_;refine FO 3 ?_;refine FO 4 ?_;refine FO 5 ?_;refine FO 6 ?_;refine FO 7 ?_;refine FO 8 ?_;refine FO 9 ?_;refine FO 10 ?_;refine FO 11 ?_;refine FO 12 ?_;refine FO 14 ?_;refine OT (rs:=[13,15]) A8 AD ?_;refine Mn (i:=13) rfl (λz hK=>?_) (Mn (i:=15) rfl (λz hK=>?_) OJ)
     .skip;go_simp;refine hK.out _ _ F λF=>?_;clear hK z;try simp only[IP,MF,MH,MG]
      refine OT (rs:=[15]) A8 AD ?_;refine Mn (i:=15) rfl (λz hK=>?_) OJ;go_simp;refine hK.out _ _ Rg.o λF=>?_;clear hK z;try simp only[IP,MF,MH,MG]
      refine OT (rs:=[16]) A8 AD ?_;refine Mn (i:=16) rfl (λz hK=>?_) OJ;refine qM (k:=pl) (b:=wr+1) rfl rfl (by simp[FG]) (m3.o _ OI.o) (by simp[FG]) G0.o LI Kv.o λv' w2 ho hg hs=>?_;obtain⟨k1,f2,R⟩:=MC.o _ OI.o v' w2 ho hg hs;have v9:=PU.o w2 hg;obtain⟨DJ,C3,rfl⟩:=EA ho;have UF:=A2 R;clear R ho hg hs;refine hK.out _ _ v9 λF=>?_;clear hK z;try simp only[IP,MF,MH,MG]
      refine FO 17 ?_;refine OT (rs:=[18]) A8 AD ?_;refine Mn (i:=18) rfl (λz hK=>?_) OJ;go_simp;refine hK.out _ _ (fX.o _ _ F) λF=>?_;clear hK z;try simp only[IP,MF,MH,MG]
      refine lq A8 ?_ _;go_wp2;exact⟨⟨B2 (Z ⟨wr,0,J⟩),(pl:Int),AB AJ ((k:Int)+1),⟨k+1,A',BV,A2 (by obtain⟨Gh,h1,h2⟩:=UF.o;exact⟨⟨Gh,h1⟩,h2⟩)⟩,rfl,rfl,rfl⟩,by simp[B0];omega⟩
     skip;go_simp;refine hK.out _ _ Rg.o λF=>?_;clear hK z;try simp only[IP,MF,MH,MG]
     refine OT (rs:=[13]) A8 AD ?_;refine Mn (i:=13) rfl (λz hK=>?_) OJ;go_simp;refine hK.out _ _ F λF=>?_;clear hK z;try simp only[IP,MF,MH,MG]
     refine OT (rs:=[16]) A8 AD ?_;refine Mn (i:=16) rfl (λz hK=>?_) OJ;refine qM (k:=pl) (b:=wr+1) rfl rfl (by simp[FG]) (m3.o _ OI.o) (by simp[FG]) G0.o LI Kv.o λv' w2 ho hg hs=>?_;obtain⟨k1,f2,R⟩:=MC.o _ OI.o v' w2 ho hg hs;have v9:=PU.o w2 hg;obtain⟨DJ,C3,rfl⟩:=EA ho;have UF:=A2 R;clear R ho hg hs;refine hK.out _ _ v9 λF=>?_;clear hK z;try simp only[IP,MF,MH,MG]
     refine FO 17 ?_;refine OT (rs:=[18]) A8 AD ?_;refine Mn (i:=18) rfl (λz hK=>?_) OJ;go_simp;refine hK.out _ _ (fX.o _ _ F) λF=>?_;clear hK z;try simp only[IP,MF,MH,MG]
     refine lq A8 ?_ _;go_wp2;exact⟨⟨B2 (Z ⟨wr,0,J⟩),(pl:Int),AB AJ ((k:Int)+1),⟨k+1,A',BV,A2 (by obtain⟨Gh,h1,h2⟩:=UF.o;exact⟨⟨Gh,h1⟩,h2⟩)⟩,rfl,rfl,rfl⟩,by simp[B0];omega⟩
    obtain rfl:k=CQ:=A';obtain⟨Gh,h1,h2⟩:=H.o;have KT:=A2 (aU h1 h2);clear H h1 h2;go_wp2;go_ret;exact⟨I,_,Gh,M,rfl,A',Dy.o,KT.o.1,⟨KT.o.2.os.trans (Sx.o.os.trans (U.o.os.trans Bh.o.os)),KT.o.2.tape.trans (Sx.o.tape.trans (U.o.tape.trans Bh.o.tape)),KT.o.2.output.trans (Sx.o.output.trans (U.o.output.trans Bh.o.output)),by have:=KT.o.2.size;omega,λb hb=>(KT.o.2.block b A').trans ((Sx.o.block b A').trans ((U.o.block b A' A').trans (Bh.o.block b hb)))⟩⟩
def aQ'(B r fk n c:Nat)(v:A3)(row:List Nat)(M:List Int)(w:A1)(hv:w.ownsRow B 3 1 v row (JB row))(hrl:row.length<=1000000)(h0:w.cell? ⟨r,0,J⟩=Z (A0 (Z ⟨fk,0,J⟩) n c))(hn:M=n)(hM:w.heap[fk]?=Z (A7 (ints M) 3))(hr:∀x∈row,x<M):Ab A6 329 #[v,Br (Bo 227) #[] #[B2 (Z ⟨r,0,J⟩)]] w λe w'=>w'=w/\∃i:Int,e=AV i/\((i=-1/\∀x∈row,M.getD x 0≠0)∨0<=i/\∃x∈row,M.getD x 0=0):=by
 obtain⟨D9,rc,rfl⟩:=EA hv;have u:=A2 hv;have BC:=A2 hr;have N:AE (∀k:Nat,k<M->Ab A6 227 #[AX k,XU r] w λe w'=>e=AV (Ag (M.getD k 0==0))/\w'=w):=λk hk=>by have h:=aQC r fk n c k M w h0 hn λj hj=>by rw[A_ hM];simp[ints,hj] hk;rwa[P_,En hk]
 clear hv hr hM h0;go_enter Tryz.func329,Tryz.ntmps329;go_wp2;go_loopw[8]λi wr=>∃k:Nat,k<=row/\i=AX k/\AE (wr=w/\∀x∈row.take k,M.getD x 0≠0)(λi _=>row-(B0 i).toNat);case atStart=>exact⟨0,A',rfl,A2 ⟨rfl,λx hx=>by simp at hx⟩⟩
 case round=>
  obtain⟨k,hk,rfl,H⟩:=hrel;obtain⟨rfl,hz⟩:=H.o;have z:=A2 hz;clear H hz;by_cases hlt:k<row
  .obtain⟨g,K,e,hg1,J6⟩:=SH u A';injection e with e1 e2 e3;subst e1 e3;clear e2;have c0:=Lx u k _ (by rw[JB,YV,En hlt];rfl);have hx:=BC _ (Ci hlt);have U:=A2 (N _ hx);have Au:=A2 (KA row k hlt);have F:=A2 (Ci hlt);generalize row[k]=x at c0 hx U Au F;go_wp2_with fail;refine U.o.mono ?_;rintro e w1⟨rfl,rfl⟩;cases hm:M.getD x 0==0with
   |true=>have I:=Ai hm;have W:=A2 I;clear I;go_wp2;go_ret;exact⟨rfl,k,rfl,AF ⟨A',x,F,W⟩⟩
   |false=>
    have I:M.getD x 0≠0:=Ai hm;have R:AE (w1=w1/\∀x∈row.take (k+1),M.getD x 0≠0):=A2 ⟨rfl,λy hy=>by
     rw[Au.o]at hy;rcases E8.1 hy with h|h;.exact z y h
     rwa[ES.1 h]⟩;clear I;go_wp2;exact⟨⟨k+1,A',BV,R⟩,by simp[B0];omega⟩
  obtain rfl:k=row:=A';have hz:=z;rw[Hb]at hz;have X:=A2 hz;clear hz;go_wp2;go_ret;exact⟨rfl,-1,rfl,AA ⟨rfl,X⟩⟩
def aKJ(B r fk n c:Nat)(v:A3)(row:List Nat)(M:List Int)(w:A1)(hv:w.ownsRow B 3 1 v row (JB row))(hrl:row.length<=1000000)(h0:w.cell? ⟨r,0,J⟩=Z (A0 (Z ⟨fk,0,J⟩) n c))(hn:M=n)(hM:w.heap[fk]?=Z (A7 (ints M) 3))(hr:∀x∈row,x<M):Ab A6 228 #[v,Br (Bo 227) #[] #[B2 (Z ⟨r,0,J⟩)]] w λe w'=>w'=w/\∃b:Bool,e=AV (Ag b)/\if b then∃x∈row,M.getD x 0=0 else∀x∈row,M.getD x 0≠0:=by
 have N:=A2 (aQ' B r fk n c v row M w hv hrl h0 hn hM hr);obtain⟨D9,rc,rfl⟩:=EA hv;clear hv h0 hM hr;go_enter Tryz.func228,Tryz.ntmps228;go_wp2_with fail;refine N.o.mono ?_;rintro e U⟨rfl,i,rfl,h⟩;rcases h with⟨rfl,h⟩|⟨hi,h⟩;.have I:=A2 h;go_wp2;go_ret;exact⟨rfl,A9,rfl,I⟩
 have I:=A2 h;go_wp2;go_ret;exact⟨rfl,A5,rfl,I⟩
def WX(A:List BI)(t:AW)(b:Nat):Prop:=∃y,A[b]?=Z y/\above y.rel.name t=A5
def O6(A:List BI)(M:List Int)(k:Nat):List AW:=((names A).take k).zipIdx.filterMap λx=>if M.getD x.2 0=0 then J else Z x.1
theorem a9Q(A:List BI)(M:List Int)(k:Nat)(h:k<A):O6 A M (k+1)=O6 A M k++if M.getD k 0=0 then[]else[A[k].rel.name]:=by
 unfold O6;rw[KA (names A) k (Ar SJ),me,List.filterMap_append];have e:0+(names A).take k=k:=by simp[SJ];omega
 let e2:(names A)[k]'(Ar SJ)=A[k].rel.name:=by simp[names]
 split<;>simp_all
theorem jN(h:m∈O6 A M k):∃j,j<k/\(names A)[j]?=m/\M.getD j 0≠0:=by grind[O6]
theorem aS5(hj:j<k)(hm:(names A)[j]?=m)(hM:M.getD j 0≠0):m∈O6 A M k:=by refine List.mem_filterMap.2 ⟨(m,j),?_,by rw[if_neg hM]⟩;grind
theorem yD{A}(hF:FF A)(M):∀k,k<=A.length->(O6 A M k).Nodup
 |0,_=>by simp[O6]
 |k+1,h=>by
  have I:=yD hF M k A';rw[a9Q A M k h];split;.grind
  rw[gC];refine⟨I,AD,λa ha b hb e=>?_⟩;let⟨j,h1,h2,_⟩:=jN ha;rw[ES.1 hb]at e;let h3:(names A)[k]?=Z A[k].rel.name:=yN (En A');have:=hF.Zx h2;let h4:=hF.Zx h3;rw[e]at this;omega
theorem yE:GD M j↔M.getD j 0≠0:=by grind[GD]
def aQj(A:List BI)(v:A3)(t:AW)(CH:Nat)(m:Int)(w:A1)(hF:FF A)(hv:Hf w v A)(hm:w.cell? ⟨0,0,J⟩=Z (AB AJ m))(h0:w.cell? ⟨CH,0,J⟩=Z (A4 t.1))(h1:w.cell? ⟨CH,1,J⟩=Z (A4 t.2))(ht:t.2.size<=40):Ab A6 145 #[v,Br (Bo 146) #[] #[B2 (Z ⟨CH,0,J⟩)]] w λe w'=>∃fp l,e=AV (AL (Z fp))/\w'.heap[fp]?=Z (B4 (Ba l) l)/\(l.map (·.1)).Nodup/\(∀x∈l,x.1∈names A/\x.2≠0)/\(∀p∈names A,p∈l.map (·.1)↔∃b,WX A t b/\EF (DH A) (BW A p) b)/\AO w w w':=by
 obtain⟨DJ,C3,rfl,f9⟩:=hv.open;have v3:=A2 f9;have r:=A2 hF;have wt:=A2 hm;have HM:=A2 h0;have H1:=A2 h1;have Om:=hF.len;have IW:=A2 (vj A _ w hv A' hF.nodup hF.XI hF.closed (BO hF.cE));let Ja:=λd0=>yA A d0 A';let Uz:=aSj;clear hv f9 hF hm h0 h1;go_enter Tryz.func145,Tryz.ntmps145;go_wp2_with fail;refine IW.o.mono ?_;rintro e w1⟨bi,rg,B,V,rfl,FE,J8,E5,Ih,hb1⟩;have bM:=A2 E5;have GC:=A2 Ih;have n3:=A2 hb1;clear E5 Ih hb1 IW;go_wp2_with fail;have xI:=aWA (DH A) V bi rg A B w1 GC r.o.Yq (by rw[Ol];omega) (by have:=r.o.aCj;omega);rw[Ol]at xI;refine xI.mono ?_;rintro e w2⟨K,aIa,rfl,acb,a7Y,hb2⟩;have v2:=A2 (n3.o.trans (hb2.mono n3.o.size));have tJ:=A2 (De hb2 bM);have Q_:=A2 a7Y;clear xI a7Y hb2 GC bM;have z:=A2 ((v2.o.alloc v2.o.size (A7 #[AL (Z bi),A0 (Z ⟨K,0,J⟩) A A] 260)).alloc (by rw[Ck];have:=v2.o.size;omega) (A7 (ints (Dt A 0)) 3));have QY:AE (YD A ((w2.alloc (A7 #[AL (Z bi),A0 (Z ⟨K,0,J⟩) A A] 260)).alloc (A7 (ints (Dt A 0)) 3)) bi K (w2+1) aIa (TO A)):=by
  have TX:K<w2:=B3 Q_.o.blk;have hrl:bi<w2:=B3 tJ;have hk:∀b,b<w2.heap.size->((w2.alloc (A7 #[AL (Z bi),A0 (Z ⟨K,0,J⟩) A.length A.length] 260)).alloc (A7 (ints (Dt A.length 0)) 3)).heap[b]?=w2.heap[b]?:=λb hb=>by rw[BU _ _ _ (by rw[Ck];omega),BU _ _ _ hb]
  exact A2 ⟨(hk _ hrl).trans tJ,Q_.o.len,(hk _ TX).trans Q_.o.blk,λj hj=>pv (zJ Q_ A' j hj) λb hb _=>hk b hb,A',A'⟩
 have fo:AE (((w2.alloc (A7 #[AL (Z bi),A0 (Z ⟨K,0,J⟩) A A] 260)).alloc (A7 (ints (Dt A 0)) 3)).heap[w2.heap.size]?=Z (A7 #[AL (Z bi),A0 (Z ⟨K,0,J⟩) A A] 260)):=(by rw[BU _ _ _ (by rw[Ck];omega)];exact CS _ _ _ rfl);have Rh:AE (((w2.alloc (A7 #[AL (Z bi),A0 (Z ⟨K,0,J⟩) A A] 260)).alloc (A7 (ints (Dt A 0)) 3)).heap[w2.heap.size+1]?=Z (A7 (ints (Dt A 0)) 3)):=CS _ _ _ (by rw[Ck]);have NF:w.heap.size<=w2:=v2.o.size;clear n3 Q_ tJ;go_wp2_with fail;generalize(w2.alloc (A7 #[AL (Z bi),A0 (Z ⟨K,0,J⟩) A A] 260)).alloc (A7 (ints (Dt A 0)) 3)=W at z QY fo Rh⊢;generalize EG:w2.heap.size=U at NF QY fo Rh⊢;clear EG v2;go_loopw[20]λi wr=>∃k:Nat,k<=A.length/\i=AB AJ k/\AE (∃M,Ri (TO A) (WX A t) k M/\wr.heap[U+1]?=Z (A7 (ints M) 3)/\M3 (U+1) W wr)(λi _=>A.length-(B0 i).toNat);case atStart=>exact⟨0,A',rfl,A2 ⟨Dt A.length 0,by rw[<-hD (A:=A)];exact Ri.start,Rh,rfl,rfl,rfl,Ad _,λ_ _ _=>rfl⟩⟩
 case round=>
  obtain⟨k,hk,rfl,H⟩:=hrel;obtain⟨M,hL,iB,m9⟩:=H.o;have Dy:=A2 hL;have bL:=A2 iB;have N:=A2 m9;clear H hL iB m9;by_cases hlt:k<A.length
  .obtain⟨g,rfl,hc,_⟩:=v3.o k hlt;have wT:g<w.heap.size:=Cn (h:=hc.c0);have Wz:g≠U+1:=A';have c0:=N.o.cell Wz (keep z hc.c0);have c1:=N.o.cell Wz (keep z hc.c1);have c2:=N.o.cell Wz (keep z hc.c2);have c3:=N.o.cell Wz (keep z hc.c3);have c4:=N.o.cell Wz (keep z hc.c4);have c5:=N.o.cell Wz (keep z hc.c5);have Dj:=N.o.cell Wz (keep z hc.Dj);have E4:=N.o.cell Wz (keep z hc.E4);have Dk:g<wr:=Cn (h:=c0);have Yv:A[k]?=Z A[k]:=En hlt;have hnm:=yN Yv;have li:=r.o.short _ (Jq hnm);have H9:=Jq hnm;have ZR:=r.o.Zx hnm;have lz:AE (WX A t k↔above A[k].rel.name t=A5):=A2 ⟨λ⟨y,h1,h2⟩=>by rw[Yv]at h1;rwa[CP h1],λh=>⟨_,Yv,h⟩⟩;clear hc Yv hnm;generalize A[k]=x at c0 c1 c2 c3 c4 c5 Dj E4 li H9 ZR lz;obtain⟨⟨p,v,rm,fa,Am,fc,nd⟩,na,nc⟩:=x;simp only[BI.BF,Rel.name]at c0 c1 c2 c3 c4 c5 Dj E4 li H9 ZR lz;have Kv:=A2 li;have UD:=A2 H9;have mP:=A2 ZR;clear li H9 ZR;have Wp:W.heap.size<=wr:=N.o.size;have Lp:U+1<W.heap.size:=B3 Rh;have Dg:AE (∀w4,AO (wr.alloc (A7 #[p,v,p,v,rm,A0 fa Am fc,AB AJ 0,A0 na nd.length nc] 234)) (wr.alloc (A7 #[p,v,p,v,rm,A0 fa Am fc,AB AJ 0,A0 na nd nc] 234)) w4->(∀b,b<wr.heap.size->w4.heap[b]?=wr.heap[b]?)/\M3 (U+1) W w4):=λw4 hb=>by have LC:∀b,b<wr.heap.size->w4.heap[b]?=wr.heap[b]?:=λb hb2=>(hb.block b (by rw[Ck];omega)).trans (BU _ _ _ hb2);exact⟨LC,hb.os.trans N.o.os,hb.tape.trans N.o.tape,hb.output.trans N.o.output,by have:=hb.size;rw[Ck]at this;omega,λb hb2 hn=>(LC b A').trans (N.o.block b hb2 hn)⟩
   have a1u:AE (Ab A6 146 #[AH #[p,v,p,v,rm,A0 fa Am fc,AB AJ 0,A0 na nd nc],B2 (Z ⟨CH,0,J⟩)] (wr.alloc (A7 #[p,v,p,v,rm,A0 fa Am fc,AB AJ 0,A0 na nd nc] 234)) λe w'=>e=AV (Ag (above (p,v) t))/\AO (wr.alloc (A7 #[p,v,p,v,rm,A0 fa Am fc,AB AJ 0,A0 na nd.length nc] 234)) (wr.alloc (A7 #[p,v,p,v,rm,A0 fa Am fc,AB AJ 0,A0 na nd nc] 234)) w'):=by have F:∀{b o:Nat}{u:A3},w.cell? ⟨b,o,J⟩=u->(wr.alloc (A7 #[p,v,p,v,rm,A0 fa Am fc,AB AJ 0,A0 na nd nc] 234)).cell? ⟨b,o,J⟩=u:=λ{b o u}h=>BR (N.o.cell (by have:b<w:=Cn (h:=h);omega) (keep z h)) _;exact aQA ⟨p,v,rm,fa,Am,fc,nd⟩ (A0 na nd nc) t CH m _ ⟨_,_,_,rfl⟩ Kv.o.2 ht (F wt.o) (F HM.o) (F H1.o)
   go_wp2_with fail;refine a1u.o.mono ?_;rintro e w4⟨rfl,Cz⟩;obtain⟨LC,a5Z⟩:=Dg w4 Cz;have a2C:=A2 LC;have X:=A2 a5Z;have xb:w4.heap[wr.heap.size]?=Z (A7 #[p,v,p,v,rm,A0 fa Am fc,AB AJ 0,A0 na nd nc] 234):=De Cz (CS _ _ _ rfl);have KE:w4.cell? ⟨wr,0,J⟩=Z p:=by rw[A_ xb];rfl
   have y1:w4.cell? ⟨wr.heap.size,1,J⟩=Z v:=by rw[A_ xb];rfl
   clear Dg a1u Cz LC a5Z xb;cases hab:above (p,v) t with
   |false=>have Ch:=A2 (Dy.o.pass λh=>by have:=lz.o.1 h;rw[hab]at this;cases this);have aGg:AE (w4.heap[U+1]?=Z (A7 (ints M) 3)):=(a2C.o _ A').trans bL.o;go_wp2;exact⟨⟨k+1,A',BV,A2 ⟨M,Ch,aGg,X⟩⟩,by simp[B0];omega⟩
   |true=>
    have O3:w4.heap[U]?=Z (A7 #[AL (Z bi),A0 (Z ⟨K,0,J⟩) A.length A.length] 260):=(X.o.block U A' A').trans fo;have EY:w4.cell? ⟨U,0,J⟩=Z (AL (Z bi)):=by rw[A_ O3];rfl
    have z1:w4.cell? ⟨U,1,J⟩=Z (A0 (Z ⟨K,0,J⟩) A A):=by rw[A_ O3];rfl
    have Sw:AE (Ab A6 222 #[AH #[AL (Z bi),A0 (Z ⟨K,0,J⟩) A A],AH #[p,v],AB AJ 1,A0 (Z ⟨U+1,0,J⟩) A.length A.length] w4 λe w'=>e=AV (Aj #[])/\∃M',H' (TO A) 1 (BW A (p,v)) M [] M'/\w'.heap[U+1]?=Z (A7 (ints M') 3)/\M3 (U+1) w4 w'):=by refine zm (m:=(p,v)) r.o (QY.o.keep X.o.block) hD r.o.a5I ?_ UD.o ((a2C.o _ A').trans bL.o) Dy.o.len Ac;have h1:=ux A (turns (DH A)) M;have h2:=r.o.aCj;unfold TO;omega
    clear O3;go_wp2_with fail;refine Sw.o.mono ?_;rintro e Bd⟨rfl,M',hsp,NC,L6⟩;rw[mP.o]at hsp;have R:AE (∃M,Ri (TO A) (WX A t) (k+1) M/\Bd.heap[U+1]?=Z (A7 (ints M) 3)/\M3 (U+1) W Bd):=A2 ⟨M',Dy.o.put (lz.o.2 hab) r.o.a5I (by rwa[hD]) hsp,NC,L6.os.trans X.o.os,L6.tape.trans X.o.tape,L6.output.trans X.o.output,Dn X.o.size L6.size,λb hb hn=>(L6.block b (by have:=X.o.size;omega) hn).trans (X.o.block b hb hn)⟩;clear hsp NC L6;go_wp2;exact⟨⟨k+1,A',BV,R⟩,by simp[B0];omega⟩
  obtain rfl:k=A:=A';obtain⟨I,Zb⟩:∃I,I=wr:=⟨wr,rfl⟩;subst Zb;have Wp:W.heap.size<=I:=N.o.size;have Lp:U+1<W.heap.size:=B3 Rh;have ac1:w.heap.size<=W:=z.o.size;go_wp2_with fail;have a1z:AE (Found (I.alloc (B4 #[] 0)) I [] 0):=A2 ⟨[],CS _ _ _ rfl,rfl,λx hx=>by cases hx⟩;have Sx:AE (∀b,b<I.heap.size->(I.alloc (B4 #[] 0)).heap[b]?=I.heap[b]?):=λb hb=>BU _ _ _ hb;have R0:(I.alloc (B4 #[] 0)).heap.size=I+1:=Ck _ _;have mM:AE ((I.alloc (B4 #[] 0)).os=w.os/\(I.alloc (B4 #[] 0)).tape=w.tape/\(I.alloc (B4 #[] 0)).output=w.output):=A2 ⟨N.o.os.trans z.o.os,N.o.tape.trans z.o.tape,N.o.output.trans z.o.output⟩;generalize I.alloc (B4 #[] 0)=Iq at a1z Sx R0 mM⊢;go_loopw[36]λi wr=>∃k:Nat,k<=A/\i=k/\AE (Found wr I (O6 A M k) k/\CV I Iq Iq wr)(λi _=>A-(B0 i).toNat);case atStart=>exact⟨0,A',rfl,A2 ⟨a1z,CV.refl _ _ _⟩⟩
  case round=>
   obtain⟨k,hk,rfl,H⟩:=hrel;obtain⟨hfd,N9⟩:=H.o;have mH:=A2 hfd;have KR:=A2 N9;clear H hfd N9;by_cases hlt:k<A
   .obtain⟨g,rfl,hc,_⟩:=v3 k hlt;have wT:g<w:=Cn (h:=hc.c0);have xe:Iq.heap.size<=wr:=KR.o.size;have XD:∀b,b<I.heap.size->wr.heap[b]?=I.heap[b]?:=λb hb=>(KR.o.block b A' A').trans (Sx b hb);have F:∀{b o:Nat}{u:A3},w.cell? ⟨b,o,J⟩=u->wr.cell? ⟨b,o,J⟩=u:=λ{b o u}h=>by have hb:b<w:=Cn (h:=h);exact(C8 (a:=⟨b,o,J⟩) (XD b A')).trans (N.o.cell A' (keep z h))
    have c0:=F hc.c0;have c1:=F hc.c1;have c2:=F hc.c2;have c3:=F hc.c3;have c4:=F hc.c4;have c5:=F hc.c5;have Dj:=F hc.Dj;have E4:=F hc.E4;have Dk:g<wr:=Cn (h:=c0);have Yv:A[k]?=Z A[k]:=En hlt;have hnm:=yN Yv;have H9:=Jq hnm;have Ni:=A2 (r.o.XI _ H9);have Gw:=A2 (a9Q A M k hlt);have a5m:M.length=A:=Dy.o.len.trans hD;have Ym:wr.cell? ⟨U+1,k,J⟩=Z (M.getD k 0):=by refine(C8 (a:=⟨U+1,k,J⟩) (XD (U+1) A')).trans ?_;rw[A_ bL.o];simp[ints,P_,En (show k<M by omega)]
    have Uq:U+1<wr.heap.size:=A';have aG_:AE (∀m∈O6 A M k,D6 m):=λq hq=>by obtain⟨j,_,h2,_⟩:=jN hq;exact r.o.XI _ (Jq h2)
    have aGZ:=A2 (yD r M k hk);have MB:AE (A[k].rel.name∉O6 A M k):=λh=>by obtain⟨j,h1,h2,_⟩:=jN h;have:=r.o.Zx h2;have h4:=r.o.Zx hnm;omega
    clear hc Yv hnm H9 F;generalize M.getD k 0=mk at Ym Gw;generalize A[k]=x at c0 c1 c2 c3 c4 c5 Dj E4 Ni Gw MB;obtain⟨⟨p,v,rm,fa,Am,fc,nd⟩,na,nc⟩:=x;simp only[BI.BF,Rel.name]at c0 c1 c2 c3 c4 c5 Dj E4 Ni Gw MB;have cf:=mH.o.lt;by_cases oP:mk=0
    .subst oP;rw[if_pos rfl,YU]at Gw;have R:AE (Found (wr.alloc (A7 #[p,v,p,v,rm,A0 fa Am fc,AB AJ 0,A0 na nd.length nc] 234)) I.heap.size (O6 A M (k+1)) (k+1)/\CV I.heap.size Iq.heap.size Iq (wr.alloc (A7 #[p,v,p,v,rm,A0 fa Am fc,AB AJ 0,A0 na nd.length nc] 234))):=by refine A2 ⟨?_,KR.o.below ((Az Iq.heap.size wr).alloc xe _)⟩;rw[Gw.o];obtain⟨l,h1,h2,h3⟩:=mH;exact⟨l,(BU _ _ _ cf).trans h1,h2,λx hx=>by have:=h3 x hx;omega⟩
     go_wp2;exact⟨⟨k+1,A',BV,R⟩,by simp[B0];omega⟩
    have acV:(mk==0)=A9:=by simpa using oP
    rw[if_neg oP]at Gw;obtain⟨n,ou,w3,w4,f1,f2,f3,f4,-,S7,⟨Ly,e3⟩,⟨KC,e4⟩⟩:=uy I (O6 A M k) k (p,v) (wr.alloc (A7 #[p,v,p,v,rm,A0 fa Am fc,AB AJ 0,A0 na nd nc] 234)).drew (mH.o.heap (BU _ _ _ cf)) aGZ aG_ Ni A';rcases S7 with⟨rfl,-,h_⟩|⟨-,h,-⟩;case inr=>exact absurd h MB
    have R:AE (Found w4 I (O6 A M (k+1)) (k+1)/\CV I Iq Iq w4):=by refine A2 ⟨by rwa[Gw.o],?_⟩;rw[e4];exact(KR.o.below ((Az Iq wr).alloc xe (A7 #[p,v,p,v,rm,A0 fa Am fc,AB AJ 0,A0 na nd nc] 234))).drew.set KC
    have hbx:(wr.alloc (A7 #[p,v,p,v,rm,A0 fa Am fc,AB AJ 0,A0 na nd nc] 234)).drew.heap[wr.heap.size]?=Z (A7 #[p,v,p,v,rm,A0 fa Am fc,AB AJ 0,A0 na nd nc] 234):=CS _ _ _ rfl;have p4:(wr.alloc (A7 #[p,v,p,v,rm,A0 fa Am fc,AB AJ 0,A0 na nd nc] 234)).drew.cell? ⟨wr,0,J⟩=Z p:=by rw[A_ hbx];rfl
    have d1:(wr.alloc (A7 #[p,v,p,v,rm,A0 fa Am fc,AB AJ 0,A0 na nd nc] 234)).drew.cell? ⟨wr,1,J⟩=Z v:=by rw[A_ hbx];rfl
    have m5:w3.heap[wr.heap.size]?=Z (A7 #[p,v,p,v,rm,A0 fa Am fc,AB AJ 0,A0 na nd nc] 234):=by rw[e3];show(a'z _ _ Ly)[wr.heap.size]?=_;rwa[HX,if_neg A']
    have G_:w3.cell? ⟨wr,0,J⟩=Z p:=by rw[A_ m5];rfl
    have t1:w3.cell? ⟨wr,1,J⟩=Z v:=by rw[A_ m5];rfl
    simp only[EH]at f1 f2 f3;simp only[Int.natCast_zero,Int.zero_add]at f1 f2 f3 f4;clear h_ e3 e4 hbx m5 oP;have adA:AJ.wrap 1=1:=Ac;go_wp2_with fail;go_region_with fail;all_goals go_wp2;exact⟨⟨k+1,A',BV,R⟩,by simp[B0];omega⟩
   obtain rfl:k=A.length:=A';go_wp2;go_ret;obtain⟨l,Py,Qt,Eb⟩:=mH;refine⟨I,l,rfl,Py,by rw[Qt];exact yD r M _ (Ad _),λx hx=>⟨?_,by have:=Eb x hx;omega⟩,λq hq=>?_,mM.o.1▸KR.o.os,?_,?_,?_,λb hb=>?_⟩
   .have hx2:x.1∈O6 A M A:=by rw[<-Qt];exact Bt.2 ⟨x,hx,rfl⟩
    obtain⟨j,_,h2,_⟩:=jN hx2;exact Jq h2
   .rw[Qt];have hat:(names A)[BW A q]?=q:=(VK (pM hq)).2;constructor;.intro h;obtain⟨j,h1,h2,h3⟩:=jN h;obtain⟨b,_,h4,h5⟩:=(Dy.o.mark j).1 (yE.2 h3);rw[r.o.Zx h2];exact⟨b,h4,r.o.back.1 h5⟩
    rintro⟨b,h4,h5⟩;have hbl:b<A:=by obtain⟨y,hy,_⟩:=h4;exact Po hy
    exact aS5 (XV hq) hat (yE.1 ((Dy.o.mark _).2 ⟨b,hbl,h4,r.o.back.2 h5⟩))
   .exact KR.o.tape.trans mM.o.2.1
   .exact KR.o.output.trans mM.o.2.2
   .have:=KR.o.size;omega
   rw[KR.o.block b A' A',Sx.o b A',N.o.block b A' A'];exact z.o.block b hb
section
variable{A:List BI}{R:List AW}{CQ:List BI}{M:List Int}
def nz(hM:PX (DH A) (R.map (BW A)) 0 M)(h:∀x∈CQ,x.rel.name∈names A/\∃r∈R,EF (DH A) (BW A r) (BW A x.rel.name))(he:e∈Fo A M CQ CQ):e.1<R/\e.2<A/\∃q,(R.map (BW A))[e.1]?=Z q/\EF (DH A) q e.2:=by
 unfold Fo at he;rw[Hb]at he;obtain⟨x,hx,rfl⟩:=Bt.1 he;let⟨h1,r,hr,hl⟩:=h x hx;let⟨i,q,h2,h3,h4⟩:=hM.Fo (Rl hr) hl;let e1:(M.getD (BW A x.rel.name) 0-1).toNat=i:=by rw[P_,h3];show((i:Int)+1-1).toNat=i;omega
 rw[e1];refine⟨?_,XV h1,q,h2,h4⟩;have:=Po h2;simpa using this
def aNd(h:∀x∈CQ,x.rel.name∈names A){x:BI}(hx:x∈CQ):∃i,(i,BW A x.rel.name)∈Fo A M CQ CQ:=by unfold Fo;rw[Hb];exact⟨_,Bt.2 ⟨x,hx,rfl⟩⟩
theorem aYJ(hF:FF A)(hM:PX (DH A) (R.map (BW A)) 0 M)(I:∀x∈CQ,x.rel.name∈names A/\∃r∈R,EF (DH A) (BW A r) (BW A x.rel.name)){K:List AW}{M':List Int}(h:Pg (DH A) (BW A) R (rowsOf R (Fo A M CQ CQ)) R K M'):K.Sublist R/\∀x∈CQ,∃r∈K,EF (DH A) (BW A r) (BW A x.rel.name):=by refine⟨by have:=h.sub;grind,λx hx=>?_⟩;obtain⟨i,hi⟩:=aNd (λx hx=>(I x hx).1) hx;exact h.mark _ (h.done i _ (nz hM I hi).1 ((pL (λe he=>(nz hM I he).1) i (BW A x.rel.name)).2 hi))
end
def a4i(A:List BI)(R:List AW)(CQ:List BI)(rv tv:A3)(bi eb B:Nat)(V:List A3)(w:A1)(hF:FF A)(hR:EL w rv R)(Z3:R.length<=1000)(Uo:∀r∈R,r∈names A)(hT:Hf w tv CQ)(wA:CQ.length<=1000)(JZ:∀x∈CQ,x.rel.name∈names A/\∃r∈R,EF (DH A) (BW A r) (BW A x.rel.name))(E5:w.heap[bi]?=Z (B4 (Ba (Ho A A)) A))(F:Fh w B eb V (DH A)):Ab A6 154 #[AH #[AL (Z bi),A0 (Z ⟨eb,0,J⟩) A A],tv,rv] w λe w'=>∃kv K,e=AV kv/\w'.ownsRow w 221 2 kv K.length (Bb K)/\K.Sublist R/\(∀x∈CQ,∃r∈K,EF (DH A) (BW A r) (BW A x.rel.name))/\AO w w w':=by
 obtain⟨D9,rc,rfl,iw⟩:=Zm hR;obtain⟨dz,eA,rfl,_⟩:=hT.open;obtain⟨i0,hi,hz0,hz1,hz2⟩:=FJ Ze;have tW:=A2 iw;have v5:=A2 hF;have fg:=A2 Uo;have UH:=A2 JZ;have aa_:=A2 F;have Om:=hF.len;have Ja:=λN=>yA A N A';have aNz:eb<w:=B3 F.blk;have dC:bi<w:=B3 E5;have Nr:=Q9 w (A7 #[AL (Z bi),BG eb 0 A A] 260);have KT:=A2 (aNc A R CQ (A0 D9 R rc) (A0 dz CQ eA) bi eb B V (w.alloc (A7 #[AL (Z bi),BG eb 0 A A] 260)) hF (EL.below hR Nr) Z3 Uo (Hf.below hT Nr) wA JZ (De Nr E5) (F.more λb hb _=>BU _ _ _ hb));have QY:AE (∀(fk:Nat)(N:A1),w<=fk->AO w w N->YD A N bi eb fk V (DH A)):=A2 λfk N O' hb=>⟨De hb E5,F.len,De hb F.blk,λj hj=>pv (zJ F O' j hj) λb hb2 _=>hb.block b hb2,A',A'⟩;have GS:=A2 Nr;clear hF hR iw Uo hT JZ E5 F Nr;go_enter Tryz.func154,Tryz.ntmps154;go_wp2_with fail;refine KT.o.mono ?_;rintro e w2⟨hb,qx,uK,bb,rfl,acC,Wn,XA,hb2⟩;have fY:=A2 Wn;have GC:=A2 XA;have v2:=A2 (GS.o.trans (hb2.mono (by rw[Ck];omega)));have j8:w2.heap[w.heap.size]?=Z (A7 #[AL (Z bi),A0 (Z ⟨eb,0,J⟩) A A] 260):=De hb2 (CS _ _ _ rfl);have aH1:=A2 j8;have HB:w.heap.size<w2:=B3 j8;have acD:hb<w2:=B3 XA.blk;have EY:w2.cell? ⟨w,0,J⟩=Z (AL (Z bi)):=by rw[A_ j8];rfl
 have z1:w2.cell? ⟨w,1,J⟩=Z (A0 (Z ⟨eb,0,J⟩) A A):=by rw[A_ j8];rfl
 clear Wn XA hb2 j8 KT GS;go_wp2_with fail;have tA:AE (∀k x,x∈(rowsOf R (Fo A bb CQ CQ)).getD k []->x<A/\∀r,R[k]?=Z r->EF (DH A) (BW A r) x):=by refine A2 λk x hx=>?_;have h1:=(pL (λe he=>(nz fY.o UH.o he).1) k x).1 hx;obtain⟨_,h2,q,h3,h4⟩:=nz fY.o UH.o h1;refine⟨h2,λr hr=>?_⟩;rw[YV,hr]at h3;rwa[CP h3]
 have a1y:=A2 λK M'=>aYJ (K:=K) (M':=M') v5.o fY.o UH.o;have a29:AE (∀k,((rowsOf R.length (Fo A bb CQ CQ.length)).getD k []).length<=1000000):=A2 λk=>by
  have h1:=px R k (Fo A bb CQ CQ);have h2:Fo A bb CQ CQ.length<=CQ.length:=by simp[Fo]
  omega
 have aMw:=dk R (Fo A bb CQ CQ);generalize rowsOf R (Fo A bb CQ CQ)=H at GC tA a1y a29 aMw;have OU:AE (AO w2 w2 ((w2.alloc (A7 (ints (Dt A 0)) 3)).alloc (A7 #[BG (AR w2) 0 A A] 33))):=A2 (K9 ..);have Rh:AE (((w2.alloc (A7 (ints (Dt A 0)) 3)).alloc (A7 #[A0 (Z ⟨w2,0,J⟩) A A] 33)).heap[w2.heap.size]?=Z (A7 (ints (Dt A 0)) 3)):=A2 (by rw[BU _ _ _ (by rw[Ck];omega)];exact CS _ _ _ rfl);have a2Q:AE (((w2.alloc (A7 (ints (Dt A 0)) 3)).alloc (A7 #[A0 (Z ⟨w2,0,J⟩) A A] 33)).heap[w2.heap.size+1]?=Z (A7 #[A0 (Z ⟨w2,0,J⟩) A A] 33)):=A2 (CS _ _ _ (by rw[Ck]));generalize(w2.alloc (A7 (ints (Dt A 0)) 3)).alloc (A7 #[BG (AR w2) 0 A A] 33)=W at OU Rh a2Q⊢;clear EY z1;go_loopw[10,24]λt i wr=>∃k:Nat,k<=R/\i=AX k/\AE (∃K M,Pg (DH A) (BW A) R H k K M/\wr.ownsRow (w2+2) 221 2 t K (Bb K)/\wr.heap[w2.heap.size]?=Z (A7 (ints M) 3)/\wr.heap[w2.heap.size+1]?=Z (A7 #[A0 (Z ⟨w2,0,J⟩) A A] 33)/\AO w2 w2 wr)(λ_ i _=>R-(B0 i).toNat);case atStart=>refine⟨0,A',rfl,A2 ⟨[],Dt A 0,?_,PR ..,Rh.o,a2Q.o,OU.o⟩⟩;rw[<-Ol];exact Pg.start
 case round=>
  obtain⟨k,hk,rfl,I7⟩:=hrel;obtain⟨K,M,hst,hown,Uz,wm,Uq⟩:=I7.o;obtain⟨DJ,C3,rfl⟩:=EA hown;have Lb:=A2 hst;have X:=A2 hown;have tI:=A2 Uz;have tG:=A2 wm;have PS:=A2 Uq;have a7a:w2.heap.size+1<wr:=B3 wm;have aMy:K<=k:=by have:=hst.sub.length_le;simp at this;omega
  clear I7 hst hown Uz wm Uq;by_cases hlt:k<R
  .obtain⟨g,rfl,H4,Eh⟩:=tW.o k hlt;have ly:=A2 (v2.o.trans (PS.o.mono A'));have c0:=keep ly.o H4;have c1:=keep ly.o Eh;have Dk:g<wr:=Cn (h:=c0);have EX:=GC.o.row k A';have a4N:=keep PS.o (GC.o.cell (j:=k) A');have a5q:R[k]?=Z R[k]:=En hlt;have mR:=A2 a5q;have UD:=A2 (fg.o _ (Ci hlt));have cu:M.length=A:=Lb.o.len.trans Ol;have mD:AE (∀N:A1,AO wr wr N->Ab A6 228 #[uK.getD k AN,Br (Bo 227) #[] #[XU (AR w2+1)]] N λe w'=>w'=N/\∃b:Bool,e=AV (Ag b)/\if b then∃x∈H.getD k [],M.getD x 0=0 else∀x∈H.getD k [],M.getD x 0≠0):=A2 λN hx=>by refine aKJ qx (w2+1) w2 A A _ (H.getD k []) M N (VA EX (PS.o.trans (hx.mono A'))) (a29.o k) ?_ cu (De hx tI.o) (λx hx=>by rw[cu];exact(tA.o k x hx).1);rw[A_ (De hx tG.o)];rfl
   obtain⟨Tt,Tu,hu⟩:=EA EX;rw[hu]at a4N mD;have acE:hb<wr:=A';clear H4 Eh EX hu a5q;generalize(H.getD k []).length=HE at a4N mD;generalize R[k]=r at c0 c1 mR UD;obtain⟨p,v⟩:=r;simp only at c0 c1;go_wp2_with fail;refine(mD.o _ (Q9 ..)).mono ?_;rintro e I⟨rfl,b,rfl,a6P⟩;have Cg:=A2 a6P;clear a6P mD;cases b with
   |false=>have Ob:AE (∃Dz M,Pg (DH A) (BW A) R H (k+1) Dz M/\(wr.alloc (A7 #[A4 p,A4 v] 221)).ownsRow (w2+2) 221 2 (A0 DJ K C3) Dz (Bb Dz)/\(wr.alloc (A7 #[A4 p,A4 v] 221)).heap[w2.heap.size]?=Z (A7 (ints M) 3)/\(wr.alloc (A7 #[A4 p,A4 v] 221)).heap[w2.heap.size+1]?=Z (A7 #[A0 (Z ⟨w2,0,J⟩) A A] 33)/\AO w2 w2 (wr.alloc (A7 #[A4 p,A4 v] 221))):=A2 ⟨K,M,Lb.o.pass mR.o λx hx=>yE.2 (Cg.o x hx),X.o.alloc _,(BU _ _ _ A').trans tI.o,(BU _ _ _ A').trans tG.o,PS.o.alloc A' _⟩;go_wp2;exact⟨⟨k+1,A',BV,Ob⟩,by simp[B0];omega⟩
   |true=>
    go_wp2_with(at_builtin;refine IU _ rfl _ _ 124 rfl (w2+2) 221 i0 (AH #[A4 ⟨#[]⟩,A4 ⟨#[]⟩]) 2 32 Vw hi hz0 hz1 hz2 rfl Ac _ _ _ rfl ((X.o.alloc _).alloc _) ⟨wr+1,0,J⟩ 1 1 [A4 p,A4 v] rfl rfl ?c1 Of DQ A' RD ?_);case c1=>intro j u hj;have Eb:((wr.alloc (A7 #[A4 p,A4 v] 221)).alloc (A7 #[A4 p,A4 v] 221)).heap[wr.heap.size+1]?=Z (A7 #[A4 p,A4 v] 221):=CS (wr.alloc _) _ _ AD;(rw[Ea]);(try rw[My]);refine(A_ Eb j).trans ?_;rw[<-hj];simp
    intro v' I C2 BN _;have z:AO w2 w2 I:=((PS.o.alloc A' (A7 #[A4 p,A4 v] 221)).alloc Av (A7 #[A4 p,A4 v] 221)).grown BN Av (λk hk=>by have:=(X.o.lt k hk).1;omega);have Px:∀b,b<=wr.heap.size->(∀g,(A0 DJ K.length C3).ownBlock=Z g->b≠g)->I.heap[b]?=(wr.alloc (A7 #[A4 p,A4 v] 221)).heap[b]?:=λb hb hn=>(BN.block b Av λe=>hn b e.symm rfl).trans (BU _ _ _ Av);have G7:I.heap[wr.heap.size]?=Z (A7 #[A4 p,A4 v] 221):=(Px _ (Ad _) λg hg e=>by have:=(X.o.lt g hg).2;omega).trans (CS _ _ _ rfl);have aDL:I.heap[w2.heap.size]?=Z (A7 (ints M) 3):=(Px w2 A' λg hg e=>by have:=(X.o.lt g hg).1;omega).trans ((BU _ _ _ A').trans tI.o);have F1:I.heap[w2.heap.size+1]?=Z (A7 #[A0 (Z ⟨w2,0,J⟩) A A] 33):=(Px (w2+1) A' λg hg e=>by have:=(X.o.lt g hg).1;omega).trans ((BU _ _ _ A').trans tG.o);have x3:=(z.block w HB).trans aH1.o;have KE:I.cell? ⟨w,0,J⟩=Z (AL (Z bi)):=by rw[A_ x3];rfl
    have y1:I.cell? ⟨w,1,J⟩=Z (A0 (Z ⟨eb,0,J⟩) A A):=by rw[A_ x3];rfl
    have y2:I.cell? ⟨wr,0,J⟩=Z (A4 p):=by rw[A_ G7];rfl
    have y3:I.cell? ⟨wr,1,J⟩=Z (A4 v):=by rw[A_ G7];rfl
    have af5:I.cell? ⟨w2+1,0,J⟩=Z (A0 (Z ⟨w2,0,J⟩) A A):=by rw[A_ F1];rfl
    have oZ:w2.heap.size+1<I:=B3 F1;have acz:wr.heap.size<I:=B3 G7;have Sw:AE (Ab A6 222 #[AH #[AL (Z bi),BG eb 0 A A],AH #[A4 p,A4 v],AX 1,BG (AR w2) 0 A A] I λe w'=>e=AV (Aj #[])/\∃M',H' (DH A) 1 (BW A (p,v)) M [] M'/\w'.heap[w2.heap.size]?=Z (A7 (ints M') 3)/\M3 w2 I w'):=by refine A2 (zm v5.o (QY.o w2 I A' (v2.o.trans (z.mono A'))) Ol v5.o.Yq ?_ UD.o aDL Lb.o.len Ac);have h1:=ux A (GJ A A) M;have h2:=v5.o.cE;unfold DH;omega
    have aGl:AE (∀(w4:A1)(M':List Int),H' (DH A) 1 (BW A (p,v)) M [] M'->w4.heap[w2.heap.size]?=Z (A7 (ints M') 3)->M3 w2 I w4->∃K M,Pg (DH A) (BW A) R H (k+1) K M/\w4.ownsRow (w2+2) 221 2 v' K (Bb K)/\w4.heap[w2.heap.size]?=Z (A7 (ints M) 3)/\w4.heap[w2.heap.size+1]?=Z (A7 #[A0 (Z ⟨w2,0,J⟩) A A] 33)/\AO w2 w2 w4):=by
     refine A2 λw4 M' hsp Pz U=>⟨K++[(p,v)],M',Lb.o.put mR.o v5.o.Yq (by rw[Ol];exact XV UD.o) hsp λx hx=>(tA.o k x hx).2 _ mR.o,?_,Pz,(U.block _ A' A').trans F1,?_⟩;.rw[R5,DV];refine⟨C2.1,C2.2.imp id ?_⟩;rintro⟨g,cap,cur,h1,h2,h3,h4⟩;exact⟨g,cap,cur,h1,h2,(U.block g (B3 h3) A').trans h3,h4⟩
     exact⟨U.os.trans z.os,U.tape.trans z.tape,U.output.trans z.output,Dn z.size U.size,λb hb=>(U.block b A' A').trans (z.block b hb)⟩
    obtain⟨ad_,ada,rfl⟩:=EA C2;clear z Px G7 aDL F1 x3 BN C2;go_wp2_with fail;refine Sw.o.mono ?_;rintro e w4⟨rfl,M',hsp,Pz,U⟩;have Ob:=A2 (aGl.o w4 M' hsp Pz U);clear hsp Pz U;go_wp2;exact⟨⟨k+1,A',BV,Ob⟩,by simp[B0];omega⟩
  obtain rfl:k=R:=A';obtain⟨hsub,FD⟩:=a1y.o K M Lb.o;have Rg:=A2 (aU hsub FD);have ly:=A2 (v2.o.trans (PS.o.mono A'));clear hsub FD;go_wp2;go_ret;exact⟨_,K,rfl,Q8 X.o A',Rg.o.1,Rg.o.2,ly.o⟩
end
section
open Go.Proofs.YtcfhleenecfghaaGreatDoor
open Go.Conc Go.RowKit
open Go.ConcR(Payload)
variable{Post:zv}{w:A1}{v:A3}{Fq:A3->A1->Prop}{t:AW}{ρ:BP->A3}{s:zz}{m:Int}{No:List AW->Prop}{cs:List Ah}{D:List Nat}{d9:List Rel}{a9 b cap hH n nc:Nat}{Ek R Wb:zy}{p:Nat×Nat}{a na:Option An}{f:Rel->zz}
section
variable{ρ:BP->A3}{o:B8}{br t:Nat}{w:A1}{p:Nat×Nat}
def py{n c bi}(ho:o.op=ED 136 (Aa t))(h2:ρ (Aa t)=AT br)(h:w.heap[br]?=Z (A7 #[A0 a n c,AL (Z bi)] 136 p)):(AM ρ o).run A6 w=.ok (BB (AH #[A0 a n c,AL (Z bi)])) w:=by
 unfold AM;rw[ho];simp only[h2];let c0:w.cell? ⟨br,0,J⟩=Z (A0 a n c):=by simp[Cr,h]
 let c1:w.cell? ⟨br,1,J⟩=Z (AL (Z bi)):=by simp[Cr,h]
 simp[go_sem,c0,c1]
end
def UT(A:List BI)(rt:List AW)(w:A1)(v:A3)(w1:A1):Prop:=∃kv S K,v=Aj #[kv,CN]/\S.Perm rt/\(S.Pairwise λa b=>Fx a.1 b.1<=0)/\K.Sublist S/\(∀x∈Cc A A,∃r∈K,EF (DH A) (BW A r) (BW A x.rel.name))/\w1.ownsRow w 221 2 kv K.length (Bb K)/\w.heap.size<=w1/\∀b,b<w.heap.size->w1.heap[b]?=w.heap[b]?
theorem UT.heap{A rt w w1 w2 v}(h:UT A rt w v w1)(e:w2.heap=w1.heap):UT A rt w v w2:=by let⟨kv,S,K,h1,h2,h3,h4,h5,h6,h7,h8⟩:=h;refine⟨kv,S,K,h1,h2,h3,h4,h5,⟨h6.1,h6.2.imp id ?_⟩,Ar e,λb hb=>As e (h8 b hb)⟩;simp_all
noncomputable def kE:DK:=sndC (sndC (J1 75))
def aCT:kE=sndC (sndC ((lS.body).getD M4)):=rfl
def aZD(A:List BI)(u:A3)(rt:List AW)(own:zz)(hH g nc:Nat)(EP Ga:A3)(w:A1)(v:Nat->A3)(h2:v 2=AT hH)(h6:v 6=u)(hF:FF A)(hu:Hf w u A)(hp:w.heap[hH]?=Z (A7 #[own,A0 (Z ⟨g,0,J⟩) rt nc,EP,Ga] 128))(hat:JP w g rt)(hne:rt≠[])(hrl:rt.length<=1000)(Uo:∀r∈rt,r∈names A)(JZ:∀x∈Cc A A,∃r∈rt,EF (DH A) (BW A r) (BW A x.rel.name)):kE.wp A6 (W1 A6 lS λe w1=>∃v,e=AV v/\UT A rt w v w1) ⟨Ax 31 v,[]⟩ w:=by
 rw[show Ax 31 v=#[v 0,v 1,v 2,v 3,v 4,v 5,v 6,v 7,v 8,v 9,v 10,v 11,v 12,v 13,v 14,v 15,v 16,v 17,v 18,v 19,v 20,v 21,v 22,v 23,v 24,v 25,v 26,v 27,v 28,v 29,v 30]by kernel_rfl,h2,h6];clear h2 h6;have Om:=hF.len;have H:=A2 hF;have fl:=A2 hu;have DL:=A2 hp;have G':=A2 hat;have UE:=A2 hne;have fg:=A2 Uo;have UH:=A2 JZ;obtain⟨Tt,Tu,rfl,_⟩:=hu.open;have Ma:=B3 hp;clear hF hu hp hat hne Uo JZ;simp only[aCT,lS,MJ,sndC];go_wp2_with fail;refine(vW _ A w fl A').mono ?_;rintro e w1⟨rfl,hb1⟩;have N:=A2 hb1;have LF:=De hb1 DL;have c1:w1.cell? ⟨hH,1,J⟩=Z (A0 (Z ⟨g,0,J⟩) rt nc):=Af (A_ LF);have aOz:=B3 LF;clear hb1 LF;go_wp2_with fail;refine(aJy g nc rt w1 A' UE λj hj=>⟨keep N (G' j hj).1,keep N (G' j hj).2⟩).mono ?_;rintro e w2⟨CE,cc,rfl,hown,hb2⟩;have m3:=A2 hown;have U:=A2 hb2;clear hown hb2;go_wp2_with fail;have wG:=m3.o.lt CE rfl;have dG:=aY' CE cc rt w2 A' wG.2 (by
  rcases jR m3 with⟨_,e⟩|⟨g',c',e,_,h,_⟩;.exact absurd e UE
  .injection e with e;injection e with e;injection e with e;subst e;exact h) (by
  rcases m3.o.2 with⟨e,_⟩|⟨g',cap,cur,e,_,h,_⟩;.cases e
  injection e with e;injection e with e;injection e with e;subst e;exact λo=>C' h o);refine dG.mono ?_;rintro e w3⟨rfl,S,O1,hord,W,z⟩;have tO:=A2 O1;have ff:=A2 hord;have X:=A2 W;have KZ:AO w w w3:=by have nj:=N.o.size;have h2:=U.o.size;exact⟨z.os.trans (U.o.os.trans N.o.os),z.tape.trans (U.o.tape.trans N.o.tape),z.output.trans (U.o.output.trans N.o.output),BO z.size,λb hb=>(z.block b A' A').trans ((U.o.block b A').trans (N.o.block b hb))⟩
 have Cs:=A2 KZ;have w9:=O1.length_eq;clear dG O1 hord W z KZ N U m3 c1;have i':=fl.o.below Cs.o;have YM:=A2 i';clear i';go_wp2_with fail;refine(vj A _ w3 YM.o A' H.o.nodup H.o.XI H.o.closed (BO H.o.cE)).mono ?_;rintro e w4⟨bi,rg,B,V,rfl,_,_,E5,Ih,Cz⟩;have bM:=A2 E5;have GC:=A2 Ih;have I:=A2 Cz;clear E5 Ih Cz;go_wp2_with fail;refine(zp _ A w4 (YM.o.below I.o) A').mono ?_;rintro e Bd⟨tv,rfl,hown5,EG⟩;have hS:∀x∈A,EL Bd x.BF x.rel.Bs:=λx hx=>by
  obtain⟨j,hj,rfl⟩:=Rk hx;rcases YM.o.below (I.o.trans (EG.mono I.o.size))with⟨_,e⟩|⟨g',c',_,h⟩;.subst e;simp at hj
  exact(h j hj).2
 have tR:=A2 (zA hown5 λx hx=>hS x (VV A _ x hx));have F:=A2 EG;obtain⟨dz,eA,rfl⟩:=EA hown5;have cN:=I.o.size;have aMb:=F.o.size;have vl:=Cs.o.size;clear hown5 EG hS;go_wp2_with fail;have ZC:=a4i A S (Cc A A) (BG CE 0 rt cc) (A0 dz (Cc A A.length) eA) bi rg B V Bd H.o (AF ⟨CE,cc,by rw[w9],λj hj=>⟨keep (I.o.trans (F.o.mono I.o.size)) (X.o j hj).1,keep (I.o.trans (F.o.mono I.o.size)) (X.o j hj).2⟩⟩) A' (λr hr=>fg.o r (tO.o.mem_iff.1 hr)) tR.o (BO (kF A A)) (λx hx=>⟨Bt.2 ⟨x,VV A _ x hx,rfl⟩,by let⟨r,h1,h2⟩:=UH.o x hx;exact⟨r,tO.o.mem_iff.2 h1,h2⟩⟩) (De F.o bM.o) (GC.o.more λb hb _=>F.o.block b hb);refine ZC.mono ?_;rintro e EC⟨kv,K,rfl,F',DR,J7,LC⟩;have Z8:=Cs.o.trans ((I.o.trans ((F.o.trans (LC.mono A')).mono A')).mono A');have BC:AE (UT A rt w (Aj #[kv,CN]) EC):=A2 ⟨kv,S,K,rfl,tO.o,ff.o,DR,J7,Q8 F' A',Z8.size,Z8.block⟩;clear ZC F' DR J7 LC Z8;go_wp2;go_ret2;exact⟨_,rfl,BC.o⟩
def aZE(A:List BI)(u:A3)(own:zz)(hH:Nat)(EP Ga:A3)(w:A1)(v:Nat->A3)(h2:v 2=AT hH)(h6:v 6=u)(hF:FF A)(hu:Hf w u A)(hp:w.heap[hH]?=Z (A7 #[own,A0 J 0 0,EP,Ga] 128))(JZ:Cc A A=[]):kE.wp A6 (W1 A6 lS λe w1=>∃v,e=AV v/\UT A [] w v w1) ⟨Ax 31 v,[]⟩ w:=by
 rw[show Ax 31 v=#[v 0,v 1,v 2,v 3,v 4,v 5,v 6,v 7,v 8,v 9,v 10,v 11,v 12,v 13,v 14,v 15,v 16,v 17,v 18,v 19,v 20,v 21,v 22,v 23,v 24,v 25,v 26,v 27,v 28,v 29,v 30]by kernel_rfl,h2,h6];clear h2 h6;have Om:=hF.len;have N:=A2 hF;have fl:=A2 hu;have DL:=A2 hp;have UH:=A2 JZ;obtain⟨Tt,Tu,rfl,_⟩:=hu.open;have Ma:=B3 hp;clear hF hu hp JZ;simp only[aCT,lS,MJ,sndC];go_wp2_with fail;refine(vW _ A w fl A').mono ?_;rintro e w1⟨rfl,hb1⟩;have n3:=A2 hb1;have z:=De hb1 DL;have c1:w1.cell? ⟨hH,1,J⟩=Z (A0 J 0 0):=Af (A_ z);have aOz:=B3 z;clear hb1 z;go_wp2_with fail;refine(aJz w1).mono ?_;rintro e w2⟨rfl,rfl⟩;go_wp2_with fail;refine(aY0 w2 _).mono ?_;rintro e w3⟨rfl,rfl⟩;have F:=n3;clear n3 c1;have i':=fl.o.below F;have H:=A2 i';clear i';go_wp2_with fail;refine(vj A _ w3 H A' N.o.nodup N.o.XI N.o.closed (BO N.o.cE)).mono ?_;rintro e w4⟨bi,rg,B,V,rfl,_,_,E5,Ih,Cz⟩;have bM:=A2 E5;have GC:=A2 Ih;have I:=A2 Cz;clear E5 Ih Cz;go_wp2_with fail;refine(zp _ A w4 (H.o.below I.o) A').mono ?_;rintro e Bd⟨tv,rfl,hown5,W⟩;have hS:∀x∈A,EL Bd x.BF x.rel.Bs:=λx hx=>by
  obtain⟨j,hj,rfl⟩:=Rk hx;rcases H.o.below (I.o.trans (W.mono I.o.size))with⟨_,e⟩|⟨g',c',_,h⟩;.subst e;simp at hj
  exact(h j hj).2
 have tR:=A2 (zA hown5 λx hx=>hS x (VV A _ x hx));have U:=A2 W;obtain⟨dz,eA,rfl⟩:=EA hown5;have cN:=I.o.size;have aMb:=U.o.size;have vl:=F.o.size;clear hown5 W hS;go_wp2_with fail;have ZC:=a4i A [] (Cc A A) (A0 J 0 0) (A0 dz (Cc A A.length) eA) bi rg B V Bd N.o (AA ⟨rfl,rfl⟩) AD (λr hr=>by cases hr) tR.o (BO (kF A A)) (λx hx=>by rw[UH.o]at hx;cases hx) (De U.o bM.o) (GC.o.more λb hb _=>U.o.block b hb);refine ZC.mono ?_;rintro e EC⟨kv,K,rfl,F',DR,J7,LC⟩;have X:=F.o.trans ((I.o.trans ((U.o.trans (LC.mono A')).mono A')).mono A');have BC:AE (UT A [] w (Aj #[kv,CN]) EC):=A2 ⟨kv,[],K,rfl,.refl _,.nil,DR,J7,Q8 F' A',X.size,X.block⟩;clear ZC F' DR J7 LC X;go_wp2;go_ret2;exact⟨_,rfl,BC.o⟩
def WT(d9:List Rel)(rt:List AW)(v:A3)(w:A1):Prop:=∃A h,UT A rt h v w/\(∀x∈A,x.rel∈d9)/\He A/\(names A).Nodup/\∀x,x∈names A↔N.Reach (Ej d9) rt x
def WT.heap{d9 rt v w w'}(h:WT d9 rt v w)(e:w'.heap=w.heap):WT d9 rt v w':=by let⟨A,w1,h1,h2⟩:=h;exact⟨A,w1,h1.heap e,h2⟩
def qB{o:B8}{x:BP}{own:zz}{c:Nat}(ho:o.op=N_ 128 x)(hx:ρ x=AH (Cm own (A0 a n c))):(AM ρ o).run A6 w=.ok (BB (AT w)) (w.alloc (A7 (Cm own (A0 a n c)) 128)):=by unfold AM;rw[ho];simp only[hx];rfl
def aKe:Nat->List Nat|2=>[0,1]|4=>[3]|_=>[]
def Xt(own:zz)(v:A3)(a9 n cap bi b:Nat):Nat->A3->zy->A1->Prop|0,u,_,_=>u=AH (Cm own v)|1,u,_,_=>u=AH #[A0 (Z ⟨a9,0,J⟩) n cap,AL (Z bi)]|2,u,R,w=>∃r1 r2,u=JD own r1 r2 a9 n cap bi/\(w.heap[r1]?=Z (B4 #[] 0)/\R r1)/\w.heap[r2]?=Z (B4 #[] 0)/\R r2|3,u,_,_=>u=B2 (Z ⟨b,1,J⟩)|4,u,_,_=>u=v|_,_,_,_=>False
theorem Xt.on{own bi}(i)(u)(R)(w)(R')(w')(h:Xt own v a9 n cap bi b i u R w)(hk:∀b,R b->R' b/\w'.heap[b]?=w.heap[b]?):Xt own v a9 n cap bi b i u R' w':=by unfold Xt at h⊢;grind
def aZF[Bg]{own:zz}{rt:List AW}{bi:Nat}(m9:RP w R Ek own rt na nc hH a9 d9 m)(FE:w.heap[bi]?=Z (B4 (Ba (places d9)) d9))(Hm:R bi)(m2:CC Wb R w)(Et:Ey R #[AH (Cm own (A0 na rt nc)),AH #[A0 (Z ⟨a9,0,J⟩) d9 cap,AL (Z bi)]])(cw:na=J/\nc=0/\rt=[]∨(∃g,na=Z ⟨g,0,J⟩)/\rt≠[])(hrl:rt.length<=1000)(LB:∀A:List BI,(∀x∈A,x.rel∈d9)->He A->(names A).Nodup->(∀x,x∈names A↔N.Reach (Ej d9) rt x)->FF A/\∀x∈Cc A A,∃r∈rt,EF (DH A) (BW A r) (BW A x.rel.name)):HJ 75 #[AH (Cm own (A0 na rt nc)),AH #[A0 (Z ⟨a9,0,J⟩) d9 cap,AL (Z bi)]] Wb R w (WT d9 rt):=by
 intro x c' cs';refine Be.enter 31 A8 ?_;let S0:Ap 31 [] w R Wb R (w.at x) (Ep 75 #[AH (Cm own (A0 na rt nc)),AH #[BG a9 0 d9 cap,AL (Z bi)]]).1:=⟨m2.at x,Cb.Ep Et,λb hb=>⟨hb,rfl⟩⟩;refine S0.alloc (A7 (Cm own (A0 na rt nc)) 128) (p:=N_ 128 (Aa 0)) (e:=2) A8 (λ_ _ h=>qB h A8) λip I t0 Er K Dc HP=>?_;refine t0.alloc (A7 #[BG a9 0 d9 cap,AL (Z bi)] 136) (p:=N_ 136 (Aa 1)) (e:=3) A8 (λ_ _ h=>qC h A8) λF w2 U MR Hj HB Kc=>?_;let hl:∀b,R b->F b/\JE b w2 w:=U.S;let U:Ap 31 [] w2 F Wb F w2 _:=⟨U.H,U.V,λb hb=>⟨hb,rfl⟩⟩;let hb1:F (AR w):=AK.Kf (U.val (u:=AT (AR w)) 2 rfl A8);let hb2:F (AR I):=AK.Kf (U.val (u:=AT (AR I)) 3 rfl A8);let Dc:I.heap.size=w+1:=Dc;let K:w2.heap[w.heap.size]?=Z (A7 (Cm own (A0 na rt nc)) 128):=(Kc _ A').trans K;let hQ:=m9.over hl λb hb=>U.H.closed.lt hb;refine U.cA (id:=1) (IL (fstC (sndC (J1 75)))) [Aw kE] A8 aKe [0,1,2,3,4] [[5,6]] (·+9) A8 rfl rfl (Xt own (A0 na rt nc) a9 d9 cap bi (AR w)) Xt.on ?_ ?_
 .intro i hi UW Dp w3 v rest S hr hf k0;let q2:v 2=AT (AR w):=(hr 2 Ac).trans A8;let q3:v 3=AT (AR I):=(hr 3 Ac).trans A8;let k:∀{R':zy}{u:A3}{w':A1},Ap 31 [] w2 F UW R' w' (BQ v (i+9) u)->(∀b,Dp b->R' b)->w'.heap=w3.heap->Xt own (A0 na rt nc) a9 d9 cap bi (AR w) i u R' w'->_:=λS' hR e=>k0 _ _ _ _ S' λb hb=>⟨hR b hb,by rw[e]⟩;simp only[DO,IX,or_false]at hi;rcases hi with rfl|rfl|rfl|rfl|rfl;.exact S.IM (AH (Cm own (A0 na rt nc))) A8 A8 (λx T0 o h=>⟨_,XZ (t:=2) h q2 ((S.S _ hb1).2.trans K),rfl⟩) λR' w' S' hR e=>k S' hR e rfl
  .exact S.IM (AH #[BG a9 0 d9 cap,AL (Z bi)]) A8 A8 (λx T0 o h=>⟨_,py (t:=3) h q3 ((S.S _ hb2).2.trans Hj),rfl⟩) λR' w' S' hR e=>k S' hR e rfl
  .let KE:v 9=AH (Cm own (A0 na rt nc)):=hf 0 Ac;let y1:v 10=AH #[BG a9 0 d9 cap,AL (Z bi)]:=hf 1 Ac;refine S.kQ (az:=#[AH (Cm own (A0 na rt nc)),AH #[BG a9 0 d9 cap,AL (Z bi)]]) (e:=11) (Q:=λu I=>∃r1 r2,u=JD own r1 r2 a9 d9 cap bi/\I.heap[r1]?=Z (B4 #[] 0)/\I.heap[r2]?=Z (B4 #[] 0)) A8 (by rw[<-KE,<-y1];kernel_rfl) A8 (λT x=>(zB own na rt nc a9 d9 cap bi (on (w3.at x) T)).mono λe I⟨r1,r2,h1,_,_,h2,h3,h4⟩=>⟨_,h1,⟨r1,r2,rfl,h2,h3⟩,h4.block⟩) ?_;rintro TD IA u w4 z hk⟨w4',e4,r1,r2,rfl,z1,z2⟩;rw[<-e4]at z1 z2;let h:=z.val 11 rfl rfl;cases h with|agg hv=>exact k0 _ _ _ _ z hk ⟨r1,r2,rfl,⟨z1,AK.Q6 (Al.nth 1 hv rfl)⟩,z2,AK.Q6 (Al.nth 2 hv rfl)⟩
  .exact S.IM (O8 (AR w) 1) A8 A8 (λx T0 o h=>⟨_,pz (t:=2) h q2,rfl⟩) λR' w' S' hR e=>k S' hR e rfl
  exact S.IM (A0 na rt nc) A8 A8 (λx T0 o h=>⟨_,zN (t:=12) h (hf 3 Ac) ((S.S _ hb1).2.trans K),rfl⟩) λR' w' S' hR e=>k S' hR e rfl
 intro UW Dp w3 v rest Mb S hr hf;obtain rfl:rest=[5,6]:=Ai Mb;let q2:v 2=AT (AR w):=(hr 2 Ac).trans A8;obtain⟨r1,r2,y2,⟨z1,m1⟩,z2,QA⟩:∃r1 r2,v 11=JD own r1 r2 a9 d9 cap bi/\(Fl w3 r1 (B4 #[] 0)/\Dp r1)/\Fl w3 r2 (B4 #[] 0)/\Dp r2:=hf 2 Ac;let PE:v 13=A0 na rt nc:=hf 4 Ac;let Wm:=hQ.over S.S λb hb=>S.H.closed.lt hb;let j4:=(S.S bi (hl bi Hm).1).2.trans ((hl bi Hm).2.trans FE);let hnd:=yQ Wm.whole (zo Wm (λb hb=>⟨hb,rfl⟩) (λb hb=>S.H.closed.lt hb) z1 z2 j4 m1 QA (S.S bi (hl bi Hm).1).1) S.H (.cons (S.val 11 rfl y2) (.cons (S.val 13 rfl PE) .nil)) Wm.Bs Wm.Xe;refine Ap.qn S (e:=14) (by rw[<-y2,<-PE];kernel_rfl) A8 hnd λTD IA u w4 z hk hq=>?_;obtain⟨A,R',hq⟩:=hq;let Om:∀x∈A,x.rel∈d9:=λx hx=>(hq.LL x hx).1;obtain⟨hF,JZ⟩:=LB A Om hq.order hq.nodup hq.reach;let LJ:∀b,R b->IA b/\JE b w4 w:=λb hb=>⟨(z.S b (hl b hb).1).1,(z.S b (hl b hb).1).2.trans (hl b hb).2⟩;let W:=(z.S _ hb1).2.trans K;refine z.tail 2 (λv I=>UT A rt w4 v I) Tryz.func75 (c:=kE) A8 A8 (λx T0=>?_) ?_
 .rcases cw with⟨rfl,rfl,rfl⟩|⟨⟨g,rfl⟩,hne⟩;.exact aZE A u own (AR w) _ _ (on (w4.at x) T0) _ (by rw[<-q2];kernel_rfl) A8 hF (aE hq.sl rfl) W (by cases e:Cc A A with|nil=>rfl|cons x l=>(obtain⟨r,hr,_⟩:=JZ x (As e Le);cases hr))
  let hat:JP w g rt:=by
   rcases m9.Bs with⟨e,_⟩|⟨g',c2,e,h⟩;.cases e
   injection e with e;injection e with e;injection e with e;subst e;exact h
  let hc:=λo=>C8 (a:=⟨g,o,J⟩) (LJ g (m9.xi g rfl)).2;exact aZD A u rt own (AR w) g nc _ _ (on (w4.at x) T0) _ (by rw[<-q2];kernel_rfl) A8 hF (aE hq.sl rfl) W (λj hj=>⟨(hc _).trans (hat j hj).1,(hc _).trans (hat j hj).2⟩) hne hrl (λr hr=>(hq.reach r).2 (.root hr)) JZ
 rintro Hd v Bd EC X e6 hv Ln aMu;refine .here ⟨Hd,v,rfl,hv,λb hb=>Ln b (LJ b hb).1,aMu,λb hb=>?_,A,w4,X.heap e6,Om,hq.order,hq.nodup,hq.reach⟩;obtain⟨_,_,_,_,_,_,_,_,_,_,hbl⟩:=X;rw[e6,hbl b (z.H.closed.lt (LJ b hb).1)];exact(LJ b hb).2
def aBi{o}{br t:Nat}{c}(ho:o.op=ED 47 (Aa t))(h2:ρ (Aa t)=AT br)(h:w.heap[br]?=Z (A7 #[A0 a n c] 47 p)):(AM ρ o).run A6 w=.ok (BB (A0 a n c)) w:=by
 unfold AM;rw[ho];simp only[h2];let c0:w.cell? ⟨br,0,J⟩=Z (A0 a n c):=by simp[Cr,h]
 simp[go_sem,c0]
def Tz(own:zz)(t:AW)(v sl:A3)(d9:List Rel):Nat->A3->zy->A1->Prop|0,u,_,_=>u=AH (Cm own v)|1,u,_,_=>u=sl|2,u,R,w=>∃bi,u=AH #[sl,AL (Z bi)]/\w.heap[bi]?=Z (B4 (Ba (places d9)) d9)/\R bi|3,u,_,_=>u=A4 t.1|4,u,_,_=>u=A4 t.2|5,u,_,_=>u=AH #[A4 t.1,A4 t.2]|_,_,_,_=>False
def Tz.on{own sl}(i u R w R' w')(h:Tz own t v sl d9 i u R w)(hk:∀b,R b->R' b/\w'.heap[b]?=w.heap[b]?):Tz own t v sl d9 i u R' w':=by
 unfold Tz at h⊢;split at h;.exact h
 .exact h
 .obtain⟨bi,I,h2,h3⟩:=h;exact⟨bi,I,(hk bi h3).2.trans h2,(hk bi h3).1⟩
 .exact h
 .exact h
 .exact h
 exact h
def Ap.a3u{AU:A1}{gc:zy}{own:zz}{rt:List AW}{f e:Nat}{s:FC}(S:Ap n D AU gc Wb R w s.1)(I:RP w R Ek own rt na nc hH a9 d9 m)(hz:RJ n D s=J)(hc:Lj n s=Z (60,#[A0 (Z ⟨a9,0,J⟩) d9 cap],e))(ha:(Rs D s&&Hh 60&&okF 60)=A5)(he:(gH e n&&!D.contains e)=A5)(k:∀U R' w' bi,Ap n D AU gc U R' w' (EB s e (AH #[A0 (Z ⟨a9,0,J⟩) d9 cap,AL (Z bi)])).1->(∀b,R b->R' b/\w'.heap[b]?=w.heap[b]?)->w'.heap[bi]?=Z (B4 (Ba (places d9)) d9)->R' bi->Be f n cs U w' (EB s e (AH #[A0 (Z ⟨a9,0,J⟩) d9 cap,AL (Z bi)])) Post):Be f n cs Wb w s Post:=by refine S.kQ (Q:=λu w1=>∃bi,u=AH #[BG a9 0 d9 cap,AL (Z bi)]/\Fl w1 bi (B4 (Ba (places d9)) d9)) hz hc ha (λT x=>(uj a9 cap d9 m (on (w.at x) T) I.whole.ok I.reg I.check I.Ca I.zc).mono λe w1⟨bi,h1,_,h2,h3⟩=>⟨_,h1,⟨bi,rfl,h2⟩,h3.block⟩) ?_;rintro z F u w3 N hk⟨w3',e3,bi,rfl,r⟩;refine k _ _ _ bi N hk (As e3 r) ?_;let h:=N.val e he NQ;cases h with|agg hv=>exact AK.Q6 (Al.nth 1 hv rfl)
def aKc:Nat->List Nat|2=>[1]|_=>[]
def aSf[Bg]{own:zz}{rt:List AW}{z:Nat}(m9:RP w R Ek own rt na nc hH a9 d9 m)(ZK:w.heap[z]?=Z (A7 #[A0 (Z ⟨a9,0,J⟩) d9 cap] 47))(X:R z)(m2:CC Wb R w)(Et:Ey R #[AH (Cm own (A0 na rt nc)),AT z])(cw:na=J/\nc=0/\rt=[]∨(∃g,na=Z ⟨g,0,J⟩)/\rt≠[])(hrl:rt.length<=1000)(LB:∀A:List BI,(∀x∈A,x.rel∈d9)->He A->(names A).Nodup->(∀x,x∈names A↔N.Reach (Ej d9) rt x)->FF A/\∀x∈Cc A A,∃r∈rt,EF (DH A) (BW A r) (BW A x.rel.name)):HJ 74 #[AH (Cm own (A0 na rt nc)),AT z] Wb R w λu w'=>∃kv,u=Aj #[kv,CN]/\WT d9 rt (Aj #[kv,CN]) w':=by
 intro x c' cs';refine Be.enter 11 A8 ?_;let S0:Ap 11 [] w R Wb R (w.at x) (Ep 74 #[AH (Cm own (A0 na rt nc)),AT z]).1:=⟨m2.at x,Cb.Ep Et,λb hb=>⟨hb,rfl⟩⟩;refine S0.alloc (A7 (Cm own (A0 na rt nc)) 128) (p:=N_ 128 (Aa 0)) (e:=2) A8 (λ_ _ h=>qB h A8) λF w1 I Er Ez Dc HP=>?_;let hl:∀b,R b->F b/\JE b w1 w:=I.S;let I:Ap 11 [] w1 F Wb F w1 _:=⟨I.H,I.V,λb hb=>⟨hb,rfl⟩⟩;let hb1:F (AR w):=AK.Kf (I.val (u:=AT (AR w)) 2 rfl A8);let cO:=m9.over hl λb hb=>I.H.closed.lt hb;refine I.cA (id:=1) (IL (fstC (sndC (J1 74)))) [Aw M4] A8 aKc [0,1,2] [[3,4,5,6,7],[3,4,5,7,6],[3,4,6,5,7],[3,5,4,6,7],[3,5,4,7,6],[3,5,7,4,6]] (·+5) A8 rfl rfl (Tz own (own,own) (A0 na rt nc) (BG a9 0 d9 cap) d9) Tz.on ?_ ?_
 .intro i hi Li Fg w2 v rest S hr hf k;let hQ:=cO.over S.S λb hb=>S.H.closed.lt hb;simp only[DO,IX,or_false]at hi;rcases hi with rfl|rfl|rfl;.exact S.IM (AH (Cm own (A0 na rt nc))) (p:=ED 128 (Aa 2)) A8 A8 (λx T0 o h=>⟨_,XZ (w:=on (w2.at x) T0) (br:=AR w) (t:=2) h ((hr 2 Ac).trans A8) ((S.S _ hb1).2.trans Ez),rfl⟩) λR' w' S' hR e=>k _ _ _ _ S' (λb hb=>⟨hR b hb,by rw[e]⟩) rfl
  .exact S.IM (BG a9 0 d9 cap) (p:=ED 47 (Aa 1)) A8 A8 (λx T0 o h=>⟨_,aBi (w:=on (w2.at x) T0) (br:=z) (t:=1) h ((hr 1 Ac).trans A8) ((S.S _ (hl _ X).1).2.trans ((hl _ X).2.trans ZK)),rfl⟩) λR' w' S' hR e=>k _ _ _ _ S' (λb hb=>⟨hR b hb,by rw[e]⟩) rfl
  let h8:v 6=A0 (Z ⟨a9,0,J⟩) d9 cap:=hf 1 Ac;exact S.a3u hQ (e:=7) A8 (by rw[<-h8];kernel_rfl) A8 rfl λUW Dp w3 bi U hk h1 h2=>k _ _ _ _ U hk ⟨bi,rfl,h1,h2⟩
 intro Li Fg w2 v rest K S hr hf;let KE:v 5=AH (Cm own (A0 na rt nc)):=hf 0 Ac;obtain⟨bi,y2,FE,Hm⟩:∃bi,v 7=AH #[A0 (Z ⟨a9,0,J⟩) d9 cap,AL (Z bi)]/\Fl w2 bi (B4 (Ba (places d9)) d9)/\Fg bi:=hf 2 Ac;let W:=aZF (cap:=cap) (cO.over S.S λb hb=>S.H.closed.lt hb) FE Hm S.H (.cons (S.val 5 rfl KE) (.cons (S.val 7 rfl y2) .nil)) cw hrl LB;obtain⟨r,rfl⟩:∃r,rest=3::r:=by simp only[DO,IX,or_false]at K;rcases K with h|h|h|h|h|h<;>exact⟨_,h⟩
 refine Ap.qn (s:=(v,Ak (IL (fstC (sndC (J1 74)))) (3::r)::[Aw M4])) S (e:=8) (by rw[<-KE,<-y2];kernel_rfl) A8 W λUW Dp u w3 U hk hq=>?_;obtain⟨A,w4,⟨kv,z1,z2,rfl,z3⟩,z4⟩:=hq;simp only[DO,IX,or_false,aHK,true_and]at K;rcases K with rfl|rfl|rfl|rfl|rfl|rfl<;>exact U.back (u:=Aj #[kv,CN]) A8 λd=>.here ⟨Dp,_,rfl,U.val 8 rfl rfl,λb hb=>(U.S b (hl b hb).1).1,U.H.at d,λb hb=>(U.S b (hl b hb).1).2.trans (hl b hb).2,kv,rfl,WT.heap ⟨A,w4,⟨kv,z1,z2,rfl,z3⟩,z4⟩ rfl⟩
def WU(P:List (AW×Nat))(but:zz)(S:List AW):Prop:=∃K:List AW,K.Perm (P.map (·.1))/\(K.Pairwise λa b=>F6 a b<=0)/\S.Sublist K/\∀x∈S,x.1≠but
def zH{w':A1}{B xs}(h:w.ownsRow B 221 2 v n xs)(hR:∀g,v.ownBlock=Z g->R g)(e:∀b,R b->w'.heap[b]?=w.heap[b]?):w'.ownsRow B 221 2 v n xs:=by refine⟨h.1,h.2.imp id ?_⟩;rintro⟨g,cap,cur,a,b,c,d⟩;exact⟨g,cap,cur,a,b,(e g (hR g (Af a))).trans c,d⟩
section
variable{ρ:BP->A3}{o:B8}{br t:Nat}{w:A1}{p:Nat×Nat}
def aBh{a b:zz}(ho:o.op=ED 85 (Aa t))(h2:ρ (Aa t)=AT br)(h:w.heap[br]?=Z (A7 #[a,b] 85 p)):(AM ρ o).run A6 w=.ok (BB (AH #[a,b])) w:=by
 unfold AM;rw[ho];simp only[h2];let c0:w.cell? ⟨br,0,J⟩=Z a:=by simp[Cr,h]
 let c1:w.cell? ⟨br,1,J⟩=Z b:=by simp[Cr,h]
 simp[go_sem,c0,c1]
def aWP{a b:zz}(ho:o.op=ED 9 (Aa t))(h2:ρ (Aa t)=B2 (Z ⟨br,0,J⟩))(h:w.heap[br]?=Z (A7 #[a,b] 85 p)):(AM ρ o).run A6 w=.ok (BB a) w:=by
 unfold AM;rw[ho];simp only[h2];let c0:w.cell? ⟨br,0,J⟩=Z a:=by simp[Cr,h]
 simp[go_sem,c0]
def aWO(ho:o.op=OP 85 (Aa t) 0)(h2:ρ (Aa t)=AT br):(AM ρ o).run A6 w=.ok (BB (B2 (Z ⟨br,0,J⟩))) w:=by unfold AM;rw[ho];simp only[h2];simp[go_sem]
def aWM{a b:zz}(ho:o.op=lL 124 1 #[(0,Aa t)])(h2:ρ (Aa t)=AH #[a,b]):(AM ρ o).run A6 w=.ok (BB (A0 (Z ⟨w,0,J⟩) 1 1)) (w.alloc (A7 #[a,b] 221)):=by unfold AM;rw[ho];simp only[JO,Ee,Iw,h2];kernel_rfl
def aWL{x y:BP}{B n r:Nat}{v:A3}{xs:List A3}{a b:zz}(ho:o.op=Em {callee:=Fw QR,args:=#[x,y],argTypes:=#[124,124]})(hx:ρ x=v)(hy:ρ y=A0 (Z ⟨r,0,J⟩) 1 1)(hown:w.ownsRow B 221 2 v n xs)(hb:w.heap[r]?=Z (A7 #[a,b] 221))(hn:n<=1000000)(hB:B<=w):∃v' w',(AM ρ o).run A6 w=.ok (BB v') w'/\w'.ownsRow B 221 2 v' (n+1) (xs++[A4 a,A4 b])/\w.grownBy w' v.ownBlock:=by
 obtain⟨i0,hi,hz0,hz1,hz2⟩:=FJ Ze;let h:∀(j:Nat)(u:A3),([a,b]:List A3)[j]?=u->w.cell? ((⟨r,0,J⟩:An).add j)=u:=λj u hj=>by rw[Ea,A_ hb];simpa using hj
 obtain⟨v',w',hr,h2,h3,_⟩:=run_append_own (P:=A6) w B 124 o.type 221 i0 (AH #[A4 ⟨#[]⟩,A4 ⟨#[]⟩]) 2 32 Vw hi hz0 hz1 hz2 rfl Ac v n xs hown ⟨r,0,J⟩ 1 1 [a,b] rfl h λu hu=>by simp at hu;rcases hu with rfl|rfl<;>rfl DQ A' hB;refine⟨v',w',?_,h2,h3⟩;unfold AM;simp only[ho,resolve,invoke,builtin,Sem.run_bind,Sem.run_pure,Result.andThen_ok,JO,Ee,Iw,hx,hy,hr]
end
noncomputable def eH:DK:=sndC aQ
theorem aJP{B g c:Nat}{L:List AW}(h:w.ownsRow B 221 2 (A0 (Z ⟨g,0,J⟩) L c) L (Bb L)):∃S,L.length*2<=S/\L<=c/\I2 w g S L:=by
 rcases h.2 with⟨e,_⟩|⟨I,cap,cur,e,N,h2,h3,h4,h5,h6⟩;.grind
 injection e with e1 e2 e3;injection e1 with e1;injection e1 with e1;subst e1 e3;refine⟨cur,?_,h3,cur,h2,rfl,λj hj=>?_⟩;.omega
 let h7:=pI L j hj;grind
open Classical in def aRN(t:AW)(L:List AW)(l:List (AW×Nat))(g c CH N fp Bm B S:Nat)(w:A1)(v:Nat->A3)(h5:v 5=AT CH)(h9:v 9=A0 (Z ⟨g,0,J⟩) L c)(Nw:v 10=AT N)(N8:I2 w g S L)(v0:L*2<=S)(Ux:L<=c)(hL:L.length<=1000000)(nu:∀x∈L,D6 x)(Qx:w.heap[CH]?=Z (A7 #[t.1,t.2] 85))(V3:w.heap[N]?=Z (A7 #[AL (Z fp)] 131))(U:w.heap[fp]?=Z (B4 (Ba l) Bm))(hl:∀x∈l,D6 x.1)(hnd:(l.map (·.1)).Nodup)(ht:D6 t)(aPU:N≠g)(LB:¬counted l t):eH.wp A6 (W1 A6 lR λe w1=>∃v,e=AV v/\∃kv,v=Aj #[kv,CN]/\w1.ownsRow w 221 2 kv (F0 (L.filter λx=>!BK (counted l x)) (L.filter λx=>!BK (counted l x)).length) (Bb (F0 (L.filter λx=>!BK (counted l x)) (L.filter λx=>!BK (counted l x))))/\w.heap.size<=w1/\∀b,b<w.heap.size->b≠g->w1.heap[b]?=w.heap[b]?) ⟨Ax 47 v,[]⟩ w:=by
 rw[show Ax 47 v=#[v 0,v 1,v 2,v 3,v 4,v 5,v 6,v 7,v 8,v 9,v 10,v 11,v 12,v 13,v 14,v 15,v 16,v 17,v 18,v 19,v 20,v 21,v 22,v 23,v 24,v 25,v 26,v 27,v 28,v 29,v 30,v 31,v 32,v 33,v 34,v 35,v 36,v 37,v 38,v 39,v 40,v 41,v 42,v 43,v 44,v 45,v 46]by kernel_rfl,h5,h9,Nw];clear h5 h9 Nw;have aO6:fp≠g:=λe=>by let⟨cur,I,_⟩:=N8;rw[<-e,U]at I;cases I
 have GN:=Zk fp Bm l t w ht hl U;have aOW:(Fb 131 (AL (Z fp)) (AH #[t.1,t.2]) A9).run A6 w=.ok (AX 0) w:=by
  rcases GN with⟨I,_⟩|⟨x,hx,he,I⟩;.exact I
  have:=eV λh=>LB ⟨x,hx,he,h⟩;rwa[this]at I
 have t':=A2 (aK_ g c N S L (λx=>BK (counted l x)) w N8 v0 hL Ux λd0 hb p hp=>aQE N fp Bm l p d0 (nu p hp) hl hnd (Af (A_ ((hb.block N (B3 V3) aPU).trans V3))) ((hb.block fp (B3 U) aO6).trans U));have a0:w.cell? ⟨CH,0,J⟩=Z t.1:=Af (A_ Qx);have a1:w.cell? ⟨CH,1,J⟩=Z t.2:=Af (A_ Qx);have E3:w.cell? ⟨N,0,J⟩=Z (AL (Z fp)):=Af (A_ V3);have xR:=B3 Qx;have aPV:=B3 V3;have cf:(L.filter λx=>!BK (counted l x)).length<=1000000:=Dn (aHb ..) hL;clear GN N8 Qx V3 U hl hnd nu LB;generalize(L.filter λx=>!BK (counted l x))=K at t' cf⊢;simp only[AT,eH,aQ,nE,lR,MJ,sndC];go_wp2_with fail;refine t'.o.mono ?_;rintro e w1⟨rfl,hbk,N9⟩;have fR:=A2 hbk;have KR:=A2 N9;clear hbk N9 t';go_wp2_with fail;refine(aQP _ K w1 (AF ⟨g,c,rfl,fR.o.pG⟩) cf).mono ?_;rintro e w2⟨tv,rfl,hown,hb2⟩;have I:=KR.o.size;have h2:=hb2.size;have BC:AE (w2.ownsRow (AR w) 221 2 tv (F0 K K.length) (Bb (F0 K K))/\w.heap.size<=w2/\∀b,b<w.heap.size->b≠g->JE b w2 w):=A2 ⟨Q8 hown I,A',λb hb hn=>(hb2.block b A').trans (KR.o.block b hb hn)⟩;clear hown hb2;go_wp2;go_ret2;exact⟨_,rfl,tv,rfl,BC.o⟩
def aRM(t:AW)(l:List (AW×Nat))(u z fp Bm:Nat)(w:A1)(v:Nat->A3)(h5:v 5=AT u)(H:v 10=AT z)(h:w.heap[u]?=Z (A7 #[t.1,t.2] 85))(F:w.heap[z]?=Z (A7 #[AL (Z fp)] 131))(K:w.heap[fp]?=Z (B4 (Ba l) Bm))(hl:∀x∈l,D6 x.1)(hnd:(l.map (·.1)).Nodup)(ht:D6 t)(W:counted l t)(U:t.1.size<=1000000/\t.2.size<=1000000):eH.wp A6 (W1 A6 lR λe I=>∃v,e=AV v/\∃r,v=Aj #[A0 J 0 0,DD 96 r]/\HK w I r (Z (11,0,t.1,t.2))/\w.heap.size<=I/\∀b,b<w.heap.size->I.heap[b]?=w.heap[b]?) ⟨Ax 47 v,[]⟩ w:=by
 rw[show Ax 47 v=#[v 0,v 1,v 2,v 3,v 4,v 5,v 6,v 7,v 8,v 9,v 10,v 11,v 12,v 13,v 14,v 15,v 16,v 17,v 18,v 19,v 20,v 21,v 22,v 23,v 24,v 25,v 26,v 27,v 28,v 29,v 30,v 31,v 32,v 33,v 34,v 35,v 36,v 37,v 38,v 39,v 40,v 41,v 42,v 43,v 44,v 45,v 46]by kernel_rfl,h5,H];clear h5 H;have X:=Zk fp Bm l t w ht hl K;obtain⟨n,hn,aOW⟩:∃n:Nat,(n==0)=A9/\(Fb 131 (AL (Z fp)) (AH #[t.1,t.2]) A9).run A6 w=.ok (AX n) w:=by
  let⟨y,hy,hye,hy0⟩:=W;rcases X with⟨_,N⟩|⟨x,hx,he,N⟩;.exact absurd hye (N y hy)
  refine⟨x.2,?_,N⟩;obtain⟨i,hi,rfl⟩:=Rk hx;obtain⟨j,hj,rfl⟩:=Rk hy;have:=(List.getElem_inj (h₀:=Ai hi) (h₁:=Ai hj) hnd).1 (Ai (he.trans hye.symm));subst this;simpa using hy0
 have v5:=A2 λd0=>aLo 11 t.1 t.2 d0 U.1 U.2;have a0:w.cell? ⟨u,0,J⟩=Z t.1:=Af (A_ h);have a1:w.cell? ⟨u,1,J⟩=Z t.2:=Af (A_ h);have E3:w.cell? ⟨z,0,J⟩=Z (AL (Z fp)):=Af (A_ F);have xR:=B3 h;have aPV:=B3 F;clear X h F K hl hnd W U;simp only[AT,eH,aQ,nE,lR,MJ,sndC];go_wp2_with fail;refine(v5 w).mono ?_;rintro e I⟨r,rfl,SA,hb⟩;have BC:=A2 (aU SA hb);clear SA hb;go_wp2;go_ret2;exact⟨_,rfl,r,rfl,BC.o.1,BC.o.2.size,BC.o.2.block⟩
def aHA(A:List BI)(t:AW)(fp:Nat)(l:List (AW×Nat))(w:A1):Prop:=w.heap[fp]?=Z (B4 (Ba l) l)/\(l.map (·.1)).Nodup/\(∀x∈l,x.1∈names A/\x.2≠0)/\∀p∈names A,p∈l.map (·.1)↔∃b,WX A t b/\EF (DH A) (BW A p) b
open Classical in noncomputable def MQ(l:List (AW×Nat))(L:List AW):List AW:=L.filter λx=>!BK (counted l x)
def bZ(d9:List Rel)(t:AW)(v:A3)(w:A1):Prop:=∃(S:List AW)(A:List BI)(l:List (AW×Nat)),WU (places d9) t.1 S/\(∀x∈A,x.rel∈d9)/\He A/\(names A).Nodup/\(∀x,x∈names A↔N.Reach (Ej d9) (S++[t]) x)/\(∀p∈names A,counted l p↔∃b,WX A t b/\EF (DH A) (BW A p) b)/\((counted l t/\∃r,v=Aj #[A0 J 0 0,DD 96 r]/\HK 0 w r (Z (11,0,t.1,t.2)))∨¬counted l t/\∃kv,v=Aj #[kv,CN]/\w.ownsRow 0 221 2 kv (F0 (MQ l (S++[t])) (MQ l (S++[t])).length) (Bb (F0 (MQ l (S++[t])) (MQ l (S++[t])))))
def HK.low{B w' x}(h:HK B w v x)(e:w'.heap=w.heap):HK 0 w' v x:=by cases x with|none=>exact h|some x=>let⟨b,_,h2,h3⟩:=h;exact⟨b,JS _,h2,BA⟩
theorem WU.mem{d9 but S}(h:WU (places d9) but S){x}(hx:x∈S):∃r∈d9,r.name=x:=by let⟨K,k1,_,F5,_⟩:=h;obtain⟨y,hy,rfl⟩:=Bt.1 (k1.mem_iff.1 (F5.mem hx));let⟨hi,e⟩:=d_ hy;grind
theorem p_(d9):(places d9).length=d9:=by simp[places]
theorem WU.len{but:zz}{S:List AW}(h:WU (places d9) but S):S.length<=d9:=by let⟨K,k1,_,F5,_⟩:=h;grind[k1.length_eq,Gf,p_]
def aXa{t:Nat}{x y:A3}(h:w.heap[b]?=Z (A7 #[x] t)):(w.setCell ⟨b,0,J⟩ y).heap.size=w/\(∀z,z≠b->(w.setCell ⟨b,0,J⟩ y).heap[z]?=w.heap[z]?)/\(w.setCell ⟨b,0,J⟩ y).heap[b]?=Z (A7 #[y] t):=⟨AD,λz hz=>DC _ _ _ _ hz,CO w b 0 _ _ y h⟩
def Ap.aDO{gc f AU s p d}(S:Ap n D AU gc Wb R w s.1)(Q:A3->A1->Prop)(hz:RJ n D s=J)(ho:SM n D s=Z (p,d))(hl:∀x U(o:B8),o.op=p->∃N u h,(AM (Ed n s.1) o).run A6 (on (w.at x) U)=.ok N h/\Sb N u/\Q u h)(k:∀I u h w',AK CK (C7 I) u u->Q u h->lv R I w->w'.heap=h.heap->CC Wb I w'->Be f n cs Wb w' (yS s d u) Post):Be f n cs Wb w s Post:=by let e1:=zb hz;exact S.op Q (Ar e1) (Ar e1) (Ar e1)
def Xs(P:List (AW×Nat))(B:Nat)(N I:A3)(U r:Nat)(t:AW):Nat->A3->zy->A1->Prop|0,u,_,_=>u=B2 (Z ⟨U,1,J⟩)|1,u,_,_=>u=N|2,u,_,_=>u=I|3,u,_,_=>u=AT r|4,u,_,_=>u=t.1|5,u,R,w=>∃S,WU P t.1 S/\w.ownsRow B 221 2 u S (Bb S)/\∀g,u.ownBlock=Z g->R g|6,u,_,_=>u=AH #[t.1,t.2]|7,u,R,w=>∃h,u=A0 (Z ⟨h,0,J⟩) 1 1/\R h/\w.heap[h]?=Z (A7 #[t.1,t.2] 221)|_,_,_,_=>False
theorem Xs.on{P B FX r z}(i)(u)(R)(w)(R')(w')(h:Xs P B FX r hH z t i u R w)(hk:∀b,R b->R' b/\w'.heap[b]?=w.heap[b]?):Xs P B FX r hH z t i u R' w':=by
 unfold Xs at h⊢;split at h;case h_6=>let⟨S,h1,h2,h3⟩:=h;exact⟨S,h1,zH h2 h3 λb hb=>(hk b hb).2,λg hg=>(hk g (h3 g hg)).1⟩
 all_goals grind
section
variable{ρ:BP->A3}{w:A1}{o:B8}
def aWh{x:BP}{p q:zz}(ho:o.op=N_ 85 x)(hx:ρ x=AH #[p,q]):(AM ρ o).run A6 w=.ok (BB (AT w)) (w.alloc (A7 #[p,q] 85)):=by unfold AM;rw[ho];simp only[hx];kernel_rfl
def aXE(ho:o.op=b4 (Bo 146) #[] #[Aa 5])(h:ρ (Aa 5)=AT b):(AM ρ o).run A6 w=.ok (BB (Br (Bo 146) #[] #[AT b])) w:=by unfold AM;rw[ho];simp only[JO,Ee,h];rfl
def aWW(ho:o.op=Vv 131):(AM ρ o).run A6 w=.ok (BB (AT w)) (w.alloc (A7 #[AL J] 131)):=by unfold AM;rw[ho];kernel_rfl
def aXL{fp}(ho:o.op=La 131 (Aa 10) (Aa 34))(h:ρ (Aa 10)=AT b)(I:ρ (Aa 34)=AL (Z fp))(hb:w.heap[b]?=Z (A7 #[AL J] 131)):(AM ρ o).run A6 w=.ok JN (w.setCell ⟨b,0,J⟩ (AL (Z fp))):=by
 unfold AM;rw[ho];let c0:w.cell? ⟨b,0,J⟩=Z (AL J):=by simp[Cr,hb]
 simp[go_sem,h,I,c0,C' hb 0]
end
def aRQ[Bg]{own:zz}{rt:List AW}{bi:Nat}(K:RP w R Ek own rt na nc hH a9 d9 m)(FE:w.heap[bi]?=Z (B4 (Ba (places d9)) d9))(Hm:R bi)(m2:CC Wb R w)(Et:Ey R #[AH (Cm own (A0 na rt nc)),AH #[A0 (Z ⟨a9,0,J⟩) d9 cap,AL (Z bi)],AH #[t.1,t.2]])(Cv:∀x∈rt,x.1.size<=60/\x.2.size<=40)(hnd:(rt.map (·.1)).Nodup)(ZF:d9.length<=100)(Z0:∀r∈d9,r.p.size<=60/\r.v.size<=40)(Ii:∀r∈d9,r.p≠own)(i:Nat)(hi:i<d9)(K6:d9[i].name=t)(hne:(t.1.toList==own.toList)=A9)(LB:∀(L:List AW)(A:List BI),(∀x∈A,x.rel∈d9)->He A->(names A).Nodup->(∀x,x∈names A↔N.Reach (Ej d9) L x)->FF A):HJ 73 #[AH (Cm own (A0 na rt nc)),AH #[A0 (Z ⟨a9,0,J⟩) d9 cap,AL (Z bi)],AH #[t.1,t.2]] Wb R w (bZ d9 t):=by
 intro x c' cs';let Qq:d9[i]∈d9:=Ci hi;let xP:t.1.size<=60/\t.2.size<=40:=K6▸Z0 _ Qq;refine Be.enter 47 A8 ?_;let S0:Ap 47 [] w R Wb R (w.at x) (Ep 73 #[AH (Cm own (A0 na rt.length nc)),AH #[A0 (Z ⟨a9,0,J⟩) d9 cap,AL (Z bi)],AH #[t.1,t.2]]).1:=⟨m2.at x,Cb.Ep Et,λb hb=>⟨hb,rfl⟩⟩;refine S0.alloc (A7 (Cm own (A0 na rt nc)) 128) (p:=N_ 128 (Aa 0)) (e:=3) A8 (λ_ _ h=>qB h A8) λip I t0 Er Ez Dc HP=>?_;refine t0.alloc (A7 #[A0 (Z ⟨a9,0,J⟩) d9 cap,AL (Z bi)] 136) (p:=N_ 136 (Aa 1)) (e:=4) A8 (λ_ _ h=>qC h A8) λFg w2 v9 MR Hj HB Kc=>?_;refine v9.alloc (A7 #[t.1,t.2] 85) (p:=N_ 85 (Aa 2)) (e:=5) A8 (λ_ _ h=>aWh h A8) λW w3 X K0 KZ Mc LD=>?_;let hl:∀b,R b->W b/\w3.heap[b]?=w.heap[b]?:=X.S;let X:Ap 47 [] w3 W Wb W w3 _:=⟨X.H,X.V,λb hb=>⟨hb,rfl⟩⟩;let X7:W w:=AK.Kf (X.val (u:=AT w) 3 rfl A8);let Pw:W I:=AK.Kf (X.val (u:=AT I) 4 rfl A8);let dK:W w2:=AK.Kf (X.val (u:=AT w2) 5 rfl A8);let Dc:I.heap.size=w+1:=Dc;let hpb:w3.heap[w.heap.size]?=Z (A7 (Cm own (A0 na rt nc)) 128):=(LD _ A').trans ((Kc _ A').trans Ez);let ZK:w3.heap[I.heap.size]?=Z (A7 #[A0 (Z ⟨a9,0,J⟩) d9 cap,AL (Z bi)] 136):=(LD _ A').trans Hj;let Wm:RP w3 W Ek own rt na nc w a9 d9 m:={K.over hl λb hb=>X.H.closed.lt hb with parts:=hpb,xj:=X7};let j4:=(hl bi Hm).2.trans FE;refine X.calm (AH (Cm own (A0 na rt nc))) (p:=ED 128 (Aa 3)) (e:=12) A8 (λx U o h=>⟨_,XZ (w:=on (w3.at x) U) (br:=w) (t:=3) h A8 hpb,rfl⟩) λIA w4 Cj Lm e4=>?_;refine Cj.calm (AH #[A0 (Z ⟨a9,0,J⟩) d9 cap,AL (Z bi)]) (p:=ED 136 (Aa 4)) (e:=13) A8 (λx U o h=>⟨_,py (w:=on (w4.at x) U) (br:=I) (t:=4) h A8 ((Cj.S _ Pw).2.trans ZK),rfl⟩) λHd Bd E_ Ln e5=>?_;refine E_.calm (AH #[t.1,t.2]) (p:=ED 85 (Aa 5)) (e:=14) A8 (λx U o h=>⟨_,aBh (w:=on (Bd.at x) U) (br:=w2) (t:=5) h A8 ((E_.S _ dK).2.trans KZ),rfl⟩) λJs EC Dh On e6=>?_;let a5_:=Wm.over Dh.S λb hb=>Dh.H.closed.lt hb;refine Dh.lone (g:=141) (az:=#[AH (Cm own (A0 na rt nc)),AH #[A0 (Z ⟨a9,0,J⟩) d9 cap,AL (Z bi)],AH #[t.1,t.2]]) (e:=15) (Q:=λu _=>u=CN) A8 A8 (λT x=>?_) ?_;.subst K6;exact(a4' own d9[i].p d9[i].v d9[i].m na d9[i].fa rt nc d9[i].Am d9[i].fc a9 d9 cap bi m (on (EC.at x) T) hne (K.check _ Qq) xP.1 xP.2 a5_.Ca λLX hy=>vY a9 cap bi _ d9 i hi K.whole.ok LX (De hy ((Dh.S bi (hl bi Hm).1).2.trans j4)) (Ix.below (w:=on (EC.at x) T) a5_.reg hy)).mono λe I⟨h1,h2⟩=>⟨_,h1,rfl,h2.block⟩
 rintro bo Jt u Gb Fi Qr⟨_,_,rfl⟩;let oZ:∀{BJ R':zy}{w':A1}{v:Nat->A3},Ap 47 [] w3 W BJ R' w' v->w3.heap.size<=w':=λS=>BO (S.H.closed.lt (S.S _ dK).1);refine Fi.cA (id:=4) pT [Aw aQ] A8 aKa [0,1,2,3,4,5,6,7] [[8,9]] (·+19) pTa rfl rfl (Xs (places d9) w3 (A0 na rt nc) (AH #[A0 (Z ⟨a9,0,J⟩) d9 cap,AL (Z bi)]) w w2 t) Xs.on ?_ ?_
 .intro i By WV KV z v rest S hr hf k0;let q3:v 3=AT w:=(hr 3 Ac).trans A8;let q4:v 4=AT I:=(hr 4 Ac).trans A8;let q5:v 5=AT w2:=(hr 5 Ac).trans A8;let Qx:=(S.S _ dK).2.trans KZ;let k:∀{R':zy}{u:A3}{w':A1},Ap 47 [] w3 W WV R' w' (BQ v (i+19) u)->(∀b,KV b->R' b)->w'.heap=z.heap->Xs (places d9) w3 (A0 na rt nc) (AH #[A0 (Z ⟨a9,0,J⟩) d9 cap,AL (Z bi)]) w w2 t i u R' w'->_:=λS' hR e=>k0 _ _ _ _ S' λb hb=>⟨hR b hb,by rw[e]⟩;simp only[DO,IX,or_false]at By;rcases By with rfl|rfl|rfl|rfl|rfl|rfl|rfl|rfl;.exact S.IM (B2 (Z ⟨w,1,J⟩)) (p:=OP 128 (Aa 3) 1) A8 A8 (λx U o h=>⟨_,pz (br:=w) (t:=3) h q3,rfl⟩) λR' w' S' hR e=>k S' hR e rfl
  .exact S.IM (A0 na rt nc) (p:=ED 124 (Aa 19)) A8 A8 (λx U o h=>⟨_,zN (w:=on (z.at x) U) (br:=w) (t:=19) h (hf 0 Ac) ((S.S _ X7).2.trans hpb),rfl⟩) λR' w' S' hR e=>k S' hR e rfl
  .exact S.IM (AH #[A0 (Z ⟨a9,0,J⟩) d9 cap,AL (Z bi)]) (p:=ED 136 (Aa 4)) A8 A8 (λx U o h=>⟨_,py (w:=on (z.at x) U) (br:=I) (t:=4) h q4 ((S.S _ Pw).2.trans ZK),rfl⟩) λR' w' S' hR e=>k S' hR e rfl
  .exact S.IM (AT w2) (p:=OP 85 (Aa 5) 0) A8 A8 (λx U o h=>⟨_,aWO (br:=w2) (t:=5) h q5,rfl⟩) λR' w' S' hR e=>k S' hR e rfl
  .exact S.IM t.1 (p:=ED 9 (Aa 22)) A8 A8 (λx U o h=>⟨_,aWP (w:=on (z.at x) U) (br:=w2) (t:=22) h (hf 3 Ac) Qx,rfl⟩) λR' w' S' hR e=>k S' hR e rfl
  .let y1:v 20=A0 na rt nc:=hf 1 Ac;let y2:v 21=AH #[A0 (Z ⟨a9,0,J⟩) d9 cap,AL (Z bi)]:=hf 2 Ac;let PE:v 23=t.1:=hf 4 Ac;let cP:=Wm.over S.S λb hb=>S.H.closed.lt hb;refine Ap.qn (s:=(v,Ak pT (5::rest)::[Aw aQ])) S (e:=24) (by rw[<-y1,<-y2,<-PE];kernel_rfl) A8 (aQv cP.Bs (BO K.whole.roots) Cv hnd ((S.S bi (hl bi Hm).1).2.trans j4) (As p_ (Ad _)) (by rw[p_];omega) λe=>by rw[<-List.length_eq_zero_iff,p_]at e;omega (λx hx=>by obtain⟨hi,e⟩:=d_ hx;rw[<-e];exact Z0 _ (Ci hi)) cP.Ca S.H (.cons (S.val 20 rfl y1) (.cons (S.val 21 rfl y2) (.cons (S.val 23 rfl PE) .nil)))) ?_;rintro uM Ob u Gt JU aOP⟨Dz,GI,k1,k2,F5,k4,k5⟩;exact k0 _ _ _ _ JU aOP ⟨GI,⟨Dz,k1,k2,F5,k4⟩,Q8 k5 (oZ S),λg hg=>AK.QC (JU.val (u:=u) 24 rfl rfl) hg⟩
  .exact S.IM (AH #[t.1,t.2]) (p:=ED 85 (Aa 5)) A8 A8 (λx U o h=>⟨_,aBh (w:=on (z.at x) U) (br:=w2) (t:=5) h q5 Qx,rfl⟩) λR' w' S' hR e=>k S' hR e rfl
  refine S.aDO (λu I=>u=A0 (Z ⟨z,0,J⟩) 1 1/\I.heap=z.heap.push (A7 #[t.1,t.2] 221)) (p:=lL 124 1 #[(0,Aa 25)]) (d:=Z 26) A8 A8 (λx U o h=>⟨_,_,_,aWM (t:=25) h (hf 6 Ac),AA rfl,rfl,rfl⟩) ?_;rintro Ob u Gt QM hv⟨rfl,e1⟩hg e2 m2;let e:=e2.trans e1;let hb:∀b,KV b->Ob b/\QM.heap[b]?=z.heap[b]?:=λb hb=>by have:=S.H.closed.lt hb;exact⟨hg.1 b hb,by rw[e,Array.getElem?_push_lt this,G8 this]⟩
  exact k0 _ _ _ _ ⟨m2,(S.V.mono hg.1).upd λ_=>hv,λb IG=>⟨(hb b (S.S b IG).1).1,(hb b (S.S b IG).1).2.trans (S.S b IG).2⟩⟩ hb ⟨z,rfl,AK.QC hv rfl,by rw[e];simp⟩
 intro WV a2v wa v rest Mb bk hr hf;obtain rfl:rest=[8,9]:=Ai Mb;obtain⟨S,v0,hown,aci⟩:∃S,WU (places d9) t.1 S/\wa.ownsRow w3 221 2 (v 24) S (Bb S)/\∀g,(v 24).ownBlock=Z g->a2v g:=hf 5 Ac;obtain⟨rg,eJ,il,J8⟩:∃rg,v 26=A0 (Z ⟨rg,0,J⟩) 1 1/\a2v rg/\wa.heap[rg]?=Z (A7 #[t.1,t.2] 221):=hf 7 Ac;refine bk.aDO (s:=(v,Ak pT [8,9]::[Aw aQ])) (λu I=>I.ownsRow w3 221 2 u (S+1) (Bb S++[A4 t.1,A4 t.2])/\∀b,b<w3.heap.size->I.heap[b]?=wa.heap[b]?) (p:=Em {callee:=Fw QR,args:=#[Aa 24,Aa 26],argTypes:=#[124,124]}) (d:=Z 27) A8 A8 (λx U o h=>?_) ?_;.obtain⟨v',I,a,b,c⟩:=aWL (o:=o) (ρ:=Ed 47 v) (w:=on (wa.at x) U) (x:=Aa 24) (y:=Aa 26) h rfl eJ (B:=w3) (n:=S) (xs:=Bb S) hown J8 (BO v0.len) (show w3.heap.size<=wa from oZ bk);refine⟨_,v',I,a,AA rfl,b,λb hb=>c.block b (by have:=oZ bk;show b<wa;omega) λe=>?_⟩;have:=(hown.lt b e.symm).1;omega
 rintro KV u qd z hv⟨q1,q2⟩hg JW nt;let xC:z.ownsRow w3 221 2 u (S++[t]) (Bb (S++[t])):=by rw[R5,DV];exact jb q1 JW
 let xD:∀g,u.ownBlock=Z g->KV g:=λg hg=>AK.QC hv hg;let h8:∀b,W b->KV b/\z.heap[b]?=w3.heap[b]?:=λb hb=>⟨hg.1 b (bk.S b hb).1,by rw[JW,q2 b (X.H.closed.lt hb)];exact(bk.S b hb).2⟩;obtain⟨g,c,rfl,wS,Dk⟩:=SH xC AD;let q3:v 3=AT w:=(hr 3 Ac).trans A8;let q4:v 4=AT I:=(hr 4 Ac).trans A8;let q5:v 5=AT w2:=(hr 5 Ac).trans A8;let cP:=Wm.over h8 λb hb=>nt.closed.lt hb;let a7j:=(h8 _ dK).2.trans KZ;let Gg:Ap 47 [] z KV WV KV z (BQ v 27 (A0 (Z ⟨g,0,J⟩) (S++[t]) c)):=⟨nt,(bk.V.mono hg.1).upd λ_=>hv,λb hb=>⟨hb,rfl⟩⟩;let w9:=v0.len;let L4:∀x∈S++[t],∃r∈d9,r.name=x:=λx hx=>by
  rcases E8.1 hx with h|h;.exact v0.mem h
  rw[ES.1 h];exact⟨_,Qq,K6⟩
 let CF:Whole d9 (S++[t]) own:=⟨K.whole.ok,K.whole.rel,K.whole.AI,K.whole.Rz,K.whole.short,K.whole.Bs,L4,by rw[DV,a2b];omega⟩;refine Gg.calm (s:=yS (v,Ak pT [8,9]::[Aw aQ]) (Z 27) (A0 (Z ⟨g,0,J⟩) (S++[t]) c)) (AH (Cm own (A0 na rt nc))) (p:=ED 128 (Aa 3)) (e:=28) A8 (λx U o h=>⟨_,XZ (w:=on (z.at x) U) (br:=w) (t:=3) h (by rw[<-q3];kernel_rfl) cP.parts,rfl⟩) λOb Gt JU iD KX=>?_;refine JU.calm (AH #[A0 (Z ⟨a9,0,J⟩) d9 cap,AL (Z bi)]) (p:=ED 136 (Aa 4)) (e:=29) A8 (λx U o h=>⟨_,py (w:=on (Gt.at x) U) (br:=I) (t:=4) h (by rw[<-q4];kernel_rfl) ((JU.S _ (h8 _ Pw).1).2.trans ((h8 _ Pw).2.trans ZK)),rfl⟩) λu3 QM Iy aN4 TJ=>?_;refine Iy.lone (g:=59) (az:=#[AH (Cm own (A0 na rt nc)),AH #[A0 (Z ⟨a9,0,J⟩) d9 cap,AL (Z bi)]]) (e:=30) (Q:=λu I=>∃r1 r2,u=JD own r1 r2 a9 d9 cap bi/\I.heap[r1]?=Z (B4 #[] 0)/\I.heap[r2]?=Z (B4 #[] 0)) A8 A8 (λT x=>(zB own na rt nc a9 d9 cap bi (on (QM.at x) T)).mono λe I⟨r1,r2,h1,_,_,h2,h3,h4⟩=>⟨_,h1,⟨r1,r2,rfl,h2,h3⟩,h4.block⟩) ?_;rintro uL Yb u Xg Hg acJ⟨_,gw,r1,r2,rfl,z1,z2⟩;rw[<-gw]at z1 z2;let hm:Yb r1/\Yb r2:=by let h:=Hg.val (u:=JD own r1 r2 a9 d9 cap bi) 30 rfl A8;cases h with|agg hv=>exact⟨AK.Q6 (Al.nth 1 hv rfl),AK.Q6 (Al.nth 2 hv rfl)⟩
 let aPD:=(h8 bi (hl bi Hm).1).2.trans j4;let a7Q:=(h8 bi (hl bi Hm).1).1;refine Hg.Og (g:=61) (az:=#[JD own r1 r2 a9 d9 cap bi,A0 (Z ⟨g,0,J⟩) (S++[t]) c]) (e:=32) (Q:=λu w'=>∃A R',mj d9 (S++[t]) Yb R' Xg u A w') A8 A8 (λEt=>yQ CF (zo cP Hg.S (λb hb=>Hg.H.closed.lt hb) z1 z2 ((Hg.S bi a7Q).2.trans aPD) hm.1 hm.2 (Hg.S bi a7Q).1) Hg.H Et (VG (jb (zH xC (R:=KV) xD (w':=Xg) λb hb=>(Hg.S b hb).2) rfl)) λx hx=>by obtain⟨r,hr,rfl⟩:=L4 x hx;exact Ii r hr) ?_;rintro a3H mo u Xh Ye acK⟨A,R',hq⟩;let Om:∀x∈A,x.rel∈d9:=λx hx=>(hq.LL x hx).1;let hF:=LB _ A Om hq.order hq.nodup hq.reach;refine Ye.calm (Br (Bo 146) #[] #[AT w2]) (p:=b4 (Bo 146) #[] #[Aa 5]) (e:=33) A8 (λx U o h=>⟨_,aXE h (by rw[<-q5];kernel_rfl),rfl⟩) λa2r aP WN Z1 cB=>?_;let a7h:=(WN.S _ (h8 _ dK).1).2.trans a7j;refine WN.lone (g:=145) (az:=#[u,Br (Bo 146) #[] #[AT w2]]) (e:=34) (Q:=λu I=>∃fp l,u=AL (Z fp)/\aHA A t fp l I) A8 A8 (λT x=>(aQj A u t w2 m (on (aP.at x) T) hF (aE hq.sl cB) (cP.over WN.S λb hb=>WN.H.closed.lt hb).Ca (Af (A_ (w:=on (aP.at x) T) a7h)) (Af (A_ (w:=on (aP.at x) T) a7h)) xP.2).mono λe I⟨fp,l,h1,a,b,c,d,hb⟩=>⟨_,h1,⟨fp,l,rfl,a,b,c,d⟩,hb.block⟩) ?_;rintro a3I a2s u qa Rq cq⟨_,a4S,fp,l,rfl,cr⟩;let aOA:=Rq.H.closed.lt (AK.Q6 (Rq.val (u:=AL (Z fp)) 34 rfl A8));refine Rq.alloc (A7 #[AL J] 131) (p:=Vv 131) (e:=10) A8 (λ_ _ h=>aWW h) λa2t eF gS aN5 hU acu aOs=>?_;refine gS.store qa (A7 #[AL (Z fp)] 131) (λh=>WK _ (Rq.H.closed.lt (Rq.S _ h).1)) (p:=La 131 (Aa 10) (Aa 34)) A8 (λx U o h=>⟨_,aXL (w:=on (eF.at x) U) (b:=qa) (fp:=fp) h A8 A8 hU,aXa (w:=on (eF.at x) U) hU⟩) λmq F Od aN6 aPH x9 nn=>?_;let FD:∀b,R b->mq b/\F.heap[b]?=w.heap[b]?:=λb hb=>have h:=h8 b (hl b hb).1;⟨(Od.S b h.1).1,(Od.S b h.1).2.trans (h.2.trans (hl b hb).2)⟩;let a7i:=(Od.S _ (h8 _ dK).1).2.trans a7j;let a6j:F.heap[fp]?=Z (B4 (Ba l) l):=(x9 fp A').trans ((aOs fp aOA).trans (As a4S cr.1));obtain⟨aIZ,Z6,cT,N8⟩:=aJP (zH xC (R:=KV) xD (w':=F) λb hb=>(Od.S b hb).2);let a71:∀x∈l,D6 x.1:=λx hx=>by have:=hF.short _ (cr.2.2.1 x hx).1;unfold D6 BZ;omega
 let ZZ:D6 t:=by unfold D6 BZ;omega
 let nu:∀x∈S++[t],D6 x:=λx hx=>by obtain⟨r,hr,rfl⟩:=L4 x hx;have:r.name.1.size<=60/\r.name.2.size<=40:=Z0 r hr;unfold D6 BZ;omega
 let iI:∀p∈names A,counted l p↔∃b,WX A t b/\EF (DH A) (BW A p) b:=λp hp=>by
  refine Iff.trans ⟨?_,λhp=>?_⟩ (cr.2.2.2 p hp);.rintro⟨x,hx,rfl,_⟩;exact Rl hx
  obtain⟨x,hx,rfl⟩:=Bt.1 hp;exact⟨x,hx,rfl,(cr.2.2.1 x hx).2⟩
 by_cases hc:counted l t;.refine Od.tail 1 (λv I=>∃r,v=Aj #[A0 J 0 0,DD 96 r]/\HK F I r (Z (11,0,t.1,t.2))/\F.heap.size<=I/\∀b,b<F.heap.size->I.heap[b]?=F.heap[b]?) aFM (c:=eH) A8 A8 (λx U=>aRM t l _ _ fp _ (on (F.at x) U) _ (by rw[<-q5];kernel_rfl) A8 a7i nn a6j a71 cr.2.1 ZZ hc A') ?_;rintro bg v qb bad⟨r,rfl,SA,li,hbl⟩Oi hv Z2 vx;exact .here ⟨bg,_,rfl,hv,λb hb=>Z2 b (FD b hb).1,vx,λb hb=>by rw[Oi,hbl b (Od.H.closed.lt (FD b hb).1)];exact(FD b hb).2,S,A,l,v0,Om,hq.order,hq.nodup,hq.reach,iI,AA ⟨hc,r,rfl,HK.low (x:=_) SA Oi⟩⟩
 let ac8:=Rq.H.closed.lt (Rq.S g (xD g rfl)).1;refine Od.tail 1 (λv I=>∃kv,v=Aj #[kv,CN]/\I.ownsRow F 221 2 kv (F0 (MQ l (S++[t])) (MQ l (S++[t])).length) (Bb (F0 (MQ l (S++[t])) (MQ l (S++[t]))))/\F.heap.size<=I/\∀b,b<F.heap.size->b≠g->I.heap[b]?=F.heap[b]?) aFM (c:=eH) A8 A8 (λx U=>aRN t (S++[t]) l g c _ _ fp _ 0 aIZ (on (F.at x) U) _ (by rw[<-q5];kernel_rfl) A8 A8 N8 Z6 cT (by rw[DV,a2b];omega) nu a7i nn a6j a71 cr.2.1 ZZ A' hc) ?_;rintro bg v qb bad⟨kv,rfl,ho,li,hbl⟩Oi hv Z2 vx;refine .here ⟨bg,_,rfl,hv,λb hb=>Z2 b (FD b hb).1,vx,λb hb=>?_,S,A,l,v0,Om,hq.order,hq.nodup,hq.reach,iI,AF ⟨hc,kv,rfl,Q8 (jb ho Oi) (JS _)⟩⟩;have:=K.low b hb;let wS:w3<=g:=wS;rw[Oi,hbl b (Od.H.closed.lt (FD b hb).1) A'];exact(FD b hb).2
def aBj{o:B8}{br t:Nat}{a:zz}(ho:o.op=ED 9 (Aa t))(h2:ρ (Aa t)=AT br)(h:w.heap[br]?=Z (A7 #[a] 9 p)):(AM ρ o).run A6 w=.ok (BB a) w:=by
 unfold AM;rw[ho];simp only[h2];let c0:w.cell? ⟨br,0,J⟩=Z a:=by simp[Cr,h]
 simp[go_sem,c0]
def aWN{o:B8}{x y:Nat}{a b:zz}(ho:o.op=b1 85 #[(0,Aa x),(1,Aa y)])(hx:ρ (Aa x)=a)(hy:ρ (Aa y)=b):(AM ρ o).run A6 w=.ok (BB (AH #[a,b])) w:=by unfold AM;rw[ho];simp only[JO,Ee,Iw,hx,hy];kernel_rfl
def bZ.two(h:bZ d9 t v w):∃kv I,v=Aj #[kv,I]:=by
 obtain⟨S,A,l,_,_,_,_,_,_,⟨_,r,h,_⟩|⟨_,kv,h,_⟩⟩:=h;.exact⟨_,_,h⟩
 exact⟨_,_,h⟩
def aKb:Nat->List Nat|2=>[1]|5=>[3,4]|_=>[]
section
variable[Bg]
def aKk{own:zz}{rt:List AW}{z fd F:Nat}(m9:RP w R Ek own rt na nc hH a9 d9 m)(ZK:w.heap[z]?=Z (A7 #[A0 (Z ⟨a9,0,J⟩) d9 cap] 47))(Pw:R z)(a7c:w.heap[fd]?=Z (A7 #[t.1] 9))(aPI:R fd)(oa:w.heap[F]?=Z (A7 #[t.2] 9))(aP_:R F)(m2:CC Wb R w)(Et:Ey R #[AH (Cm own (A0 na rt nc)),AT z,AT fd,AT F])(Cv:∀x∈rt,x.1.size<=60/\x.2.size<=40)(hnd:(rt.map (·.1)).Nodup)(ZF:d9.length<=100)(Z0:∀r∈d9,r.p.size<=60/\r.v.size<=40)(Ii:∀r∈d9,r.p≠own)(j:Nat)(hj:j<d9)(K6:d9[j].name=t)(hne:(t.1.toList==own.toList)=A9)(LB:∀(L:List AW)(A:List BI),(∀x∈A,x.rel∈d9)->He A->(names A).Nodup->(∀x,x∈names A↔N.Reach (Ej d9) L x)->FF A):HJ 72 #[AH (Cm own (A0 na rt nc)),AT z,AT fd,AT F] Wb R w (bZ d9 t):=by
 intro x c' cs';refine Be.enter 16 A8 ?_;have S0:Ap 16 [] w R Wb R (w.at x) (Ep 72 #[AH (Cm own (A0 na rt nc)),AT z,AT fd,AT F]).1:=⟨m2.at x,Cb.Ep Et,λb hb=>⟨hb,rfl⟩⟩;refine S0.alloc (A7 (Cm own (A0 na rt nc)) 128) (p:=N_ 128 (Aa 0)) (e:=4) A8 (λ_ _ h=>qB h A8) λW w1 U Er Ez Dc HP=>?_;have hl:∀b,R b->W b/\JE b w1 w:=U.S;have U:Ap 16 [] w1 W Wb W w1 _:=⟨U.H,U.V,λb hb=>⟨hb,rfl⟩⟩;have hb1:W (AR w):=AK.Kf (U.val (u:=AT (AR w)) 4 rfl A8);have cO:=m9.over hl λb hb=>U.H.closed.lt hb;refine U.cA (id:=1) (IL (fstC (sndC (J1 72)))) [Aw M4] A8 aKb [0,1,2,3,4,5] [[6,7,8,9,10],[6,7,8,10,9],[6,7,9,8,10],[6,8,7,9,10],[6,8,7,10,9],[6,8,10,7,9]] (·+7) A8 rfl rfl (Tz own t (A0 na rt nc) (A0 (Z ⟨a9,0,J⟩) d9 cap) d9) Tz.on ?_ ?_
 .intro i hi Li Fg w2 v rest S hr hf k0;have q4:v 4=AT (AR w):=(hr 4 Ac).trans A8;have q1:v 1=AT z:=(hr 1 Ac).trans A8;have q2:v 2=AT fd:=(hr 2 Ac).trans A8;have q3:v 3=AT F:=(hr 3 Ac).trans A8;have hQ:=cO.over S.S λb hb=>S.H.closed.lt hb;have xw:∀{b c},R b->Fl w b c->Fl w2 b c:=λhb h=>(S.S _ (hl _ hb).1).2.trans ((hl _ hb).2.trans h);have k:∀{R':zy}{u:A3}{w':A1},Ap 16 [] w1 W Li R' w' (BQ v (i+7) u)->(∀b,Fg b->R' b)->w'.heap=w2.heap->Tz own t (A0 na rt nc) (A0 (Z ⟨a9,0,J⟩) d9 cap) d9 i u R' w'->_:=λS' hR e=>k0 _ _ _ _ S' λb hb=>⟨hR b hb,by rw[e]⟩;simp only[DO,IX,or_false]at hi;rcases hi with rfl|rfl|rfl|rfl|rfl|rfl;.exact S.IM (AH (Cm own (A0 na rt nc))) (p:=ED 128 (Aa 4)) A8 A8 (λx I o h=>⟨_,XZ (w:=on (w2.at x) I) (br:=AR w) (t:=4) h q4 ((S.S _ hb1).2.trans Ez),rfl⟩) λR' w' S' hR e=>k S' hR e rfl
  .exact S.IM (A0 (Z ⟨a9,0,J⟩) d9 cap) (p:=ED 47 (Aa 1)) A8 A8 (λx I o h=>⟨_,aBi (w:=on (w2.at x) I) (br:=z) (t:=1) h q1 (xw Pw ZK),rfl⟩) λR' w' S' hR e=>k S' hR e rfl
  .have h8:v 8=A0 (Z ⟨a9,0,J⟩) d9 cap:=hf 1 Ac;exact S.a3u hQ (e:=9) A8 (by rw[<-h8];kernel_rfl) A8 rfl λUW Dp w3 bi K hk h1 h2=>k0 _ _ _ _ K hk ⟨bi,rfl,h1,h2⟩
  .exact S.IM t.1 (p:=ED 9 (Aa 2)) A8 A8 (λx I o h=>⟨_,aBj (w:=on (w2.at x) I) (br:=fd) (t:=2) h q2 (xw aPI a7c),rfl⟩) λR' w' S' hR e=>k S' hR e rfl
  .exact S.IM t.2 (p:=ED 9 (Aa 3)) A8 A8 (λx I o h=>⟨_,aBj (w:=on (w2.at x) I) (br:=F) (t:=3) h q3 (xw aP_ oa),rfl⟩) λR' w' S' hR e=>k S' hR e rfl
  exact S.IM (AH #[t.1,t.2]) (p:=b1 85 #[(0,Aa 10),(1,Aa 11)]) A8 A8 (λx I o h=>⟨_,aWN (x:=10) (y:=11) h (hf 3 Ac) (hf 4 Ac),rfl⟩) λR' w' S' hR e=>k S' hR e rfl
 intro Li Fg w2 v rest X S hr hf;have KE:v 7=AH (Cm own (A0 na rt nc)):=hf 0 Ac;have PF:v 12=AH #[t.1,t.2]:=hf 5 Ac;obtain⟨bi,y2,FE,Hm⟩:∃bi,v 9=AH #[A0 (Z ⟨a9,0,J⟩) d9 cap,AL (Z bi)]/\Fl w2 bi (B4 (Ba (places d9)) d9)/\Fg bi:=hf 2 Ac;have EW:=aRQ (cap:=cap) (t:=t) (cO.over S.S λb hb=>S.H.closed.lt hb) FE Hm S.H (.cons (S.val 7 rfl KE) (.cons (S.val 9 rfl y2) (.cons (S.val 12 rfl PF) .nil))) Cv hnd ZF Z0 Ii j hj K6 hne LB;obtain⟨r,rfl⟩:∃r,rest=6::r:=by simp only[DO,IX,or_false]at X;rcases X with h|h|h|h|h|h<;>exact⟨_,h⟩
 refine Ap.qn (s:=(v,Ak (IL (fstC (sndC (J1 72)))) (6::r)::[Aw M4])) S (g:=73) (az:=#[AH (Cm own (A0 na rt nc)),AH #[A0 (Z ⟨a9,0,J⟩) d9 cap,AL (Z bi)],AH #[t.1,t.2]]) (e:=13) (by rw[<-KE,<-y2,<-PF];kernel_rfl) A8 EW λUW Dp u w3 K hk hq=>?_;obtain⟨kv,Fj,rfl⟩:=hq.two;simp only[DO,IX,or_false,aHK,true_and]at X;rcases X with rfl|rfl|rfl|rfl|rfl|rfl<;>exact K.back (u:=Aj #[kv,Fj]) A8 λd=>.here ⟨Dp,_,rfl,K.val 13 rfl rfl,λb hb=>(K.S b (hl b hb).1).1,K.H.at d,λb hb=>(K.S b (hl b hb).1).2.trans (hl b hb).2,hq⟩
end
section
variable{ρ:BP->A3}{w:A1}{o:B8}
def aWj(ho:o.op=Vv 128):(AM ρ o).run A6 w=.ok (BB (AT w)) (w.alloc (A7 #[A4 ⟨#[]⟩,A0 J 0 0,A0 J 0 0,A0 J 0 0] 128)):=by unfold AM;rw[ho];kernel_rfl
def aWu{k:Nat}{own:zz}(ho:o.op=La 128 (Aa 8) (Aa 19))(h8:ρ (Aa 8)=AT b)(h9:ρ (Aa 19)=AH #[own,A0 na k nc,A0 J 0 0,A0 J 0 0])(h:w.heap[b]?=Z (A7 #[A4 ⟨#[]⟩,A0 J 0 0,A0 J 0 0,A0 J 0 0] 128)):(AM ρ o).run A6 w=.ok JN ((((w.setCell ⟨b,0,J⟩ own).setCell ⟨b,1,J⟩ (A0 na k nc)).setCell ⟨b,2,J⟩ (A0 J 0 0)).setCell ⟨b,3,J⟩ (A0 J 0 0)):=by
 unfold AM;rw[ho];simp only[h8,h9];let c0:w.cell? ⟨b,0,J⟩=Z (A4 ⟨#[]⟩):=by simp[Cr,h]
 let c1:w.cell? ⟨b,1,J⟩=Z (A0 J 0 0):=by simp[Cr,h]
 let c2:w.cell? ⟨b,2,J⟩=Z (A0 J 0 0):=by simp[Cr,h]
 let c3:w.cell? ⟨b,3,J⟩=Z (A0 J 0 0):=by simp[Cr,h]
 let I:=C' h 0;let z1:=C' h 1;let z2:=C' h 2;let z3:=C' h 3;simp[go_sem,c0,c1,c2,c3,I,z1,z2,z3]
theorem aXZ{x y z u x' y' z' u':A3}(h:w.heap[b]?=Z (A7 #[x,y,z,u] 128)):((((w.setCell ⟨b,0,J⟩ x').setCell ⟨b,1,J⟩ y').setCell ⟨b,2,J⟩ z').setCell ⟨b,3,J⟩ u').heap.size=w/\(∀c,c≠b->((((w.setCell ⟨b,0,J⟩ x').setCell ⟨b,1,J⟩ y').setCell ⟨b,2,J⟩ z').setCell ⟨b,3,J⟩ u').heap[c]?=w.heap[c]?)/\((((w.setCell ⟨b,0,J⟩ x').setCell ⟨b,1,J⟩ y').setCell ⟨b,2,J⟩ z').setCell ⟨b,3,J⟩ u').heap[b]?=Z (A7 #[x',y',z',u'] 128):=⟨AD,λc hc=>by simp_all[DC,],CO _ b 3 _ _ u' (CO _ b 2 _ _ z' (CO _ b 1 _ _ y' (CO w b 0 _ _ x' h)))⟩
def aXI{x y z u y' k l}(ho:o.op=La 124 (Aa 30) (Aa 29))(h8:ρ (Aa 30)=B2 (Z ⟨b,1,J⟩))(h9:ρ (Aa 29)=y')(hy:y'=A0 a k l)(h:w.heap[b]?=Z (A7 #[x,y,z,u] 128)):(AM ρ o).run A6 w=.ok JN (w.setCell ⟨b,1,J⟩ y'):=by
 subst hy;unfold AM;rw[ho];simp only[h8,h9];let c1:w.cell? ⟨b,1,J⟩=y:=by simp[Cr,h]
 simp[go_sem,c1,C' h 1]
end
def Vd(own:zz)(h:List AW->Prop)(Fq:A3->A1->Prop)(v:A3)(w:A1):Prop:=(∃L S,h L/\S.Perm (Jd own L)/\V.PY S/\v=Aj #[A4 ⟨(V.G6 S).toArray⟩,CN])∨∃r,v=Aj #[A4 ⟨#[]⟩,DD 96 r]/\Fq r w
def r6(I:List AW->Prop)(Fq:A3->A1->Prop)(kv h:A3)(w:A1):Prop:=(h=CN/\∃L,I L/\w.ownsRow 0 221 2 kv L (Bb L))∨∃r,h=DD 96 r/\Fq r w
def a3y{own:zz}{rt:List AW}{fc:Nat}{cap:zw}(X':V.GL s)(Kb:Kh (V.parse s).1=Gr own rt)(li:s.size<=1000000000)(hlen:rt.length<=1000000)(Z5:∀L,No L->L.length<=1000000/\∀x∈Jd own L,V.Valid x.1 x.2)(aMr:∀r w w',Fq r w->w'.heap=w.heap->Fq r w')(hm:w.cell? ⟨0,0,J⟩=Z (AB AJ m))(m2:CC Wb R w)(hF:okF fc=A5)(TS:∀(L1 F:zy)(w1:A1)(na:Option An)(nc hH:Nat),CC L1 F w1->(∀b,R b->F b/\w1.heap[b]?=w.heap[b]?)->w1.heap[hH]?=Z (A7 (Cm own (A0 na rt nc)) 128)->F hH->EL w1 (A0 na rt nc) rt->na=J/\nc=0/\rt=[]∨(∃g,na=Z ⟨g,0,J⟩)/\rt≠[]->AK CK (C7 F) (AH (Cm own (A0 na rt nc))) (AH (Cm own (A0 na rt nc)))->HJ fc (#[AH (Cm own (A0 na rt nc))]++cap) L1 F w1 λu w2=>∃kv U,u=Aj #[kv,U]/\r6 No Fq kv U w2):HJ 69 #[s,Br (Bo fc) #[] cap] Wb R w (Vd own No Fq):=by
 intro x c' cs';let hJ:R 0:=m2.closed.Ca 0 Ac;refine Be.enter 34 A8 ?_;let S0:Ap 34 [1,21] w R Wb R (w.at x) (Ep 69 #[A4 s,Br (Bo fc) #[] cap]).1:=⟨m2.at x,λj _ hj=>by match j,hj with|0,_=>exact .string _|j+2,_=>exact AK.undef,λb hb=>⟨hb,rfl⟩⟩;refine S0.lone (e:=12) (Q:=λu w1=>∃I Bm,u=Aj #[BG I 0 (rt+1) Bm,CN]/\∀j x,(Gr own rt)[j]?=Z x->Cf w1 I j x) A8 A8 (λT x=>(aBV s own rt m (on (w.at x) T) X' Kb li hm).mono λe w1⟨I,Bm,N,h2,h3⟩=>⟨_,N,⟨I,Bm,rfl,h2⟩,h3.block⟩) ?_;rintro L1 F u w1 t0-⟨w1',e1,I,Bm,rfl,H5⟩;refine t0.lone (g:=58) (az:=#[BG I 0 (rt+1) Bm]) (e:=19) (Q:=λu w2=>∃na nc,u=AH (Cm own (A0 na rt nc))/\EL w2 (A0 na rt nc) rt/\(na=J/\nc=0/\rt=[]∨(∃g,na=Z ⟨g,0,J⟩)/\rt≠[])) A8 A8 (λT x=>?_) ?_
 .let X:∀j u,(Gr own rt)[j]?=Z u->Cf (on (w1.at x) T) I j u:=λj u hj=>(C8 (by show w1.heap[I]?=_;rw[e1])).trans (H5 j u hj);by_cases hr:rt=[];.subst hr;exact(aMG I Bm own _ (X 0 _ rfl)).mono λe w2⟨h,hb2⟩=>⟨_,h,⟨J,0,rfl,AA ⟨rfl,rfl⟩,AA ⟨rfl,rfl,rfl⟩⟩,hb2.block⟩
  refine(ng I Bm own rt _ A' X).mono ?_;rintro e w2⟨BF,rfl,hown,hb2⟩;obtain⟨g,c,rfl,_,_⟩:=SH hown (YW.2 hr);exact⟨_,rfl,⟨_,c,rfl,VG hown,AF ⟨⟨g,rfl⟩,hr⟩⟩,hb2.block⟩
 rintro Li Fg u w2 K-⟨w2',e2,na,nc,rfl,hmd,Q'⟩;let hn:¬R (AR w2):=λh=>WK _ (K.H.closed.lt (K.S _ h).1);let Jc:AK CK (C7 Fg) (AH (Cm own (A0 na rt nc))) (AH (Cm own (A0 na rt nc))):=K.val 19 rfl A8;refine K.alloc (A7 (Cm ⟨#[]⟩ (A0 J 0 0)) 128) (e:=8) A8 (λ_ _ h=>aWj h) λDp w3 Bu K0 m5 Xa Ly=>?_;refine Bu.store (AR w2) (A7 (Cm own (A0 na rt nc)) 128) hn A8 (λx T0 o h=>⟨_,aWu h A8 A8 m5,aXZ m5⟩) λIA w4 Cj Lm dm KC UY=>?_;refine Cj.calm (AH (Cm own (A0 na rt nc))) (e:=22) A8 (λx T0 o h=>⟨_,XZ (t:=8) h A8 UY,rfl⟩) λHd Bd E_ Ln e5=>?_;let up:∀b,Fg b->Hd b/\Bd.heap[b]?=w2.heap[b]?:=λb hb=>⟨Ln b (Lm b (K0 b hb)),by rw[e5,KC b (UN (K.H.closed.lt hb)),Ly b (K.H.closed.lt hb)]⟩;let H5:=TS _ Hd Bd na nc (AR w2) E_.H E_.S (Ar e5) (AK.Kf (E_.val (u:=AT (AR w2)) 8 rfl A8)) (SI hmd λg hg=>by rw[(up g ?_).2,e2];cases Jc with|agg h=>exact AK.QC (Al.nth 1 h rfl) hg) Q' (Jc.mono (Q5 λb hb=>(up b hb).1));refine E_.call (e:=23) A8 hF H5 ?_;rintro n9 Js u EC W oI⟨kv,U,rfl,hq⟩;let aPY:AK CK (C7 Js) (Aj #[kv,U]) (Aj #[kv,U]):=W.val 23 rfl A8;let NA:AK CK (C7 Js) U U:=by cases aPY with|tuple h=>exact Al.nth 1 h rfl
 rcases hq with⟨rfl,L,hL,hown⟩|⟨r,rfl,hF⟩;rotate_left;.exact W.back A8 λd=>.here ⟨Js,_,rfl,.tuple (.cons (.string _) (.cons NA .nil)),λb hb=>(W.S b hb).1,W.H.at d,λb hb=>(W.S b hb).2,AF ⟨r,rfl,aMr _ _ _ hF rfl⟩⟩
 let aOy:EC.heap[w2.heap.size]?=Z (A7 (Cm own (A0 na rt nc)) 128):=by rwa[(oI _ (AK.Kf (E_.val (u:=AT (AR w2)) 8 rfl A8))).2,e5]
 obtain⟨DJ,C3,aO9⟩:=EA hown;refine W.calm (O8 (AR w2) 1) (e:=30) A8 (λx T0 o h=>⟨_,pz (t:=8) h A8,rfl⟩) λJt Gb Fi Wo e7=>?_;let a7N:Gb.heap[w2.heap.size]?=Z (A7 (Cm own (A0 na rt nc)) 128):=Ar e7;refine Fi.store (AR w2) (A7 (Cm own kv) 128) hn A8 (λx T0 o h=>⟨_,aXI h A8 A8 aO9 a7N,by simp;rfl,λz hz=>DC _ _ _ _ hz,CO _ _ 1 _ _ kv a7N⟩) λKV HG Gg iC aXQ P0 aJB=>?_;let H6:∀g,kv.ownBlock=Z g->g≠AR w2:=λg hg e=>by
  rcases hown.2 with⟨N,_⟩|⟨g',TH,cur,N,_,h3,_⟩;.rw[N]at hg;cases hg
  rw[N]at hg;cases hg;let e':g'=AR w2:=e;rw[e',aOy]at h3;cases h3
 refine Gg.calm (AH (Cm own kv)) (e:=31) A8 (λx T0 o h=>⟨_,XZ (t:=8) h A8 aJB,rfl⟩) λOb Gt JU iD KX=>?_;refine JU.lone (e:=32) (Q:=λu w1=>w1.ownsRow (AR Gt) 179 1 u (L+1) (Gr own L)) A8 A8 (λT x=>(a8w own L kv _ (SI (VG hown) λg hg=>by show Gt.heap[g]?=_;rw[KX,P0 g (H6 g hg),e7]) (Z5 L hL).1).mono λe w1⟨tv,N,h2,hb⟩=>⟨_,N,h2,hb.block⟩) ?_;rintro a3G u3 u QM Iy-⟨a_C,TJ,xB⟩;obtain⟨a8s,a8i,rfl,_,_⟩:=SH xB A';rw[<-a8u,<-dR own L]at xB;refine Iy.lone (g:=46) (az:=#[BG a8s 0 (L+1) a8i]) (e:=33) (Q:=λu _=>∃S,S.Perm (Jd own L)/\V.PY S/\u=A4 ⟨(V.G6 S).toArray⟩) A8 A8 (λT x=>?_) ?_;.rw[<-dR own L];exact(aAK (AR Gt) a8s a8i m (Jd own L) (on (QM.at x) T) (by rw[dR];have:=(Z5 L hL).1;omega) (by simp[Jd]) (Z5 L hL).2 (jb xB TJ) ((C8 (w:=w) (a:=⟨0,0,J⟩) (Iy.S 0 hJ).2).trans hm)).mono λe Xg⟨S,N,h2,h3,hb⟩=>⟨_,h3,⟨S,N,h2,rfl⟩,hb.block⟩
 rintro uL Yb u Xg Hg-⟨aCy,gw,S,Z6,cT,rfl⟩;exact Hg.back (u:=Aj #[A4 ⟨(V.G6 S).toArray⟩,CN]) A8 λd=>.here ⟨Yb,_,rfl,.tuple (.cons (.string _) (.cons .nilIface .nil)),λb hb=>(Hg.S b hb).1,Hg.H.at d,λb hb=>(Hg.S b hb).2,AA ⟨L,S,hL,Z6,cT,rfl⟩⟩
def tq(d9:List Rel)(t:AW)(S:List AW)(A:List BI)(l:List (AW×Nat)):Prop:=WU (places d9) t.1 S/\(∀x∈A,x.rel∈d9)/\He A/\(names A).Nodup/\(∀x,x∈names A↔N.Reach (Ej d9) (S++[t]) x)/\∀p∈names A,counted l p↔∃b,WX A t b/\EF (DH A) (BW A p) b
def gF(d9:List Rel)(t:AW)(L:List AW):Prop:=∃S A l,tq d9 t S A l/\¬counted l t/\L=F0 (MQ l (S++[t])) (MQ l (S++[t]))
def WH(d9:List Rel)(t:AW)(r:A3)(w:A1):Prop:=(∃S A l,tq d9 t S A l/\counted l t)/\HK 0 w r (Z (11,0,t.1,t.2))
def WH.heap{d9 t}(r)(w w')(h:WH d9 t r w)(e:w'.heap=w.heap):WH d9 t r w':=⟨h.1,HK.low h.2 e⟩
def bZ.ch(h:bZ d9 t v w):∃kv I,v=Aj #[kv,I]/\r6 (gF d9 t) (WH d9 t) kv I w:=by
 obtain⟨S,A,l,N,h2,h3,h4,h5,h6,⟨hc,r,rfl,hf⟩|⟨hc,kv,rfl,ho⟩⟩:=h;.exact⟨_,_,rfl,AF ⟨r,rfl,⟨S,A,l,⟨N,h2,h3,h4,h5,h6⟩,hc⟩,hf⟩⟩
 exact⟨_,_,rfl,AA ⟨rfl,_,⟨S,A,l,⟨N,h2,h3,h4,h5,h6⟩,hc,rfl⟩,ho⟩⟩
def gG(d9:List Rel)(rt L:List AW):Prop:=∃A S,S.Perm rt/\L.Sublist S/\(∀x∈A,x.rel∈d9)/\He A/\(names A).Nodup/\(∀x,x∈names A↔N.Reach (Ej d9) rt x)/\∀x∈Cc A A,∃r∈L,EF (DH A) (BW A r) (BW A x.rel.name)
def WT.ch{rt kv}(h:WT d9 rt (Aj #[kv,CN]) w):∃I N,(Aj #[kv,CN]:A3)=Aj #[I,N]/\r6 (gG d9 rt) (λ_ _=>False) I N w:=by let⟨A,w1,⟨I,S,K,e,h1,_,h3,h4,h5,_⟩,h6,h7,h8,h9⟩:=h;cases e;exact⟨_,_,rfl,AA ⟨rfl,K,⟨A,S,h1,h3,h6,h7,h8,h9,h4⟩,Q8 h5 (JS _)⟩⟩
theorem Vd.two{own}(h:Vd own No Fq v w):∃x y,v=Aj #[x,y]:=by
 rcases h with⟨L,S,_,_,_,h⟩|⟨r,h,_⟩;.exact⟨_,_,h⟩
 grind
def Vd.heap{own No Fq v w w'}(h:Vd own No Fq v w)(hF:∀r w w',Fq r w->w'.heap=w.heap->Fq r w')(e:w'.heap=w.heap):Vd own No Fq v w':=h.imp id λ⟨r,h1,h2⟩=>⟨r,h1,hF _ _ _ h2 e⟩
section
variable{ρ:BP->A3}{w:A1}{o:B8}{x:BP}
def aBm{c:Nat}(ho:o.op=N_ 47 x)(hx:ρ x=A0 a n c):(AM ρ o).run A6 w=.ok (BB (AT w)) (w.alloc (A7 #[A0 a n c] 47)):=by unfold AM;rw[ho];simp only[hx];kernel_rfl
def aBn(ho:o.op=N_ 9 x)(hx:ρ x=s):(AM ρ o).run A6 w=.ok (BB (AT w)) (w.alloc (A7 #[s] 9)):=by unfold AM;rw[ho];simp only[hx];kernel_rfl
end
section
variable[Bg]
def aKl{own:zz}{rt:List AW}(hL:Rn w R Ek s own rt a9 d9 m f)(W:CC Wb R w)(Et:Ey R #[s,A0 (Z ⟨a9,0,J⟩) d9 cap,t.1,t.2])(Cv:∀x∈rt,x.1.size<=60/\x.2.size<=40)(hnd:(rt.map (·.1)).Nodup)(ZF:d9.length<=100)(Z0:∀r∈d9,r.p.size<=60/\r.v.size<=40)(Ii:∀r∈d9,r.p≠own)(j:Nat)(hj:j<d9)(K6:d9[j].name=t)(hne:(t.1.toList==own.toList)=A9)(LB:∀(L:List AW)(A:List BI),(∀x∈A,x.rel∈d9)->He A->(names A).Nodup->(∀x,x∈names A↔N.Reach (Ej d9) L x)->FF A)(Z5:∀L,gF d9 t L->L.length<=1000000/\∀x∈Jd own L,V.Valid x.1 x.2):HJ 35 #[s,A0 (Z ⟨a9,0,J⟩) d9 cap,t.1,t.2] Wb R w (Vd own (gF d9 t) (WH d9 t)):=by
 intro x c' cs';refine Be.enter 15 (rfl) ?_;let S0:Ap 15 [11] w R Wb R (w.at x) (Ep 35 #[s,BG a9 0 d9 cap,t.1,t.2]).1:=⟨W.at x,Cb.Ep Et,λb hb=>⟨hb,rfl⟩⟩;refine S0.alloc (A7 #[BG a9 0 d9 cap] 47) (p:=N_ 47 (Aa 1)) (e:=5) (rfl) (λ_ _ h=>aBm h (rfl)) λip w1 t0 Er F X HP=>?_;refine t0.alloc (A7 #[t.1] 9) (p:=N_ 9 (Aa 2)) (e:=6) (rfl) (λ_ _ h=>aBn h (rfl)) λFg w2 v9 MR Hj HB Kc=>?_;refine v9.alloc (A7 #[t.2] 9) (p:=N_ 9 (Aa 3)) (e:=7) (rfl) (λ_ _ h=>aBn h (rfl)) λDp w3 I K0 KZ Mc LD=>?_;let eE:=I.val (u:=AT w) 5 rfl (rfl);let aL:=I.val (u:=AT w1) 6 rfl (rfl);let aM:=I.val (u:=AT w2) 7 rfl (rfl);let X:w1.heap.size=w+1:=X;have F:=F;let hch:=λh=>a3y (Fq:=WH d9 t) (cap:=#[AT w,AT w1,AT w2]) hL.GL hL.lines hL.size (BO hL.whole.roots) Z5 WH.heap ((C8 (I.S 0 (W.closed.Ca 0 Ac)).2).trans hL.Ca) I.H (show okF 72=A5 by kernel_rfl) h;refine I.call (e:=12) A8 (rfl) (hch ?_) ?_;rotate_left;.rintro TD K u w4 z-hq;obtain⟨x,y,rfl⟩:=hq.two;exact z.back (rfl) λd=>.here ⟨K,_,rfl,z.val 12 rfl (rfl),λb hb=>(z.S b hb).1,z.H.at d,λb hb=>(z.S b hb).2,hq.heap WH.heap rfl⟩
 intro TD K w4 na nc hH Yx U hp X7 hmd cw Za;let up:∀{v},AK CK (C7 Dp) v v->AK CK (C7 K) v v:=λh=>h.mono (Q5 λb hb=>(U b hb).1);let q5:=U _ (AK.Kf eE);let q6:=U _ (AK.Kf aL);let q7:=U _ (AK.Kf aM);exact(aKk (hL.at8 (λb hb=>⟨(U b (I.S b hb).1).1,(U b (I.S b hb).1).2.trans (I.S b hb).2⟩) Yx hp X7 hmd (by cases Za with|agg h=>exact λg hg=>AK.QC (Al.nth 1 h rfl) hg)) (q5.2.trans ((LD _ A').trans ((Kc _ A').trans F))) q5.1 (q6.2.trans ((LD _ A').trans Hj)) q6.1 (q7.2.trans KZ) q7.1 Yx (.cons Za (.cons (up eE) (.cons (up aL) (.cons (up aM) .nil)))) Cv hnd ZF Z0 Ii j hj K6 hne LB).mono λ_ _ h=>h.ch
def aSe{own:zz}{rt:List AW}(hL:Rn w R Ek s own rt a9 d9 m f)(F:CC Wb R w)(Et:Ey R #[s,A0 (Z ⟨a9,0,J⟩) d9 cap])(LB:∀A:List BI,(∀x∈A,x.rel∈d9)->He A->(names A).Nodup->(∀x,x∈names A↔N.Reach (Ej d9) rt x)->FF A/\∀x∈Cc A A,∃r∈rt,EF (DH A) (BW A r) (BW A x.rel.name))(Z5:∀L,gG d9 rt L->L.length<=1000000/\∀x∈Jd own L,V.Valid x.1 x.2):HJ 36 #[s,A0 (Z ⟨a9,0,J⟩) d9 cap] Wb R w (Vd own (gG d9 rt) λ_ _=>False):=by
 intro x c' cs';refine Be.enter 11 (rfl) ?_;let S0:Ap 11 [7] w R Wb R (w.at x) (Ep 36 #[s,BG a9 0 d9 cap]).1:=⟨F.at x,Cb.Ep Et,λb hb=>⟨hb,rfl⟩⟩;refine S0.alloc (A7 #[BG a9 0 d9 cap] 47) (p:=N_ 47 (Aa 1)) (e:=3) (rfl) (λ_ _ h=>aBm h (rfl)) λip w1 I Er Ez Dc HP=>?_;let K:=I.val (u:=AT (AR w)) 3 rfl (rfl);refine I.call (e:=8) A8 (rfl) ((λh=>a3y (Fq:=λ_ _=>False) (cap:=#[AT (AR w)]) hL.GL hL.lines hL.size (BO hL.whole.roots) Z5 (λ_ _ _ h _=>h) ((C8 (I.S 0 (F.closed.Ca 0 Ac)).2).trans hL.Ca) I.H (show okF 74=A5 by kernel_rfl) h) ?_) ?_;rotate_left;.rintro TD W u w4 U-hq;obtain⟨x,y,rfl⟩:=hq.two;exact U.back (rfl) λd=>.here ⟨W,_,rfl,U.val 8 rfl (rfl),λb hb=>(U.S b hb).1,U.H.at d,λb hb=>(U.S b hb).2,hq.heap (λ_ _ _ h _=>h) rfl⟩
 intro TD W w4 na nc hH X z hp X7 hmd cw Za;let q3:=z _ (AK.Kf K);exact(aSf (hL.at8 (λb hb=>⟨(z b (I.S b hb).1).1,(z b (I.S b hb).1).2.trans (I.S b hb).2⟩) X hp X7 hmd (by cases Za with|agg h=>exact λg hg=>AK.QC (Al.nth 1 h rfl) hg)) (q3.2.trans Ez) q3.1 X (.cons Za (.cons (K.mono (Q5 λb hb=>(z b hb).1)) .nil)) cw (BO hL.whole.roots) LB).mono λu w'⟨kv,e,h⟩=>by subst e;exact h.ch
end
end
section
open Go.Proofs.YtcfhleenecfghaaGreatDoor
def Jr(AI:Nat->Nat->Nat)(x:Nat×Nat):Prop:=x.1<5/\∃k,k<3/\x.2=AI x.1 k
def uQ{x y}(hx:x.1<5/\x.2<10)(hy:y.1<5/\y.2<10):above (B1 x) (B1 y)=A5↔x.1=y.1/\y.2<x.2:=by let ha:∀a b:_root_.Fin 5,((V.mp a.val).toList==(V.mp b.val).toList)=BK (a.val=b.val):=Rw;let hb:∀a b:_root_.Fin 10,BK (0<V.order (V.LO a.val) (V.LO b.val))=BK (b.val<a.val):=Rw;unfold above B1;simp only[V.Zq];rw[ha ⟨x.1,hx.1⟩ ⟨y.1,hy.1⟩,hb ⟨x.2,hx.2⟩ ⟨y.2,hy.2⟩];simp
def pJ{x}(hx:x.1<5/\x.2<10):(B1 x).1.size<=60/\(B1 x).2.size<=40:=by let ha:∀a:_root_.Fin 5,(V.mp a.val).size<=60:=Rw;let hb:∀a:_root_.Fin 10,(V.CY a.val).size<=40:=Rw;exact⟨ha ⟨x.1,hx.1⟩,hb ⟨x.2,hx.2⟩⟩
section
variable{AI:Nat->Nat->Nat}{nd:Nat->Nat->List (Nat×Nat)}{rt:List (Nat×Nat)}{d9:List Rel}
def Bx.lt(h:Bx AI nd rt d9){x}(hx:Jr AI x):x.1<5/\x.2<10:=by let⟨h5,k,hk,e⟩:=hx;exact⟨h5,As e (h.low _ _ h5 hk)⟩
theorem Bx.has(h:Bx AI nd rt d9){x}(hx:Jr AI x):∃r∈d9,r.name=B1 x:=by let⟨h5,k,hk,e⟩:=hx;let⟨r,hr,h1,_⟩:=h.find x.1 k h5 hk;grind
def Bx.num(h:Bx AI nd rt d9){r}(hr:r∈d9):∃x,Jr AI x/\r.name=B1 x:=by let⟨q,k,hq,hk,e,_⟩:=h.of hr;exact⟨(q,AI q k),⟨hq,k,hk,rfl⟩,e⟩
def Bx.to(h:Bx AI nd rt d9){r}(I:∀x∈r,Jr AI x):Bx AI nd r d9:=⟨h.len,h.rel,h.low,h.inj,h.FX,I⟩
theorem Bx.JB(h:Bx AI nd rt d9):∀{L},(∀m∈L,∃r∈d9,r.name=m)->∃X:List (Nat×Nat),L=X.map B1/\∀x∈X,Jr AI x|[],_=>⟨[],rfl,λx hx=>BA⟩|m::L,hL=>by let⟨X,e,hX⟩:=Bx.JB h λm hm=>hL m (G1 _ hm);let⟨r,hr,hm⟩:=hL m Le;let⟨x,hx,hn⟩:=Bx.num h hr;refine⟨x::X,by rw[Ee,e,<-hn,hm],λy hy=>?_⟩;grind
def yI(h:Bx AI nd rt d9){x y}(hx:Jr AI x)(hy:Jr AI y)(e:B1 x=B1 y):x=y:=by let I:=Bx.lt h hx;let h2:=Bx.lt h hy;exact yJ ⟨I.1,A'⟩ ⟨h2.1,A'⟩ e
theorem a57{α r:Type}{f:α->List r}{c}:∀{l:List α},(∀x∈l,(f x).length<=c)->(l.flatMap f).length<=l.length*c|[],_=>AD|x::l,h=>by have I:=a57 λy hy=>h y (G1 _ hy);grind[DV,T3,Nat.add_mul]
theorem Bx.fit(h:Bx AI nd rt d9)(hlen:∀q k,q<5->k<3->(nd q k).length<=5){L A}(I:∀x∈A,x.rel∈d9)(h3:(names A).Nodup)(h4:∀x,x∈names A↔N.Reach (Ej d9) L x):FF A:=by
 let hn:∀m∈names A,∃r∈d9,r.name=m:=λm hm=>by obtain⟨x,hx,rfl⟩:=Bt.1 hm;grind
 have hl:=by
  have:=N.Tn h3 λx hx=>by obtain⟨r,hr,rfl⟩:=hn x hx;exact Rl hr
  rwa[Gf,h.len,SJ]at this
 refine⟨A',h3,λm hm=>?_,λx hx m hm=>?_,?_⟩;.obtain⟨r,hr,rfl⟩:=hn m hm;let⟨x,hx,e⟩:=Bx.num h hr;rw[e];exact pJ (Bx.lt h hx)
 .exact(h4 m).2 (.step ((h4 _).1 (Rl hx)) (Ar (dW h.VR (I x hx))))
 have:(GJ A A.length).length<=((A.take A.length).zipIdx).length*5:=by
  refine a57 λx hx=>?_;rw[Gf];have hx1:=by rw[Hb]at hx;exact Jq (tk.1 hx)
  let⟨q,k,hq,hk,_,e⟩:=h.of (I _ hx1);rw[e,Gf];exact hlen q k hq hk
 grind[List.length_zipIdx,UK]
end
section
variable{A:List BI}{d9:List Rel}
theorem gd{m}(hm:m∈names A):∃y,A[BW A m]?=Z y/\y.rel.name=m:=by
 let h:BW A m<names A:=aHS ⟨m,hm,AD⟩;let h3:BW A m<A:=by grind[SJ]
 refine⟨A[BW A m],En h3,?_⟩;let h4:(names A)[BW A m]=A[BW A m].rel.name:=by simp[names]
 exact h4.symm.trans (of_decide_eq_true (List.findIdx_getElem (w:=h)))
def a8j(hF:FF A)(hin:∀x∈A,x.rel∈d9)(U:Lg d9){r}(hr:r∈names A){b}(hl:EF (DH A) (BW A r) b):∃y,A[b]?=Z y/\N.Reach (Ej d9) [r] y.rel.name:=by induction hl with|here=>let⟨y,h1,h2⟩:=gd hr;exact⟨y,h1,by rw[h2];exact .root AD⟩|@on j k _ hk ih=>let⟨x,hx,hre⟩:=ih;obtain⟨x',I,m,hm,rfl⟩:=vI ((vf j k).1 hk);rw[hx]at I;cases I;let h:=Jq hx;let⟨y,h1,h2⟩:=gd (hF.closed x h m hm);refine⟨y,h1,?_⟩;rw[h2];exact .step hre (Ar (dW U (hin x h)))
def aBT(hF:FF A)(hin:∀x∈A,x.rel∈d9)(I:Lg d9){r}(hr:r∈names A){m}(h:N.Reach (Ej d9) [r] m):m∈names A/\EF (DH A) (BW A r) (BW A m):=by induction h with|root hx=>rw[ES.1 hx];exact⟨hr,.here⟩|@step x y _ hy U=>let⟨hx,hl⟩:=U;let⟨z,h1,h2⟩:=gd hx;let hz:=Jq h1;rw[<-h2,dW I (hin z hz)]at hy;exact⟨hF.closed z hz y hy,.on hl ((vf ..).2 (aKv h1 hy))⟩
end
section
variable{AI:Nat->Nat->Nat}{nd:Nat->Nat->List (Nat×Nat)}{rt:List (Nat×Nat)}{d9:List Rel}
def aY7(X)(h:∀x∈X,x.1<5/\x.2<30)(hn:(X.map (·.1)).Nodup):∃Y,Y.Perm X/\V.Qe Y:=by let hp:=List.mergeSort_perm X λa b=>BK (a.1<=b.1);refine⟨_,hp,λx hx=>h x (hp.mem_iff.1 hx),?_⟩;let N:=(hp.map (·.1)).nodup_iff.2 hn;rw[Lc,I8]at N;exact(aHE (List.pairwise_mergeSort (le:=λa b:Nat×Nat=>BK (a.1<=b.1)) λa b c I h2=>by simp at I h2⊢;omega (λa b=>Av) X) N).imp λ{a b}⟨I,h2⟩=>by simp at I;omega
def a8v(own)(X):Jd own (X.map B1)=XM own X:=by unfold Jd XM;rw[Ld];rfl
def aZB{X}(h:∀x∈X,x.1<5/\x.2<30)(hn:(X.map (·.1)).Nodup){S}(hp:S.Perm (Jd V.FY (X.map B1)))(ho:V.PY S):∃Y,Y.Perm X/\V.Qe Y/\(⟨(V.G6 S).toArray⟩:zz)=GQ V.FY Y:=by let⟨Y,h1,h2⟩:=aY7 X h hn;refine⟨Y,h1,h2,?_⟩;rw[a8v]at hp;have:=V.aPw ((aaf _ (h1.map V.FX)).trans hp.symm) (V.zG h2.1) (V.aWE h2).nodup (V.aWD h2) ho;rw[<-this];rfl
def a'1{X:List (Nat×Nat)}(h:∀x∈X,x.1<5/\x.2<30):∀x∈Jd V.FY (X.map B1),V.Valid x.1 x.2:=As a8v (V.zG h)
theorem aSo(hM:Mx AI nd rt){Y}(hY:∀x∈Y,Jr AI x)(hN:V.Qe Y):Mx AI nd Y:=by
 refine⟨hM.low,hM.inj,hM.FX,hY,hM.Bs,hN,?_⟩;let hn:(Y.map (·.1)).Nodup:=by rw[Lc,I8];exact hN.2.imp λ{a b}h e=>A'
 have:=N.Tn hn λx hx=>by obtain⟨y,hy,rfl⟩:=Bt.1 hx;exact Pb.2 (hN.1 y hy).1
 grind
def aAg{X:List (Nat×Nat)}(h:((X.map B1).map (·.1)).Nodup):(X.map (·.1)).Nodup:=by rw[Lc,I8,I8]at h;rw[Lc,I8];exact h.imp λ{a b}hab e=>hab (by show V.mp a.1=V.mp b.1;rw[e])
def aBN(R)(t):∀k,(∀x∈(Dr R t k).1,x∈R/\x.1≠t.1)/\((Dr R t k).2=t∨(Dr R t k).2∈R/\(Dr R t k).2.1=t.1)/\(Dr R t k).1.Sublist (R.take k)
 |0=>⟨λx hx=>(by cases hx),AA rfl,List.nil_sublist _⟩
 |k+1=>by
  let⟨h1,h2,h3⟩:=aBN R t k;rw[Dr];cases e:R[k]? with
  |none=>refine⟨h1,h2,h3.trans ?_⟩;rw[a2e,e];exact mc ..
  |some x=>
   let hx:=Jq e;let ht:R.take (k+1)=R.take k++[x]:=by rw[a2e,e];rfl
   simp only;split
   .next he=>
     split;.exact⟨h1,AF ⟨hx,(gi ..).1 (Ai he)⟩,As ht (h3.trans (mc ..))⟩
     exact⟨h1,h2,As ht (h3.trans (mc ..))⟩
   next he=>
    refine⟨λy hy=>?_,h2,As ht (h3.append (aHH _))⟩;rcases E8.1 hy with hy|hy;.exact h1 y hy
    rw[ES.1 hy];exact⟨hx,λh=>he (by rw[h];simp)⟩
def aBO(h:Bx AI nd rt d9){t}(ht:Jr AI t):∀k,∃x,Jr AI x/\(Dr (rt.map B1) (B1 t) k).2=B1 x/\x.1=t.1/\t.2<=x.2
 |0=>⟨t,ht,rfl,rfl,Ad _⟩
 |k+1=>by
  let⟨x,h1,h2,h3,h4⟩:=aBO h ht k;rw[Dr];cases e:(rt.map B1)[k]? with
  |none=>exact⟨x,h1,h2,h3,h4⟩
  |some y=>
   obtain⟨z,hz,rfl⟩:=Bt.1 (Jq e);have I:=h.root z hz;simp only;split
   .split;.next ha=>rw[h2]at ha;let⟨e1,e2⟩:=(uQ (Bx.lt h I) (Bx.lt h h1)).1 ha;exact⟨z,I,rfl,e1.trans h3,A'⟩
    exact⟨x,h1,h2,h3,h4⟩
   exact⟨x,h1,h2,h3,h4⟩
def aVi(h:Bx AI nd rt d9)(hN:V.Qe rt){t}(ht:Jr AI t):∃X:List (Nat×Nat),XX (rt.map B1) (B1 t)=X.map B1/\(∀x∈X,Jr AI x)/\(X.map (·.1)).Nodup/\∃x∈X,x.1=t.1/\t.2<=x.2:=by
 let⟨h1,h2,h3⟩:=aBN (rt.map B1) (B1 t) (rt.map B1);let hin:∀m∈rt.map B1,∃r∈d9,r.name=m:=λm hm=>by obtain⟨x,hx,rfl⟩:=Bt.1 hm;exact Bx.has h (h.root x hx)
 let⟨X,e,hX⟩:=Bx.JB h (L:=XX (rt.map B1) (B1 t)) λm hm=>by
  rcases E8.1 hm with hm|hm;.exact hin m (h1 m hm).1
  rw[ES.1 hm];rcases h2 with h2|h2;.rw[h2];exact Bx.has h ht
  exact hin _ h2.1
 refine⟨X,e,hX,aAg ?_,?_⟩
 .rw[<-e];unfold XX;rw[Pa,gC];refine⟨?_,AD,λa ha b hb e=>?_⟩;.refine aHF (h3.map (·.1)) ?_;rw[Hb,Ld,I8];refine bV ?_ hN.2;intro a b ha hb hab e;have:=Zp (hN.1 a ha).1 (hN.1 b hb).1 e;omega
  obtain⟨x,hx,rfl⟩:=Bt.1 ha;let hb:b=(Dr (rt.map B1) (B1 t) (rt.map B1)).2.1:=Ai hb;let h4:(Dr (rt.map B1) (B1 t) (rt.map B1)).2.1=(B1 t).1:=by
   rcases h2 with h2|h2;.rw[h2]
   exact h2.2
  exact(h1 x hx).2 (e.trans (hb.trans h4))
 let⟨x,hx,e2,e3,e4⟩:=aBO h ht (rt.map B1);let hm:B1 x∈X.map B1:=by rw[<-e,<-e2];exact E8.2 (AF AD)
 let⟨y,hy,ey⟩:=Bt.1 hm;have:=yI h (hX y hy) hx ey;exact⟨y,hy,by rw[this];exact⟨e3,e4⟩⟩
def a9h(h:Bx AI nd rt d9)(hN:V.Qe rt){L}(hL:gG d9 (rt.map B1) L):∃X:List (Nat×Nat),L=X.map B1/\(∀x∈X,Jr AI x)/\(X.map (·.1)).Nodup/\∀x∈X,x∈rt:=by
 let⟨A,S,h1,h2,_⟩:=hL;let hm:∀m∈L,m∈rt.map B1:=λm hm=>h1.mem_iff.1 (h2.mem hm);obtain⟨X,e,hX⟩:=Bx.JB h λm I=>by obtain⟨x,hx,rfl⟩:=Bt.1 (hm m I);exact Bx.has h (h.root x hx)
 refine⟨X,e,hX,aAg ?_,λx hx=>?_⟩
 .rw[<-e];refine aHF (h2.map (·.1)) ?_;let hn:((rt.map B1).map (·.1)).Nodup:=by rw[Lc,Ld,I8];refine bV ?_ hN.2;intro a b ha hb hab e;have:=Zp (hN.1 a ha).1 (hN.1 b hb).1 e;omega
  exact(h1.map (·.1)).nodup_iff.2 hn
 have:B1 x∈L:=by rw[e];exact Rl hx
 let⟨y,hy,ey⟩:=Bt.1 (hm _ this);rwa[<-yI h (h.root y hy) (hX x hx) ey]
def aSb(hG:Lg d9){L:List AW}(hL:gG d9 (rt.map B1) L)(h:Bx AI nd rt d9)(hlen:∀q k,q<5->k<3->(nd q k).length<=5):∃A,He A/\(names A).Nodup/\(∀x,x∈names A↔N.Reach (Ej d9) (rt.map B1) x)/\∀x∈Cc A A,N.Reach (Ej d9) L x.rel.name:=by let⟨A,S,h1,h2,h3,h4,h5,h6,h7⟩:=hL;refine⟨A,h4,h5,h6,λx hx=>?_⟩;let⟨r,hr,hl⟩:=h7 x hx;let⟨y,hy,hre⟩:=a8j (Bx.fit h hlen h3 h5 h6) h3 hG ((h6 r).2 (.root (h1.mem_iff.1 (h2.mem hr)))) hl;let⟨z,hz,ez⟩:=gd (Rl (VV A _ x hx));rw[hz]at hy;cases hy;rw[ez]at hre;exact N.pq (λm hm=>by rw[ES.1 hm];exact .root hr) hre
end
def dp(x y:AW):Bool:=BK (x.1.toList=y.1.toList)
theorem a8X(x L):∀k,F0 (x::L) (k+1)=(if lastB (x::L) 0 then[x]else[])++F0 L k
 |0=>by grind[F0]
 |k+1=>by
  have hl:lastB (x::L) (k+1)=lastB L k:=by unfold lastB;simp
  rw[F0,a8X x L k,F0];simp only[te,hl];split
  .split;.rw[T1]
   rfl
  rfl
theorem a8Y:∀L:List AW,F0 L L=N.Co dp L|[]=>rfl|[x]=>by rfl|x::y::l=>by rw[T3,a8X,a8Y (y::l),N.Co];grind[lastB,dp]
theorem a8a:∀X:List (Nat×Nat),(∀x∈X,x.1<5)->N.Co dp (X.map B1)=(N.Co N.E6 X).map B1
 |[],_=>rfl
 |[x],_=>rfl
 |x::y::l,h=>by
  have hs:dp (B1 x) (B1 y)=N.E6 x y:=by
   unfold dp N.E6;by_cases e:x.1=y.1
   .let e2:(B1 x).1=(B1 y).1:=by show V.mp x.1=V.mp y.1;rw[e]
    rw[e2];simp[e]
   have:¬(B1 x).1.toList=(B1 y).1.toList:=λhh=>e (Zp (h x AD) (h y AD) ((gi ..).1 hh));rw[decide_eq_false this];simp[e]
  let I:N.Co dp (B1 y::l.map B1)=(N.Co N.E6 (y::l)).map B1:=a8a (y::l) λz hz=>h z (G1 _ hz);rw[Ee,Ee,N.Co,N.Co,hs,I];grind
theorem a8c{t}:∀Y:List (Nat×Nat),(∀y∈Y,y.1≠t.1)->N.Co N.E6 (Y++[t])=N.Co N.E6 Y++[t]|[],_=>rfl|[y],h=>by have:=h y AD;simp[N.Co,N.E6,this]|y::z::l,h=>by let I:N.Co N.E6 (z::(l++[t]))=N.Co N.E6 (z::l)++[t]:=a8c (z::l) λx hx=>h x (G1 _ hx);rw[UJ,UJ,N.Co,N.Co,I];grind
def aSP{l L x}:x∈MQ l L↔x∈L/\¬counted l x:=by simp[MQ]
section
variable{AI:Nat->Nat->Nat}{nd:Nat->Nat->List (Nat×Nat)}{rt:List (Nat×Nat)}{d9:List Rel}
def aRP(h:Bx AI nd rt d9)(hlen:∀q k,q<5->k<3->(nd q k).length<=5){t}(ht:Jr AI t){L}(hL:gF d9 (B1 t) L):∃X:List (Nat×Nat),L=X.map B1/\(∀x∈X,Jr AI x)/\(X.map (·.1)).Nodup/\t∈X/\∀y,N.Reach (JY AI nd) X y->y.1=t.1->y.2<=t.2:=by
 obtain⟨S,A,l,⟨hT,h1,h2,h3,h4,h5⟩,hc,rfl⟩:=hL;let⟨K,k1,k2,F5,k4⟩:=hT;let hsub:(MQ l S).Sublist S:=List.filter_sublist;let W:MQ l (S++[B1 t])=MQ l S++[B1 t]:=by unfold MQ;simp[hc]
 let⟨Y,e,hY⟩:=Bx.JB h λm hm=>(λx(hx:x∈S)=>hT.mem hx) m (hsub.mem hm);have u:=by
  refine k1.nodup_iff.2 ?_;have:(places d9).map (·.1)=d9.map (·.name):=by unfold places;rw[Ld];have:((λx:AW×Nat=>x.1)∘λx:Rel×Nat=>(x.1.name,x.2))=(λr:Rel=>r.name)∘Ya:=rfl;rw[this,<-Ld,List.zipIdx_map_fst]
  rw[this];exact h.VR.1
 let F:Y.Pairwise N.Lex:=by let a1:(Y.map B1).Pairwise λa b=>F6 a b<=0:=As e.symm (k2.sublist (hsub.trans F5));let a2:(Y.map B1).Nodup:=As e.symm (u.sublist (hsub.trans F5));rw[I8]at a1;rw[Lc,I8]at a2;refine bV ?_ (aHE a1 a2);intro a b ha hb hab;exact a9a (Bx.lt h (hY a ha)) (Bx.lt h (hY b hb)) hab.1 λe=>hab.2 (by rw[e])
 let I:∀y∈Y,y.1≠t.1:=λy hy e1=>by exact k4 _ (hsub.mem (As e (Rl hy))) (by show V.mp y.1=V.mp t.1;rw[e1])
 let hlt:∀x∈Y++[t],x.1<5:=λx hx=>by
  rcases E8.1 hx with hx|hx;.exact(hY x hx).1
  rw[ES.1 hx];exact ht.1
 let hX:∀x∈N.Co N.E6 Y++[t],Jr AI x/\B1 x∈MQ l (S++[B1 t]):=λx hx=>by
  rw[W];rcases E8.1 hx with hx|hx;.exact⟨hY x (N.VB hx),E8.2 (AA (As e (Rl (N.VB hx))))⟩
  rw[ES.1 hx];exact⟨ht,AD⟩
 refine⟨N.Co N.E6 Y++[t],?_,λx hx=>(hX x hx).1,?_,AD,λy hy H=>?_⟩;.rw[a8Y,W,e,show Y.map B1++[B1 t]=(Y++[t]).map B1 by simp,a8a _ hlt,a8c Y I]
 .rw[Pa,gC];refine⟨?_,AD,λa ha b hb e1=>?_⟩;.rw[Lc,I8];exact(N.Zj F).imp λ{a b}hab e=>A'
  obtain⟨x,hx,rfl⟩:=Bt.1 ha;exact I x (N.VB hx) (e1.trans (Ai hb))
 refine Nat.le_of_not_lt λhgt=>?_;let⟨r,hr,hre⟩:=N.aBU hy;let⟨hro,hrf⟩:=hX r hr;let⟨hrS,hrc⟩:=aSP.1 hrf;have X9:=(h4 _).2 (.root hrS);have U:=Bx.to h λx hx=>Ar (ES.1 hx);let⟨hyA,hl⟩:=aBT (Bx.fit h hlen h1 h3 h4) h1 h.VR X9 ((U.reach (B1 y)).2 ⟨y,hre,rfl⟩);let⟨z,hz,ez⟩:=gd hyA;refine hrc ((h5 _ X9).2 ⟨_,⟨z,hz,?_⟩,hl⟩);rw[ez];exact(uQ (Bx.lt h (U.ok hre)) (Bx.lt h ht)).2 ⟨H,hgt⟩
def aRO(h:Bx AI nd rt d9)(hlen:∀q k,q<5->k<3->(nd q k).length<=5){t}(ht:Jr AI t)(hL:∃S A l,tq d9 (B1 t) S A l/\counted l (B1 t)):∃y,N.Reach (JY AI nd) [t] y/\y.1=t.1/\t.2<y.2:=by let⟨S,A,l,⟨_,h1,h2,h3,h4,h5⟩,hc⟩:=hL;let I:B1 t∈names A:=(h4 _).2 (.root AD);let⟨b,⟨y,hy,hab⟩,hl⟩:=(h5 _ I).1 hc;let⟨y',hy',hre⟩:=a8j (Bx.fit h hlen h1 h3 h4) h1 h.VR I hl;rw[hy]at hy';cases hy';have hlt:=Bx.to h λx hx=>Ar (ES.1 hx);let⟨x,hx,e⟩:=(hlt.reach y.rel.name).1 hre;rw[e]at hab;let⟨e1,e2⟩:=(uQ (Bx.lt h (hlt.ok hx)) (Bx.lt h ht)).1 hab;exact⟨x,hx,e1,e2⟩
end
open Go.Conc Go.RowKit
open Go.ConcR(Payload)
variable{Post:zv}{AU w:A1}{s:FC}{JQ:List AW}{nd:Nat->Nat->List (Nat×Nat)}{AI:Nat->Nat->Nat}{a:Option An}
theorem aU6(x:Int)(w:A1)(I:-9223372036854775808<=x)(h2:x<=9223372036854775807):Ab A6 15 #[x,AB AJ 5] w λe w'=>e=AV (AB AJ (if x<0 then-(x+1)%5 else x%5))/\w'=w:=by
 by_cases h:x<0;.go_enter Tryz.func15,Tryz.ntmps15;go_wp2;go_ret;exact⟨I0 BA,rfl⟩
 go_enter Tryz.func15,Tryz.ntmps15;go_wp2;go_ret;simp_all
theorem yi(x:Int)(w:A1)(I:-9223372036854775808<=x)(h2:x<=9223372036854775807):Ab A6 15 #[x,AB AJ 3] w λe w'=>e=AV (AB AJ (if x<0 then-(x+1)%3 else x%3))/\w'=w:=by
 by_cases h:x<0;.go_enter Tryz.func15,Tryz.ntmps15;go_wp2;go_ret;exact⟨I0 BA,rfl⟩
 go_enter Tryz.func15,Tryz.ntmps15;go_wp2;go_ret;simp_all
theorem aAk(x)(n)(hn:0<n):∃r:Nat,r<n/\(if x<0 then-(x+1)%(n:Int)else x%(n:Int))=(r:Int):=by
 let h:0<(n:Int):=A';split;.exact⟨(-(x+1)%n).toNat,by have:=aH4 (-(x+1)) h;grind,BO (aH5 (-(x+1)) (show(n:Int)≠0 by omega))⟩
 exact⟨(x%n).toNat,by have:=aH4 x h;grind,BO (aH5 x (show(n:Int)≠0 by omega))⟩
def aZA{rt fk}(w)(h:OW AI nd rt fk w)(hM:Mx AI nd rt):Ab A6 20 #[B2 (Z ⟨fk,0,J⟩)] w λe w'=>e=AV (A4 (GQ V.FY rt))/\∃q,w'=w.drewN q:=by let⟨a,n,c,ug,hn⟩:=h.root;have I:=A2 hn;go_enter Tryz.func20,Tryz.ntmps20;go_wp2_with fail;refine(a9P V.FY Ac _ rt _ hM.roots.2 hM.roots.1.1 I.o).mono ?_;rintro e N⟨rfl,q,rfl⟩;go_wp2;go_ret;exact⟨rfl,q,rfl⟩
def CallsC.still{f fn args}(u)(hf:CK f)(N:A6.funcs[f]?=Z fn)(hb:fn.body.isSome=A5)(h:∀T x,Ab A6 f args (on (w.at x) T) λe I=>e=AV u/\I.heap=w.heap):∀x,CallsC f args (w.at x) λv w'=>v=u/\w'.heap=w.heap:=λx=>(CallsC.lone (Q:=λv I=>v=u/\I.heap=w.heap) hf N hb λT=>(h T x).mono λe I⟨h1,h2⟩=>⟨u,h1,rfl,h2⟩).mono λv w'⟨I,e,h1,h2⟩=>⟨h1,e.trans h2⟩
structure FQ(AI:Nat->Nat->Nat)(nd:Nat->Nat->List (Nat×Nat))(rt:List (Nat×Nat))(AU:A1)(Gi gc:zy)(L:List Rel)(C:zw)(a9 cap fk:Nat)(m:Int):Prop where
 Ki:Mx AI nd rt
 reg:UQ AI nd AU a9 L bf
 CX:RR AU
 g0:AU.cell? ⟨0,0,J⟩=Z (AB AJ m)
 g5:AU.cell? ⟨5,15,J⟩=Z (AB .u8 4)
 holds:CC Gi gc AU
 Kl:AK CK (C7 gc) (A0 (Z ⟨a9,0,J⟩) 15 cap) (A0 (Z ⟨a9,0,J⟩) 15 cap)
 kept:OW AI nd rt fk AU
 cells:AU.heap[fk]?=Z (A7 C 43 (0,0))
 aPu:gc fk
def US(AU:A1)(gc R:zy)(w:A1):Prop:=∀b,gc b->R b/\w.heap[b]?=AU.heap[b]?
section
variable{AI:Nat->Nat->Nat}{nd:Nat->Nat->List (Nat×Nat)}{rt:List (Nat×Nat)}{AU w:A1}{Gi gc Wb R:zy}{L:List Rel}{C:zw}{a9 cap fk:Nat}{m:Int}
def FQ.jG(h:FQ AI nd rt AU Gi gc L C a9 cap fk m)(s:US AU gc R w):OW AI nd rt fk w:=Twin.OW.aPy h.kept h.holds h.aPu h.cells λb hb=>(s b hb).2
def FQ.law(h:FQ AI nd rt AU Gi gc L C a9 cap fk m):Bx AI nd rt L:=h.reg.law h.Ki
def FQ.Rz(h:FQ AI nd rt AU Gi gc L C a9 cap fk m):∀q k,q<5->k<3->(nd q k).length<=5:=λq k hq hk=>(h.Ki.Bs q k hq hk).2
def FQ.qY(h:FQ AI nd rt AU Gi gc L C a9 cap fk m)(s:US AU gc R w):AK CK (C7 R) (A0 (Z ⟨a9,0,J⟩) 15 cap) (A0 (Z ⟨a9,0,J⟩) 15 cap):=h.Kl.mono (Q5 λb hb=>(s b hb).1)
def FQ.load(h:FQ AI nd rt AU Gi gc L C a9 cap fk m)(s:US AU gc R w)(I:CC Wb R w){Y}(hM:Mx AI nd Y):Rn w R (z7 a9 L) (GQ V.FY Y) V.FY (Y.map B1) a9 L m (qO bf):=aR9 hM (aW0 h.reg h.holds h.Kl λb hb=>(s b hb).2) (a5N h.CX h.holds λb hb=>(s b hb).2) (ni Ac h.g0 h.holds λb hb=>(s b hb).2) (ni Ac h.g5 h.holds λb hb=>(s b hb).2) I (h.qY s)
def FQ.text(h:FQ AI nd rt AU Gi gc L C a9 cap fk m)(s:US AU gc R w):∀x,CallsC 20 #[B2 (Z ⟨fk,0,J⟩)] (w.at x) λv w'=>v=A4 (GQ V.FY rt)/\w'.heap=w.heap:=CallsC.still _ (TG 20 (rfl)) Tryz.func20 (rfl) λT x=>(aZA _ (h.jG (w:=on (w.at x) T) s) h.Ki).mono λe I⟨h1,q,h2⟩=>⟨h1,Af h2⟩
def yh{q:Nat}(hq:q<5):∀x,CallsC 21 #[(q:Int)] (w.at x) λv w'=>v=A4 (V.mp q)/\w'.heap=w.heap:=CallsC.still _ (TG 21 (rfl)) Tryz.func21 (rfl) λT x=>(pY q hq _).mono λe h⟨h1,h2⟩=>⟨h1,Af h2⟩
def a'4{n:Nat}(hn:n<30):∀x,CallsC 22 #[(n:Int)] (w.at x) λv w'=>v=A4 (V.CY n)/\w'.heap=w.heap:=CallsC.still _ (TG 22 (rfl)) Tryz.func22 (rfl) λT x=>(qW n hn _).mono λe h⟨h1,q,h2⟩=>⟨h1,Af h2⟩
theorem FQ.one(h:FQ AI nd rt AU Gi gc L C a9 cap fk m){q k:Nat}(hq:q<5)(hk:k<3):∃hj:q*3+k<L,L[q*3+k].p=V.mp q/\L[q*3+k].v=V.CY (AI q k):=by
 let hj:q*3+k<L:=by rw[h.reg.len];omega
 let⟨h1,h2,_⟩:=h.law.rel _ hj;grind
def FQ.short(h:FQ AI nd rt AU Gi gc L C a9 cap fk m):∀r∈L,r.p.size<=60/\r.v.size<=40:=λr hr=>by let⟨x,hx,e⟩:=Bx.num h.law hr;have:=pJ (Bx.lt h.law hx);rwa[<-e]at this
def yL{q}(hq:q<5):((V.mp q).toList==V.FY.toList)=A9:=by have:∀a:_root_.Fin 5,((V.mp a.val).toList==V.FY.toList)=A9:=Rw;exact this ⟨q,hq⟩
theorem FQ.Xe(h:FQ AI nd rt AU Gi gc L C a9 cap fk m):∀r∈L,r.p≠V.FY:=λr hr e=>by let⟨x,hx,e1⟩:=Bx.num h.law hr;let I:r.p=V.mp x.1:=congrArg Ya e1;have:=yL (Bx.lt h.law hx).1;grind
theorem yX{X:List (Nat×Nat)}(h:∀x∈X,x.1<5)(hn:(X.map (·.1)).Nodup):X.length<=5:=by
 have:=N.Tn hn λx hx=>by obtain⟨y,hy,rfl⟩:=Bt.1 hx;exact Pb.2 (h y hy)
 grind
def FQ.pC(h:FQ AI nd rt AU Gi gc L C a9 cap fk m){x}(hx:Jr AI x):x.1<5/\x.2<30:=BO (Bx.lt h.law hx)
def FQ.root(h:FQ AI nd rt AU Gi gc L C a9 cap fk m){X:List (Nat×Nat)}(hX:∀x∈X,Jr AI x)(hn:(X.map (·.1)).Nodup){S}(hp:S.Perm (Jd V.FY (X.map B1)))(ho:V.PY S):∃Y,Mx AI nd Y/\(∀x,x∈Y↔x∈X)/\(⟨(V.G6 S).toArray⟩:zz)=GQ V.FY Y:=by let⟨Y,h1,h2,h3⟩:=aZB (λx hx=>h.pC (hX x hx)) hn hp ho;exact⟨Y,aSo h.Ki (λx hx=>hX x (h1.mem_iff.1 hx)) h2,λx=>h1.mem_iff,h3⟩
end
def aI_(v):Ax 215 v=#[v 0,v 1,v 2,v 3,v 4,v 5,v 6,v 7,v 8,v 9,v 10,v 11,v 12,v 13,v 14,v 15,v 16,v 17,v 18,v 19,v 20,v 21,v 22,v 23,v 24,v 25,v 26,v 27,v 28,v 29,v 30,v 31,v 32,v 33,v 34,v 35,v 36,v 37,v 38,v 39,v 40,v 41,v 42,v 43,v 44,v 45,v 46,v 47,v 48,v 49,v 50,v 51,v 52,v 53,v 54,v 55,v 56,v 57,v 58,v 59,v 60,v 61,v 62,v 63,v 64,v 65,v 66,v 67,v 68,v 69,v 70,v 71,v 72,v 73,v 74,v 75,v 76,v 77,v 78,v 79,v 80,v 81,v 82,v 83,v 84,v 85,v 86,v 87,v 88,v 89,v 90,v 91,v 92,v 93,v 94,v 95,v 96,v 97,v 98,v 99,v 100,v 101,v 102,v 103,v 104,v 105,v 106,v 107,v 108,v 109,v 110,v 111,v 112,v 113,v 114,v 115,v 116,v 117,v 118,v 119,v 120,v 121,v 122,v 123,v 124,v 125,v 126,v 127,v 128,v 129,v 130,v 131,v 132,v 133,v 134,v 135,v 136,v 137,v 138,v 139,v 140,v 141,v 142,v 143,v 144,v 145,v 146,v 147,v 148,v 149,v 150,v 151,v 152,v 153,v 154,v 155,v 156,v 157,v 158,v 159,v 160,v 161,v 162,v 163,v 164,v 165,v 166,v 167,v 168,v 169,v 170,v 171,v 172,v 173,v 174,v 175,v 176,v 177,v 178,v 179,v 180,v 181,v 182,v 183,v 184,v 185,v 186,v 187,v 188,v 189,v 190,v 191,v 192,v 193,v 194,v 195,v 196,v 197,v 198,v 199,v 200,v 201,v 202,v 203,v 204,v 205,v 206,v 207,v 208,v 209,v 210,v 211,v 212,v 213,v 214]:=A8
abbrev kT(R:zy)(v:Nat->A3):Prop:=Cb 215 [0,35] R v
def kT.qX{R v}(h:kT R v):Ey R (GP [0,35] (Ax 215 v)):=by
 refine VY λj u hu=>?_;have hu:=Ai hu;cases hd:[0,35].contains j with
 |false=>
  rw[SF hd]at hu;by_cases hj:j<215;.rw[WS hj]at hu;cases hu;exact h j hj hd
  rw[Ml (by simp only[Ax,Array.size_ofFn];omega)]at hu;cases hu
 |true=>unfold GP at hu;rw[Array.getElem?_mapIdx]at hu;simp only[hd,if_true]at hu;cases e:(Ax 215 v)[j]? with|none=>rw[e]at hu;cases hu|some x=>rw[e]at hu;cases hu;exact AK.undef
def Ap.aU8{Wb R gc cs}(S:Ap 215 [0,35] AU gc Wb R w s.1)(K)(l){c r}(hc:(D2 215 [0,35] K s).2=Aw c::r)(hB:J2 A6 Hh FM [1000007,1000009] 8 c=A5)(hl:l.all (λx=>![0,35].contains x.1)=A5)(h:∀x T0,c.wp A6 (λe a' w'=>e=Vq/\a'.defers=[]/\a'.tmps.size=215/\(∀x∈l,a'.tmps.getD x.1 AN=x.2)/\w'.heap=w.heap) ⟨Ax 215 (D2 215 [0,35] K s).1,[]⟩ (on (w.at x) T0))(k:∀N U w',Ap 215 [0,35] AU gc Wb N w' (TN U l)->(∀b,R b->N b)->w'.heap=w.heap->Be 10 215 cs Wb w' (TN U l,r) Post):Be 10 215 cs Wb w s Post:=by
 refine du (D:=[0,35]) K w.drawn λm=>?_;show Ce Wb (G ((B5 10).at ⟨Ax 215 (D2 215 [0,35] K s).1,[]⟩ (D2 215 [0,35] K s).2) cs) _ Post;rw[hc];refine .Km (aAl lT A8 (Q:=λT w'=>T.size=215/\(∀x∈l,T.getD x.1 AN=x.2)/\w'.heap=w.heap) hB (kT.qX (Cb.D2 K S.V)) (S.H.at m) (h m)) ?_;rintro g w'⟨N,I,T2,w1,rfl,⟨hs,hq,e2⟩,hh,e,hv,hR,hH'⟩;change GP [0,35] I=GP [0,35] T2 at hh;have u:=by have:=congrArg Array.size hh;unfold GP at this;simpa[hs]using this
 let e3:=e.trans e2;let hx:∀x∈l,I.getD x.1 AN=x.2:=λx hx=>by let hd:[0,35].contains x.1=A9:=Ai (Ha.1 hl x hx);rw[<-hq x hx,QP,QP,<-SF hd I,<-SF hd T2,hh]
 rw[uH u];let hk:=k N (λj=>I.getD j AN) w' ⟨hH',?_,λb hb=>⟨hR b (S.S b hb).1,As e3 ((S.S b hb).2)⟩⟩ hR e3;.rwa[cH hx]at hk
 rw[cH hx];intro j hj hd;let e:I[j]?=Z (I.getD j AN):=by rw[QP,G8 A'];rfl
 rw[<-SF hd I]at e;exact Ey.nth hv j e
def aKd:Nat->List Nat|3=>[2]|4=>[0]|5=>[4]|6=>[5,1]|7=>[6,3]|8=>[7]|9=>[8]|_=>[]
section
variable{ρ:BP->A3}{w:A1}{o:B8}{x y:BP}{fk q k a:Nat}
theorem aWm(ho:o.op=.nilCheck x)(hx:ρ x=AT fk):(AM ρ o).run A6 w=.ok (BB (AT fk)) w:=by simp_all[AM]
def aWt(ho:o.op=OP 43 x 0)(hx:ρ x=AT fk):(AM ρ o).run A6 w=.ok (BB (AT fk)) w:=by unfold AM;rw[ho];simp only[hx];kernel_rfl
def aX0(ho:o.op=U9 38 x y)(hx:ρ x=AT fk)(hy:ρ y=(q:Int))(hq:q<5):(AM ρ o).run A6 w=.ok (BB (B2 (Z ⟨fk,q*3,J⟩))) w:=by unfold AM;rw[ho];simp only[hx,hy];rcases(A':q=0∨q=1∨q=2∨q=3∨q=4)with rfl|rfl|rfl|rfl|rfl<;>kernel_rfl
def aX'(ho:o.op=U9 37 x y)(hx:ρ x=B2 (Z ⟨fk,a,J⟩))(hy:ρ y=(k:Int))(hk:k<3):(AM ρ o).run A6 w=.ok (BB (B2 (Z ⟨fk,a+k,J⟩))) w:=by unfold AM;rw[ho];simp only[hx,hy];rcases(A':k=0∨k=1∨k=2)with rfl|rfl|rfl<;>kernel_rfl
def qE{n:Int}(ho:o.op=ED 3 x)(hx:ρ x=B2 (Z ⟨fk,a,J⟩))(hc:w.cell? ⟨fk,a,J⟩=Z (AB AJ n)):(AM ρ o).run A6 w=.ok (BB n) w:=by unfold AM;rw[ho];simp only[hx];simp[go_sem,hc]
end
def aSp{m:Int}{rt:List (Nat×Nat)}{Gi gc:zy}{L:List Rel}{C:zw}{a9 cap fk:Nat}{Wb R:zy}{r:Int}{q:Nat}(hB:FQ AI nd rt AU Gi gc L C a9 cap fk m)(S:Ap 215 [0,35] AU gc Wb R w s.1)(hs:(BM 215 [0,35] s).2=Aw (.region 7 (IL (fstC (Mg 6))) A5)::[Aw (Mg 7)])(h8:(BM 215 [0,35] s).1 8=AT fk)(H:(BM 215 [0,35] s).1 10=(q:Int))(hq:q<5)(h2:(BM 215 [0,35] s).1 2=r)(W:-9223372036854775808<=r)(X:r<=9223372036854775807)(k:∀BJ R' w' v' k0,k0<3->Ap 215 [0,35] AU gc BJ R' w' v'->(∀j,j<32->j≠11->v' j=(BM 215 [0,35] s).1 j)->v' 11=(AI q k0:Int)->Be 10 215 [] BJ w' (v',[Aw (Mg 7)]) Post):Be 10 215 [] Wb w s Post:=by
 obtain⟨k0,z,F⟩:=aAk r 3 Ac;refine S.cA (IL (fstC (Mg 6))) [Aw (Mg 7)] hs aKd (Lf 10) [[]] (λi=>[41,42,43,44,45,46,47,48,49,11].getD i 0) A8 A8 A8 (λi u _ _=>u=#[AT fk,AX q,AX r,AX k0,AT fk,AT fk,O8 fk (q*3),O8 fk (q*3+k0),AX (AI q k0),AX (AI q k0)].getD i AN) (λ_ _ _ _ _ _ h _=>h) (λi hi U N I v rest S hr hf K=>?_) λU N I v rest Mb S hr hf=>?_;.let hr:∀j,(j==8||j==10||j==2)=A5->v j=(BM 215 [0,35] s).1 j:=λj hj=>hr j (by simp at hj;rcases hj with(rfl|rfl)|rfl<;>decide);have kc:∀{R':zy}{u:A3}{w':A1},Ap 215 [0,35] AU gc U R' w' (BQ v _ u)->(∀b,N b->R' b)->w'.heap=I.heap->u=_->_:=λS' hR e=>K _ _ _ _ S' λb hb=>⟨hR b hb,by rw[e]⟩;let hi:i<10:=Ai hi;match i,hi with|0,_=>exact S.kR A8 λm S'=>kc S' (λ_ h=>h) rfl ((hr 8 rfl).trans h8)|1,_=>exact S.kR A8 λm S'=>kc S' (λ_ h=>h) rfl ((hr 10 rfl).trans H)|2,_=>exact S.kR A8 λm S'=>kc S' (λ_ h=>h) rfl ((hr 2 rfl).trans h2)|3,_=>let y:v 43=AX r:=hf 2 Ac;exact S.kQ (az:=#[AX r,AX 3]) (Q:=λu _=>u=AX k0) A8 (by rw[<-y];kernel_rfl) A8 (λT x=>(yi r _ W X).mono λe I⟨h1,h2⟩=>⟨_,h1,Af F.symm,λb hb=>Af h2⟩) λLi Fg u w2 v9 hk⟨_,_,h⟩=>K _ _ _ _ v9 hk h|4,_=>exact S.IM (AT fk) A8 A8 (λ_ _ _ h=>⟨_,aWm (x:=Aa 41) h (hf 0 Ac),rfl⟩) λR' w' S' hR e=>kc S' hR e rfl|5,_=>exact S.IM (AT fk) A8 A8 (λ_ _ _ h=>⟨_,aWt (x:=Aa 45) h (hf 4 Ac),rfl⟩) λR' w' S' hR e=>kc S' hR e rfl|6,_=>exact S.IM (O8 fk (q*3)) A8 A8 (λ_ _ _ h=>⟨_,aX0 (x:=Aa 46) (y:=Aa 42) h (hf 5 Ac) (hf 1 Ac) hq,rfl⟩) λR' w' S' hR e=>kc S' hR e rfl|7,_=>exact S.IM (O8 fk (q*3+k0)) A8 A8 (λ_ _ _ h=>⟨_,aX' (x:=Aa 47) (y:=Aa 44) h (hf 6 Ac) (hf 3 Ac) z,rfl⟩) λR' w' S' hR e=>kc S' hR e rfl|8,_=>exact S.IM (AX (AI q k0)) A8 A8 (λx T _ h=>⟨_,qE (w:=on (I.at x) T) (x:=Aa 48) h (hf 7 Ac) ((hB.jG S.S).QK q k0 hq z).1,rfl⟩) λR' w' S' hR e=>kc S' hR e rfl|9,_=>exact S.kR (s:=(v,Ak (IL (fstC (Mg 6))) (9::rest)::[Aw (Mg 7)])) (e:=11) A8 λm S'=>kc S' (λ_ h=>h) rfl (hf 8 Ac)
 obtain rfl:rest=[]:=by simpa using Mb
 exact Ap.to (s:=(v,Ak (IL (fstC (Mg 6))) []::[Aw (Mg 7)])) S 1 A8 λm S'=>k U N _ _ k0 z S' (λj h1 h2=>hr j λi hi=>by let hi:i<10:=Ai hi;match i,hi with|0,_|1,_|2,_|3,_|4,_|5,_|6,_|7,_|8,_=>exact λe=>absurd (e▸h1) Ac|9,_=>exact h2) (hf 9 Ac)
section
variable{AI:Nat->Nat->Nat}{nd:Nat->Nat->List (Nat×Nat)}{rt:List (Nat×Nat)}{AU w:A1}{Gi gc Wb R:zy}{L:List Rel}{C:zw}{a9 cap fk:Nat}{m:Int}{q k0:Nat}
def FQ.up(h:FQ AI nd rt AU Gi gc L C a9 cap fk m)(s:US AU gc R w)(U:CC Wb R w)(hq:q<5)(hk:k0<3):∀x,CallsC 33 #[A4 (GQ V.FY rt),A0 (Z ⟨a9,0,J⟩) 15 cap,A4 (V.mp q),A4 (V.CY (AI q k0))] (w.at x) λu w'=>(∃Y,u=Aj #[A4 (GQ V.FY Y),CN]/\Mx AI nd Y/\∃y∈Y,y.1=q/\AI q k0<=y.2)/\∀b,b<w.heap.size->w'.heap[b]?=w.heap[b]?:=λx=>by let hL:=h.load s U h.Ki;let⟨hj,e1,e2⟩:=h.one hq hk;let ht:Jr AI (q,AI q k0):=⟨hq,k0,hk,rfl⟩;let N:L[q*3+k0].name=B1 (q,AI q k0):=Ro e1 e2;let⟨X,eX,hX,hn,r⟩:=aVi h.law h.Ki.roots.1 ht;refine(CallsC.lone (Q:=λu I=>(∃Y,u=Aj #[A4 (GQ V.FY Y),CN]/\Mx AI nd Y/\∃y∈Y,y.1=q/\AI q k0<=y.2)/\∀b,b<AR w->JE b I w) (TG 33 (rfl)) Tryz.func33 (rfl) λT=>?_).mono λu w'⟨I,e,h1,h2⟩=>⟨h1,λb hb=>As e (h2 b hb)⟩;let hu:=aZt V.FY (GQ V.FY rt) (rt.map B1) a9 cap L (q*3+k0) hj m (on (w.at x) T) hL.GL hL.lines hL.size (by rw[Gf];have:=h.Ki.roots.2;omega) (by rw[N,eX];exact a'1 λx hx=>h.pC (hX x hx)) h.law.VR (λi hi=>hL.reg i hi) hL.check h.short (As e1 (yL hq)) (λy hy=>by obtain⟨z,hz,rfl⟩:=Bt.1 hy;exact(pJ (Bx.lt h.law (h.Ki.root z hz))).2) hL.Ca;rw[h.reg.len,e1,e2,N,eX]at hu;refine hu.mono ?_;rintro e I⟨S,hp,ho,rfl,hb⟩;let⟨Y,hY,hYX,etxt⟩:=h.root hX hn hp ho;let⟨y,hy,hy1,hy2⟩:=r;exact⟨_,rfl,⟨Y,by rw[etxt],hY,y,(hYX y).2 hy,hy1,hy2⟩,hb.block⟩
def aHl(AI:Nat->Nat->Nat)(nd:Nat->Nat->List (Nat×Nat))(rt:List (Nat×Nat))(L:List Rel)(u:A3):Prop:=∃Y,u=Aj #[A4 (GQ V.FY Y),CN]/\Mx AI nd Y/\(∀x∈Y,x∈rt)/\∃A,He A/\(names A).Nodup/\(∀x,x∈names A↔N.Reach (Ej L) (rt.map B1) x)/\∀x∈Cc A A,N.Reach (Ej L) (Y.map B1) x.rel.name
def FQ.aSd(h:FQ AI nd rt AU Gi gc L C a9 cap fk m):∀A:List BI,(∀x∈A,x.rel∈L)->He A->(names A).Nodup->(∀x,x∈names A↔N.Reach (Ej L) (rt.map B1) x)->FF A/\∀x∈Cc A A,∃r∈rt.map B1,EF (DH A) (BW A r) (BW A x.rel.name):=λA I _ h3 h4=>by let hF:=Bx.fit h.law h.Rz I h3 h4;refine⟨hF,λx hx=>?_⟩;let⟨r,hr,hre⟩:=N.aBU ((h4 _).1 (Rl (VV A _ x hx)));exact⟨r,hr,(aBT hF I h.law.VR ((h4 r).2 (.root hr)) hre).2⟩
variable[Bg]
theorem FQ.min(h:FQ AI nd rt AU Gi gc L C a9 cap fk m)(s:US AU gc R w)(U:CC Wb R w):HJ 36 #[A4 (GQ V.FY rt),A0 (Z ⟨a9,0,J⟩) 15 cap] Wb R w λu _=>aHl AI nd rt L u:=λx c' cs'=>by
 let hg:=aSe (h.load s U h.Ki) U (.cons (.string _) (.cons (As h.reg.len (h.qY s)) .nil)) h.aSd λr I=>by let⟨X,e,hX,hn,_⟩:=a9h h.law h.Ki.roots.1 I;have:=yX (λx hx=>(hX x hx).1) hn;rw[e];exact⟨by rw[Gf];omega,a'1 λx hx=>h.pC (hX x hx)⟩
 rw[h.reg.len]at hg;refine(hg x c' cs').bind λBJ g' w'⟨R',v,e1,hv,hR,hH',hsame,hq⟩=>?_;refine .here ⟨R',v,e1,hv,hR,hH',hsame,?_⟩;rcases hq with⟨r,S,I,hp,ho,rfl⟩|⟨_,_,hf⟩;.let⟨X,e,hX,hn,hsub⟩:=a9h h.law h.Ki.roots.1 I;let⟨A,a1,a2,a3,a4⟩:=aSb h.law.VR I h.law h.Rz;rw[e]at hp;let⟨Y,hY,hYX,etxt⟩:=h.root hX hn hp ho;refine⟨Y,by rw[etxt],hY,λx hx=>hsub x ((hYX x).1 hx),A,a1,a2,a3,λx hx=>N.pq (λy hy=>?_) (a4 x hx)⟩;rw[e]at hy;obtain⟨z,hz,rfl⟩:=Bt.1 hy;exact .root (Rl ((hYX z).2 hz))
 grind
def aDd(AI:Nat->Nat->Nat)(nd:Nat->Nat->List (Nat×Nat))(t:Nat×Nat)(u:A3)(w:A1):Prop:=(∃Y,u=Aj #[A4 (GQ V.FY Y),CN]/\Mx AI nd Y/\t∈Y/\∀y,N.Reach (JY AI nd) Y y->y.1=t.1->y.2<=t.2)∨∃r,u=Aj #[A4 ⟨#[]⟩,DD 96 r]/\HK 0 w r (Z (11,0,(B1 t).1,(B1 t).2))/\∃y,N.Reach (JY AI nd) [t] y/\y.1=t.1/\t.2<y.2
def FQ.down(h:FQ AI nd rt AU Gi gc L C a9 cap fk m)(s:US AU gc R w)(u:CC Wb R w)(hq:q<5)(hk:k0<3):HJ 35 #[A4 (GQ V.FY rt),A0 (Z ⟨a9,0,J⟩) 15 cap,A4 (V.mp q),A4 (V.CY (AI q k0))] Wb R w (aDd AI nd (q,AI q k0)):=λx c' cs'=>by
 let⟨hj,e1,e2⟩:=h.one hq hk;let ht:Jr AI (q,AI q k0):=⟨hq,k0,hk,rfl⟩;let H:L[q*3+k0].name=B1 (q,AI q k0):=Ro e1 e2;let F:=λI(U:gF L (B1 (q,AI q k0)) I)=>aRP h.law h.Rz ht U;let hg:=aKl (h.load s u h.Ki) u (.cons (.string _) (.cons (As h.reg.len (h.qY s)) (.cons (.string _) (.cons (.string _) .nil)))) (λy hy=>by obtain⟨z,hz,rfl⟩:=Bt.1 hy;exact pJ (Bx.lt h.law (h.Ki.root z hz))) (by rw[Lc,Ld,I8];refine bV ?_ h.Ki.roots.1.2;intro a b ha hb hab e;have:=Zp (h.Ki.roots.1.1 a ha).1 (h.Ki.roots.1.1 b hb).1 e;omega) (by rw[h.reg.len];omega) h.short h.Xe (q*3+k0) hj H (yL hq) (λK A a1 _ a3 a4=>Bx.fit h.law h.Rz a1 a3 a4) λI U=>by let⟨X,e,hX,hn,_⟩:=F I U;have:=yX (λx hx=>(hX x hx).1) hn;rw[e];exact⟨by rw[Gf];omega,a'1 λx hx=>h.pC (hX x hx)⟩
 rw[h.reg.len]at hg;refine(hg x c' cs').bind λBJ g' w'⟨R',v,e1,hv,hR,hH',hsame,hq'⟩=>?_;refine .here ⟨R',v,e1,hv,hR,hH',hsame,?_⟩;rcases hq' with⟨I,S,U,hp,ho,rfl⟩|⟨r,rfl,hf1,W⟩;.let⟨X,e,hX,hn,htX,hle⟩:=F I U;rw[e]at hp;let⟨Y,hY,hYX,etxt⟩:=h.root hX hn hp ho;exact AA ⟨Y,by rw[etxt],hY,(hYX _).2 htX,λy hy=>hle y (N.pq (λz hz=>.root ((hYX z).1 hz)) hy)⟩
 exact AF ⟨r,rfl,W,aRO h.law h.Rz ht hf1⟩
theorem FQ.dS(h:FQ AI nd rt AU Gi gc L C a9 cap fk m)(s:US AU gc R w)(I:CC Wb R w){Y}(hM:Mx AI nd Y):HJ 26 #[A4 (GQ V.FY Y),A0 (Z ⟨a9,0,J⟩) 15 cap] Wb R w (a2V L (Y.map B1)):=by let hg:=aRF (h.load s I hM) I (.cons (.string _) (.cons (As h.reg.len (h.qY s)) .nil));grind[h.reg.len]
end
section
variable{ρ:BP->A3}{w:A1}{o:B8}{x y:BP}{b n c q:Nat}{a:Option An}{s:zz}{i j:Int}{f g:Nat->Int}
def qD(ho:o.op=OP 59 x 0)(hx:ρ x=AT b):(AM ρ o).run A6 w=.ok (BB (AT b)) w:=by unfold AM;rw[ho];simp only[hx];kernel_rfl
def qF(ho:o.op=ED 57 x)(hx:ρ x=AT b)(h:w.heap[b]?=Z (A7 #[A0 a n c,s] 59)):(AM ρ o).run A6 w=.ok (BB (A0 a n c)) w:=by let c0:w.cell? ⟨b,0,J⟩=Z (A0 a n c):=Af (A_ h);unfold AM;rw[ho];simp only[hx];simp[go_sem,c0]
def aXG(ho:o.op=KM .neq 3 x y 3)(hx:ρ x=i)(hy:ρ y=i):(AM ρ o).run A6 w=.ok (BB (Ag A9)) w:=by unfold AM;rw[ho];simp[go_sem,hx,hy]
def aWq(ho:o.op=KM OK 3 x y 3)(hx:ρ x=i)(hy:ρ y=i):(AM ρ o).run A6 w=.ok (BB (Ag A5)) w:=by unfold AM;rw[ho];simp[go_sem,hx,hy]
def aBp(ho:o.op=KM OK 9 x y 9)(hx:ρ x=s)(hy:ρ y=s):(AM ρ o).run A6 w=.ok (BB (Ag A5)) w:=by unfold AM;rw[ho];simp[go_sem,hx,hy]
def aXB(ho:o.op=KM .lss 3 x y 3)(hx:ρ x=i)(hy:ρ y=j)(h:j<=i):(AM ρ o).run A6 w=.ok (BB (Ag A9)) w:=by unfold AM;rw[ho];simp[go_sem,hx,hy];omega
def aWw(ho:o.op=KM .geq 3 x y 3)(hx:ρ x=i)(hy:ρ y=j)(h:j<=i):(AM ρ o).run A6 w=.ok (BB (Ag A5)) w:=by unfold AM;rw[ho];simp[go_sem,hx,hy];omega
def aXA(ho:o.op=KM .leq 3 x y 3)(hx:ρ x=i)(hy:ρ y=j)(h:i<=j):(AM ρ o).run A6 w=.ok (BB (Ag A5)) w:=by unfold AM;rw[ho];simp[go_sem,hx,hy];omega
def zO(ho:o.op=U9 63 x y)(hx:ρ x=AT b)(hy:ρ y=(q:Int))(hq:q<5):(AM ρ o).run A6 w=.ok (BB (B2 (Z ⟨b,q,J⟩))) w:=by unfold AM;rw[ho];simp only[hx,hy];clear hx hy;rcases(A':q=0∨q=1∨q=2∨q=3∨q=4)with rfl|rfl|rfl|rfl|rfl<;>kernel_rfl
def Yh(h:w.heap[b]?=Z (A7 (J0 f) 63))(hq:q<5):w.cell? ⟨b,q,J⟩=Z (AB AJ (f q)):=As (A_ h) (a3U f hq)
def aWY(ho:o.op=Vv 63):(AM ρ o).run A6 w=.ok (BB (AT w)) (w.alloc (A7 (J0 λ_=>0) 63)):=by unfold AM;rw[ho];kernel_rfl
def aBu(ho:o.op=La 63 x y)(hx:ρ x=AT b)(hy:ρ y=AH (J0 f))(h:w.heap[b]?=Z (A7 (J0 g) 63)):∃I,(AM ρ o).run A6 w=.ok JN I/\I.heap.size=w/\(∀z,z≠b->I.heap[z]?=w.heap[z]?)/\I.heap[b]?=Z (A7 (J0 f) 63):=by
 let r:=Yh h (q:=0) Ac;let N:=Yh h (q:=1) Ac;let U:=Yh h (q:=2) Ac;let d3:=Yh h (q:=3) Ac;let d4:=Yh h (q:=4) Ac;let u:=C' h 0;let z1:=C' h 1;let z2:=C' h 2;let z3:=C' h 3;let z4:=C' h 4;refine⟨((((w.setCell ⟨b,0,J⟩ (AX (f 0))).setCell ⟨b,1,J⟩ (AX (f 1))).setCell ⟨b,2,J⟩ (AX (f 2))).setCell ⟨b,3,J⟩ (AX (f 3))).setCell ⟨b,4,J⟩ (AX (f 4)),?_,AD,λz hz=>?_,CO _ b 4 _ _ (AX (f 4)) (CO _ b 3 _ _ (AX (f 3)) (CO _ b 2 _ _ (AX (f 2)) (CO _ b 1 _ _ (AX (f 1)) (CO w b 0 _ _ (AX (f 0)) h))))⟩;.unfold AM;rw[ho];simp only[hx,hy,J0];simp[go_sem,r,N,U,d3,d4,u,z1,z2,z3,z4]
 rw[DC _ _ _ _ hz,DC _ _ _ _ hz,DC _ _ _ _ hz,DC _ _ _ _ hz,DC _ _ _ _ hz]
def aWf(ho:o.op=b1 45 #[(0,x),(1,y)])(hx:ρ x=i)(hy:ρ y=j):(AM ρ o).run A6 w=.ok (BB (AH #[i,j])) w:=by unfold AM;rw[ho];simp only[JO,Ee,hx,hy];kernel_rfl
end
theorem a9Z{n c k}(h:EL w (A0 a n c) JQ)(hk):∃g,a=Z ⟨g,0,J⟩/\w.cell? ⟨g,k*2,J⟩=Z (A4 JQ[k].1)/\w.cell? ⟨g,k*2+1,J⟩=Z (A4 JQ[k].2):=by
 rcases h with⟨_,e⟩|⟨g,c',e,h⟩;.grind
 injection e with e1 _ _;exact⟨g,e1,(h k hk).1,(h k hk).2⟩
theorem aTE(a b)(w):(binOp .neq 85 (AH #[A4 a,A4 b]) (AH #[a,b])).run A6 w=.ok (Ag A9) w:=by simp_all[run_neq_struct,vO]
noncomputable def a9U:DK:=fstC (Mg 15)
def aU2(v:Nat->A3)(H b2 n c c':Nat)(a a':Option An)(s s':zz)(h:List AW)(w:A1)(K:v 18=B2 (Z ⟨H,0,J⟩))(u:v 22=B2 (Z ⟨b2,0,J⟩))(hb1:w.heap[H]?=Z (A7 #[A0 a n c,s] 59))(hb2:w.heap[b2]?=Z (A7 #[A0 a' n c',s'] 59))(W:EL w (A0 a n c) h)(X:EL w (A0 a' n c') h)(hn:n=h)(hl:h.length<=1000000):a9U.wp A6 (λe a' w'=>e=Vq/\a'.defers=[]/\a'.tmps.size=215/\[8,9,10,11,16,17,20].map (λj=>a'.tmps.getD j AN)=[8,9,10,11,16,17,20].map v/\w'.heap=w.heap) ⟨Ax 215 v,[]⟩ w:=by
 have Su:AE (∀F:A1,F.heap=w.heap->F.cell? ⟨H,0,J⟩=Z (A0 a n c)/\F.cell? ⟨b2,0,J⟩=Z (A0 a' n c')):=λF e=>⟨by rw[C8 (w:=w) (by rw[e]),A_ hb1];rfl,by rw[C8 (w:=w) (by rw[e]),A_ hb2];rfl⟩;have fZ:=A2 W;have f_:=A2 X;clear hb1 hb2 W X;have ace:=aTE;obtain⟨c1,c2⟩:=Su w rfl;rw[aI_];have Oi:=K;have a4W:=u;simp only[K,u];simp only[a9U,Mg,QV,MJ,fstC,sndC];go_wp2;go_loopw[24]λi wr=>∃k:Nat,k<=n/\i=AX k/\AE (wr.heap=w.heap)(λi _=>n-(B0 i).toNat);case atStart=>exact⟨0,A',rfl,rfl⟩
 case round=>
  obtain⟨k,hk,rfl,I⟩:=hrel;obtain⟨c1,c2⟩:=Su wr I;by_cases hlt:k<n;.have hk':k<h:=A';obtain⟨g,rfl,z,N⟩:=a9Z fZ hk';obtain⟨g',rfl,U,d3⟩:=a9Z f_ hk';have z:wr.cell? ⟨g,k*2,J⟩=Z (h[k].1):=(C8 (w:=w) (by rw[I.o])).trans z;have N:wr.cell? ⟨g,k*2+1,J⟩=Z (h[k].2):=(C8 (w:=w) (by rw[I.o])).trans N;have U:wr.cell? ⟨g',k*2,J⟩=Z (h[k].1):=(C8 (w:=w) (by rw[I.o])).trans U;have d3:wr.cell? ⟨g',k*2+1,J⟩=Z (h[k].2):=(C8 (w:=w) (by rw[I.o])).trans d3;generalize h[k]=x at z N U d3;obtain⟨p,r⟩:=x;simp only at z N U d3;have i1:(k:Int)<(n:Int):=A';have i2:AJ.wrap ((k:Int)+1)=(k:Int)+1:=wrap_small _ A' A';go_wp2_with fail;go_quiet(fail);have OU:AE ((wr.drewN nq).heap=w.heap):=I.o;clear z N U d3 c1 c2;go_wp2;exact⟨⟨k+1,A',BV,OU⟩,by simp[B0];omega⟩
  have i1:¬(k:Int)<(n:Int):=A';go_wp2;exact I
def Ce.aL0{Wb v tl Q}(h6:v 6=Ag A5)(hq:∀d,Q (Ag A5) (w.at d)):Ce Wb (G ((B5 10).at ⟨Ax 215 v,[]⟩ (Aw M4::tl)) []) w λ_ h w'=>qw A6 Q h w':=by
 refine .ctl rfl (λ_=>stepG_ret') λN=>?_;refine .here ⟨rfl,λI hw=>⟨Ag A5,?_,?_⟩⟩;.rw[SX rfl rfl];refine aZq rfl rfl rfl lT A8 ?_;show(D5 QV (Ax 215 v)).runT A6 I #[]=_;rw[aW8 (show QV.results=#[.tmp 6]by kernel_rfl),uG Ac,h6]
 obtain⟨d,rfl⟩:=hw;exact hq d
theorem aQH{f v}{L:List Nat}{l:List (Nat×A3)}(h:L.map f=L.map v)(hl:l.all (λx=>L.contains x.1)=A5)(hv:l.map (λx=>v x.1)=l.map (·.2)):∀x∈l,f x.1=x.2:=λx hx=>by rw[List.map_inj_left.1 h x.1 (Ai (Ha.1 hl x hx))];obtain⟨i,hi,rfl⟩:=Rk hx;have:=congrArg (·[i]?) hv;grind
def Ap.a4g{Wb R gc Q}(S:Ap 215 [0,35] AU gc Wb R w s.1)(h:dh 10 215 (BM 215 [0,35] s)=Z (Ag A5))(hq:∀d,Q (Ag A5) (w.at d)):Be 10 215 [] Wb w s λ_ I w'=>qw A6 Q I w':=by
 refine Fz.BM (D:=[0,35]) λm=>?_;generalize BM 215 [0,35] s=s' at h⊢;let⟨v,l⟩:=s';unfold dh at h;split at h;.rename_i q hl;subst hl;exact .aL0 (CP h) hq
 cases h
theorem a9_{n c:Nat}(h:EL w (A0 a n c) JQ):n=JQ:=by
 rcases h with⟨e,e2⟩|⟨g,c',e,_⟩;.cases e;rw[e2];rfl
 grind
theorem aAV{T}(h:T.Pairwise λx y=>x.1<y.1){z}(hz:z∈T):Hp T z.1=(z.2:Int):=by unfold Hp;cases e:T.find? λx=>x.1==z.1with|none=>grind|some y=>obtain⟨i,hi,rfl⟩:=Rk (aHf e);obtain⟨j,hj,rfl⟩:=Rk hz;grind[Qc]
section
variable{AI:Nat->Nat->Nat}{nd:Nat->Nat->List (Nat×Nat)}{rt Y:List (Nat×Nat)}{L:List Rel}{A:List BI}
def e8(h:Bx AI nd Y L)(a1:He A)(a2:(names A).Nodup)(a3:∀x,x∈names A↔N.Reach (Ej L) (Y.map B1) x):∃X:List (Nat×Nat),X.Pairwise N.Lex/\(∀x,x∈X↔N.Reach (JY AI nd) Y x)/\names (Cc A A)=(N.Co N.E6 X).map B1/\(∀x∈N.Co N.E6 X,x.1<5/\∃k,k<3/\x.2=AI x.1 k)/\(N.Co N.E6 X).Pairwise λx y=>x.1<y.1:=by let⟨X,h1,h2,h3⟩:=h.aRD A a1 a2 a3;exact⟨X,h1,h2,h3,λx hx=>h.ok ((h2 x).1 (N.VB hx)),N.Zj h1⟩
theorem aSc(h:Bx AI nd rt L)(hY:∀x∈Y,x∈rt){u F:List BI}(I:He u)(b2:(names u).Nodup)(U:∀x,x∈names u↔N.Reach (Ej L) (rt.map B1) x)(c1:He F)(c2:(names F).Nodup)(c3:∀x,x∈names F↔N.Reach (Ej L) (Y.map B1) x)(H:∃A,He A/\(names A).Nodup/\(∀x,x∈names A↔N.Reach (Ej L) (rt.map B1) x)/\∀x∈Cc A A,N.Reach (Ej L) (Y.map B1) x.rel.name):names (Cc F F)=names (Cc u u):=by
 have hM:=Bx.to h λx hx=>h.root x (hY x hx);let⟨X1,x1,x2,x3,x4,_⟩:=e8 h I b2 U;let⟨X3,y1,y2,y3,_,_⟩:=e8 hM c1 c2 c3;let⟨A,a1,a2,a3,a4⟩:=H;let⟨X,z1,z2,z3,_,_⟩:=e8 h a1 a2 a3;have e3:=N.a8b x1 y1 (λy hy=>(x2 y).2 (N.pq (λz hz=>.root (hY z hz)) ((y2 y).1 hy))) λx hx=>by
  let K:B1 x∈names (Cc A A):=by rw[z3,<-N.a8b z1 x1 (λy hy=>(z2 y).2 ((x2 y).1 hy)) λx hx=>(x2 x).2 ((z2 x).1 (N.VB hx))];exact Rl hx
  let⟨r,hr,er⟩:=Bt.1 K;let hre:=a4 r hr;rw[er]at hre;let⟨x',hx1,hx2⟩:=(hM.reach (B1 x)).1 hre;rw[yI h (x4 x hx) (hM.ok hx1) hx2];exact(y2 x').2 hx1
 grind
def aZs{X}(I:X.Pairwise N.Lex)(h2:∀x,x∈X↔N.Reach (JY AI nd) Y x){q n}(U:∃y∈Y,y.1=q/\n<=y.2):(n:Int)<=Hp (N.Co N.E6 X) q:=by obtain⟨y,hy,rfl,hn⟩:=U;have h:=(h2 y).2 (.root hy);let⟨z,hz,ez⟩:=N.dP h;have:=((N.dQ I).1 hz).2 y h ez.symm;rw[<-ez,aAV (N.Zj I) hz];omega
def aKj{X}(h:X.Pairwise N.Lex)(h2:∀x,x∈X↔N.Reach (JY AI nd) Y x){q n}(ht:(q,n)∈Y)(hle:∀y,N.Reach (JY AI nd) Y y->y.1=q->y.2<=n):0<=Hp (N.Co N.E6 X) q/\Hp (N.Co N.E6 X) q<=(n:Int):=by let⟨z,hz,ez⟩:=N.dP ((h2 (q,n)).2 (.root ht));let ez:z.1=q:=ez;have:=hle z ((h2 z).1 (N.VB hz)) ez;rw[<-ez,aAV (N.Zj h) hz];omega
def aLp{w' r x R}(h:HK 0 w r (Z x))(hv:AK CK (C7 R) (DD 96 r) (DD 96 r))(e:∀b,R b->w'.heap[b]?=w.heap[b]?):HK 0 w' r (Z x):=by obtain⟨b,I,rfl,h3⟩:=h;refine⟨b,I,rfl,(e b ?_).trans h3⟩;cases hv with|iface _ hv=>exact AK.Kf hv
end
structure lu(R:zy)(w:A1)(b:Nat)(JQ:List AW)(a:Option An)(n c:Nat)(s:zz):Prop where
 blk:w.heap[b]?=Z (A7 #[A0 a n c,A4 s] 59)
 a8B:R b
 sl:EL w (A0 a n c) JQ
 XE:∀g,Kt (A0 a n c)=Z g->R g
def lu.on{R R' w' b n c s}(h:lu R w b JQ a n c s)(hk:∀b,R b->R' b/\w'.heap[b]?=w.heap[b]?):lu R' w' b JQ a n c s:=⟨(hk b h.a8B).2.trans h.blk,(hk b h.a8B).1,SI h.sl λg hg=>(hk g (h.XE g hg)).2,λg hg=>(hk g (h.XE g hg)).1⟩
section
variable{m:Int}{Post:zv}{AI:Nat->Nat->Nat}{nd:Nat->Nat->List (Nat×Nat)}{rt:List (Nat×Nat)}{AU:A1}{Gi gc:zy}{L:List Rel}{C:zw}{a9 cap fk:Nat}{Wb R:zy}{w:A1}{s:FC}{Y:List (Nat×Nat)}{e x t v4:Nat}
noncomputable def jJ(s:FC)(e t:Nat)(u:A3)(b:Nat):FC:=BM 215 [0,35] (EB (BM 215 [0,35] (EB (BM 215 [0,35] s) e u)) t (AT b))
structure aH9(s:FC)(r:A3)(Y:zz)(e t x:Nat):Prop where
 c:Lj 215 (BM 215 [0,35] s)=Z (26,#[A4 Y,r],e)
 a:(Rs [0,35] (BM 215 [0,35] s)&&okF 26)=A5
 i:(gH e 215&&![0,35].contains e)=A5
 j:(gH t 215&&![0,35].contains t)=A5
 d:∀OE JH,SM 215 [0,35] (BM 215 [0,35] (EB (BM 215 [0,35] s) e (Aj #[OE,JH])))=Z (Vv 59,Z t)
 o:∀OE JH b,SM 215 [0,35] (jJ s e t (Aj #[OE,JH]) b)=Z (La 59 (Aa t) (Aa x),J)
 p:∀OE JH b,Ed 215 (jJ s e t (Aj #[OE,JH]) b).1 (Aa t)=AT b
 q:∀OE JH b,Ed 215 (jJ s e t (Aj #[OE,JH]) b).1 (Aa x)=OE
def Ap.dS[Bg](S:Ap 215 [0,35] AU gc Wb R w s.1)(hB:FQ AI nd rt AU Gi gc L C a9 cap fk m)(hM:Mx AI nd Y)(h:aH9 s (A0 (Z ⟨a9,0,J⟩) 15 cap) (GQ V.FY Y) e t x)(k:∀z U I b a n c y A,He A->(names A).Nodup->(∀x,x∈names A↔N.Reach (Ej L) (Y.map B1) x)->lu U I b (names (Cc A A)) a n c y->(∀b,R b->U b/\I.heap[b]?=w.heap[b]?)->Ap 215 [0,35] AU gc z U I (qI (jJ s e t (Aj #[AH #[A0 a n c,A4 y],Ag A5]) b)).1->Be 10 215 [] z I (qI (jJ s e t (Aj #[AH #[A0 a n c,A4 y],Ag A5]) b)) Post):Be 10 215 [] Wb w s Post:=by
 refine S.Og h.c h.a (λ_=>hB.dS S.S S.H hM) λz U u I r hk hq=>?_;obtain⟨a,n,c,y,A,rfl,hm,h1,_,h2,h3⟩:=hq;let hv:=r.val e h.i NQ;let hin:∀g,Kt (A0 a n c)=Z g->U g:=λg hg=>by cases hv with|tuple hv=>cases Al.nth 0 hv rfl with|agg h2=>exact AK.QC (Al.nth 0 h2 rfl) hg
 refine r.alloc (A7 #[A0 J 0 0,A4 ⟨#[]⟩] 59) (h.d ..) (λ_ _ h=>qA h) λFg w2 F MR K HB Kc=>?_;refine F.store (AR I) (A7 #[A0 a n c,A4 y] 59) (λh=>WK _ (r.H.closed.lt (r.S _ h).1)) (h.o ..) (λx T0 o ho=>⟨_,zQ ho (h.p ..) (h.q ..) K,z_ K⟩) λW w3 Bu X Mc LD KZ=>?_;let up:∀b,U b->W b/\JE b w3 I:=λb hb=>⟨X b (MR b hb),(LD b (UN (r.H.closed.lt hb))).trans (Kc b (r.H.closed.lt hb))⟩;exact k z W w3 (AR I) a n c y A h1 h2 h3 ⟨KZ,X _ (AK.Kf (F.val t h.j NQ)),SI hm λg hg=>(up g (hin g hg)).2,λg hg=>(up g (hin g hg)).1⟩ (λb hb=>⟨(up b (hk b hb).1).1,(up b (hk b hb).1).2.trans (hk b hb).2⟩) Bu
end
def aSw[Bg]{R U:zy}(m p D8:Int)(w:A1)(B fk:Nat)(C:zw)(rt:List (Nat×Nat))(LF:-9223372036854775808<=p)(T_:p<=9223372036854775807)(F':-9223372036854775808<=D8)(DR:D8<=9223372036854775807)(X4:WI w B fk C rt)(hg:RR w)(hm:w.cell? ⟨0,0,J⟩=Z (AB AJ m))(NC:w.cell? ⟨5,15,J⟩=Z (AB .u8 4))(m2:CC U R w)(v:Nat->A3)(EU:kT R v)(h8:v 8=B2 (Z ⟨fk,0,J⟩))(h1:v 1=p)(h2:v 2=D8):Be 10 215 [] U w (v,[Aw (Mg 4)]) λ_ g' w'=>qw A6 (λu w'=>u=Ag A5/\∀b,R b->w'.heap[b]?=w.heap[b]?) g' w':=by
 obtain⟨AI,nd,hM,hK⟩:=aRy X4;obtain⟨q,hq,aLL⟩:=aAk p 5 Ac;refine Ap.fix [(8,AT fk),(1,AX p),(2,AX D8)] (by simp[h8,h1,h2]) ⟨m2,EU,λb hb=>⟨hb,rfl⟩⟩ λS0=>?_;refine Ap.lone S0 (g:=27) (az:=#[AT fk]) (e:=38) (Q:=λu w1=>(∃L,Yd AI nd (AR w) u w1 L)/\∀b,b<AR w->w1.heap[b]?=w.heap[b]?) A8 A8 (λT x=>?_) ?_
 .let Nx:OW AI nd rt fk (on (w.at x) T):=hK.same λb _=>rfl;refine(aW1 AI nd fk _ (λq k hq hk=>⟨(Nx.QK q k hq hk).1,BO ((Nx.QK q k hq hk).2)⟩) λq k hq hk=>?_).mono ?_;.obtain⟨a,G4,cc,h1,h2⟩:=Nx.Bs q k hq hk;exact⟨a,G4,cc,h1,h2,(hM.Bs q k hq hk).2,(hM.Bs q k hq hk).1.1⟩
  rintro e u⟨v,L,rfl,hr⟩;exact⟨v,rfl,⟨⟨L,hr.plain⟩,hr.below.block⟩,hr.below.block⟩
 rintro Gi gc u AU W F4⟨aet,e0,⟨L,LH⟩,GM⟩;let LH:=LH.heap e0;rw[<-e0]at GM;obtain⟨a9,cap,rfl⟩:∃a9 cap,u=BG a9 0 15 cap:=by
  rcases LH.own.2 with⟨_,h0⟩|⟨g,cap,cur,h1,h2,_⟩;.cases h0
  exact⟨g,cap,h1⟩
 let hB:FQ AI nd rt AU Gi gc L C a9 cap fk m:=⟨hM,LH.aZL hM,a5N hg m2 λb hb=>(F4 b hb).2,ni Ac hm m2 λb hb=>(F4 b hb).2,ni Ac NC m2 λb hb=>(F4 b hb).2,W.H,W.val 38 rfl A8,hK.same GM,(GM fk (TF X4.1)).trans X4.1,AK.Kf (W.val (u:=AT fk) 8 rfl A8)⟩;let W:Ap 215 [0,35] AU gc Gi gc AU _:=⟨W.H,W.V,λb hb=>⟨hb,rfl⟩⟩;refine W.still (e:=40) (u:=AX (q:Int)) A8 A8 (CallsC.still _ (TG 15 A8) aFJ A8 λT x=>(aU6 p _ LF T_).mono λe w1⟨h1,h2⟩=>⟨by rw[h1,<-aLL];rfl,Af h2⟩) λL1 ip w1 v9 Er e1=>?_;let fin:∀{R':zy}{w':A1},US AU gc R' w'->∀b,R b->JE b w' w:=λs b hb=>(s b (F4 b hb).1).2.trans (F4 b hb).2;refine aSp hB v9 A8 A8 A8 hq A8 F' DR λLi Fg w2 EP k0 iX v9 If a5T=>?_;let hver:AI q k0<30:=BO (hB.Ki.low q k0 hq iX);refine Ap.fix [(8,AT fk),(9,BG a9 0 15 cap),(10,AX q),(11,AX (AI q k0))] (by simp[a5T];exact⟨(If 8 Ac Ac).trans A8,(If 9 Ac Ac).trans A8,(If 10 Ac Ac).trans A8⟩) v9 λv9=>?_;clear a5T If W S0;let s2:=v9.S;refine v9.still (e:=52) A8 A8 (hB.text s2) λUW Dp w3 Bu _ _=>?_;refine Bu.still (e:=55) A8 A8 (yh hq) λTD IA w4 Cj _ _=>?_;refine Cj.still (e:=57) A8 A8 (a'4 hver) λa3J Hd Bd E_ _ _=>?_;refine E_.Og (e:=58) A8 A8 (λhv=>CallsC.aCf (hB.up E_.S E_.H hq iX) E_.H hv λ_ _ h b hb=>h.2 b (E_.H.closed.lt hb)) ?_;rintro n9 Js u EC Dh-⟨⟨ab5,rfl,a5l,K3⟩,-⟩;refine Dh.still (e:=63) A8 A8 (hB.text Dh.S) λbo Jt Gb Fi _ _=>?_;refine Fi.Og (e:=65) A8 A8 (λ_=>hB.min Fi.S Fi.H) ?_;rintro WV KV u HG Gg-⟨ab4,rfl,aN1,hsub,wi⟩;refine Gg.still (e:=70) A8 A8 (hB.text Gg.S) λuM Ob Gt JU _ _=>?_;refine JU.still (e:=73) A8 A8 (yh hq) λa3G u3 QM Iy _ _=>?_;refine Iy.still (e:=75) A8 A8 (a'4 hver) λuL Yb Xg Hg _ _=>?_;refine Hg.Og (e:=76) A8 A8 (λ_=>hB.down Hg.S Hg.H hq iX) ?_;rintro a3H mo u Xh Ye-a6_;obtain⟨x,y,rfl⟩:∃x y,u=Aj #[x,y]:=by
  rcases a6_ with⟨Y,h,_⟩|⟨r,h,_⟩;.exact⟨_,_,h⟩
  exact⟨_,_,h⟩
 let aPf:AK CK (C7 mo) y y:=by let h:=Ye.val (u:=Aj #[x,y]) 76 rfl A8;cases h with|tuple h=>exact Al.nth 1 h rfl
 refine Ye.still (e:=87) A8 A8 (hB.text Ye.S) λaId a2r aP WN Z1 cB=>?_;refine WN.dS hB hB.Ki (e:=89) (t:=18) (x:=90) ⟨A8,A8,rfl,rfl,λ_ _=>A8,λ_ _ _=>A8,λ_ _ _=>A8,λ_ _ _=>A8⟩ λa3I a2s qa CW a1 n1 c1 y1 F o1 p1 r1 X cq Rq=>?_;refine Rq.dS hB a5l (e:=95) (t:=20) (x:=96) ⟨A8,A8,rfl,rfl,λ_ _=>A8,λ_ _ _=>A8,λ_ _ _=>A8,λ_ _ _=>A8⟩ λaay a2t eF b2 a2 n2 c2 y2 a_p o2 p2 r2 K iY gS=>?_;refine gS.dS hB aN1 (e:=101) (t:=22) (x:=102) ⟨A8,A8,rfl,rfl,λ_ _=>A8,λ_ _ _=>A8,λ_ _ _=>A8,λ_ _ _=>A8⟩ λaIe mq LW C_ a3 jU c3 y3 aT Ly p3 r3 Xw iZ Od=>?_;let X:=(X.on iY).on iZ;let K:=K.on iZ;rw[aSc hB.law hsub o1 p1 r1 Ly p3 r3 wi]at Xw;obtain rfl:=a9_ X.sl;obtain rfl:=a9_ Xw.sl;refine Od.calm (AT C_) (p:=OP 59 (Aa 22) 0) (e:=115) A8 (λx I o h=>⟨_,qD h A8,rfl⟩) λbg qb aIJ Z2 e17=>?_;refine aIJ.calm (A0 a3 _ c3) (p:=ED 57 (Aa 115)) (e:=116) A8 (λx I o h=>⟨_,qF h A8 (by show qb.heap[C_]?=_;rw[e17];exact Xw.blk),rfl⟩) λaai bad aIK aN7 Oi=>?_;refine aIK.calm (AX (names (Cc F F.length))) (p:=Em {callee:=Fw .len,args:=#[Aa 116],argTypes:=#[57]}) (e:=117) A8 (λx I o h=>⟨_,zP (a:=a3) (c:=c3) h A8,rfl⟩) λaaj aex aIL aN8 a4U=>?_;refine aIL.calm (AT CW) (p:=OP 59 (Aa 18) 0) (e:=118) A8 (λx I o h=>⟨_,qD h A8,rfl⟩) λaak a_D aIM aN9 a4V=>?_;refine aIM.calm (A0 a1 _ c1) (p:=ED 57 (Aa 118)) (e:=119) A8 (λx I o h=>⟨_,qF h A8 (by show a_D.heap[CW]?=_;rw[a4V,a4U,Oi,e17];exact X.blk),rfl⟩) λaal aey aIN aNA aKp=>?_;refine aIN.calm (AX (names (Cc F F.length))) (p:=Em {callee:=Fw .len,args:=#[Aa 119],argTypes:=#[57]}) (e:=120) A8 (λx I o h=>⟨_,zP (a:=a1) (c:=c1) h A8,rfl⟩) λaam aez aIO aNB a4W=>?_;refine aIO.calm (Ag A9) (p:=KM .neq 3 (Aa 117) (Aa 120) 3) (e:=121) A8 (λx I o h=>⟨_,aXG (i:=names (Cc F F.length)) h A8 A8,rfl⟩) λaI6 a'5 aIP aNC aKq=>?_;let aL_:a'5.heap=LW.heap:=by rw[aKq,a4W,aKp,a4V,a4U,Oi,e17]
 let i_:∀b,mq b->aI6 b/\a'5.heap[b]?=LW.heap[b]?:=λb hb=>⟨aNC b (aNB b (aNA b (aN9 b (aN8 b (aN7 b (Z2 b hb)))))),by rw[aL_]⟩;let X:=X.on i_;let K:=K.on i_;let Xw:=Xw.on i_;let aO5:(names (Cc F F.length)).length<=1000000:=by obtain⟨X1,_,_,x3,x4,x5⟩:=e8 hB.law o1 p1 r1;rw[x3,Gf];have:=yX (λx hx=>(x4 x hx).1) (by rw[Lc,I8];exact x5.imp λ{a b}h e=>A');omega
 refine aIP.aU8 5 [(8,AT fk),(9,BG a9 0 15 cap),(10,AX q),(11,AX (AI q k0)),(16,x),(17,y),(20,AT b2)] (r:=[Aw (Mg 16)]) A8 A8 rfl (λd I=>rG (λe a' w'⟨h1,h2,h3,h4,h5⟩=>⟨h1,h2,h3,aQH h4 rfl A8,h5⟩) (aU2 _ CW C_ _ c1 c3 a1 a3 y1 y3 (names (Cc F F)) (on (a'5.at d) I) A8 A8 X.blk Xw.blk X.sl Xw.sl rfl aO5)) λaI7 aCq a_E u4 a5o a4X=>?_;let K:=K.on λb hb=>⟨a5o b hb,by rw[a4X]⟩;obtain⟨gY,OE,JH,acc,aZn,u5⟩:=e8 (Bx.to hB.law a5l.root) o2 p2 r2;rw[acc]at K;let aOD:=aZs OE JH K3;let u4:Ap 215 [0,35] AU gc aIe aI7 a_E (TN aCq [(8,AT fk),(9,BG a9 0 15 cap),(10,AX q),(11,AX (AI q k0)),(16,x),(17,y),(20,AT b2)],[Aw (Mg 16)]).1:=u4;refine u4.calm (AT b2) (p:=OP 59 (Aa 20) 0) (e:=143) A8 (λx I o h=>⟨_,qD h A8,rfl⟩) λaan aD' aIQ aND a4Y=>?_;refine aIQ.calm (A0 a2 n2 c2) (p:=ED 57 (Aa 143)) (e:=144) A8 (λx I o h=>⟨_,qF (w:=on (aD'.at x) I) (b:=b2) h A8 (by show aD'.heap[b2]?=_;rw[a4Y];exact K.blk),rfl⟩) λaI8 qc a30 aNE nT=>?_;let nT:=nT.trans a4Y;refine a30.lone (Q:=λu _=>u=Aj #[AH (J0 (Hp (N.Co N.E6 gY))),Ag A5]) (e:=145) A8 A8 (λT d=>(aCa AI fk (N.Co N.E6 gY) (A0 a2 n2 c2) (on (qc.at d) T) (λq k hq hk=>((hB.jG (w:=on (qc.at d) T) a30.S).QK q k hq hk).imp id λh=>aHt h Ac) hK.inj (SI K.sl λg _=>by show qc.heap[g]?=_;rw[nT]) aZn u5).mono λe w1⟨h1,h2⟩=>⟨_,h1,rfl,h2.block⟩) ?_;rintro aaz aao u z mv aON⟨_,-,rfl⟩;let il:¬gc (AR z):=λh=>WK _ (mv.H.closed.lt (mv.S _ h).1);refine mv.alloc (A7 (J0 λ_=>0) 63) (p:=Vv 63) (e:=25) A8 (λ_ _ h=>aWY h) λaap a_F aIR aNF aMi acv aOt=>?_;refine aIR.store (AR z) (A7 (J0 (Hp (N.Co N.E6 gY))) 63) il (p:=La 63 (Aa 25) (Aa 146)) A8 (λd I o h=>aBu (w:=on (a_F.at d) I) h A8 A8 aMi) λaaq a_G aIS aNG acw aOu abg=>?_;refine aIS.calm (O8 (AR z) q) (p:=U9 63 (Aa 25) (Aa 151)) (e:=152) A8 (λd I o h=>⟨_,zO h A8 A8 hq,rfl⟩) λaar aD0 aIT aNH a4Z=>?_;refine aIT.calm (AX (Hp (N.Co N.E6 gY) q)) (p:=ED 3 (Aa 152)) (e:=153) A8 (λd I o h=>⟨_,qE (w:=on (aD0.at d) I) h A8 (Yh (by show aD0.heap[AR z]?=_;rwa[a4Z]) hq),rfl⟩) λaas af' aIU aNI aKs=>?_;refine aIU.calm (Ag A9) (p:=KM .lss 3 (Aa 153) (Aa 154) 3) (e:=155) A8 (λd I o h=>⟨_,aXB h A8 A8 aOD,rfl⟩) λaI9 a'6 u6 aNJ nU=>?_;let nU:a'6.heap=a_G.heap:=by rw[nU,aKs,a4Z]
 rcases a6_ with⟨ab3,Tf,a5k,aPQ,hle⟩|⟨r,Tf,SA,hab⟩
 .cases Tf;refine u6.dS hB a5k (e:=189) (t:=30) (x:=190) ⟨A8,A8,rfl,rfl,λ_ _=>A8,λ_ _ _=>A8,λ_ _ _=>A8,λ_ _ _=>A8⟩ λaIf aIA a_H UY a4 n4 c4 PE a_q KC aAb r4 rA aOO u9=>?_;obtain⟨bp,z1,z2,z3,z4,z5⟩:=e8 (Bx.to hB.law a5k.root) KC aAb r4;rw[z3]at rA;obtain⟨hd0,Qp⟩:=aKj z1 z2 aPQ hle;refine u9.calm (AT UY) (p:=OP 59 (Aa 30) 0) (e:=196) A8 (λx I o h=>⟨_,qD h A8,rfl⟩) λaIB a'7 uA aNK vE=>?_;refine uA.calm (A0 a4 n4 c4) (p:=ED 57 (Aa 196)) (e:=197) A8 (λx I o h=>⟨_,qF (w:=on (a'7.at x) I) (b:=UY) h A8 (by show a'7.heap[UY]?=_;rw[vE];exact rA.blk),rfl⟩) λaIC eG mw abp nV=>?_;let nV:=nV.trans vE;let J8:eG.heap[z.heap.size]?=Z (A7 (J0 (Hp (N.Co N.E6 gY))) 63):=by rwa[nV,(aOO _ (AK.Kf (u6.val (u:=AT (AR z)) 25 rfl A8))).2,nU]
  refine mw.lone (Q:=λu w1=>u=Aj #[AH (J0 (Hp (N.Co N.E6 bp))),Ag A5]/\w1.heap[z.heap.size]?=eG.heap[z.heap.size]?) (e:=198) A8 A8 (λT d=>(aCa AI fk (N.Co N.E6 bp) (A0 a4 n4 c4) (on (eG.at d) T) (λq k hq hk=>((hB.jG (w:=on (eG.at d) T) mw.S).QK q k hq hk).imp id λh=>aHt h Ac) hK.inj (SI rA.sl λg _=>by show eG.heap[g]?=_;rw[nV]) z4 z5).mono λe w1⟨h1,h2⟩=>⟨_,h1,⟨rfl,h2.block _ (TF J8)⟩,h2.block⟩) ?_;rintro ab0 aID u a'8 uB-⟨af0,a4_,rfl,nl⟩;refine uB.store (AR z) (A7 (J0 (Hp (N.Co N.E6 bp))) 63) il (p:=La 63 (Aa 25) (Aa 199)) A8 (λd I o h=>aBu (w:=on (a'8.at d) I) h A8 A8 (by show a'8.heap[_]?=_;rwa[a4_,nl])) λaIE aD1 uC abr acx ach abh=>?_;let H5:∀{w':A1},w'.heap=aD1.heap->Cf w' (AR z) q (AX (Hp (N.Co N.E6 bp) q)):=λe=>Yh (Ar e) hq;refine uC.calm (O8 (AR z) q) (p:=U9 63 (Aa 25) (Aa 203)) (e:=204) A8 (λd I o h=>⟨_,zO h A8 A8 hq,rfl⟩) λaIF aD2 uD aNL vF=>?_;refine uD.calm (AX (Hp (N.Co N.E6 bp) q)) (p:=ED 3 (Aa 204)) (e:=205) A8 (λd I o h=>⟨_,qE (w:=on (aD2.at d) I) h A8 (H5 vF),rfl⟩) λaIG a'9 mx aNM a4a=>?_;refine mx.calm (Ag A5) (p:=KM .geq 3 (Aa 205) (.const (AX 0)) 3) (e:=206) A8 (λd I o h=>⟨_,aWw h A8 A8 hd0,rfl⟩) λaIH a_I my abt aKt=>?_;exact my.calm (O8 (AR z) q) (p:=U9 63 (Aa 25) (Aa 209)) (e:=210) A8 (λd I o h=>⟨_,zO h A8 A8 hq,rfl⟩) λaat aD3 aIV abu aKu=>aIV.calm (AX (Hp (N.Co N.E6 bp) q)) (p:=ED 3 (Aa 210)) (e:=211) A8 (λd I o h=>⟨_,qE (w:=on (aD3.at d) I) h A8 (H5 (by show aD3.heap=_;rw[aKu,aKt,a4a,vF])),rfl⟩) λaau af1 aIW abv abT=>aIW.calm (Ag A5) (p:=KM .leq 3 (Aa 211) (Aa 212) 3) (e:=213) A8 (λd I o h=>⟨_,aXA h A8 A8 Qp,rfl⟩) λaav af2 a34 abw abU=>a34.a4g A8 λd=>⟨rfl,fin a34.S⟩
 cases Tf;let aOQ:∀b,mo b->aI9 b/\a'6.heap[b]?=Xh.heap[b]?:=λb hb=>by let a5W:aI8 b/\qc.heap[b]?=Xh.heap[b]?:=⟨aNE b (aND b (a5o b (i_ b (iZ b (iY b (cq b (Z1 b hb)).1).1).1).1)),by rw[nT,a4X,(i_ b (iZ b (iY b (cq b (Z1 b hb)).1).1).1).2,(iZ b (iY b (cq b (Z1 b hb)).1).1).2,(iY b (cq b (Z1 b hb)).1).2,(cq b (Z1 b hb)).2,cB]⟩;let vn:=aON b a5W.1;let hl:=mv.H.closed.lt vn.1;exact⟨aNJ b (aNI b (aNH b (aNG b (aNF b vn.1)))),by rw[nU,aOu b (UN hl),aOt b hl,vn.2,a5W.2]⟩
 let aO2:=aLp SA aPf λb hb=>(aOQ b hb).2;refine u6.lone (Q:=λu _=>u=Aj #[AX 11,A4 (V.mp q),A4 (V.CY (AI q k0))]) (e:=161) A8 A8 (λT d=>(oz 11 (V.mp q) (V.CY (AI q k0)) r (on (a'6.at d) T) aO2).mono λe w1⟨h1,h2⟩=>⟨_,h1,rfl,h2.block⟩) ?_;rintro aIf aIA u a_H u9-⟨_,-,rfl⟩;refine u9.calm (Ag A5) (p:=KM OK 3 (Aa 165) (.const (AX 11)) 3) (e:=166) A8 (λd I o h=>⟨_,aWq (i:=11) h A8 A8,rfl⟩) λaIB a'7 uA aNK vE=>?_;refine uA.still (e:=170) A8 A8 (yh hq) λab' aIC eG mw _ _=>?_;refine mw.calm (Ag A5) (p:=KM OK 9 (Aa 168) (Aa 170) 9) (e:=171) A8 (λd I o h=>⟨_,aBp (s:=V.mp q) h A8 A8,rfl⟩) λaID a'8 uB abq a4_=>?_;refine uB.still (e:=176) A8 A8 (a'4 hver) λab1 aIE aD1 uC _ _=>?_;refine uC.calm (Ag A5) (p:=KM OK 9 (Aa 174) (Aa 176) 9) (e:=177) A8 (λd I o h=>⟨_,aBp (s:=V.CY (AI q k0)) h A8 A8,rfl⟩) λaIF aD2 uD aNL vF=>?_;refine uD.calm (AH #[AX (q:Int),AX (AI q k0:Int)]) (p:=b1 45 #[(0,Aa 181),(1,Aa 182)]) (e:=183) A8 (λd I o h=>⟨_,aWf h A8 A8,rfl⟩) λaIG a'9 mx aNM a4a=>?_;let hlt:Bx AI nd [(q,AI q k0)] L:=Bx.to hB.law λx hx=>by rw[ES.1 hx];exact⟨hq,k0,iX,rfl⟩
 refine mx.lone (Q:=λu _=>u=Ag A5) (e:=184) A8 A8 (λT d=>(aIl AI nd rt (JY AI nd) fk q k0 (on (a'9.at d) T) (hB.jG (w:=on (a'9.at d) T) mx.S) hB.law.JY hB.Rz hq iX (λx hx=>hlt.ok hx) hab).mono λe w1⟨h1,h2⟩=>⟨_,h1,rfl,h2.block⟩) ?_;rintro ab2 aIH u a_I my-⟨_,-,rfl⟩;exact my.a4g A8 λd=>⟨rfl,fin my.S⟩
def aT'(n c:Nat)(D9:Option An)(p r:Int)(m:Int)(w:A1)(hn:n<=4611686018427387904)(LF:-9223372036854775808<=p)(T_:p<=9223372036854775807)(F':-9223372036854775808<=r)(DR:r<=9223372036854775807)(EM:Oc w w (A0 D9 n c) n)(hg:RR w)(hm:w.cell? ⟨0,0,J⟩=Z (AB AJ m))(NC:w.cell? ⟨5,15,J⟩=Z (AB .u8 4)):∃N I o w' v4,EE A6 (N+1) (Df (G (Fa A6 10 #[A0 D9 n c,p,r] EI) []) w) #[]=(sV o w',v4)/\runN A6 N (Df (G (Fa A6 10 #[A0 D9 n c,p,r] EI) []) w)=.next I/\step A6 I=sV o w'/\aDr A6 (λv W'=>v=Ag A5/\W'.os=w.os/\W'.output=w.output/\w.heap.size<=W'/\∀b,b<w.heap.size->W'.heap[b]?=w.heap[b]?) I o w' v4:=by
 letI:Bg:=⟨3⟩;obtain⟨C0,g4,w4,W,r4,c4,k,C,rt,v,rfl,⟨q8,q1,q2⟩,EU,X,Mc,O0,dA,LJ,F⟩:=aSt n c D9 p r m w hn EM hg hm #[] (λ_=>0) (aJh _ _ w);let h0:0<AR w:=B3 (hg 0 Ac).choose_spec.choose_spec.1;let EW:∀b,b<CX->b<AR w:=λb hb=>by obtain⟨cs,t,h,_⟩:=hg b hb;exact B3 h
 let u:RR w4:=λb hb=>by obtain⟨cs,t,h1,h2⟩:=hg b hb;exact⟨cs,t,(F b (EW b hb)).trans h1,h2⟩
 let H5:=aRx X u;let hgo:=aSw (R:=Jt (k+1) C) (U:=λb=>b<AR w4/\¬Jt (k+1) C b) m p r w4 (k+2) (k+1) C rt LF T_ F' DR X u ((C8 (a:=⟨0,0,J⟩) (F 0 h0)).trans hm) ((C8 (a:=⟨5,15,J⟩) (F 5 (EW 5 Ac))).trans NC) ⟨H5,λb hb=>hb.1⟩ v (EU _ (AF (AA rfl))) q8 q1 q2;obtain⟨N1,gs,g',Bd,sl,t5,q5,Wb,r5,c5,_,SC,dE,ia⟩:=hgo (λ_=>False) (λb=>b<AR w4/\¬Jt (k+1) C b) (by funext b;simp) (λb hb=>⟨λx=>x,hb.1⟩) #[_] J W (λ_=>0) c4;obtain⟨B,y4⟩:=c5.past;obtain⟨K,I,o,w2,t2,e1,e2,e3,e4⟩:=beside_ends (P:=A6) (Post:=λv W'=>v=Ag A5/\W'.os=w.os/\W'.output=w.output/\w.heap.size<=W'/\∀b,b<w.heap.size->JE b W' w) (sl:=sl) (D:=λ_ _ es=>∀e∈es,EvL (λl=>∃b,Wb b/\FA l b) B e) (n:=0) (λ_ _ _ x=>x) c5.zero c5.leave y4 λf5 hw=>by
  obtain⟨v,h1,h2,h3⟩:=ia f5 hw;obtain⟨d,rfl⟩:=hw;let H:=SC.at d;refine⟨dE,v,#[],h1,λe he=>by simp at he,h2,H.os.trans O0,H.output.trans dA,BO H.size,λb hb=>?_⟩;let z:b<w4.heap.size:=A';refine aDg ?_ (F b hb);by_cases hR:Jt (k+1) C b;.exact h3 b hR
  exact H.same b ⟨z,hR⟩ z
 refine⟨C0+(N1+K),I,o,w2,t2,?_,?_,e3,e4⟩;.rw[mh,mh];exact Tp r4 (Tp r5 e1)
 rw[runN_add,<-runNT_fst A6 _ _ #[],r4];show runN A6 (N1+K) _=_;rw[solo_eq_crowd,runN_add,<-runNT_fst A6 _ _ W,r5];exact e2
end
end Go.Proofs.YtcfhleenecfghaaGreatDoor.Twin
namespace Go.Proofs.YtcfhleenecfghaaGreatDoor
section
open Go.ChangeShapes Go.WideShapes Go.ChangeAt Go.WideMaps Go.WideElems Go.RowKit
def laidOut:laidOutB A6=A5:=by kernel_rfl
def aJl:A6.cellsOf 3=1:=by kernel_rfl
def own:ownKnob A6.godebug=J:=by kernel_rfl
def a_e{H enc C os f fn s apart fresh r again}{X:A1->zw->Prop}(own:ownKnob C.prog.godebug=J)(K:os.Started)(CR:C.prog.funcs[f]?=Z fn)(u:∃(w:A1)(h:Tape)(i:Input),w.os=os/\(w.forCall h i).Shaped C.prog/\i.vars=[]/\Input.okWide C.prog (w.forCall h i) fJ w.heap.size f i/\((s.pre enc C.prog fn [] apart (w.forCall h i).memory i.args/\X (w.forCall h i).memory i.args)/\a1f enc C.prog fn (a0x s) apart (w.forCall h i).memory i.args)/\({}:Assume).holds C.prog (lone (Fa C.prog f i.args EI) [] (w.forCall h i)))(runs:∀(W:A1)(base:Nat)(args:zw)(ds gs:List (DataW H))(I:List MemPlace),(∀(j:Nat)t v,fn.params[j]?=Z t->args[j]?=Z v->aFf C.prog W fJ base t v)->DataW.Whole enc C.prog fn.params.toList s.vars apart W args.toList ds gs I->(aEU C.prog (fn.params.toList++s.plain.varTypes C.prog) (ds++gs)).all (·<=aFu)=A5->W.ShapedOpen C.prog->X W.memory args->∃N U o w' v4,EE C.prog (N+1) (Df (Go.Conc.G (Fa C.prog f args EI) []) W) #[]=(sV o w',v4)/\runN C.prog N (Df (Go.Conc.G (Fa C.prog f args EI) []) W)=.next U/\step C.prog U=sV o w'/\aDr C.prog (λv W'=>s.post enc C.prog fn apart fresh r again W args v W') U o w' v4):aFW {} C os f fJ (λw args=>(s.pre enc C.prog fn [] apart w args/\X w args)/\a1f enc C.prog fn (a0x s) apart w args) (s.post enc C.prog fn apart fresh r again):=by refine returnsInLeavingWide_of_good own K u ?_;intro w h i _ Cv _ v1 oU _;obtain⟨_,_,_,z,F,_,_,_,_,Ke⟩:=v1;have e:z=fn:=CP (F.symm.trans CR);subst e;obtain⟨⟨⟨ds,gs,I,hw,_⟩,hX⟩,hz⟩:=oU;have hw':=aa6 (w':=w.forCall h i) (by rfl) hw;obtain⟨N,U,o,w',v4,h1,h2,h3,h4⟩:=runs (w.forCall h i) w.heap.size i.args ds gs I Ke hw' (hz.weights hw) Cv hX;exact⟨N,U,o,w',v4,h1,h2,h3,aDs h4 λv hp=>a_x hp⟩
def aZG(U){p s c}(kinds tests I N)(hc:c.holds p s)(hw:c.wfByText s=A5)(u:c.laidByTextAt U p kinds tests)(hst:c.start=.entering)(z:c.noBlocks=A9/\c.again=A9)(hm:p.checked.prog.mainIs=Z (I.1,I.2.toList))(hn:(!I.1&&I.2.isEmpty&&!N)=A9)(hl:∀f fn,p.checked.prog.funcNamed c.func=Z f->p.checked.prog.funcs[f]?=Z fn->N=p.checked.prog.looks []/\∀(j:Nat)t,fn.params[j]?=Z t->p.checked.prog.wantsStandIn t=A9)(hg:A5=c.goesBy p.checked.prog):Claim7.holds p (.plain s) {stood:={row:=c,standIns:=[],harness:=I,looks:=N},kinds:=[],alts:=[],goes:=A5,laidByText:=A5,laidKinds:=kinds,laidTests:=tests,laidLooks:=U}:=by
 have h6:∀r:OpenClaim,aDq {stood:={row:=r,standIns:=[],harness:=I,looks:=N},kinds:=[]}=A9:=λr=>by simpa[aDq]using hn
 exact⟨Claim7.tied_new_at U kinds tests (Claim7.new_of_sixth hc I N hst z hm (h6 c) hl) hw,(λD F=>by cases F),u,(λh=>by cases h),hg⟩
def aVl{H enc W a0 n c fuel}{x:DataW H×List MemPlace}(hf:DataW.trod enc A6 W 0 (λ_=>A5) A5 fuel 33 (A0 a0 n c).cells.toList=Z x)(X:∀K I,x.1=.slice K I->K.length<=4611686018427387904):Oc W W.heap.size (A0 a0 n c) n/\n<=4611686018427387904:=by
 rcases open_ints UA fF aJl hf with⟨N,_⟩|⟨a,adK,TH,zs,N,_,hl,acW,hz,hx,r,u⟩;.simp[lZ]at N;obtain⟨rfl,rfl,rfl⟩:=N;exact⟨⟨J,0,rfl,AA rfl⟩,by omega⟩
 simp[lZ]at N;obtain⟨rfl,rfl,rfl⟩:=N;simp only[if_true]at hz;have MU:n<=4611686018427387904:=by
  have h5:=X _ _ (by rw[hx]);have h6:(lits (H:=H) AJ (zs.take n)).length=n:=by simp[lits];omega
  omega
 refine⟨⟨Z a,c,rfl,?_⟩,MU⟩;by_cases hn:n=0;.exact AA hn
 obtain⟨b,off,U⟩:=a;have z:U=J:=by simpa[Addr.add]using World.cell?_spot (r 0 (by omega))
 subst z;refine AF ⟨b,off,rfl,?_,λj hj=>?_⟩;.have h4:b<W.heap.size:=Cn (h:=r 0 (by omega));omega
 have F:j<zs.length:=by omega
 have hc:=r j F;rw[add_plain]at hc;have hb:=lh (u (zs.getD j 0) (by rw[P_,En F];exact Ci F));exact⟨_,hc,hb.1,hb.2⟩
theorem aSs(os)(kB:os.Started)(H)(enc:BL×A3->H):aFW {} a0z os 10 fJ (λw I=>(sP.pre enc A6 QV [] A9 w I/\a1Y A6 PO.laid w)/\a1f enc A6 QV (a0x sP) A9 w I) (sP.post enc A6 QV A9 A5 A9 A9):=by
 refine a_e (C:=a0z) (X:=λw _=>a1Y A6 PO.laid w) own kB lT (a_y (enc:=enc) (C:=a0z) (os:=os) (X:=λw _=>a1Y A6 PO.laid w) A9 (World.laidAll A6 os PO.laid) #[A0 J 0 0,AB AJ 0,AB AJ 0] 10 (World.laidAll_os _ _ _) (World.shaped_of_ZipB (by kernel_rfl) (by kernel_rfl)) (by kernel_rfl) (by kernel_rfl) (by kernel_rfl) (by rw[aEq _ _ _ (by kernel_rfl)];exact laidMet_laidAll _ (by kernel_rfl) (by kernel_rfl))) ?_;intro W base I ds gs before aPa CF u Cv hX;have F:∀(j:Nat)t v,QV.params[j]?=Z t->I[j]?=Z v->aFf A6 W fJ base t v:=aPa;have wB:=CF;obtain⟨p,q,nm,EU,rfl,_,_⟩:=CF;have m9:DataW.TrodAll enc A6 W 0 (λ_=>A5) A5 QV.params.toList I.toList ds p:=nm;have u:(aEU A6 (QV.params.toList++sP.plain.varTypes A6) (ds++gs)).all (·<=aFu)=A5:=u;rw[aFN]at m9 F u;obtain⟨abD⟩:=I;obtain⟨Fu,aeq,p4,abQ,K,LQ,Wq,rfl,rfl,h0,r0⟩:=a0F m9;obtain⟨El,aer,d1,abR,p1,q1,rfl,rfl,rfl,h1,r1⟩:=a0F r0;obtain⟨EP,aes,d2,abS,p2,q2,rfl,rfl,rfl,h2,r2⟩:=a0F r1;obtain⟨rfl,rfl,rfl⟩:=trodAll_nil r2;simp only at Wq;subst Wq;obtain⟨rfl,rfl⟩:=trodVars_none EU;obtain⟨z,rfl,rfl,rfl,Iq⟩:=open_int fF (F 1 3 El rfl rfl) h1;obtain⟨D8,rfl,rfl,rfl,wk⟩:=open_int fF (F 2 3 EP rfl rfl) h2;obtain⟨a0,FW,c0,rfl⟩:=okWide_slice UA (F 0 33 Fu rfl rfl);have aMW:=h0;obtain⟨abZ,hf0⟩:=h0;clear nm;obtain⟨m,hm⟩:∃m,W.cell? ⟨0,0,J⟩=Z (AB AJ m):=cell_of_shapedOpen_int (zero:=#[AB AJ 0]) (t:=3) Cv (of_decide_eq_true A8) A8 rfl A8 A8 fF;simp only[YU]at wB;have r:∀x∈K,x.block<W.heap.size:=λx hx=>wB.lt x (by simp[hx]);have Qw:=aVl hf0 λnX U e=>by
  have e:p4=.slice nX U:=e;have hb8:A6.bytesOf 3=8:=by kernel_rfl
  have:=sized_slice (j:=0) (e:=3) u rfl (by rw[e];rfl) UA;rw[hb8]at this;have abd:=reachBytes_lt;omega
 have aOS:laidMet A6 PO.laid W.memory:=by rw[<-aEq _ _ _ (by kernel_rfl)];exact hX
 obtain⟨N,last,o,w',v4,e1,e2,e3,e4⟩:=Twin.aT' FW c0 a0 z D8 m W Qw.2 (lh Iq).1 (lh Iq).2 (lh wk).1 (lh wk).2 Qw.1 (aMM Cv) hm (show W.cell? ⟨5,15,J⟩=Z (AB .u8 4)from aYr (W:=W.memory) aOS);refine⟨N,last,o,w',v4,e1,e2,e3,aDs e4 λv hv=>?_⟩;obtain⟨rfl,O0,dA,hs,hb⟩:=hv;have hsame:∀x∈K,W.sameAt w' x:=λx hx=>by have hx:=r x hx;cases x with|cell b o=>exact C8 (w:=W) (hb b hx)|map b=>exact hb b hx
 have F4:DataW.Trod enc A6 w' 0 (λb=>BK (b<W.heap.size)) A5 33 (A0 a0 FW c0) p4 K:=aaT laidOut (by kernel_rfl) (of_decide_eq_true (by kernel_rfl)) aMW hsame (λx hx=>by simpa using r x hx);refine⟨_,_,_,[],K++([]++([]++[])),[],wB,trodAll_mk1 (shut_bool Tryz.underlying4 _),a1h F4 (a1h (shut_int fF Iq) (a1h (shut_int fF wk) trodAll_mk0)),rfl,?_,λh=>by cases h⟩;refine⟨O0,dA,λi hi=>?_⟩;rw[hb i hi];split<;>simp_all
def aSx:Rows.MovedSaid:=aa9 10 QV rfl rfl rfl rfl rfl rfl rfl ⟨rfl,rfl,rfl,rfl,rfl⟩ rfl rfl rfl rfl rfl (by kernel_rfl) lT aSq (of_decide_eq_true (by kernel_rfl)) (by unfold Func.isWrapper;first|(rw[if_pos (by decide+kernel)];kernel_rfl)|(rw[if_neg (by decide+kernel)];exact⟨rfl,rfl⟩)) λI N H h _=>aSs I N H h
end
end Go.Proofs.YtcfhleenecfghaaGreatDoor
