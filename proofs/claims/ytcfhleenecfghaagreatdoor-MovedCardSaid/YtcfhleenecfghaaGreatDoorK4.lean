import Derived.StringKeys
import Derived.Lib.QuietBelow
import Derived.Lib.OwnBridge
import Derived.Lib.LaidU8
import Derived.ProofKit
import Derived.JoinedOf
import Derived.Laws.AppendOwnNone
import Derived.Shelf.SlSortCmp.WholeK
import Derived.Maps.AppendAt
import Derived.Shelf.SlSortCmp.NoneTotal
import Derived.Laws.StructEq
import Derived.Laws.IdiomRangeMap
import Derived.Test.YtcfhleenecfghaaGreatDoorK3
set_option linter.all false
set_option maxHeartbeats 4000000
set_option maxRecDepth 100000
open And renaming intro->aU
open Array renaming ext_getElem?->eL,extract_size->eM,filter->Tx,getElem?_append_left->a's,getElem?_eq_getElem->G8,getElem?_eq_none->Ml,getElem?_modify->qu,getElem?_push->eN,getElem?_push_lt->KF,getElem?_push_size->kW,getElem?_setIfInBounds->HX,getElem?_setIfInBounds_ne->Mm,size_append->eP,size_setIfInBounds->a0'
open Bool renaming false->A9,not_eq_true->a02,true->A5
open ByteArray renaming mk->Ji
open Decidable renaming decide->BK
open Function renaming comp_def->a_u
open Go renaming Act->HL,Addr->An,Calls->Ab,Code->DK,Frame->Ah,Goroutine->AY,LoopState->a0m,MapEntry->Fy,Obj->Cq,Oper->B8,Operand->BP,Program->Ao,TypeId->BL,Value->A3,World->A1,below_drewN->KP,below_regrown->aFk,binOp->OQ,bodyPost_ret->IT,builtin->lj,callFunc->MA,cell_regrown->OR,execOp->AM,heap_alloc_new->OS,heap_setCell_same->CO,info_parts->FJ,invoke->Ra,isAgg->sb,joinedFacts->aFr,leftOf->W2,maxLen->BZ,redrawn->sf,regrown_of_below->aFw,resolve->KQ,results->D5,results_cell_row->Ss,rounds_succ->Nf,run_append_own->aFx,run_append_own_at->aFy,run_equalIn_agg->aFz,run_loadVar_row->aG',run_make_own->a1c,run_underlying->a1d,sizeOf->Rb,size_zeroCells->aG3,undef->AN,wpList_append_own->IU,wpList_append_own_none->a1i,wpQuiet_nil->aG5,wp_loop_rounds->St,wp_region_quiet_below->aG6,yielded->I4
open Go.BinOp renaming and->aDh,eql->OK
open Go.Builtin renaming append->QR,append_->U1
open Go.ByteArray renaming toList_eq->QS
open Go.CallKind renaming normal->EI
open Go.Callee renaming builtin->Fw
open Go.Calls renaming quiet_of->kx,quiet_of_same->Vh
open Go.Code renaming rangeFunc->rF
open Go.ConcR renaming Payload->Bg,wgBlock->NV
open Go.Departure renaming mixedOrders->l8
open Go.Ending renaming returned->AV
open Go.Exit renaming inBlock->Sg
open Go.Fn renaming func->Bo,yield->U4
open Go.Frame renaming enter->Fa,round->aE_
open Go.Instr renaming buildSlice->ar,entry->rr,entryStore->lC,findKey->Vs,lookup->Fb,makeSlice->au,mapEntry->aw,mapUpdate->Y3,next->eu
open Go.IntKind renaming i64->AJ,u64->Da,u8->Gc,wrap_i64->RU,wrap_u64->a0h
open Go.Item renaming beginRound->aEl,code->Aw,inBlock->Ks,inLoop->NW,inRegion->Ak
open Go.Lib renaming BuilderAt->Vt,IsBuilder->Mq,byteCells->IS,cell_of_heap->A_,compareBytes->Fx,frozen_of_heap->C',strCells->ax
open Go.Lib.laidMet renaming reads->aa8
open Go.LoopState renaming ready->M7
open Go.MapKept renaming run_getObj_map->OO,run_setObj_map->fA
open Go.Next renaming enter->NY,skip->JN,value->BB
open Go.Obj renaming cells->A7,deferred->PM,map->B4,mapIter->NZ
open Go.Op renaming alloc->Vv,bytesLess->aEw,call->Em,equal->U8,equalIn->PN,fieldAddr->OP,load->ED,maxDepth->lO,store->La
open Go.Oper renaming wp->fD
open Go.Operand renaming tmp->Aa
open Go.Program renaming arrayLen->aF6,elem->aaB,fieldsOf->aF7
open Go.Proofs renaming enters_of->a1F,intOf->B0,ltOf->RY,sortWorld->a1G,sortWorldK->b5
open Go.Proofs.AnyF renaming slices_SortFunc_none->aF9
open Go.Proofs.AnyQ renaming slices_SortFunc->aFA
open Go.Proofs.SlLaysF0 renaming n6->fE
open Go.Proofs.Tryz renaming f423->aFG,prog->A6,underlying119->sO,underlying124->Vw,underlying130->lU,underlying33->UA,underlying345->a1C,underlying47->a1D,underlying513->aFS,underlying57->fG,underlying85->fH,underlying9->fI,underlying99->lV
open Go.Proofs.YtcfhleenecfghaaGreatDoor.Rows renaming movedRow->PO
open Go.Question renaming cut->aFU,forced->sQ,mapNext->aaS
open Go.Region renaming wanted->Gd
open Go.Result renaming andThen->KO,andThen_ok->lW
open Go.RowKit renaming Below->AO,intOf->M9
open Go.RowKit.Below renaming alloc->aFX,heap_setCell->DC,refl->Az
open Go.Sem renaming run->fK,run_bind->YA,run_pure->lX
open Go.Sort renaming HoldsK->sU,holdsK_ahead->aFa,holdsK_grow->aFb,holdsK_putRowK->aFc,size_flatK->aFd,size_putRowK->fL
open Go.Target renaming collected->b8
open Go.TypeDesc renaming struct->a1Q
open Go.Value renaming agg->AH,bool->Ag,func->Br,iface->DD,int->AB,map->AL,nilIface->CN,ownBlock->Kt,pointer->B2,slice->A0,string->A4,tuple->Aj
open Go.WideMaps renaming KeyLaw->a1U,keyOf_string_mk->aaU,string_law->aaV
open Go.World renaming block_lt_of_cell?->Cn,cell?->Cr,cell?_of_block->C8,cell?_setCell_other->Vz,cell?_setCell_same->lf,drewN->aFg,ownsRow_nil->PR
open Int renaming toNat_natCast->bS
open List renaming Nodup->Lc,append_assoc->T1,append_nil->YU,ext_getElem?->a2Y,flatMap_append->a2Z,getD_eq_getElem?_getD->P_,getElem?_append_left->mY,getElem?_append_right->Rj,getElem?_eq_getElem->En,getElem?_eq_none->aHW,getElem?_eq_some_iff->bW,getElem?_map->YV,getElem_inj->aHZ,getElem_map->tg,getElem_mem->Ci,getElem_of_mem->Rk,length->mZ,length_append->DV,length_cons->T3,length_eq_zero_iff->ma,length_map->Gf,length_range->aHd,length_replicate->aHe,length_take->UK,map_append->Pa,map_cons->Ee,map_map->Ld,map_nil->Iw,map_pmap->th,map_toArray->JO,mem_append->E8,mem_cons->DO,mem_cons_of_mem->G1,mem_flatMap->YX,mem_iff_getElem->Mw,mem_map->Bt,mem_of_getElem?->Jq,mem_of_mem_take->mb,mem_range->Pb,mem_singleton->ES,nodup_append->gC,nodup_cons->gD,nodup_nil->a2d,not_mem_nil->IX,pairwise_cons->bX,pairwise_iff_getElem->Qc,pairwise_map->I8,perm_ext_iff_of_nodup->aHh,range->Lf,replicate->Dt,size_toArray->Rm,take_length->Hb,take_succ_eq_append_getElem->T4,toList_toArray->tn,zipIdx_append->me
open List.Perm renaming append_right->aae,eq_of_pairwise->aHG,of_eq->aag
open Nat renaming add_assoc->mh,div_lt_iff_lt_mul->aHq,le_of_eq->aHr,le_of_not_lt->UM,le_refl->Ad,le_trans->Dn,lt_irrefl->WK,lt_of_lt_of_le->Hw,mod_lt->mi,mul_le_mul_right->aHv,ne_of_lt->UN,not_lt_zero->gJ,pow_succ->aHw,zero_add->My,zero_le->JS
open Ne renaming symm->Gy
open Option renaming none->J,some->Z
open Option.some renaming inj->CP
open Or renaming inl->AA,inr->AF
open Prod renaming snd->bf
namespace Go.Proofs.YtcfhleenecfghaaGreatDoor
section
open Go.RowKit
def aLT(a)(n c)(w):(OQ OK 99 (A0 (Z a) n c) (A0 J 0 0)).run A6 w=.ok (Ag A9) w:=rfl
def aJZ(w):(ar 99 0 #[]).run A6 w=.ok (A0 (Z ⟨w,0,J⟩) 0 0) (w.alloc (A7 #[] 179)):=A8
def aK0(N Bm:Nat)(w:A1)(h0:w.cell? ⟨N,0,J⟩=Z (DD 123 (AH #[dn]))):Ab A6 96 #[A0 (Z ⟨N,0,J⟩) 1 Bm] w λe w'=>∃I cc,e=AV (A0 (Z ⟨I,0,J⟩) 1 cc)/\w'.cell? ⟨I,0,J⟩=Z (DD 123 (AH #[dn]))/\AO w w w':=by
 let⟨i0,hi,hz0,hz1,hz2⟩:=FJ om;have hlt:N<AR w:=Cn (h:=h0);have C:=aLT;have D:=aJZ;go_enter Tryz.func96,Tryz.ntmps96;go_wp2_with(at_builtin;refine IU _ rfl _ _ 99 rfl (AR w) 179 i0 CN 1 16 lV hi hz0 hz1 hz2 rfl Ac _ _ _ rfl ⟨rfl,AF ⟨AR w,0,#[],rfl,Ad _,OS w _,A',DQ,rfl,rfl⟩⟩ ⟨N,0,J⟩ 1 Bm [DD 123 (AH #[dn])] rfl rfl ?c1 uh DQ A' AD ?_);case c1=>intro j u hj;match j,hj with|0,hj=>simp at hj;subst hj;exact BR h0 _
 intro v' w2 U BN _;have hb2:=((Az _ w).alloc (Ad _) _).grown BN AD (λk hk=>by simp[Kt]at hk;omega);obtain⟨I,cc,hv⟩:∃I cc,v'=BG I 0 1 cc:=by
  rcases U.2 with⟨_,h0⟩|⟨I,cc,cur,hv,_⟩;.omega
  exact⟨I,cc,hv⟩
 subst hv;have d:=U.cells rfl;have i:=Ai (d 0 _ rfl);have z:=A2 i;clear d U BN i;go_wp2;go_ret;exact⟨I,cc,rfl,z,hb2⟩
def aQ7(v f w):Ab A6 256 #[v,AB AJ 0,AB AJ 1,f] w λe w'=>e=AV (Aj #[])/\w'=w:=by go_enter Tryz.func256,Tryz.ntmps256;go_wp2;refine St 1 ?_;rw[Nf];go_wp2;go_end0;exact⟨rfl,rfl⟩
def aU3(v f:A3)(n:Int)(w:A1):Ab A6 181 #[v,AB AJ 0,AB AJ 1,n,f] w λe w'=>e=AV (Aj #[])/\w'=w:=by go_enter Tryz.func181,Tryz.ntmps181;go_wp2;refine St 1 ?_;rw[Nf];go_wp2_with fail;refine(aQ7 v f _).mono ?_;rintro e h⟨rfl,rfl⟩;go_wp2;exact IT (by simp[D5,go_sem]) rfl ⟨rfl,rfl⟩
def aY3(h cc)(f)(w):Ab A6 97 #[A0 (Z ⟨h,0,J⟩) 1 cc,f] w λe w'=>e=AV (Aj #[])/\w'=w:=by go_enter Tryz.func97,Tryz.ntmps97;go_wp2_with fail;refine(Tryz.bits_Len 1 _ A' A').mono ?_;rintro e I⟨rfl,rfl⟩;go_wp2_with fail;refine(aU3 _ _ _ _).mono ?_;rintro e I⟨rfl,rfl⟩;go_wp2;go_end0;exact⟨rfl,rfl⟩
def jy:zz:=⟨#[109,111,100,117,108,101,32,97]⟩
def aZ7(w):Ab A6 472 #[AH #[dn]] w λe w'=>e=AV jy/\AO w w w':=by go_wp2;go_ret;exact⟨rfl,(Az ..).alloc (Ad _) _⟩
def aTo:ax jy++[AB Gc 10]=IS [109,111,100,117,108,101,32,97,10]:=rfl
def aSY(s)(w):(method 654 123 (AH #[A4 s]) "Text").run A6 w=.ok (472,AH #[s]) w:=rfl
def aTX(d Bm:Nat)(w:A1)(h0:w.cell? ⟨d,0,J⟩=Z (DD 123 (AH #[dn]))):Ab A6 46 #[A0 (Z ⟨d,0,J⟩) 1 Bm] w λe w'=>e=AV (A4 ⟨#[109,111,100,117,108,101,32,97,10]⟩)/\AO w w w':=by
 have S:=aSY;go_enter Tryz.func46,Tryz.ntmps46;go_wp2_with fail;refine(aK0 d Bm _ h0).mono ?_;rintro e w1⟨Y,cc,rfl,G_,hb1⟩;have n3:=A2 hb1;have hz1:=hb1.size;clear hb1;go_wp2_with fail;refine(aY3 Y cc _ _).mono ?_;rintro e w2⟨rfl,rfl⟩;have j:Mq 190 5 (AR w2) (AR w2) [] (w2.alloc (A7 #[B2 J,A0 J 0 0] 190)):=AA ⟨Ad _,A0 J 0 0,OS w2 _,⟨rfl,AA ⟨rfl,rfl⟩⟩,by simp[Kt]⟩;have k0:=BR G_ (A7 #[B2 J,A0 J 0 0] 190);have mB:=A2 j;clear j;go_wp2;go_loopw[13]λi wr=>i=AX 0/\wr=w2.alloc (A7 #[B2 J,A0 J 0 0] 190)∨i=AX 1/\Vt 190 5 (AR w2) (AR w2) (XU (AR w2)) (ax jy++[AB Gc 10]) wr/\AO (AR w2) w2 wr(λi _=>1-(B0 i).toNat);case atStart=>exact AA ⟨rfl,rfl⟩
 case round=>
  rcases hrel with⟨rfl,hwr⟩|⟨rfl,MU,hb⟩
  .subst hwr;go_wp2_with fail;refine(aZ7 _).mono ?_;rintro e w3⟨rfl,U⟩;have u:Mq 190 5 (AR w2) (AR w2) [] w3:=by refine AA ⟨Ad _,A0 J 0 0,?_,⟨rfl,AA ⟨rfl,rfl⟩⟩,by simp[Kt]⟩;rw[U.block (AR w2) AD];exact OS w2 _
   have z:=A2 (((Az _ w2).alloc (Ad _) _).trans (U.mono AD));have YG:=A2 u;clear U u;go_wp2_with fail;refine(a'D (AR w2) (AR w2) [] jy _ YG.o Ac z.o.size).mono ?_;rintro e w4⟨rfl,C,D⟩;have mF:=A2 C;have H:=A2 (z.o.trans D);clear C D;go_wp2_with fail;refine(aDI (AR w2) (AR w2) ([]++ax jy) 10 _ (AF mF.o) Ac H.o.size).mono ?_;rintro e Bd⟨rfl,M,I⟩;have h:=A2 M;have N:=A2 (H.o.trans I);clear M I;go_wp2;first
   |exact⟨AF ⟨rfl,h.o,N.o⟩,by simp[B0]⟩
   |
    (
     go_roundw;case rel=>exact AF ⟨rfl,h.o,N.o⟩
     case measure=>simp[B0])
  go_wp2_with fail;refine(Tryz.Builder_String (AR w2) (AR w2) [109,111,100,117,108,101,32,97,10] _ (As aTo.symm (AF MU)) AD).mono ?_;rintro e Bd⟨rfl,I⟩;have N:=A2 (n3.o.trans ((hb.trans I).mono hz1));clear I;go_wp2;go_ret;exact⟨rfl,N.o⟩
theorem aVs(m)(w)(hm:w.cell? ⟨0,0,J⟩=Z (AB AJ m)):Ab A6 45 #[zT] w λe w'=>∃I Bm,e=AV (Aj #[A0 (Z ⟨I,0,J⟩) 1 Bm,CN])/\w'.cell? ⟨I,0,J⟩=Z (DD 123 (AH #[dn]))/\AO w w w':=by
 let U:V.GL zT:=by unfold V.GL;decide+kernel
 refine(pr zT m w Ac hm).mono λe w1⟨hsay,hb1⟩=>?_;rcases hsay with⟨_,v,N,h2⟩|⟨h,_⟩;.obtain⟨g,c,rfl,_,_⟩:=SH h2 Ac;exact⟨g,c,N,Lx h2 0 _ rfl,hb1⟩
 grind
def aUK(m:Int)(w:A1)(hm:w.cell? ⟨0,0,J⟩=Z (AB AJ m)):Ab A6 17 #[A4 ⟨#[109,111,100,117,108,101,32,97]⟩] w λe w'=>e=AV (Aj #[A4 ⟨#[109,111,100,117,108,101,32,97,10]⟩,CN])/\AO w w w':=by go_enter Tryz.func17,Tryz.ntmps17;go_wp2_with fail;refine(aVs m _ hm).mono ?_;rintro e w1⟨d,Bm,rfl,I,hb1⟩;have h:=A2 hb1;have U:=A2 I;clear I hb1;go_wp2_with fail;refine(aTX d Bm _ U).mono ?_;rintro e w2⟨rfl,hb2⟩;have N:=A2 (h.o.trans (hb2.mono h.o.size));clear hb2;go_wp2;go_ret2;exact⟨rfl,N⟩
def a_9:V.AI (Ji #[118,49,46,48,46,48,45,114,99])=A5:=Ac
def a_3:V.AI (Ji #[118,49,46,48,46,48])=A5:=Ac
def a_A:V.order (Ji #[118,49,46,48,46,48,45,114,99]) (Ji #[118,49,46,48,46,48])=-1:=Ac
def aJG(m:Int)(w:A1)(hm:w.cell? ⟨0,0,J⟩=Z (AB AJ m)):Ab A6 13 #[] w λe w'=>e=AV (Ag A5)/\AO w w w':=by go_enter Tryz.func13,Tryz.ntmps13;go_wp2_with fail;refine(aZ1 (Ji #[118,49,46,48,46,48,45,114,99]) (Ji #[118,49,46,48,46,48]) m _ hm a_9 a_3).mono ?_;rintro e U⟨rfl,hb1⟩;rw[a_A];have h:=A2 hb1;have N:=keep hb1 hm;clear hb1;go_wp2_with fail;refine(aUK m _ N).mono ?_;rintro e w2⟨rfl,hb2⟩;have I:=A2 (h.o.trans (hb2.mono h.o.size));clear hb2;go_wp2;go_ret;exact⟨rfl,I⟩
def a8e:a1U A6 9:=aaV (by rw[fI])
def xv(p:zz)(h:p<=BZ):∃l,keyOf A6 9 p=Z l:=by exact⟨_,aaU (by rw[fI]) h⟩
def NM(l:List AW):Array Fy:=(l.zipIdx.map λx=>({key:=x.1.1,val:=AH #[x.1.1,x.1.2],born:=x.2}:Fy)).toArray
def aBf{l:List AW}{e:Fy}(h:e∈(NM l).toList):∃x∈l,e.key=x.1/\e.val=AH #[x.1,x.2]:=by unfold NM at h;rw[tn]at h;obtain⟨x,hx,rfl⟩:=Bt.1 h;exact⟨x.1,(List.mem_zipIdx' hx).2▸Ci _,rfl,rfl⟩
def aWJ(l:List AW)(p:AW):NM (l++[p])=(NM l).push {key:=p.1,val:=AH #[p.1,p.2],born:=l}:=by unfold NM;rw[me,Pa];simp
def a52(l:List AW)(p:zz)(w:A1)(hp:p<=BZ)(hl:∀x∈l,x.1<=BZ):(Vs 9 p (NM l).toList).run A6 w=.ok J w∨∃j,∃x∈l,x.1=p/\(Vs 9 p (NM l).toList).run A6 w=.ok (Z (j,AH #[x.1,x.2])) w:=by
 obtain⟨lx,hlx⟩:=xv p hp;rcases a8e.find w hlx (NM l).toList λe he=>by obtain⟨x,hx,hk,_⟩:=aBf he;rw[hk];exact xv _ (hl x hx)with⟨h,h2⟩|⟨j,e,h,h2,h3⟩;.exact AA h
 obtain⟨x,hx,hk,hv⟩:=aBf (Jq h2);rw[hk]at h3;injection h3 with h3;exact AF ⟨j,x,hx,h3,by rw[h,hv]⟩
def uo(p:zz)(hp:p<=BZ)(e:Bool)(w:A1):(Instr.checkKey e 10000 9 p).run A6 w=.ok () w:=by obtain⟨lx,hlx⟩:=xv p hp;exact a8e.check w e hlx
def aRK(r c:Nat)(l:List AW)(p:zz)(w:A1)(hp:p<=BZ)(hl:∀x∈l,x.1<=BZ)(hb:w.heap[r]?=Z (B4 (NM l) c)):(Fb 345 (AL (Z r)) p A5).run A6 w=.ok (Aj #[AH #[A4 ⟨#[]⟩,A4 ⟨#[]⟩],Ag A9]) w∨∃x∈l,x.1=p/\(Fb 345 (AL (Z r)) p A5).run A6 w=.ok (Aj #[AH #[x.1,x.2],Ag A5]) w:=by
 rcases a52 l p w hp hl with h|⟨j,x,hx,I,h⟩;.refine AA ?_;simp[Fb,a1d a1C,OO hb,uo p hp,h,KO]
 refine AF ⟨x,hx,I,?_⟩;simp[Fb,a1d a1C,OO hb,uo p hp,h,KO]
def aUU(r:Nat)(l:List AW)(p:AW)(w:A1)(hp:p.1<=BZ)(hl:∀x∈l,x.1<=BZ)(hn:∀x∈l,x.1≠p.1)(hb:w.heap[r]?=Z (B4 (NM l) l)):(Y3 345 (AL (Z r)) p.1 (AH #[p.1,p.2])).run A6 w=.ok () {w with heap:=w.heap.setIfInBounds r (B4 (NM (l++[p])) (l+1))}:=by
 rcases a52 l p.1 w hp hl with h|⟨j,x,hx,I,h⟩;.rw[aWJ];simp[Y3,a1d a1C,OO hb,uo p.1 hp,h,fA _ hb,KO]
 exact absurd I (hn x hx)
theorem aJz(w):Ab A6 150 #[A0 J 0 0] w λe w'=>e=AV (A0 J 0 0)/\w'=w:=by have hb:∀h,(OQ OK 124 (A0 J 0 0) (A0 J 0 0)).run A6 h=.ok (Ag A5) h:=λh=>rfl;go_wp2;go_ret;simp_all
def aQ6(w f):Ab A6 320 #[A0 J 0 0,AB AJ 0,AB AJ 0,f] w λe w'=>e=AV (Aj #[])/\w'=w:=by
 go_enter Tryz.func320,Tryz.ntmps320;go_wp2;go_loopw[8]λi wr=>i=AX 1/\wr=w(λ_ _=>0);case atStart=>exact⟨rfl,rfl⟩
 case round=>obtain⟨rfl,rfl⟩:=hrel;go_wp2;go_end0;exact⟨rfl,rfl⟩
def aMG(g c:Nat)(x:zz)(w:A1)(h:w.cell? ⟨g,0,J⟩=Z (DD 123 (AH #[x]))):Ab A6 58 #[A0 (Z ⟨g,0,J⟩) 1 c] w λe w'=>e=AV (AH #[x,A0 J 0 0,A0 J 0 0,A0 J 0 0])/\AO w w w':=by
 have N:=ga;have a2:=gb;have a3:=a3a;have hg:=Cn (h:=h);have I:AE (AO (AR w) w ((w.alloc (A7 #[A4 {data:=#[]},A0 J 0 0,A0 J 0 0,A0 J 0 0] 128)).alloc (A7 #[A4 {data:=#[]},A0 J 0 0,A0 J 0 0,A0 J 0 0] 128))):=K9 ..;have hx1:=keep I h;clear h;go_enter Tryz.func58,Tryz.ntmps58;go_wp2;go_loopw[12]λi wr=>i=AX 0/\wr=(w.alloc (A7 #[A4 {data:=#[]},A0 J 0 0,A0 J 0 0,A0 J 0 0] 128)).alloc (A7 #[A4 {data:=#[]},A0 J 0 0,A0 J 0 0,A0 J 0 0] 128)∨i=AX 1/\wr=((w.alloc (A7 #[A4 {data:=#[]},A0 J 0 0,A0 J 0 0,A0 J 0 0] 128)).alloc (A7 #[x,A0 J 0 0,A0 J 0 0,A0 J 0 0] 128)).alloc (A7 #[x] 123)(λi _=>1-(B0 i).toNat);case atStart=>exact AA ⟨rfl,rfl⟩
 case round=>
  rcases hrel with⟨rfl,rfl⟩|⟨rfl,rfl⟩;.go_wp2;exact⟨AF ⟨rfl,trivial⟩,by simp[B0]⟩
  go_wp2;(try simp only[Sg,Exit.then]);exact IT (Ss rfl _ _ w 128 #[x,A0 J 0 0,A0 J 0 0,A0 J 0 0] (0,0) _ rfl (by rw[BU _ _ _ (by simp only[Ck];omega),BU _ _ _ (by simp only[Ck];omega)];exact CS _ _ _ rfl) Tryz.underlying128 rfl (rfl)) rfl ⟨rfl,R3 ..⟩
def aY0(w f):Ab A6 151 #[A0 J 0 0,f] w λe w'=>e=AV (Aj #[])/\w'=w:=by
 have H:=A2 λh=>aQ6 h f;have N:AE (∀h,Ab A6 224 #[A0 J 0 0,AX 0,AX 0,AX 0,f] h λe w'=>e=AV (Aj #[])/\w'=h):=by
  refine λh=>?_;go_enter Tryz.func224,Tryz.ntmps224;go_wp2;go_loopw[1,2]λi j wr=>i=AX 0/\j=AX 0/\wr=h(λ_ _ _=>0);case atStart=>exact⟨rfl,rfl,rfl⟩
  case round=>obtain⟨rfl,rfl,rfl⟩:=hrel;go_wp2_with fail;refine(H _).mono ?_;rintro e I⟨rfl,rfl⟩;go_wp2;refine IT (results_none rfl _ _ _) rfl ?_;exact⟨rfl,rfl⟩
 go_enter Tryz.func151,Tryz.ntmps151;go_wp2_with fail;refine(Tryz.bits_Len 0 _ Ac Ac).mono ?_;rintro e I⟨rfl,rfl⟩;go_wp2_with fail;refine(N _).mono ?_;rintro e I⟨rfl,rfl⟩;go_wp2;go_end0;exact⟨rfl,rfl⟩
end
def V.wN:zx:=[48,49,50,51,52,53,54,55,56,57,97,98,99,100,101,102]
def V.Ls(n:Nat):UInt8:=V.wN[n%16]!
def V.TT:Nat->Nat->zx->zx|0,_,s=>s|n+1,u,s=>V.TT n (u/16) (V.Ls u::s)
def V.Mj:Nat->Nat->zx->zx|0,u,s=>V.Ls u::s|n+1,u,s=>if 16<=u then V.Mj n (u/16) (V.Ls u::s)else V.Ls u::s
theorem V.a6a:∀(n u)(s),V.TT n u s=n+s|0,_,s=>by simp[V.TT]|n+1,u,s=>by rw[V.TT,V.a6a n];grind
def V.a6b:∀(n)(s),V.TT n 0 s=Dt n 48++s|0,s=>rfl|n+1,s=>by rw[V.TT,Nat.zero_div,V.a6b n,List.replicate_succ'];simp[V.Ls,V.wN]
theorem V.aC8:∀(n u)(s),s.length+1<=(V.Mj n u s).length/\(V.Mj n u s).length<=s.length+1+n|0,_,s=>by simp[V.Mj]|n+1,u,s=>by rw[V.Mj];have:=V.aC8 n (u/16) (V.Ls u::s);grind
theorem V.a6e:∀(n u:Nat)(s:zx),u<16^(n+1)->V.TT (n+1) u s=Dt (n+1+s-V.Mj n u s) 48++V.Mj n u s
 |0,u,s,h=>by simp[V.TT,V.Mj];omega
 |n+1,u,s,h=>by
  rw[V.TT,V.Mj];by_cases I:16<=u;.rw[if_pos I,V.a6e n (u/16) (V.Ls u::s) (by rw[aHq A'];rwa[aHw]at h)];grind
  rw[if_neg I,Nat.div_eq_of_lt A',V.a6b];grind
def V.kD(h:Int):zx:=V.TT 16 h.toNat []
section
open Go.RowKit
theorem aZd(w)(hm:w.cell? ⟨5,15,J⟩=Z (AB Gc 4)):Ab A6 438 #[AB Da 16] w λe w'=>e=AV (AB AJ 4)/\w'=w:=by have e1:bits aDh Da 16 (Da.wrap (-16))=16:=rfl;have e2:Da.wrap 4573923408821661840=4573923408821661840:=rfl;go_wp2;go_ret;simp_all
theorem aZe(w)(hm:w.cell? ⟨5,15,J⟩=Z (AB Gc 4)):Ab A6 421 #[AB Da 16] w λe w'=>e=AV (AB AJ 4)/\w'=w:=by go_enter Tryz.func421,Tryz.ntmps421;go_wp2_with(refine(aZd _ hm).mono ?_;rintro e w'⟨rfl,rfl⟩);go_ret;simp_all
def aUI(w):Ab A6 420 #[AB AJ 16] w λe w'=>e=AV (Ag A5)/\w'=w:=by go_wp2;go_ret;trivial
def ft(b:Nat)(wr:A1)(s:zx):Prop:=s.length<=65/\(∀j,j<65->(∃x,wr.cell? ⟨b,j,J⟩=Z x)/\wr.frozen? ⟨b,j,J⟩=A9)/\∀j(h:j<s.length),wr.cell? ⟨b,65-s+j,J⟩=Z (AB Gc ((s[j].toNat:Nat):Int))
theorem ft.push{b:Nat}{wr:A1}{s:zx}(c:UInt8)(h:ft b wr s)(hs:s.length<65):ft b (wr.setCell ⟨b,64-s,J⟩ (AB Gc ((c.toNat:Nat):Int))) (c::s):=by
 let⟨_,h2,h3⟩:=h;refine⟨BA,λj hj=>?_,λj hj=>?_⟩
 .refine⟨?_,?_⟩
  .by_cases e:j=64-s;.subst e;let⟨x,hx⟩:=(h2 _ hj).1;exact⟨_,lf _ _ _ hx⟩
   rw[Vz (h:=λe2=>by injection e2;omega)];exact(h2 j hj).1
  simp_all
 cases j with|zero=>let⟨x,hx⟩:=(h2 (64-s) A').1;rw[show 65-(c::s).length+0=64-s.length by simp];exact lf _ _ _ hx|succ j=>rw[show 65-c::s+(j+1)=65-s+j by simp;omega,Vz (h:=λe2=>by injection e2;omega)];exact h3 j (Ai hj)
def aIz(v:Nat)(h:v<18446744073709551616):bits aDh Da (v:Int) 15=((v%16:Nat):Int):=by let I:=bits_and_u64_nat v 15 h Ac;rwa[Nat.and_two_pow_sub_one_eq_mod v 4]at I
def ZD:zz:=⟨#[48,49,50,51,52,53,54,55,56,57,97,98,99,100,101,102,103,104,105,106,107,108,109,110,111,112,113,114,115,116,117,118,119,120,121,122]⟩
def a6c(v)(h):ZD[v%16]=V.Ls v:=by have hv:v%16<16:=mi _ Ac;unfold V.Ls;generalize v%16=k at hv h⊢;let I:∀k:Fin 16,ZD.data[k.1]?=Z (V.wN[k.1]!):=Ac;let⟨_,h2⟩:=Array.getElem?_eq_some_iff.1 (I ⟨k,hv⟩);exact h2
theorem a6d(v)(hv:v<16)(h):ZD[v]=V.Ls v:=by have:=a6c v (Ar (Nat.mod_eq_of_lt hv));grind
theorem a_k(j)(h:j<65):(Array.replicate 65 (AB Gc 0))[j]?=Z (AB Gc 0):=by grind
def aM6(u:Nat)(hu:u<18446744073709551616)(w:A1)(hm:w.cell? ⟨5,15,J⟩=Z (AB Gc 4)):Ab A6 379 #[A0 J 0 0,AB Da u,AB AJ 16,Ag A9,Ag A9] w λe w'=>∃s:zz,e=AV (Aj #[A0 J 0 0,A4 s])/\s=V.Mj 15 u []/\AO w w w':=by
 have M:=λo=>BR hm o;go_enter Tryz.func379,Tryz.ntmps379;go_wp2_with(first|(go_at_call 420;refine(aUI _).mono ?_;rintro e w'⟨rfl,rfl⟩)|(go_at_call 421;refine(aZe _ (M _)).mono ?_;rintro e w'⟨rfl,rfl⟩));go_loopw[1,13]λI d wr=>∃(v:Nat)(s:zx),I=AB Da v/\d=AX (65-s)/\s.length<=15/\v<18446744073709551616/\AE (v<16^(16-s.length))/\AE (V.Mj (15-s.length) v s=V.Mj 15 u [])/\AE (ft (AR w) wr s)/\AO (AR w) w wr(λI _ _=>(M9 I).toNat);case atStart=>refine⟨u,[],rfl,rfl,AD,hu,hu,rfl,⟨AD,λj hj=>?_,λj hj=>absurd hj (gJ _)⟩,(Az _ _).alloc (Ad _) _⟩;refine⟨⟨AB Gc 0,?_⟩,World.frozen?_alloc_new _ _ _ _⟩;rw[World.cell?_alloc_new];exact a_k j hj
 case round=>
  obtain⟨v,s,rfl,rfl,hs,hv,z,C,U,hb⟩:=hrel;have ha:=aIz v hv;have hc:=U.o.2.1 (65-s-1) A';obtain⟨⟨x,hc⟩,hf⟩:=hc;by_cases D:16<=v
  .go_wp2;go_round;case rel=>
    have hp:s.length+1<=15:=by
     by_cases e:s.length=15;.exfalso;have:=z.o;rw[e]at this;omega
     omega
    refine⟨v/16,V.Ls v::s,BV,BV,Ai hp,A',?_,?_,?_,hb.setCell (Ad _) _⟩;.refine A2 ?_;have N:=z.o;rw[show 16-s.length=16-(s.length+1)+1 by omega,aHw]at N;simp only[T3];omega
    .refine A2 ?_;rw[<-C.o,show 15-s.length=15-(s.length+1)+1 by omega];simp only[T3,V.Mj,if_pos D]
    refine A2 ?_;have h0:v%16<ZD.size:=by have:v%16<16:=mi _ Ac;exact Hw this Ac
    have N:ft (AR w) (wr.setCell ⟨AR w,65-s-1,J⟩ (AB Gc ((ZD[v%16].toNat:Nat)))) (V.Ls v::s):=by rw[a6c v h0,show 65-s.length-1=64-s.length by omega];exact U.o.push _ A'
    exact N
   case measure=>simp[M9];omega
  have S:∀W,(Instr.sliceAt 513 (XU (AR w)) (Z (AX (65-s-1))) J J).run A6 W=.ok (BG (AR w) (65-s-1) (s+1) (s+1)) W:=by
   intro W;have H:A6.arrayLen 513=65:=by simp[aF6,aFS]
   rw[run_sliceAt_array_l W 513 ⟨AR w,0,J⟩ (by simp[aF6,aaB,aFS]) AJ _ A' (by rw[H];omega),H];go_simp;omega
  have i:=run_convert_bytes_back (wr.setCell ⟨AR w,64-s.length,J⟩ (AB Gc (((V.Ls v).toNat:Nat)))) 188 9 5 ⟨AR w,64-s,J⟩ (s+1) (V.Ls v::s) Tryz.underlying188 Tryz.underlying5 fI (λj hj=>by
   have N:=(U.o.push (V.Ls v) A').2.2 j hj;rwa[show(⟨AR w,64-s.length,J⟩:An).add j=⟨AR w,65-V.Ls v::s+j,J⟩by
    unfold Addr.add;split;.subst_vars;simp
    simp]);rw[<-a6d v A' (Hw (A':v<16) Ac),T3,show 64-s.length=65-s.length-1 by omega]at i;have Y:AE _:=i;unfold ZD at i;go_wp2;go_ret2;refine⟨_,rfl,?_,hb.setCell (p:=⟨_,_,J⟩) (Ad _) _⟩;rw[<-C.o];have e:V.Mj (15-s) v s=V.Ls v::s:=by cases h:15-s.length with|zero=>rfl|succ n=>rw[V.Mj,if_neg D]
  rw[e];have e2:ZD[v]'(Hw (A':v<16) Ac)=V.Ls v:=a6d v A' _;rw[<-e2];rfl
theorem aM7(u:Nat)(hu:u<18446744073709551616)(w)(hm:w.cell? ⟨5,15,J⟩=Z (AB Gc 4)):Ab A6 216 #[AB Da u,AB AJ 16] w λe w'=>∃s:zz,e=AV (A4 s)/\s=V.Mj 15 u []/\AO w w w':=by
 have h:Ab A6 313 #[AB Da u,AX 16] w λe w'=>∃s:zz,e=AV (A4 s)/\s=V.Mj 15 u []/\AO (AR w) w w':=by go_enter Tryz.func313,Tryz.ntmps313;go_wp2_with(refine(aM6 u hu _ hm).mono ?_;rintro e w'⟨s,rfl,hs,hb⟩);go_ret;exact⟨_,rfl,hs,hb⟩
 go_enter Tryz.func216,Tryz.ntmps216;go_wp2_with(refine h.mono ?_;rintro e w'⟨s,rfl,hs,hb⟩);go_ret;simp_all
def a3f{c}(hc:c<16):c=0∨c=1∨c=2∨c=3∨c=4∨c=5∨c=6∨c=7∨c=8∨c=9∨c=10∨c=11∨c=12∨c=13∨c=14∨c=15:=A'
theorem mul_one(c:Nat)(hc:c<16)(w):Ab A6 314 #[AB Da 1,AB Da c] w λe w'=>e=AV (Aj #[AB Da 0,AB Da c])/\w'=w:=by
 have h:Ab A6 381 #[AB Da 1,AB Da c] w λe w'=>e=AV (Aj #[AB Da 0,AB Da c])/\w'=w:=by go_enter Tryz.func381,Tryz.ntmps381;go_wp2;go_ret2;refine⟨?_,rfl⟩;rcases a3f hc with rfl|rfl|rfl|rfl|rfl|rfl|rfl|rfl|rfl|rfl|rfl|rfl|rfl|rfl|rfl|rfl<;>kernel_rfl
 go_enter Tryz.func314,Tryz.ntmps314;go_wp2_with(go_at_call 381;refine h.mono ?_;rintro e w'⟨rfl,rfl⟩);go_ret2;simp_all
def yW(c:Nat):zz:=⟨(Dt c 48).toArray⟩
def aW5(c:Nat)(hc:c<16)(w:A1):Ab A6 217 #[A4 ⟨#[48]⟩,c] w λe w'=>e=AV (A4 (yW c))/\w'=w:=by
 by_cases h0:c=0;.subst h0;go_enter Tryz.func217,Tryz.ntmps217;go_wp2;go_ret;exact⟨rfl,rfl⟩
 by_cases h:c=1;.subst h;go_enter Tryz.func217,Tryz.ntmps217;go_wp2;go_ret;exact⟨rfl,rfl⟩
 go_enter Tryz.func217,Tryz.ntmps217;go_wp2_with(first|(go_at_call 314;refine(mul_one c hc _).mono ?_;rintro e w'⟨rfl,rfl⟩)|(go_at_call 168;refine(Tryz.strings_HasPrefix _ _ _).mono ?_;rintro e w'⟨rfl,rfl⟩));go_ret;refine⟨?_,rfl⟩;rcases a3f hc with rfl|rfl|rfl|rfl|rfl|rfl|rfl|rfl|rfl|rfl|rfl|rfl|rfl|rfl|rfl|rfl;all_goals first|exact absurd rfl h0|exact absurd rfl h|kernel_rfl
def aAF(c):(yW c).data.toList=Dt c 48:=by rfl
def aYk(u:Nat)(hu:u<18446744073709551616)(w:A1)(hm:w.cell? ⟨5,15,J⟩=Z (AB Gc 4)):Ab A6 139 #[AB Da u] w λe w'=>∃t:zz,e=AV (A4 t)/\t=V.kD u/\AO w w w':=by
 go_enter Tryz.func139,Tryz.ntmps139;go_wp2_with fail;go_at_call 216;refine(aM7 u hu _ hm).mono ?_;rintro e I⟨s,rfl,hs,hb⟩;have hl:=V.aC8 15 u [];rw[<-hs]at hl;have hz:=by have e1:s.data.toList.length=s.size:=AD;rw[e1]at hl;simpa using hl
 have hq:16-s.size=((16-s.size:Nat):Int):=A';have hr:=λw=>aW5 (16-s.size) A' w;rw[<-hq]at hr;have hn:=Ai (congrArg mZ (aAF (16-s.size)));have h:=A2 hs;clear hs hl hq;go_wp2_with(go_at_call 217;refine(hr _).mono ?_;rintro e w'⟨rfl,rfl⟩);go_ret;refine⟨_,rfl,?_,hb⟩;have e2:(yW (16-s.size)++s).data.toList=Dt (16-s.size) 48++s.data.toList:=by rw[<-aAF];simp
 rw[e2];unfold V.kD;rw[bS,V.a6e 15 u [] hu,<-h.o];simp
def aLS(a)(n c)(w):(OQ OK 73 (A0 (Z a) n c) (A0 J 0 0)).run A6 w=.ok (Ag A9) w:=rfl
def aJY(w):(ar 73 0 #[]).run A6 w=.ok (A0 (Z ⟨w,0,J⟩) 0 0) (w.alloc (A7 #[] 77)):=A8
def aQ4:(A6.info? 77).map (λi=>(i.zero,i.size,i.bytes))=Z (Z (AH #[A4 ⟨#[]⟩,A4 ⟨#[]⟩]),2,32):=rfl
def aK1(a Bm:Nat)(x y:zz)(w:A1)(h0:w.cell? ⟨a,0,J⟩=Z (A4 x))(N:w.cell? ⟨a,1,J⟩=Z (A4 y)):Ab A6 211 #[A0 (Z ⟨a,0,J⟩) 1 Bm] w λe w'=>∃h cc,e=AV (A0 (Z ⟨h,0,J⟩) 1 cc)/\w'.ownsRow w 77 2 (A0 (Z ⟨h,0,J⟩) 1 cc) 1 [x,y]/\AO w w w':=by
 let⟨i0,hi,hz0,hz1,hz2⟩:=FJ aQ4;have i:=aLS;have z:=aJY;have HM:=A2 h0;have H1:=A2 N;clear h0 N;go_enter Tryz.func211,Tryz.ntmps211;go_wp2_with(at_builtin;refine IU _ rfl _ _ 73 rfl (AR w) 77 i0 (AH #[A4 ⟨#[]⟩,A4 ⟨#[]⟩]) 2 32 Tryz.underlying73 hi hz0 hz1 hz2 rfl Ac _ _ _ rfl ⟨rfl,AF ⟨AR w,0,#[],rfl,Ad _,CS w _ _ rfl,A',DQ,rfl,rfl⟩⟩ ⟨a,0,J⟩ 1 Bm [x,y] rfl rfl ?c1 Of DQ A' AD ?_);case c1=>intro j u hj;match j,hj with|0,hj=>simp at hj;subst hj;rw[Ea];exact BR HM _|1,hj=>simp at hj;subst hj;rw[Ea];exact BR H1 _
 intro v' w2 U BN _;have hb2:=((Az _ w).alloc (Ad _) _).grown BN AD (λk hk=>by simp[Kt]at hk;omega);obtain⟨h,cc,hv⟩:∃h cc,v'=BG h 0 1 cc:=by
  rcases U.2 with⟨_,h0⟩|⟨h,cc,cur,hv,_⟩;.omega
  exact⟨h,cc,Ai hv⟩
 subst hv;have d:=A2 (Ai U);have I:=A2 hb2;go_wp2;go_ret;exact⟨h,cc,rfl,d,I⟩
def aQ8(p c f w):Ab A6 374 #[A0 p 1 c,AB AJ 0,AB AJ 1,f] w λe w'=>e=AV (Aj #[])/\w'=w:=by
 go_enter Tryz.func374,Tryz.ntmps374;go_wp2_with fail;go_loopw[8]λi wr=>i=AX 1/\wr=w(λ_ _=>0);case atStart=>exact⟨rfl,rfl⟩
 case round=>obtain⟨rfl,rfl⟩:=hrel;go_wp2;go_end0;exact⟨rfl,rfl⟩
def aYI(p c f w):Ab A6 312 #[A0 p 1 c,AB AJ 1,f] w λe w'=>e=AV (Aj #[])/\w'=w:=by
 go_enter Tryz.func312,Tryz.ntmps312;go_wp2_with fail;go_loopw[7,8]λa b wr=>a=AX 0/\b=AX 20/\wr=w(λ_ _ _=>0);case atStart=>exact⟨rfl,rfl,rfl⟩
 case round=>
  obtain⟨rfl,rfl,rfl⟩:=hrel;go_wp2_with fail;refine(aQ8 p c f _).mono ?_;rintro e h⟨rfl,rfl⟩;go_wp2_with fail;go_loopw[6]λb wr=>b=AX 20/\wr=h(λ_ _=>0);case atStart=>exact⟨rfl,rfl⟩
  case round=>obtain⟨rfl,rfl⟩:=hrel;go_wp2;go_end0;exact⟨rfl,rfl⟩
theorem aY4(p)(c)(f)(w):Ab A6 212 #[A0 p 1 c,f] w λe w'=>e=AV (Aj #[])/\w'=w:=by go_enter Tryz.func212,Tryz.ntmps212;go_wp2_with fail;refine(aYI p c f _).mono ?_;rintro e h⟨rfl,rfl⟩;go_wp2;go_end0;grind
def aKB(p c f w):Ab A6 214 #[A0 p 1 c,f] w λe w'=>e=AV (A0 p 1 c)/\w'=w:=by go_wp2;go_ret;exact⟨rfl,rfl⟩
def aPv(a Bm)(x y)(w)(h0:w.cell? ⟨a,0,J⟩=Z (A4 x))(U:w.cell? ⟨a,1,J⟩=Z (A4 y)):Ab A6 138 #[A0 (Z ⟨a,0,J⟩) 1 Bm] w λe w'=>∃h cc,e=AV (A0 (Z ⟨h,0,J⟩) 1 cc)/\w'.ownsRow w 77 2 (A0 (Z ⟨h,0,J⟩) 1 cc) 1 [A4 x,A4 y]/\AO w w w':=by go_enter Tryz.func138,Tryz.ntmps138;go_wp2_with fail;refine(aK1 a Bm x y _ h0 U).mono ?_;rintro e w1⟨h,cc,rfl,hown,hb1⟩;have N:=A2 hown;have I:=A2 hb1;go_wp2_with fail;refine(aY4 _ cc _ _).mono ?_;rintro e w2⟨rfl,rfl⟩;go_wp2_with fail;refine(aKB _ cc _ _).mono ?_;rintro e w3⟨rfl,rfl⟩;go_wp2_with fail;go_ret;exact⟨h,cc,rfl,N,I⟩
end
section
open Go.RowKit Go.Sort
variable{w:A1}
def aLU(a)(n c)(w):(OQ OK 99 (A0 (Z a) n c) (A0 J 0 0)).run A6 w=.ok (Ag A9) w:=rfl
def aJ_(w):(ar 99 0 #[]).run A6 w=.ok (A0 (Z ⟨w,0,J⟩) 0 0) (w.alloc (A7 #[] 179)):=A8
def a8t(x):(LM x).oneCell'=A5:=rfl
def aK'(B N Bm:Nat)(L:List (Nat×List zz))(w:A1)(hl:L.length<=1000000000000)(hne:L≠[])(hown:w.ownsRow B 179 1 (A0 (Z ⟨N,0,J⟩) L Bm) L (L.map LM)):Ab A6 96 #[A0 (Z ⟨N,0,J⟩) L Bm] w λe w'=>∃I cc,e=AV (A0 (Z ⟨I,0,J⟩) L cc)/\w'.ownsRow w 179 1 (A0 (Z ⟨I,0,J⟩) L cc) L (L.map LM)/\Below w w w':=by
 let⟨i0,hi,hz0,hz1,hz2⟩:=FJ om;have U:=hown.cells rfl;have D:=A2 U;have M:=List.length_pos_iff.2 hne;have S:=aLU;have Y:=aJ_;have d:AE ((L.map LM).length=L):=Gf ..;have i:AE (∀j u,(L.map LM)[j]?=Z u->w.cell? ((⟨N,0,J⟩:An).add j)=Z u):=A2 U;have z:AE (∀u∈L.map LM,u.oneCell'=A5):=λu hu=>by obtain⟨x,_,rfl⟩:=Bt.1 hu;exact a8t x
 generalize L.map LM=xs at d i z⊢;generalize L.length=n at*;clear hown U D;go_enter Tryz.func96,Tryz.ntmps96;go_wp2_with(at_builtin;refine IU _ rfl _ _ 99 rfl (AR w) 179 i0 CN 1 16 lV hi hz0 hz1 hz2 rfl Ac _ _ _ rfl ⟨rfl,AF ⟨AR w,0,#[],rfl,Ad _,OS w _,A',DQ,rfl,rfl⟩⟩ ⟨N,0,J⟩ n Bm xs rfl ?c0 ?c1 z DQ A' AD ?_);case c0=>rw[d.o,Nat.mul_one]
 case c1=>intro j u hj;have h:=i j u hj;rw[Ea]at h⊢;exact BR h _
 intro v' w2 C BN _;have hb2:=((Az _ w).alloc (Ad _) _).grown BN AD (λk hk=>by simp[Kt]at hk;omega);obtain⟨I,cc,hv⟩:∃I cc,v'=BG I 0 n cc:=by
  rcases C.2 with⟨_,h0⟩|⟨I,cc,cur,hv,_⟩;.omega
  exact⟨I,cc,hv⟩
 subst hv;have H:=A2 (Ai C);go_wp2;go_ret;exact⟨I,cc,rfl,H,hb2⟩
abbrev gE:Type:={x:Nat×List zz//V.Valid x.1 x.2}
instance:Inhabited gE:=⟨⟨(123,[⟨#[97]⟩]),⟨AA ⟨rfl,_,rfl⟩,Ac⟩⟩⟩
def Wa(x:gE):A3:=LM x.1
def Yl(x y:gE):Int:=V.ord (V.place x.1.1 x.1.2) (V.place y.1.1 y.1.2)
theorem aYl:SWO (RY Yl)where
 irrefl x:=by grind[RY,Yl,V.P3.refl]
 trans x y z h1 h2:=by
  unfold RY Yl at*;rw[decide_eq_true_eq]at*;let t:=V.P3.2.2 (V.place x.1.1 x.1.2) (V.place y.1.1 y.1.2) (V.place z.1.1 z.1.2) A' A';let r1:=V.P3.2.1 (V.place x.1.1 x.1.2) (V.place z.1.1 z.1.2);by_cases h0:V.ord (V.place x.1.1 x.1.2) (V.place z.1.1 z.1.2)=0;.let h:=V.P3.2.2 (V.place z.1.1 z.1.2) (V.place x.1.1 x.1.2) (V.place y.1.1 y.1.2) A' A';let r2:=V.P3.2.1 (V.place y.1.1 y.1.2) (V.place z.1.1 z.1.2);omega
  grind
 ntrans x y z h1 h2:=by unfold RY Yl at*;rw[decide_eq_false_iff_not]at*;let r1:=V.P3.2.1 (V.place x.1.1 x.1.2) (V.place y.1.1 y.1.2);let r2:=V.P3.2.1 (V.place y.1.1 y.1.2) (V.place z.1.1 z.1.2);let r3:=V.P3.2.1 (V.place x.1.1 x.1.2) (V.place z.1.1 z.1.2);let t:=V.P3.2.2 (V.place z.1.1 z.1.2) (V.place y.1.1 y.1.2) (V.place x.1.1 x.1.2) A' A';omega
theorem aMT{w':A1}(h:Below w w w')(hd:w.drawn<=w'.drawn):∃q os,w'=grow (w.drewN q) os:=by let⟨p,hp⟩:=aFw h;let I:w.drawn<=p.d:=yu hp hd;refine⟨p.d-w.drawn,p.os,?_⟩;rw[hp];unfold sf aFg;grind
theorem aJi{blk m:Nat}{d:Array gE}{os:Array Cq}{v:A3}(hb:blk≠0)(h:w.cell? ⟨0,0,J⟩=v):(a1G Wa w blk 0 m d os).cell? ⟨0,0,J⟩=v:=by have h0:=pa h;unfold a1G;rwa[cell?_grow _ _ _ (by simp_all),cell?_putRow_other _ _ _ _ _ _ (AA λe=>hb e.symm)]
def aK5(h I)(m)(w)(hb:h≠0)(hm:w.cell? ⟨0,0,J⟩=Z (AB AJ m)):CmpLays1 A6 98 #[] Wa Yl h 0 I w:=by intro k os U _ x y;refine(aK3 x.1 y.1 m _ x.2 y.2 (aJi hb hm)).mono ?_;rintro e w'⟨rfl,N,hd⟩;exact⟨rfl,aMT N hd⟩
def Tg(L:List (Nat×List zz))(hv:∀x∈L,V.Valid x.1 x.2):List gE:=L.pmap (λx h=>⟨x,h⟩) hv
theorem a8y(L)(hv):(Tg L hv).map (·.1)=L:=by simp_all[Tg,th]
def aR6(L)(hv):(Tg L hv).map Wa=L.map LM:=by
 conv=>rhs;rw[<-a8y L hv]
 rw[Ld];rfl
theorem aLD:∀h w,(MA 98 h).run A6 w=.ok (NY 98 h) w:=by simp_all
def aXw(B I cc:Nat)(m:Int)(L:List (Nat×List zz))(w:A1)(hl:L.length<=1000000000000)(hv:∀x∈L,V.Valid x.1 x.2)(hB:0<B)(hown:w.ownsRow B 179 1 (A0 (Z ⟨I,0,J⟩) L cc) L (L.map LM))(hm:w.cell? ⟨0,0,J⟩=Z (AB AJ m)):Ab A6 97 #[A0 (Z ⟨I,0,J⟩) L cc,Br (Bo 98) #[] #[]] w λe w'=>e=AV (Aj #[])/\∃R,R.Perm L/\V.PY R/\(∀j(h:j<R.length),w'.cell? ⟨I,j,J⟩=Z (LM R[j]))/\Below B w w':=by
 let hlt:=hown.lt I rfl;let u:Holds Wa w I 0 (Tg L hv).toArray:=by obtain⟨g,cap,e,_,_,_,_,_,h⟩:=Lib.holds_of_ownsRow (zs:=Tg L hv) (Ar aR6) BA;injection e with e1;injection e1 with e1;injection e1 with e1;subst e1;exact h
 let N:(Tg L hv).toArray.size=L:=by simp[Tg]
 let h:=Any.slices_SortFunc Tryz.aXu Wa (λx=>a8t x.1) Yl aYl 98 #[] I 0 cc (Tg L hv).toArray w aLD (aK5 I _ m w A' hm) u hlt.2 BA;rw[N]at h;refine h.mono ?_;rintro e w'⟨rfl,d',n,os,hp,hs,rfl⟩;let hd:d'.size=L:=by rw[hp.1,N]
 have C:=by let h3:=hp.2.2;rw[<-hd,eM]at h3;rw[show(Tg L hv).toArray.extract 0 d'.size=(Tg L hv).toArray from As hp.1 eM]at h3;simpa using h3
 refine⟨rfl,d'.toList.map (·.1),?_,?_,?_,?_⟩;.have:=C.map (·.1);rwa[a8y]at this
 .unfold V.PY;rw[I8,Qc];intro i j hi hj hij;have:=hs i j (JS _) hij (by rw[<-hd];simpa using hj);unfold RY Yl at this;rw[getElem!_pos d' i (Ai hi),getElem!_pos d' j (Ai hj)]at this;simpa using this
 .intro j hj;have z:=Ai hj;have:=(holds_sortWorld Wa w I 0 n _ d' os hlt.2 u (by rw[hd,N]) j z).1;rw[My,getElem!_pos d' j z]at this;rw[this];simp[Wa]
 unfold a1G;let U:=Lib.below_putRow (enc:=Wa) (q:=n) (d:=d') (Az B w) hlt.1;refine U.trans ⟨rfl,rfl,rfl,AD,λk hk=>?_⟩;show(_++os)[k]?=_;rw[a's];have:=U.size;omega
end
section
open Go.RowKit
def aYg(l):ax ⟨l.toArray⟩=IS l:=by rfl
theorem a3o(a b):IS a++IS b=IS (a++b):=by grind[IS]
theorem uV(a):(IS a).length=a:=by grind[IS,Gf]
def aJf:[AB Gc 10]=IS [10]:=rfl
theorem aZ6(R:List (Nat×List zz))(k)(h):V.G6 (R.take (k+1))=V.G6 (R.take k)++(V.IJ R[k].1 R[k].2++[10]):=by grind[V.G6,T4]
def aLF{t fs}(h:V.Valid t fs)(args)(w):(MA (kG t) args).run A6 w=.ok (NY (kG t) args) w:=by
 rcases V.Xf h with⟨rfl,_⟩|⟨rfl,_⟩|⟨rfl,_⟩|⟨rfl,_⟩;.exact a1F Tryz.func472 (rfl) rfl args w
 .exact a1F Tryz.func474 (rfl) rfl args w
 .exact a1F Tryz.func475 (rfl) rfl args w
 rfl
theorem aJa{T e B b:Nat}{B5:List A3}{w w':A1}(h:Mq T e B b B5 w)(hb:AO w w w'):Mq T e B b B5 w':=by
 let I:∀p,Vt T e B b p B5 w->Vt T e B b p B5 w':=by
  rintro p⟨U,v,h2,h3,h4⟩;let hlt:b<AR w:=by
   rcases Nat.lt_or_ge b (AR w)with N|N;.grind
   grind
  refine⟨U,v,Ar (hb.block b hlt),?_,h4⟩;refine h3.kept (row:=J) ⟨hb.os,hb.tape,hb.output,hb.size,λk hk _=>hb.block k hk⟩ ?_;cases v.ownBlock with|none=>grind|some x=>grind
 rcases h with h|h;.exact AA (I _ h)
 exact AF (I _ h)
def aAK(B j Bm:Nat)(m:Int)(L:List (Nat×List zz))(w:A1)(hl:L.length<=100000000000)(hne:L≠[])(hv:∀x∈L,V.Valid x.1 x.2)(hown:w.ownsRow B 179 1 (A0 (Z ⟨j,0,J⟩) L Bm) L (L.map LM))(hm:w.cell? ⟨0,0,J⟩=Z (AB AJ m)):Ab A6 46 #[A0 (Z ⟨j,0,J⟩) L Bm] w λe w'=>∃R,R.Perm L/\V.PY R/\e=AV (A4 ⟨(V.G6 R).toArray⟩)/\AO w w w':=by
 go_enter Tryz.func46,Tryz.ntmps46;go_wp2_with fail;refine(aK' B j Bm L _ A' hne hown).mono ?_;rintro e w1⟨CE,cc,rfl,HA,hb1⟩;have Nh:=A2 HA;have n3:=A2 hb1;have Ec:=keep hb1 hm;have h0:=pa hm;clear HA hb1 hown;go_wp2_with fail;refine(aXw (AR w) CE cc m L _ A' hv h0 Nh.o Ec).mono ?_;rintro e w2⟨rfl,R,d,hord,hcells,hb2⟩;have DL:=A2 d;have BC:=A2 hord;have Cg:=A2 hcells;have v2:=A2 (n3.o.trans hb2);have hlen:=d.length_eq.symm;have v3:=A2 λx hx=>hv x (d.mem_iff.1 hx);have Au:AE (∀k,(V.G6 (R.take k)).length<=36700000000000):=by
  refine A2 λk=>?_;have h1:=V.aCe (R.take k) λx hx=>v3.o x (mb hx);have h2:(R.take k).length<=R.length:=by rw[UK];omega
  omega
 have iq:R≠[]:=by intro e;rw[e]at hlen;exact hne (ma.1 hlen)
 have hz2:=v2.o.size;clear d hord hcells hb2 hv;rw[hlen]at hl⊢;have Wu:Mq 190 5 (AR w2) (AR w2) [] (w2.alloc (A7 #[B2 J,A0 J 0 0] 190)):=AA ⟨Ad _,A0 J 0 0,OS w2 _,⟨rfl,AA ⟨rfl,rfl⟩⟩,by simp[Kt]⟩;have mB:=A2 Wu;clear Wu hlen;go_wp2;go_loopw[13]λi wr=>∃k:Nat,k<=R/\i=AX k/\AE (Mq 190 5 (AR w2) (AR w2) (IS (V.G6 (R.take k))) wr/\AO (AR w2) w2 wr)(λi _=>R-(B0 i).toNat);case atStart=>exact⟨0,A',rfl,A2 ⟨mB.o,(Az ..).alloc (Ad _) _⟩⟩
 case round=>
  obtain⟨k,hk,rfl,H⟩:=hrel;obtain⟨MU,hb⟩:=H.o;have u:=A2 MU;have N:=A2 hb;clear H MU hb;by_cases hlt:k<R
  .have c0:=keep N.o (Cg.o k hlt);have U:=A2 (aZ6 R k hlt);have h:=v3.o R[k] (Ci hlt);have ad2:=Au.o k;have z:=Au.o (k+1);rw[U.o,DV,DV]at z;have hwr:AR w2<=AR wr:=N.o.size;generalize R[k]=x at c0 U h z;obtain⟨t,fs⟩:=x;rw[LM]at c0;simp only at c0 U h z;have C:=@aSX t fs h;have ZC:=@aLF t fs h;have D:=@aZ8 t fs h;have M:AE (ax (XG (t,fs))=IS (V.IJ t fs)):=A2 (aYg _);have li:(XG (t,fs)).size=V.IJ t fs:=by show(V.IJ t fs).toArray.size=_;rw[Rm]
   generalize XG (t,fs)=S at D M li;generalize kG t=fn at C ZC D;clear h;go_wp2_with fail;refine(D _).mono ?_;rintro e w3⟨rfl,Y⟩;have iJ:Mq 190 5 (AR w2) (AR w2) (IS (V.G6 (R.take k))) w3:=aJa u.o Y;have Cs:=A2 (N.o.trans (Y.mono hwr));have YG:=A2 iJ;clear Y iJ;go_wp2_with fail;refine(a'D (AR w2) (AR w2) _ S _ YG.o (by rw[uV];omega) Cs.o.size).mono ?_;rintro e w4⟨rfl,Wt,Cz⟩;have mF:=A2 Wt;have Dg:=A2 (Cs.o.trans Cz);clear Wt Cz;go_wp2_with fail;refine(aDI (AR w2) (AR w2) _ 10 _ (AF mF.o) (by rw[DV,uV,M.o,uV];omega) Dg.o.size).mono ?_;rintro e Bd⟨rfl,o4,I⟩;have Hd:AE (Mq 190 5 (AR w2) (AR w2) (IS (V.G6 (R.take (k+1)))) Bd/\AO (AR w2) w2 Bd):=by refine A2 ⟨AF ?_,Dg.o.trans I⟩;rwa[U.o,<-a3o,<-a3o,<-aJf,<-M.o,<-T1]
   clear o4 I;go_wp2;first
   |exact⟨⟨k+1,A',BV,Hd⟩,by simp[B0];omega⟩
   |
    (
     go_roundw;case rel=>exact⟨k+1,A',BV,Hd⟩
     case measure=>simp[B0];omega)
  have Es:k=R:=A';subst Es;rw[Hb]at u;have UE:AE (V.G6 R≠[]):=by refine A2 ?_;cases R with|nil=>exact absurd rfl iq|cons x xs=>unfold V.G6;simp
  go_wp2_with fail;refine(Tryz.Builder_String (AR w2) (AR w2) (V.G6 R) _ u.o UE.o).mono ?_;rintro e Bd⟨rfl,I⟩;have H_:=A2 (v2.o.trans ((N.o.trans I).mono hz2));clear I;go_wp2;go_ret;exact⟨R,DL.o,BC.o,rfl,H_.o⟩
end
section
open Go Go.RowKit
def aYq:List Int:=[0,1,56,2,57,49,28,3,61,58,42,50,38,29,17,4,62,47,59,36,45,43,51,22,53,39,33,30,24,18,12,5,63,55,48,27,60,41,37,16,46,35,44,21,52,32,23,11,54,26,40,15,34,20,31,10,25,14,19,9,13,8,7,6]
def aYr{W}(h:laidMet A6 PO.laid W):W.cell? ⟨5,15,J⟩=Z (AB Gc 4):=by
 obtain⟨g,t,cs,I,p,hg,ht,hv,hd⟩:=aa8 h (n:= "math/bits.deBruijn64tab") (d:=Rows.laid_math_bits_deBruijn64tab) (by simp[PO]);have N:A6.globalNamed "math/bits.deBruijn64tab"=Z 5:=by kernel_rfl
 obtain rfl:=CP (N.symm.trans hg);have hT:A6.globals[5]?.map (·.type)=Z 538:=by kernel_rfl
 obtain rfl:=CP (hT.symm.trans ht);have ha:A6.underlying 538=Z (.array 64 5):=by kernel_rfl
 have hu:A6.underlying 5=Z (.int Gc):=by kernel_rfl
 have e:=Lib.cells_of_tab (k:=Gc) (zs:=aYq) ha hu (by kernel_rfl) (by kernel_rfl) hd;have hc:=World.var?_cell N hv 15;rw[hc];have e2:cs[15]?=cs.toList[15]?:=by simp
 rw[e2,e];rfl
end
section
open Go
def both{a b}(ha:a=A5)(hb:b=A5):(a&&b)=A5:=by rw[ha,hb];rfl
def aSr:(PO.inPlace==A6.inPlace 10)=A5:=by kernel_rfl
def aSz:(PO.unfollowed==A6.unfollowed 10)=A5:=by kernel_rfl
def aSv:(PO.recurses==A6.recurses 10)=A5:=by kernel_rfl
def aSu:(PO.named==A6.varsNamed 10)=A5:=by kernel_rfl
def aSq:aFr A6 10 Tryz.f10 Rows.movedSpec PO=A5:=by
 unfold aFr;refine both (both (both (both (both (both (both (both (both (both (both (both (both (both (both (both (both (both (both (both (both (both (both (both (both (both (both (both (both (both (both ?_ ?_) ?_) ?_) ?_) ?_) ?_) ?_) ?_) ?_) ?_) ?_) ?_) ?_) ?_) ?_) ?_) ?_) ?_) ?_) ?_) ?_) ?_) ?_) ?_) ?_) ?_) ?_) ?_) ?_) ?_) ?_;case refine_10=>exact aSr
 case refine_11=>exact aSz
 case refine_12=>exact aSv
 case refine_13=>exact aSu
 all_goals as_aux_lemma=>kernel_rfl
end
end Go.Proofs.YtcfhleenecfghaaGreatDoor
namespace Go.Proofs.YtcfhleenecfghaaGreatDoor.N
section
variable{α:Type}[DecidableEq α]
def fresh(K:List α):List α->List α|[]=>[]|m::l=>if m∈K then fresh K l else m::fresh (K++[m]) l
theorem jT{K l}{x:α}:x∈fresh K l↔x∈l/\x∉K:=by induction l generalizing K with|nil=>simp[fresh]|cons m l h=>unfold fresh;grind
theorem aM9{K l:List α}:(fresh K l).length<=l:=by induction l generalizing K with|nil=>simp[fresh]|cons m l h=>grind[fresh]
theorem yU{K l:List α}(h:K.Nodup):(K++fresh K l).Nodup:=by
 induction l generalizing K with
 |nil=>grind[fresh]
 |cons m l I=>
  unfold fresh;split;.exact I h
  rename_i hm;let h2:(K++[m]).Nodup:=by rw[gC];exact⟨h,AD,λa ha b hb=>by rw[ES.1 hb];intro e;exact hm (e▸ha)⟩
  have:=I h2;rwa[T1,List.singleton_append]at this
theorem aMB{K l}{m:α}(h:m∈K++fresh K l):fresh K (l++[m])=fresh K l:=by induction l generalizing K with|nil=>grind[fresh]|cons x l I=>unfold fresh at h⊢;grind
theorem aMA{K l}{m:α}(h:m∉K++fresh K l):fresh K (l++[m])=fresh K l++[m]:=by induction l generalizing K with|nil=>grind[fresh]|cons x l I=>unfold fresh at h⊢;grind
inductive Reach(N:α->List α)(R:List α):α->Prop|root{x:α}:x∈R->Reach N R x|step{x y:α}:Reach N R x->y∈N x->Reach N R y
structure UR(N:α->List α)(R F A X:List α):Prop where
 nodup:F.Nodup
 perm:(A++X).Perm F
 closed:∀m∈A,∀n∈N m,n∈F
 root:∀m∈R,m∈F
 reach:∀m∈F,Reach N R m
def UR.start(N)(R:List α):UR N R (fresh [] R) [] (fresh [] R):=by refine⟨Ai (yU a2d),.refl _,λm hm=>absurd hm IX,λm hm=>jT.2 ⟨hm,IX⟩,λm hm=>.root (jT.1 hm).1⟩
theorem UR.next{N R F A X d}(h:UR N R F A X)(hp:d.Perm X){L:List α}(hL:L=d.flatMap N):UR N R (F++fresh F L) (A++d) (fresh F L):=by
 let I:∀m,m∈L↔∃x∈X,m∈N x:=λm=>by grind
 refine⟨yU h.nodup,aae _ ((hp.append_left A).trans h.perm),λm hm n hn=>?_,λm hm=>E8.2 (AA (h.root m hm)),λm hm=>?_⟩
 .rcases E8.1 hm with hm|hm;.exact E8.2 (AA (h.closed m hm n hn))
  by_cases e:n∈F;.grind
  exact E8.2 (AF (jT.2 ⟨(I n).2 ⟨m,hp.mem_iff.1 hm,hn⟩,e⟩))
 rcases E8.1 hm with hm|hm;.exact h.reach m hm
 let⟨h1,_⟩:=jT.1 hm;let⟨x,hx,hxm⟩:=(I m).1 h1;exact .step (h.reach x (h.perm.mem_iff.1 (E8.2 (AF hx)))) hxm
omit[DecidableEq α]in theorem UR.done{N}{R F A:List α}(h:UR N R F A []):A.Nodup/\∀m,m∈A↔Reach N R m:=by have hp:=Ai h.perm;refine⟨hp.nodup_iff.2 h.nodup,λm=>⟨λhm=>h.reach m (hp.mem_iff.1 hm),λhm=>?_⟩⟩;induction hm with|root hx=>exact hp.mem_iff.2 (h.root _ hx)|step _ hy ih=>exact hp.mem_iff.2 (h.closed _ ih _ hy)
theorem Tn{l U:List α}(h:l.Nodup)(hs:∀x∈l,x∈U):l.length<=U:=by
 induction l generalizing U with
 |nil=>simp
 |cons x l I=>
  let h2:=I (U:=U.erase x) (gD.1 h).2 λy hy=>by refine(List.mem_erase_of_ne ?_).2 (hs y (by simp[hy]));exact λe=>(gD.1 h).1 (e▸hy)
  grind
end
def Co{d:Type}(h:d->d->Bool):List d->List d|[]=>[]|[x]=>[x]|x::y::l=>if h x y then Co h (y::l)else x::Co h (y::l)
def Lex(a b:Nat×Nat):Prop:=a.1<b.1∨a.1=b.1/\a.2<b.2
def E6(a b:Nat×Nat):Bool:=a.1==b.1
def VB{l x}(h:x∈Co E6 l):x∈l:=by
 match l with
 |[]=>cases h
 |[y]=>exact h
 |y::z::l=>
  unfold Co at h;split at h;.exact G1 _ (VB h)
  rcases DO.1 h with rfl|h;.exact List.mem_cons_self
  exact G1 _ (VB h)
def Zj{l}(h:l.Pairwise Lex):(Co E6 l).Pairwise λa b=>a.1<b.1:=by
 match l with
 |[]=>exact .nil
 |[y]=>simp[Co]
 |y::z::l=>
  let h2:=bX.1 h;unfold Co;split;.exact Zj h2.2
  rename_i hn;refine bX.2 ⟨λx hx=>?_,Zj h2.2⟩;have hne:=by simpa[E6]using hn
  have I:=(h2.1 z AD).resolve_right λe=>hne e.1;let hx:=VB hx;rcases DO.1 hx with rfl|hx;.exact I
  rcases(bX.1 h2.2).1 x hx with e|e;.omega
  omega
def dQ{l}(h:l.Pairwise Lex){x}:x∈Co E6 l↔x∈l/\∀y∈l,y.1=x.1->y.2<=x.2:=by
 match l with
 |[]=>simp[Co]
 |[y]=>simp only[Co,ES];exact⟨λe=>⟨e,λz hz _=>by rw[hz,e];exact Ad _⟩,λe=>e.1⟩
 |y::z::l=>
  let h2:=bX.1 h;have N:=dQ h2.2 (x:=x);unfold Co;split
  .rename_i hs;have hs:=by simpa[E6]using hs
   rw[N];constructor
   .rintro⟨a,b⟩;refine⟨G1 _ a,λu hu he=>?_⟩;rcases DO.1 hu with rfl|hu
    .rcases h2.1 x a with e|e;.omega
     omega
    exact b u hu he
   rintro⟨a,b⟩;refine⟨?_,λu hu he=>b u (G1 _ hu) he⟩;rcases DO.1 a with rfl|a
   .let h3:=b z AD hs.symm;rcases h2.1 z AD with e|e;.omega
    omega
   exact a
  rename_i hs;have hs:=by simpa[E6]using hs
  let I:∀u∈z::l,y.1<u.1:=by
   intro u hu;have hz:=(h2.1 z AD).resolve_right λe=>hs e.1;rcases DO.1 hu with rfl|hu;.exact hz
   rcases(bX.1 h2.2).1 u hu with e|e;.omega
   omega
  rw[DO,N];constructor
  .rintro(rfl|⟨a,b⟩)
   .refine⟨AD,λu hu he=>?_⟩;rcases DO.1 hu with rfl|hu;.exact Ad _
    have:=I u hu;omega
   refine⟨G1 _ a,λu hu he=>?_⟩;rcases DO.1 hu with rfl|hu;.have:=I x a;omega
   exact b u hu he
  rintro⟨a,b⟩;rcases DO.1 a with rfl|a;.exact AA rfl
  exact AF ⟨a,λu hu he=>b u (G1 _ hu) he⟩
theorem dP:∀{l}{x},x∈l->∃y∈Co E6 l,y.1=x.1
 |[y],x,h=>⟨y,by simp[Co],BA⟩
 |y::z::l,x,h=>by
  unfold Co;split
  .rcases DO.1 h with rfl|h;.let⟨u,h1,h2⟩:=dP (l:=z::l) (x:=z) AD;grind[E6]
   exact dP h
  rcases DO.1 h with rfl|h;.grind
  let⟨u,h1,h2⟩:=dP h;grind
def a8b{X Y}(hX:X.Pairwise Lex)(hY:Y.Pairwise Lex)(hsub:∀y∈Y,y∈X)(hk:∀x∈Co E6 X,x∈Y):Co E6 Y=Co E6 X:=by
 let N:=λ{l:List (Nat×Nat)}(h:l.Pairwise Lex)=>Zj h;let hn:∀{l:List (Nat×Nat)},l.Pairwise (λa b=>a.1<b.1)->l.Nodup:=λh=>h.imp λ{a b}hl e=>BA;let hm:∀x,x∈Co E6 Y↔x∈Co E6 X:=λx=>by
  constructor;.intro h;let⟨I,h2⟩:=(dQ hY).1 h;let⟨y,h3,h4⟩:=dP (hsub x I);let h5:=h2 y (hk y h3) h4;let h6:=((dQ hX).1 h3).2 x (hsub x I) h4.symm;rwa[Prod.ext h4.symm A']
  exact λh=>(dQ hY).2 ⟨hk x h,λy hy e=>((dQ hX).1 h).2 y (hsub y hy) e⟩
 exact aHG (λa b _ _ I h2=>absurd I A') (N hY) (N hX) ((aHh (hn (N hY)) (hn (N hX))).2 hm)
theorem pq{α F R R'}(h:∀x∈R',Reach F R x){x:α}(hx:Reach F R' x):Reach F R x:=by induction hx with|root hx=>grind|step _ hy I=>exact .step I hy
def aBU{α F R}{x:α}(hx:Reach F R x):∃r∈R,Reach F [r] x:=by induction hx with|root hx=>exact⟨_,hx,.root AD⟩|step _ hy h=>let⟨r,h1,h2⟩:=h;exact⟨r,h1,.step h2 hy⟩
end Go.Proofs.YtcfhleenecfghaaGreatDoor.N
namespace Go.Proofs.YtcfhleenecfghaaGreatDoor
section
open Go.RowKit
variable{w:A1}{v:A3}{B p r:Nat}{f:Nat->Int}
def J0(f:Nat->Int):zw:=#[f 0,f 1,f 2,f 3,f 4]
def a3U(f)(h:p<5):(J0 f)[p]?=Z (AB AJ (f p)):=by match p,h with|0,_=>rfl|1,_=>rfl|2,_=>rfl|3,_=>rfl|4,_=>rfl
def ji(f:Nat->Int)(p:Nat)(x:Int):Nat->Int:=λj=>if j=p then x else f j
def aJ2(f)(h:p<5)(x):(J0 f).setIfInBounds p (AB AJ x)=J0 (ji f p x):=by match p,h with|0,_=>rfl|1,_=>rfl|2,_=>rfl|3,_=>rfl|4,_=>rfl
def Hp(T:List (Nat×Nat))(p:Nat):Int:=match T.find? λx=>x.1==p with|Z x=>(x.2:Int)|J=>-1
theorem aTm{T}(h:∀x∈T,x.1≠p):Hp T p=-1:=by unfold Hp;grind
theorem aTn{T x}(h:∀y∈T,y.1≠x.1):Hp (T++[x])=ji (Hp T) x.1 (x.2:Int):=by unfold ji Hp;grind
theorem Zp:∀{q r},q<5->r<5->V.mp q=V.mp r->q=r:=by intro q r hq hr h;have:∀a b:Fin 5,V.Je a.val=V.Je b.val->a.val=b.val:=Ac;exact this ⟨q,hq⟩ ⟨r,hr⟩ (by grind[V.XN])
def a9q:∀{a b:Nat},a<30->b<30->V.CY a=V.CY b->a=b:=by
 intro a b ha hb h;let I:V.LO a=V.LO b:=by rw[<-V.Zq,<-V.Zq,h]
 have:∀x y:Fin 30,V.LO x.val=V.LO y.val->x.val=y.val:=Rw;exact this ⟨a,ha⟩ ⟨b,hb⟩ I
def aQu{q}(h:q<r)(hr:r<5):aEw (V.mp q).toList (V.mp r).toList=A5:=by rw[QS,QS,V.XN,V.XN];have:∀a b:Fin 5,a.val<b.val->aEw (V.Je a.val) (V.Je b.val)=A5:=Ac;exact this ⟨q,A'⟩ ⟨r,hr⟩ h
def aXX{b:Nat}(g:Nat->Int)(h:w.heap[b]?=Z (A7 (J0 f) 63)):(((((w.setCell ⟨b,0,J⟩ (g 0)).setCell ⟨b,1,J⟩ (g 1)).setCell ⟨b,2,J⟩ (g 2)).setCell ⟨b,3,J⟩ (g 3)).setCell ⟨b,4,J⟩ (g 4)).heap[b]?=Z (A7 (J0 g) 63):=by let h0:=CO w b 0 _ _ (AX (g 0)) h;let I:=CO _ b 1 _ _ (AX (g 1)) h0;exact CO _ b 4 _ _ (AX (g 4)) (CO _ b 3 _ _ (AX (g 3)) (CO _ b 2 _ _ (AX (g 2)) I))
def aW9{P:Ao}{fn:Func}{p q:Tmp}{ty:BL}(h:fn.results=#[.cell p ty,.tmp q])(I)(w:A1)(g:Nat)(t)(cs)(d8)(d)(v:A3)(hp:I.getD p AN=B2 (Z ⟨g,0,J⟩))(hq:I.getD q AN=v)(hg:w.heap[g]?=Z (A7 cs t d8))(hu:P.underlying ty=Z d)(hd:(match d with|a1Q _|.array _ _=>A5|_=>A9)=A5)(hi:(P.info? ty).map (·.size)=Z cs.size):(D5 fn I).run P w=.ok (Aj #[AH cs,v]) w:=by simp[D5,h,Ai hp,Ai hq,asAddr,aG' w g t ty cs d8 d hg hu hd hi]
structure OY(w:A1)(f:Nat->Int)(wr:A1):Prop where
 res:wr.heap[w.heap.size]?=Z (A7 (J0 λ_=>0) 63)
 out:wr.heap[w.heap.size+1]?=Z (A7 (J0 f) 63)
 below:AO w w wr
def OY.drewN{w f wr}(h:OY w f wr)(n):OY w f (wr.drewN n):=⟨h.res,h.out,KP h.below n⟩
def OY.put{wr:A1}(h:OY w f wr)(hp:p<5)(x):OY w (ji f p x) (wr.setCell ⟨w+1,p,J⟩ x):=by
 refine⟨?_,?_,h.below.setCell BA _⟩;.rw[DC _ _ _ _ (show AR w≠AR w+1 by omega)];exact h.res
 rw[CO wr _ p _ _ _ h.out,aJ2 f hp]
def OY.start(w):OY w (λ_=>-1) ((w.alloc (A7 (J0 λ_=>0) 63)).alloc (A7 (J0 λ_=>-1) 63)):=by refine⟨?_,CS _ _ _ AD,((Az _ w).alloc (Ad _) _).alloc AD _⟩;rw[BU _ _ _ AD];exact CS _ _ _ rfl
def aCa(AI:Nat->Nat->Nat)(fk:Nat)(T:List (Nat×Nat))(v:A3)(w:A1)(hver:∀q k,q<5->k<3->w.cell? ⟨fk,q*3+k,J⟩=Z (AB AJ (AI q k:Int))/\AI q k<30)(iU:∀q j k,q<5->j<3->k<3->AI q j=AI q k->j=k)(hv:EL w v (T.map B1))(hT:∀x∈T,x.1<5/\∃k,k<3/\x.2=AI x.1 k)(xJ:T.Pairwise λx y=>x.1<y.1):Ab A6 28 #[B2 (Z ⟨fk,0,J⟩),v] w λe w'=>e=AV (Aj #[AH (J0 (Hp T)),Ag A5])/\AO w w w':=by
 have v3:=A2 hver;have I5:=A2 iU;have Au:=A2 hT;have BC:=A2 xJ;obtain⟨a,c,rfl,Dy⟩:∃a c,v=A0 a T c/\AE (∀k(h:k<T.length),∃g,a=Z ⟨g,0,J⟩/\Cf w g (k*2) (A4 (V.mp T[k].1))/\Cf w g (k*2+1) (A4 (V.CY T[k].2))):=by
  rcases hv with⟨rfl,h0⟩|⟨g,c,rfl,h⟩;.obtain rfl:=List.map_eq_nil_iff.1 h0;exact⟨J,0,rfl,λk h=>by cases h⟩
  refine⟨_,c,by rw[Gf],λk hk=>⟨g,rfl,?_⟩⟩;have:=h k (Ai hk);simpa[B1]using this
 have wA:T.length<=5:=by
  have h1:(T.map (·.1)).Nodup:=by unfold Lc;rw[I8];exact xJ.imp λh=>UN h
  have h2:=N.Tn (U:=Lf 5) h1 λx hx=>by obtain⟨y,hy,rfl⟩:=Bt.1 hx;exact Pb.2 (hT y hy).1
  simpa using h2
 have Lb:=A2 (OY.start w);clear hver iU hT xJ hv;go_enter Tryz.func28,Tryz.ntmps28;go_wp2;go_loopw[7]λi wr=>∃n:Nat,n<=T/\i=AX n/\AE (OY w (Hp (T.take n)) wr)(λi _=>T-(B0 i).toNat);case atStart=>exact⟨0,A',rfl,Lb.o⟩
 case round=>
  obtain⟨n,hn,rfl,H⟩:=hrel;by_cases hlt:n<T
  .obtain⟨g,rfl,Y,hg1⟩:=Dy n hlt;obtain⟨C,u,a6v,xc⟩:=Au T[n] (Ci hlt);have MB:AE (∀y∈T.take n,y.1<T[n].1):=λy hy=>by obtain⟨j,hj,rfl⟩:=Mw.1 hy;rw[UK]at hj;rw[List.getElem_take];exact Qc.1 BC j n A' hlt A'
   have fi:AE (Hp (T.take (n+1))=ji (Hp (T.take n)) T[n].1 (T[n].2:Int)):=A2 (by rw[T4 hlt];exact aTn λy hy=>UN (MB y hy));have M:Hp (T.take n) T[n].1=-1:=aTm λy hy=>UN (MB y hy);have tB:AE (0<n->∃q,q<T[n].1/\Cf w g ((n-1)*2) (A4 (V.mp q))):=λh0=>by obtain⟨g',e,h1,_⟩:=Dy (n-1) A';injection e with e;injection e with e;subst e;exact⟨_,Qc.1 BC (n-1) n A' hlt A',h1⟩
   have acY:n<=5:=A';have a6o:g<AR w:=Cn (h:=Y);generalize T[n]=x at Y hg1 C xc fi M tB MB;generalize Hp (T.take n)=f at H fi M;generalize hf':Hp (T.take (n+1))=f' at fi;have mG:=A2 hf';clear hf';obtain⟨I,PD⟩:=x;simp only at Y hg1 C xc fi M tB MB;subst xc;have a27:=A2 Y;have aGU:=A2 hg1;clear Y hg1 MB;go_wp2;go_loopw[8,9]λD p eI=>∃q:Nat,q<=5/\p=AX q/\D=Ag (BK (I<q))/\AE (OY w (if I<q then f' else f) eI)(λ_ p _=>5-(B0 p).toNat);case atStart=>exact⟨0,A',rfl,rfl,Ai H⟩
   case round=>
    clear H;obtain⟨q,hq,rfl,rfl,H⟩:=hrel;by_cases ZT:q<5
    .go_wp2;rw[show BK ((q:Int)<5)=A5 from decide_eq_true A'];go_loopw[8,10]λD k a_U=>∃j:Nat,j<=3/\k=AX j/\D=Ag (BK (I<q∨I=q/\u<j))/\AE (OY w (if I<q∨I=q/\u<j then f' else f) a_U)(λ_ k _=>3-(B0 k).toNat);case atStart=>exact⟨0,A',rfl,AD,Ai H⟩
     case round=>
      clear H;obtain⟨j,hj,rfl,rfl,H⟩:=hrel;by_cases X0:j<3
      .have S:=A2 H.o.below;have a8V:Cf wr g (n*2) (A4 (V.mp I)):=keep S a27;have CM:wr.cell? ⟨g,n*2+1,J⟩=Z (A4 (V.CY (AI I u))):=keep S aGU.o;obtain⟨MZ,o_⟩:=v3.o q j ZT X0;have m0:=keep S.o MZ;have aPe:=(v3.o I u C a6v).2;have RA:wr.cell? ⟨w+1,q,J⟩=Z ((if I<q∨I=q/\u<j then f' else f) q):=As (A_ H.o.out) (a3U _ ZT);have o1:=C' H.o.out q;have ZS:=pY q ZT;have Me:=qW (AI q j) o_;have acn:(q:Int)<5:=A';have a6s:(j:Int)<3:=A';have TX:(n:Int)<(T:Int):=A';clear MZ;by_cases a7z:I=q
       .subst a7z;have j0:((V.mp I).toList==(V.mp I).toList)=A5:=AD;by_cases iW:j=u
        .subst iW;have aPb:((V.CY (AI I j)).toList==(V.CY (AI I j)).toList)=A5:=AD;rw[if_neg A']at RA;rw[M]at RA;have hd0:BK (I<I∨I=I/\j<j)=A9:=decide_eq_false A';rw[if_neg A']at H;clear M;go_wp2_with fail;go_quiet(first|(go_at_call 21;exact Vh (ZS _))|(go_at_call 22;exact kx (Me _)));have m3:=A2 ((H.o.drewN nq).put C (AI I j:Int));have aRR:(wr.drewN nq).cell? ⟨fk,I*3+j,J⟩=Z (AI I j:Int):=m0;have aTU:(wr.drewN nq).cell? ⟨w+1,I,J⟩=Z (AB AJ (-1)):=RA;have o1':(wr.drewN nq).frozen? ⟨w.heap.size+1,I,J⟩=A9:=o1;generalize wr.drewN nq=MN at m3 aRR aTU o1'⊢;clear m0 RA o1 a8V CM;go_wp2;have R:AE (OY w f' (MN.setCell ⟨w+1,I,J⟩ (AI I j:Int))):=Ar fi.o;first
         |exact⟨⟨j+1,A',BV,AD,Ai R⟩,by simp[B0];omega⟩
         |
          (
           go_roundw;case rel=>exact⟨j+1,A',BV,AD,Ai R⟩
           case measure=>simp[B0];omega)
        have hne:AI I u≠AI I j:=λe=>iW (I5.o I j u C X0 a6v e.symm);have aPb:((V.CY (AI I u)).toList==(V.CY (AI I j)).toList)=A9:=by rw[beq_eq_false_iff_ne];intro e;rw[QS,QS]at e;exact hne (a9q aPe o_ (V.bytes_inj e))
        have z:I<I∨I=I/\u<j↔I<I∨I=I/\u<j+1:=A';have gc:AE (OY w (if I<I∨I=I/\u<j+1 then f' else f) wr):=by
         by_cases DR:u<j;.rw[if_pos A'];rwa[if_pos A']at H
         rw[if_neg A'];rwa[if_neg A']at H
        have hd:BK (I<I∨I=I/\u<j)=BK (I<I∨I=I/\u<j+1):=decide_eq_decide.2 z;have sz:=A2 hd;obtain⟨D,hfd⟩:∃D,D=BK (I<I∨I=I/\u<j):=⟨_,rfl⟩;rw[<-hfd]at sz⊢;clear M RA o1 z hd hfd H;go_wp2_with fail;go_quiet(first|(go_at_call 21;exact Vh (ZS _))|(go_at_call 22;exact kx (Me _)));have R:=A2 (gc.o.drewN nq);clear gc;go_wp2_with fail;first
        |exact⟨⟨j+1,A',BV,by rw[sz.o],R⟩,by simp[B0];omega⟩
        |
         (
          go_roundw;case rel=>exact⟨j+1,A',BV,by rw[sz.o],R⟩
          case measure=>simp[B0];omega)
       have j0:((V.mp I).toList==(V.mp q).toList)=A9:=by rw[beq_eq_false_iff_ne];intro e;rw[QS,QS]at e;exact a7z (Zp C ZT (V.bytes_inj e))
       have z:(I<q∨I=q/\u<j)=(I<q∨I=q/\u<j+1):=propext A';simp only[z]at H;have hd:BK (I<q∨I=q/\u<j)=BK (I<q∨I=q/\u<j+1):=by simp only[z]
       generalize BK (I<q∨I=q/\u<j)=D at hd;clear M RA o1 z;go_wp2_with fail;go_quiet(first|(go_at_call 21;exact Vh (ZS _))|(go_at_call 22;exact kx (Me _)));have R:=A2 (H.o.drewN nq);go_wp2;first
       |exact⟨⟨j+1,A',BV,by rw[hd],R⟩,by simp[B0];omega⟩
       |
        (
         go_roundw;case rel=>exact⟨j+1,A',BV,by rw[hd],R⟩
         case measure=>simp[B0];omega)
      have a6s:j=3:=A';subst a6s;have z:(I<q∨I=q/\u<3)=(I<q+1):=propext A';simp only[z]at H;have hd:BK (I<q∨I=q/\u<3)=BK (I<q+1):=by simp only[z]
      generalize BK (I<q∨I=q/\u<3)=D at hd;clear z;go_wp2;first
      |exact⟨⟨q+1,A',BV,by rw[hd],H⟩,by simp[B0];omega⟩
      |
       (
        go_roundw;case rel=>exact⟨q+1,A',BV,by rw[hd],H⟩
        case measure=>simp[B0];omega)
    have aP2:q=5:=A';subst aP2;rw[if_pos C]at H;have hd:BK (I<5)=A5:=decide_eq_true C;rw[hd];have S:=A2 H.o.below;have a8V:wr.cell? ⟨g,n*2,J⟩=Z (A4 (V.mp I)):=keep S.o a27.o;have TX:(n:Int)<(T:Int):=A';by_cases IH:n=0
    .subst IH;go_wp2_with fail;go_quiet(fail);have R:=A2 (H.o.drewN nq);go_wp2;first
     |exact⟨⟨1,A',BV,Ar mG.o⟩,by simp[B0];omega⟩
     |
      (
       go_roundw;case rel=>exact⟨1,A',BV,Ar mG.o⟩
       case measure=>simp[B0];omega)
    obtain⟨LQ,Ta,a7L⟩:=tB.o A';have VP:=keep S.o a7L;obtain⟨d,rfl⟩:∃d,n=d+1:=⟨n-1,A'⟩;rw[Nat.add_sub_cancel]at VP;have K3:=aQu Ta C;have e1:(d:Int)+1-1=(d:Int):=A';have e2:(d:Int)<(T:Int):=A';have e3:(0:Int)<(d:Int)+1:=A';clear a7L;go_wp2_with fail;go_quiet(fail);have R:=A2 (H.o.drewN nq);go_wp2;first
    |exact⟨⟨d+1+1,A',BV,Ar mG.o⟩,by simp[B0];omega⟩
    |
     (
      go_roundw;case rel=>exact⟨d+1+1,A',BV,Ar mG.o⟩
      case measure=>simp[B0];omega)
  have Es:n=T:=A';subst Es;rw[Hb]at H;obtain⟨f,hf⟩:∃f,f=Hp T:=⟨_,rfl⟩;rw[<-hf]at H;have v5:=A2 hf;clear hf;obtain⟨h1,h2,h3⟩:=H.o;have aGV:=A2 h1;have aGW:=A2 h3;have LQ:wr.cell? ⟨w,0,J⟩=Z (AB AJ 0):=Af (A_ h1);have q1:wr.cell? ⟨w,1,J⟩=Z (AB AJ 0):=Af (A_ h1);have q2:wr.cell? ⟨w,2,J⟩=Z (AB AJ 0):=Af (A_ h1);have q3:wr.cell? ⟨w,3,J⟩=Z (AB AJ 0):=Af (A_ h1);have q4:wr.cell? ⟨w,4,J⟩=Z (AB AJ 0):=Af (A_ h1);have r0:wr.cell? ⟨w+1,0,J⟩=Z (f 0):=Af (A_ h2);have r1:wr.cell? ⟨w+1,1,J⟩=Z (f 1):=Af (A_ h2);have r2:wr.cell? ⟨w+1,2,J⟩=Z (f 2):=Af (A_ h2);have r3:wr.cell? ⟨w+1,3,J⟩=Z (f 3):=Af (A_ h2);have r4:wr.cell? ⟨w+1,4,J⟩=Z (f 4):=Af (A_ h2);have EY:=C' h1 0;have z1:=C' h1 1;have z2:=C' h1 2;have z3:=C' h1 3;have z4:=C' h1 4;clear h1 h2 h3 H;go_wp2;(try simp only[Sg,Exit.then]);refine IT (aW9 (p:=4) (q:=5) (ty:=63) A8 _ _ w 63 _ _ _ (Ag A5) rfl rfl (aXX f aGV.o) Tryz.underlying63 rfl (by rw[show(J0 f).size=5 from rfl];kernel_rfl)) rfl ?_;refine⟨by rw[v5.o],?_⟩;have hb:=aGW.o;exact((((hb.setCell (p:=⟨w,0,J⟩) (Ad _) _).setCell (p:=⟨w,1,J⟩) (Ad _) _).setCell (p:=⟨w,2,J⟩) (Ad _) _).setCell (p:=⟨w,3,J⟩) (Ad _) _).setCell (p:=⟨w,4,J⟩) (Ad _) _
theorem aC5{o}(h:w.heap[r]?=Z o):({w with heap:=w.heap.setIfInBounds r o}:A1)=w:=by
 have:w.heap.setIfInBounds r o=w.heap:=by
  apply eL;intro i;rw[HX];split;.grind
  rfl
 rw[this]
def OC(l:List (AW×Nat))(j n:Nat):List (AW×Nat):=l.modify j λx=>(x.1,n)
def aSC(l)(j n:Nat):(Ba l).modify j (λe=>{e with val:=(n:Int)})=Ba (OC l j n):=by
 apply eL;intro i;rw[qu];by_cases hi:i<l
 .let h:i<OC l j n:=by simpa[OC]using hi
  rw[VF i h,VF i hi];by_cases e:j=i;.subst e;simp[OC]
  simp[OC,e]
 rw[Ml (by rw[jS];omega),Ml (by rw[jS];simp[OC];omega)];split<;>rfl
theorem aVy(l)(j n):(OC l j n).map (·.1)=l.map (·.1):=by apply a2Y;intro i;simp only[OC,YV,List.getElem?_modify];grind
theorem find_born(l)(j:Nat)(hj:j<l.length):(Ba l).findIdx? λe=>(e.born:Int)==(j:Int)=Z j:=by
 rw[Array.findIdx?_eq_some_iff_getElem];refine⟨Ar jS,?_,λk hk=>?_⟩;.have:=VF j hj;grind
 let h:k<l:=A';have:=VF k h;grind
def aLJ(r:Nat)(l:List (AW×Nat))(p:AW)(j:Nat)(hj:j<l)(N:l[j].1=p)(hnd:(l.map (·.1)).Nodup)(w:A1)(hp:D6 p)(hl:∀x∈l,D6 x.1)(hb:w.heap[r]?=Z (B4 (Ba l) l)):(aw 131 (AL (Z r)) (EH p)).run A6 w=.ok (Aj #[(l[j].2:Int),(j:Int)]) w:=by
 rcases cG l p w hp hl with⟨_,h2⟩|⟨i,hi,h,U⟩;.exact absurd N (h2 _ (Ci hj))
 have hij:=by let a:i<l.map (·.1):=Ai hi;let b:j<l.map (·.1):=Ai hj;exact(aHZ (h₀:=a) (h₁:=b) hnd).1 (by simp[h,N])
 subst hij;let⟨lx,hlx⟩:=xu p hp;let h3:=VF i hi;let hst:=a8d.stays w hlx;let I:(Ba l).modify i (λe=>{key:=EH p,val:=e.val,born:=e.born})=Ba l:=by
  apply eL;intro k;rw[qu];split;.rename_i e;subst e;rw[h3];simp[h]
  rfl
 simp[aw,OO hb,WY p hp,U,h3,h,hst,I,fA _ hb,goInt];exact aC5 hb
theorem aLI(r)(l)(p)(hn:∀x∈l,x.1≠p)(w)(hp:D6 p)(hl:∀x∈l,D6 x.1)(hb:w.heap[r]?=Z (B4 (Ba l) l)):(aw 131 (AL (Z r)) (EH p)).run A6 w=.ok (Aj #[AB AJ 0,(l.length:Int)]) {w with heap:=w.heap.setIfInBounds r (B4 (Ba (l++[(p,0)])) (l.length+1))}:=by
 rcases cG l p w hp hl with⟨h,_⟩|⟨i,hi,I,_⟩;.rw[a9X];simp[aw,OO hb,WY p hp,h,fA _ hb,goInt]
 grind
theorem a4o(r)(l)(j n:Nat)(hj:j<l.length)(w)(hb:w.heap[r]?=Z (B4 (Ba l) l)):(lC 131 (AL (Z r)) (j:Int) (n:Int)).run A6 w=.ok () {w with heap:=w.heap.setIfInBounds r (B4 (Ba (OC l j n)) l)}:=by let h2:=aSC l j n;let ha:(asInt (AX j)).run A6 w=.ok j w:=rfl;simp[lC,OO hb,ha,find_born l j hj,fA _ hb,KO];grind
def Found(w:A1)(r:Nat)(K:List AW)(N:Nat):Prop:=∃l:List (AW×Nat),w.heap[r]?=Z (B4 (Ba l) l)/\l.map (·.1)=K/\∀x∈l,0<x.2/\x.2<=N
structure CV(r B:Nat)(w w':A1):Prop where
 os:w'.os=w.os
 tape:w'.tape=w.tape
 output:w'.output=w.output
 size:w.heap.size<=w'
 block:∀k,k<B->k≠r->w'.heap[k]?=w.heap[k]?
theorem CV.refl(r B)(w):CV r B w w:=⟨rfl,rfl,rfl,Ad _,λ_ _ _=>rfl⟩
def CV.below{w1 w2}(h:CV r B w w1)(k:AO B w1 w2):CV r B w w2:=⟨k.os.trans h.os,k.tape.trans h.tape,k.output.trans h.output,Dn h.size k.size,λb hb hr=>(k.block b hb).trans (h.block b hb hr)⟩
def CV.set{w1}(h:CV r B w w1)(o):CV r B w {w1 with heap:=w1.heap.setIfInBounds r o}:=⟨h.os,h.tape,h.output,As a0' h.size,λb hb hr=>by rw[HX,if_neg (Gy hr)];exact h.block b hb hr⟩
def CV.drew{r B w w1}(h:CV r B w w1):CV r B w w1.drew:=⟨h.os,h.tape,h.output,h.size,h.block⟩
theorem aVz(l)(p)(n m):OC (l++[(p,n)]) l.length m=l++[(p,m)]:=by unfold OC;apply a2Y;grind
def uy(r)(K)(N)(p)(w)(hf:Found w r K N)(hnd:K.Nodup)(u:∀m∈K,D6 m)(hp:D6 p)(hN:N<=1000000000):∃(c:Nat)(j:Nat)(U w4:A1),(Fb 131 (AL (Z r)) (EH p) A9).run A6 w=.ok (c:Int) w/\(aw 131 (AL (Z r)) (EH p)).run A6 w=.ok (Aj #[(c:Int),(j:Int)]) U/\(Fb 131 (AL (Z r)) (EH p) A9).run A6 U=.ok (c:Int) U/\(lC 131 (AL (Z r)) (j:Int) (AB AJ ((c:Int)+1))).run A6 U=.ok () w4/\c<=N/\(c=0/\p∉K/\Found w4 r (K++[p]) (N+1)∨0<c/\p∈K/\Found w4 r K (N+1))/\(∃o,U={w with heap:=w.heap.setIfInBounds r o})/\∃o,w4={w with heap:=w.heap.setIfInBounds r o}:=by
 obtain⟨l,hb,rfl,hc⟩:=hf;have hl:=λx hx=>u _ (Bt.2 ⟨x,hx,rfl⟩);let hlt:=B3 hb;rcases Zk r l l p w hp hl hb with⟨h1,h2⟩|⟨x,hx,d,h1⟩
 .let e:{w with heap:=w.heap.setIfInBounds r (B4 (Ba (l++[(p,0)])) (l.length+1))}.heap[r]?=Z (B4 (Ba (l++[(p,0)])) (l++[(p,0)]).length):=by rw[HX,if_pos rfl,if_pos hlt];simp
  let h4:(Fb 131 (AL (Z r)) (EH p) A9).run A6 {w with heap:=w.heap.setIfInBounds r (B4 (Ba (l++[(p,0)])) (l.length+1))}=.ok (AX 0) {w with heap:=w.heap.setIfInBounds r (B4 (Ba (l++[(p,0)])) (l.length+1))}:=by
   let z:∀x∈l++[(p,0)],D6 x.1:=λx hx=>by
    rcases E8.1 hx with hx|hx;.exact hl x hx
    rwa[ES.1 hx]
   rcases Zk r _ (l++[(p,0)]) p _ hp z e with⟨h,_⟩|⟨y,hy,C,h⟩;.exact h
   rcases E8.1 hy with hy|hy;.exact absurd C (h2 y hy)
   rwa[ES.1 hy]at h
  let h5:=a4o r (l++[(p,0)]) l.length 1 AD _ e;rw[aVz]at h5;refine⟨0,l.length,_,_,h1,aLI r l p h2 w hp hl hb,h4,h5,A',AA ⟨rfl,λhm=>?_,l++[(p,1)],?_,AD,λx hx=>?_⟩,⟨_,rfl⟩,⟨B4 (Ba (l++[(p,1)])) (l++[(p,0)]).length,?_⟩⟩;.let⟨x,hx,d⟩:=Bt.1 hm;exact h2 x hx d
  .rw[HX,if_pos rfl,if_pos (Ar a0')];simp
  .rcases E8.1 hx with hx|hx;.have:=hc x hx;omega
   rw[ES.1 hx];omega
  simp
 obtain⟨j,hj,rfl⟩:=Mw.1 hx;let I:=hc _ (Ci hj);refine⟨l[j].2,j,_,_,h1,aLJ r l p j hj d hnd w hp hl hb,h1,by exact_mod_cast a4o r l j (l[j].2+1) hj w hb,I.2,AF ⟨I.1,Bt.2 ⟨_,hx,d⟩,OC l j (l[j].2+1),?_,aVy ..,λx hx=>?_⟩,⟨_,(aC5 hb).symm⟩,⟨_,rfl⟩⟩;.rw[HX,if_pos rfl,if_pos hlt];simp[OC]
 obtain⟨i,hi,rfl⟩:=Mw.1 hx;have:=hc _ (Ci (by simpa[OC]using hi));simp only[OC,List.getElem_modify];split;.omega
 omega
def Found.heap{w w' r K M}(h:Found w r K M)(e:w'.heap[r]?=w.heap[r]?):Found w' r K M:=by let⟨l,h1,h2⟩:=h;exact⟨l,BA,h2⟩
theorem Found.lt{K:List AW}{M:Nat}(h:Found w r K M):r<w:=by let⟨l,h1,_⟩:=h;grind
structure kS(K l:List AW)(M r:Nat)(w:A1)(k:Nat)(v:A3)(wr:A1):Prop where
 own:wr.ownsRow w 85 2 v (N.fresh K (l.take k)) (Bb (N.fresh K (l.take k)))
 found:Found wr r (K++N.fresh K (l.take k)) (M+k)
 but:CV r w w wr
def aIn(r:Nat)(K:List AW)(M:Nat)(v:A3)(l:List AW)(w:A1)(hf:Found w r K M)(hnd:K.Nodup)(Cv:∀m∈K,D6 m)(hv:EL w v l)(Me:∀g c,v=A0 (Z ⟨g,0,J⟩) l c->g≠r)(hl:∀m∈l,D6 m)(hN:M+l<=1000000000):Ab A6 124 #[AL (Z r),v] w λe w'=>∃fv,e=AV fv/\kS K l M r w l fv w':=by
 obtain⟨i0,hi,hz0,hz1,hz2⟩:=FJ jD;have tK:=A2 hnd;have Ni:=A2 Cv;have Dy:=A2 hl;have v5:=A2 hf;have hrl:=hf.lt;obtain⟨a,c,rfl,v3⟩:∃a c,v=A0 a l c/\AE (∀k(h:k<l.length),∃g,a=Z ⟨g,0,J⟩/\g≠r/\Cf w g (k*2) (l[k].1)/\Cf w g (k*2+1) (l[k].2)):=by
  rcases hv with⟨rfl,rfl⟩|⟨g,c,rfl,h⟩;.exact⟨J,0,rfl,λk h=>by cases h⟩
  exact⟨_,c,rfl,λk hk=>⟨g,rfl,Me g c rfl,h k hk⟩⟩
 clear hnd Cv hl hf hv Me;go_enter Tryz.func124,Tryz.ntmps124;go_wp2;go_loopw[5,10]λv i wr=>∃k:Nat,k<=l/\i=AX k/\AE (kS K l M r w k v wr)(λ_ i _=>l-(B0 i).toNat);case atStart=>exact⟨0,A',rfl,A2 ⟨PR ..,by simpa[N.fresh]using v5.o,CV.refl ..⟩⟩
 case round=>
  obtain⟨k,hk,rfl,H⟩:=hrel;by_cases hlt:k<l
  .obtain⟨g,rfl,hgr,H4,Eh⟩:=v3 k hlt;have Dk:g<w:=Cn (h:=H4);have hsame:=H.o.but.block g Dk hgr;have c0:wr.cell? ⟨g,k*2,J⟩=Z (l[k].1):=(C8 hsame).trans H4;have c1:wr.cell? ⟨g,k*2+1,J⟩=Z (l[k].2):=(C8 hsame).trans Eh;have Dd:w.heap.size<=wr:=H.o.but.size;have z9:=A2 (KA l k hlt);have wq:D6 l[k]:=Dy _ (Ci hlt);generalize l[k]=m at c0 c1 z9 wq;obtain⟨p,q⟩:=m;simp only at c0 c1;have wt:=A2 wq;have ac9:g<wr:=A';have w6:(K++N.fresh K (l.take k)).Nodup:=N.yU tK;have w7:∀m∈K++N.fresh K (l.take k),D6 m:=λm hm=>by
    rcases E8.1 hm with hm|hm;.exact Ni m hm
    exact Dy m (mb (N.jT.1 hm).1)
   have d:M+k<=1000000000:=A';obtain⟨n,ou,LX,Iq,GN,-,-,-,-,hcase,-,-⟩:=uy r _ (M+k) (p,q) (wr.alloc (A7 #[p,q] 85)) (H.o.found.heap (BU _ _ _ H.o.found.lt)) w6 w7 wt d;have z:=A2 λd0 hx=>uy r _ (M+k) (p,q) d0 (H.o.found.heap hx) w6 w7 wt d;clear H4 Eh hsame wq w6 w7 ou;simp only[EH]at GN;have cf:N.fresh K (l.take k)<=k:=Dn N.aM9 Av;have fS:=A2 (CS wr (A7 #[p,q] 85) _ rfl);have XA:r<wr:=A';rcases hcase with⟨rfl,E9,-⟩|⟨i3,C1,-⟩
   .have MB:=A2 E9;clear E9 LX Iq;go_wp2_with(at_builtin;refine IU _ rfl _ _ 57 rfl w 85 i0 (AH #[A4 ⟨#[]⟩,A4 ⟨#[]⟩]) 2 32 fG hi hz0 hz1 hz2 rfl Ac _ _ _ rfl ((H.o.own.alloc _).alloc _) ⟨wr+1,0,J⟩ 1 1 [p,q] rfl rfl ?c1 Of DQ A' Av ?_);case c1=>intro j u hj;have Eb:=CS (wr.alloc (A7 #[p,q] 85)) (A7 #[p,q] 85) (wr+1) AD;match j,hj with|0,hj=>simp at hj;subst hj;rw[Ea,A_ Eb];rfl|1,hj=>simp at hj;subst hj;rw[Ea,A_ Eb];rfl
    intro v' w2 S BN _;obtain⟨Y,C3,rfl⟩:=EA S;have I:=H.o.own;have hne:∀b,b<w.heap.size->Z b≠Kt u5:=λb hb e=>BO ((I.lt b e.symm).1);have C:w2.heap[r]?=wr.heap[r]?:=by rw[BN.block r Av (hne r A'),BU _ _ _ Av,BU _ _ _ A']
    have hbx:w2.heap[wr.heap.size]?=Z (A7 #[p,q] 85):=by rwa[BN.block _ Av λe=>BO ((I.lt _ e.symm).2),BU _ _ _ AD]
    have H3:CV r w w w2:=H.o.but.below (((Az _ wr).alloc Dd _).alloc Av _|>.grown BN Av λk hk=>(I.lt k hk).1);obtain⟨n,ou,U,w4,f1,f2,f3,f4,-,S7,⟨Ly,e3⟩,⟨KC,e4⟩⟩:=z w2.drew C;have hfr:N.fresh K (l.take (k+1))=N.fresh K (l.take k)++[(p,q)]:=As z9 (N.aMA MB);rcases S7 with⟨rfl,-,h_⟩|⟨-,h,-⟩;case inr=>exact absurd h MB
    have R:AE (kS K l M r w (k+1) (A0 Y (N.fresh K (l.take k)+1) C3) w4):=by
     refine A2 ⟨?_,?_,?_⟩
     .rw[hfr,R5,DV];refine⟨S.1,?_⟩;rcases S.2 with h|⟨g',cp,cur,h1,h2,h3,h4⟩;.exact AA h
      refine AF ⟨g',cp,cur,h1,h2,?_,h4⟩;rw[e4];show(w2.heap.setIfInBounds r KC)[g']?=_;rwa[HX,if_neg A']
     .rwa[hfr,<-T1,<-mh]
     rw[e4];exact H3.drew.set KC
    have p4:w2.cell? ⟨wr,0,J⟩=Z p:=Af (A_ hbx);have d1:w2.cell? ⟨wr,1,J⟩=Z q:=Af (A_ hbx);have G_:U.cell? ⟨wr,0,J⟩=Z p:=by rw[<-p4,e3];exact C8 (show(w2.heap.setIfInBounds r Ly)[wr.heap.size]?=w2.heap[wr.heap.size]? by rw[HX,if_neg A'])
    have t1:U.cell? ⟨wr,1,J⟩=Z q:=by rw[<-d1,e3];exact C8 (show(w2.heap.setIfInBounds r Ly)[wr.heap.size]?=w2.heap[wr.heap.size]? by rw[HX,if_neg A'])
    simp only[EH]at f1 f2 f3;simp only[Int.natCast_zero,Int.zero_add]at f1 f2 f3 f4;clear S BN hne C hbx H3 hfr h_ e3 e4 I;have hwr:AJ.wrap 1=1:=Ac;go_wp2_with fail;go_region_with fail;all_goals go_wp2;exact Jz
   have D:=A2 C1;clear C1 LX Iq;have IH:(n==0)=A9:=Av;have C:(wr.alloc (A7 #[p,q] 85)).heap[r]?=wr.heap[r]?:=BU _ _ _ XA;obtain⟨n2,ou,U,w4,f1,f2,f3,f4,aca,S7,⟨Ly,e3⟩,⟨KC,e4⟩⟩:=z (wr.alloc (A7 #[p,q] 85)).drew C;have hfr:N.fresh K (l.take (k+1))=N.fresh K (l.take k):=As z9 (N.aMB D);rcases S7 with⟨-,h,-⟩|⟨-,-,h_⟩;case inl=>exact absurd D h
   obtain⟨Y,C3,rfl⟩:=EA H.o.own;have hbx:=fS;have R:AE (kS K l M r w (k+1) (A0 Y (N.fresh K (l.take k)) C3) w4):=by
    have I:=H.o.own;refine A2 ⟨?_,?_,?_⟩
    .rw[hfr];refine⟨I.1,?_⟩;rcases I.2 with h|⟨g',cp,cur,h1,h2,h3,h4⟩;.exact AA h
     refine AF ⟨g',cp,cur,h1,h2,?_,h4⟩;rw[e4];show((wr.alloc (A7 #[p,q] 85)).heap.setIfInBounds r KC)[g']?=_;rwa[HX,if_neg A',BU _ _ _ (B3 h3)]
    .rwa[hfr,<-mh]
    rw[e4];exact(H.o.but.below ((Az _ wr).alloc Dd _)).drew.set KC
   have G_:U.cell? ⟨wr,0,J⟩=Z p:=by
    have h2:U.heap[wr.heap.size]?=Z (A7 #[p,q] 85):=by rw[e3];show((wr.alloc (A7 #[p,q] 85)).heap.setIfInBounds r Ly)[wr.heap.size]?=_;rwa[HX,if_neg A']
    rw[A_ h2];rfl
   have t1:U.cell? ⟨wr,1,J⟩=Z q:=by
    have h2:U.heap[wr.heap.size]?=Z (A7 #[p,q] 85):=by rw[e3];show((wr.alloc (A7 #[p,q] 85)).heap.setIfInBounds r Ly)[wr.heap.size]?=_;rwa[HX,if_neg A']
    rw[A_ h2];rfl
   have hwr:AJ.wrap (n2+1)=n2+1:=BO (RU (n2+1));simp only[EH]at f1 f2 f3;clear C hfr h_ e3 e4 hbx;go_wp2_with fail;go_region_with fail;all_goals go_wp2;exact Jz
  have Es:k=l:=A';subst Es;obtain⟨Y,C3,rfl⟩:=EA H.o.own;go_wp2;go_ret;exact⟨_,rfl,H⟩
structure BI where
 rel:Rel
 na:Option An
 nc:Nat
variable{L:List BI}
abbrev BI.BF(x:BI):A3:=A0 x.na x.rel.Bs x.nc
def HF(L:List BI):List A3:=L.flatMap λx=>[x.rel.p,x.rel.v,x.rel.p,x.rel.v,x.rel.m,A0 x.rel.fa x.rel.Am x.rel.fc,AB AJ 0,x.BF]
def z8(x)(L):HF (x::L)=[A4 x.rel.p,A4 x.rel.v,A4 x.rel.p,A4 x.rel.v,A4 x.rel.m,A0 x.rel.fa x.rel.Am x.rel.fc,AB AJ 0,x.BF]++HF L:=rfl
def aVo(A B):HF (A++B)=HF A++HF B:=by simp[HF]
def aBR(L):(HF L).length=L*8:=by induction L with|nil=>rfl|cons x xs h=>rw[z8,DV,h];simp;omega
structure Pe(w:A1)(g j:Nat)(x:BI):Prop where
 c0:w.cell? ⟨g,j*8,J⟩=Z (A4 x.rel.p)
 c1:w.cell? ⟨g,j*8+1,J⟩=Z (A4 x.rel.v)
 c2:w.cell? ⟨g,j*8+2,J⟩=Z (A4 x.rel.p)
 c3:w.cell? ⟨g,j*8+3,J⟩=Z (A4 x.rel.v)
 c4:w.cell? ⟨g,j*8+4,J⟩=Z (A4 x.rel.m)
 c5:w.cell? ⟨g,j*8+5,J⟩=Z (A0 x.rel.fa x.rel.Am x.rel.fc)
 Dj:w.cell? ⟨g,j*8+6,J⟩=Z (AB AJ 0)
 E4:w.cell? ⟨g,j*8+7,J⟩=Z x.BF
theorem po(L:List BI):∀j(h:j<L.length)(o:Nat)(u:A3),o<8->[A4 L[j].rel.p,A4 L[j].rel.v,A4 L[j].rel.p,A4 L[j].rel.v,A4 L[j].rel.m,A0 L[j].rel.fa L[j].rel.Am L[j].rel.fc,AB AJ 0,L[j].BF][o]?=u->(HF L)[j*8+o]?=u:=by induction L with|nil=>grind|cons x xs I=>intro j hj o u ho hu;rw[z8];match j with|0=>rw[mY Av];simpa using hu|j+1=>rw[Rj Av];have:=I j (by simp at hj;omega) o u ho hu;rw[<-this];congr 1;simp;omega
def T6(w:A1)(g:Nat)(L:List BI):Prop:=∀j(h:j<L.length),Pe w g j L[j]/\EL w L[j].BF L[j].rel.Bs
def Pe.below{w':A1}{g j:Nat}{x:BI}(h:Pe w g j x)(hb:AO w w w'):Pe w' g j x:=⟨keep hb h.c0,keep hb h.c1,keep hb h.c2,keep hb h.c3,keep hb h.c4,keep hb h.c5,keep hb h.Dj,keep hb h.E4⟩
def T6.below{w w':A1}{g:Nat}{L:List BI}(h:T6 w g L)(hb:AO w w w'):T6 w' g L:=λj hj=>⟨(h j hj).1.below hb,(h j hj).2.below hb⟩
def Hf(w:A1)(v:A3)(L:List BI):Prop:=v=A0 J 0 0/\L=[]∨∃g c,v=A0 (Z ⟨g,0,J⟩) L c/\T6 w g L
def Hf.below{w w':A1}{v:A3}{L:List BI}(h:Hf w v L)(hb:AO w w w'):Hf w' v L:=by
 rcases h with h|⟨g,c,I,h2⟩;.exact AA h
 exact AF ⟨g,c,I,h2.below hb⟩
def zA(h:w.ownsRow B 234 8 v L (HF L))(hn:∀x∈L,EL w x.BF x.rel.Bs):Hf w v L:=by
 rcases h.2 with⟨I,h2⟩|⟨N,c,cur,I,_⟩;.exact AA ⟨I,ma.1 h2⟩
 refine AF ⟨N,c,I,λj hj=>⟨?_,hn _ (Ci hj)⟩⟩;rw[I]at h;let k:=λo u ho hu=>Lx h _ _ (po L j hj o u ho hu);exact⟨k 0 _ A' rfl,k 1 _ A' rfl,k 2 _ A' rfl,k 3 _ A' rfl,k 4 _ A' rfl,k 5 _ A' rfl,k 6 _ A' rfl,k 7 _ A' rfl⟩
theorem Hf.open(h:Hf w v L):∃a c,v=A0 a L c/\∀k(h),∃g,a=Z ⟨g,0,J⟩/\Pe w g k L[k]/\EL w L[k].BF L[k].rel.Bs:=by
 rcases h with⟨rfl,rfl⟩|⟨g,c,rfl,h⟩;.simp_all
 exact⟨_,c,rfl,λk hk=>⟨g,rfl,(h k hk).1,(h k hk).2⟩⟩
def aS9(A B):Bb (A++B)=Bb A++Bb B:=by simp[Bb]
def aSA(l):∀u∈Bb l,u.oneCell'=A5:=by intro u hu;let⟨x,_,hx⟩:=YX.1 hu;simp at hx;rcases hx with rfl|rfl<;>rfl
def GY(L:List BI):List AW:=L.flatMap λx=>x.rel.Bs
def aA3(L:List BI)(k:Nat)(h:k<L):GY (L.take (k+1))=GY (L.take k)++L[k].rel.Bs:=by unfold GY;rw[KA L k h,a2Z];simp
def aTD(v:A3)(L:List BI)(w:A1)(hv:Hf w v L)(hL:L.length<=1000000)(hn:∀k,(GY (L.take k)).length<=1000000000):Ab A6 127 #[v] w λe w'=>∃BF,e=AV BF/\w'.ownsRow w 85 2 BF (GY L) (Bb (GY L))/\AO w w w':=by
 obtain⟨i0,hi,hz0,hz1,hz2⟩:=FJ jD;have z:=A2 hn;obtain⟨a,c,rfl,M⟩:=hv.open;have Y:=A2 M;clear hv M hn;go_enter Tryz.func127,Tryz.ntmps127;go_wp2;go_loopw[3,8]λv i wr=>∃k:Nat,k<=L/\i=AX k/\AE (wr.ownsRow w 85 2 v (GY (L.take k)) (Bb (GY (L.take k)))/\AO w w wr)(λ_ i _=>L-(B0 i).toNat);case atStart=>exact⟨0,A',rfl,A2 ⟨PR ..,Az ..⟩⟩
 case round=>
  obtain⟨k,hk,rfl,H⟩:=hrel;obtain⟨hown,hb⟩:=H.o;have U:=A2 hown;have N:=A2 hb;obtain⟨DJ,C3,rfl⟩:=EA hown;clear H hown hb;by_cases hlt:k<L
  .obtain⟨g,rfl,hc,hmd⟩:=Y.o k hlt;obtain⟨c0,c1,c2,c3,c4,c5,Dj,E4⟩:=hc.below N.o;have C:=A2 (hmd.below N.o);have d:=A2 (aA3 L k hlt);have D:=z.o (k+1);rw[aA3 L k hlt,DV]at D;have S:=N.o.size;have Dk:=Cn (h:=c0);clear hc hmd;generalize L[k]=x at c0 c1 c2 c3 c4 c5 Dj E4 C d D;obtain⟨⟨p,v,m,fa,Am,fc,nd⟩,na,nc⟩:=x;simp only[BI.BF]at c0 c1 c2 c3 c4 c5 Dj E4 C d D;rcases C.o with⟨I,h2⟩|⟨XP,nc',I,h2⟩
   .subst h2;injection I with I _ h3;subst I h3;simp only[YU]at d;have R:AE ((wr.alloc (A7 #[A4 p,A4 v,A4 p,A4 v,A4 m,A0 fa Am fc,AX 0,A0 J 0 0] 234)).ownsRow w 85 2 (A0 DJ (GY (L.take k)) C3) (GY (L.take (k+1))) (Bb (GY (L.take (k+1))))/\AO w w (wr.alloc (A7 #[A4 p,A4 v,A4 p,A4 v,A4 m,A0 fa Am fc,AX 0,A0 J 0 0] 234))):=by refine A2 ⟨?_,N.o.alloc S _⟩;rw[d.o];exact U.o.alloc _
    go_wp2_with(at_builtin;refine a1i rfl _ _ 57 rfl w 85 i0 2 fG hi _ _ _ rfl (U.o.alloc _) rfl ?_);exact Jz
   injection I with I _ h3;subst I h3;have PV:=A2 h2;clear h2;go_wp2_with(at_builtin;refine IU _ rfl _ _ 57 rfl w 85 i0 (AH #[A4 ⟨#[]⟩,A4 ⟨#[]⟩]) 2 32 fG hi hz0 hz1 hz2 rfl Ac _ _ _ rfl (U.o.alloc _) ⟨XP,0,J⟩ nd nc (Bb nd) rfl (yH nd) ?c1 (aSA nd) DQ A' RD ?_);case c1=>
    intro j u hj;(try rw[Ea]);(try rw[My]);refine BR ?_ _;have cn:j<nd*2:=by rw[<-yH];exact Po hj
    have hm:=PV.o (j/2) A';have hg:=pI nd (j/2) A';rcases Nat.mod_two_eq_zero_or_one j with h|h;.have e:j=j/2*2:=A';rw[<-e]at hm hg;rw[hg.1]at hj;rw[<-hj];exact hm.1
    have e:j=j/2*2+1:=A';rw[<-e]at hm hg;rw[hg.2]at hj;rw[<-hj];exact hm.2
   intro v' w2 C2 BN _;have hb2:AO w w w2:=(N.o.alloc S _).grown BN Av λk hk=>(U.o.lt k hk).1;have R:AE (w2.ownsRow w 85 2 v' (GY (L.take (k+1))) (Bb (GY (L.take (k+1))))/\AO w w w2):=by refine A2 ⟨?_,hb2⟩;rwa[d.o,aS9,DV]
   clear BN C2 hb2;go_wp2;exact Jz
  have Es:k=L:=A';subst Es;go_wp2;go_ret;rw[Hb]at U⊢;exact⟨_,rfl,U.o,N.o⟩
def vW(v:A3)(L:List BI)(w:A1)(hv:Hf w v L)(hL:L.length<=1000000):Ab A6 62 #[v] w λe w'=>e=AV CN/\AO w w w':=by
 obtain⟨a,c,rfl,d⟩:=hv.open;have j:=A2 d;clear hv d;go_enter Tryz.func62,Tryz.ntmps62;go_wp2;go_loopw[7]λi wr=>∃k:Nat,k<=L/\i=AX k/\AE (AO (AR w) w wr)(λi _=>L-(B0 i).toNat);case atStart=>exact⟨0,A',rfl,Az ..⟩
 case round=>
  obtain⟨k,hk,rfl,I⟩:=hrel;by_cases hlt:k<L;.obtain⟨g,rfl,hc,-⟩:=j k hlt;obtain⟨c0,c1,c2,c3,c4,c5,N,U⟩:=hc.below I.o;have u:=I.o.size;have z:=Cn (h:=c0);clear hc;generalize L[k]=x at c0 c1 c2 c3 c4 c5 N U;obtain⟨⟨p,v,m,fa,Am,fc,nd⟩,na,nc⟩:=x;simp at c0 c1 c2 c3 c4 c5 N U;have R:AE (AO (AR w) w (wr.alloc (A7 #[A4 p,A4 v,A4 p,A4 v,A4 m,A0 fa Am fc,AX 0,A0 na nd nc] 234))):=A2 (I.o.alloc u _);go_wp2;exact Jz
  go_wp2;go_ret;exact⟨rfl,I.o⟩
def a8D:(A6.info? 234).map (λi=>(i.zero,i.size,i.bytes))=Z (Z (AH #[A4 ⟨#[]⟩,A4 ⟨#[]⟩,A4 ⟨#[]⟩,A4 ⟨#[]⟩,A4 ⟨#[]⟩,A0 J 0 0,AB AJ 0,A0 J 0 0]),8,136):=rfl
def aBS(L)(x):HF (L++[x])=HF L++[A4 x.rel.p,A4 x.rel.v,A4 x.rel.p,A4 x.rel.v,A4 x.rel.m,A0 x.rel.fa x.rel.Am x.rel.fc,AB AJ 0,x.BF]:=by simp[HF]
def pV{base e s n xs a b}(h:w.ownsRow base e s v n xs):((w.alloc a).drew.alloc b).ownsRow base e s v n xs:=(h.alloc a).alloc b
def a3g{W:A1}(h:AO B W w)(hb:B<=w)(a b):AO B W ((w.alloc a).drew.alloc b):=by let I:=h.alloc hb a;exact aFX (⟨I.os,I.tape,I.output,I.size,I.block⟩:AO B W (w.alloc a).drew) Av b
def a3h{W:A1}(h:AO B W w)(hb:B<=w)(a b)(n):AO B W (((w.alloc a).drewN n).alloc b):=by let I:=h.alloc hb a;exact aFX (⟨I.os,I.tape,I.output,I.size,I.block⟩:AO B W ((w.alloc a).drewN n)) Av b
def XF(L:List BI)(k:Nat):Bool:=match L[k]?,L[k+1]? with|Z x,Z y=>BK (x.rel.p.toList≠y.rel.p.toList)|_,_=>A5
def Cc(L:List BI):Nat->List BI|0=>[]|k+1=>match L[k]? with|Z x=>if XF L k then Cc L k++[x]else Cc L k|J=>Cc L k
theorem kF(L):∀k,(Cc L k).length<=k|0=>by simp[Cc]|k+1=>by have:=kF L k;grind[Cc]
def zp(v:A3)(L:List BI)(w:A1)(hv:Hf w v L)(hL:L.length<=1000000):Ab A6 66 #[v] w λe w'=>∃tv,e=AV tv/\w'.ownsRow w 234 8 tv (Cc L L.length) (HF (Cc L L))/\AO w w w':=by
 obtain⟨i0,hi,hz0,hz1,hz2⟩:=FJ a8D;obtain⟨a,c,rfl,f9⟩:=hv.open;have v3:=A2 f9;clear hv f9;go_enter Tryz.func66,Tryz.ntmps66;go_wp2;go_loopw[3,8]λv i wr=>∃k:Nat,k<=L/\i=AX k/\AE (wr.ownsRow w 234 8 v (Cc L k) (HF (Cc L k))/\AO w w wr)(λ_ i _=>L-(B0 i).toNat);case atStart=>exact⟨0,A',rfl,A2 ⟨PR _ _ _ _,Az _ _⟩⟩
 case round=>
  obtain⟨k,hk,rfl,H⟩:=hrel;obtain⟨hown,hb⟩:=H.o;have d:=A2 hown;have U:=A2 hb;obtain⟨DJ,C3,rfl⟩:=EA hown;clear H hown hb;by_cases hlt:k<L
  .obtain⟨g,rfl,hc,-⟩:=v3.o k hlt;obtain⟨c0,c1,c2,c3,c4,c5,Dj,E4⟩:=hc.below U;have S:w.heap.size<=wr:=U.o.size;have Dk:g<wr:=Cn (h:=c0);have F':=kF L k;clear hc;have hwr:AJ.wrap ((k:Int)+1)=(k:Int)+1:=BO (RU ((k:Int)+1));by_cases Y:k+1<L
   .obtain⟨g',C,hc',-⟩:=v3 (k+1) Y;injection C with C;injection C with C;subst C;have p4:=(hc'.below U).c0;have N:AE (Cc L (k+1)=if BK (L[k].rel.p.toList≠L[k+1].rel.p.toList)then Cc L k++[L[k]]else Cc L k):=by refine A2 ?_;rw[Cc];simp[XF,En hlt,En Y]
    generalize L[k+1]=y at p4 N;generalize L[k]=x at c0 c1 c2 c3 c4 c5 Dj E4 N;obtain⟨⟨p,v,m,fa,I,fc,nd⟩,na,nc⟩:=x;obtain⟨⟨p',_,_,_,_,_,_⟩,_,_⟩:=y;simp only[BI.BF]at c0 c1 c2 c3 c4 c5 Dj E4 p4 N;have hne:((k:Int)+1==(L:Int))=A9:=Av;have MY:(k:Int)+1<(L:Int):=A';have aMV:(0:Int)<=(k:Int)+1:=A';have Md:((k:Int)+1).toNat=k+1:=A';have v8:wr.cell? ⟨g,(k+1)*8,J⟩=Z p':=p4;clear hc';by_cases z:p.toList=p'.toList
    .rw[if_neg (Ai z)]at N;have j0:(p'.toList==p.toList)=A5:=by simp[z]
     have R:AE ((wr.alloc (A7 #[p,v,p,v,m,A0 fa I fc,AX 0,A0 na nd nc] 234)).drew.ownsRow w 234 8 (A0 DJ (Cc L k) C3) (Cc L (k+1)) (HF (Cc L (k+1)))/\AO w w (wr.alloc (A7 #[p,v,p,v,m,A0 fa I fc,AX 0,A0 na nd nc] 234)).drew):=by have D:=U.o.alloc S (A7 #[p,v,p,v,m,A0 fa I fc,AX 0,A0 na nd nc] 234);refine A2 ⟨?_,⟨D.os,D.tape,D.output,D.size,D.block⟩⟩;rw[N.o];exact d.o.alloc _
     clear z;go_wp2_with fail;go_region_held2 λM=>M.cell? ⟨g,(k+1)*8,J⟩=Z p'/\M.cell? ⟨wr,0,J⟩=Z p(go_keep)(fail);go_wp2;exact Jz
    rw[if_pos (Ai z)]at N;have j0:(p'.toList==p.toList)=A9:=by simp;exact λh=>z h.symm
    clear z;go_wp2_with fail;go_region_held2 λM=>M.cell? ⟨g,(k+1)*8,J⟩=Z p'/\M.cell? ⟨wr,0,J⟩=Z p(go_keep)(fail);go_wp2_with(at_builtin;refine IU _ rfl _ _ 130 rfl w 234 i0 (AH #[A4 ⟨#[]⟩,A4 ⟨#[]⟩,A4 ⟨#[]⟩,A4 ⟨#[]⟩,A4 ⟨#[]⟩,A0 J 0 0,AX 0,A0 J 0 0]) 8 136 lU hi hz0 hz1 hz2 rfl Ac _ _ _ rfl (pV d) ⟨wr+1,0,J⟩ 1 1 [p,v,p,v,m,A0 fa I fc,AX 0,A0 na nd nc] rfl rfl ?c1 ?c2 DQ A' RD ?_);case c1=>intro j u hj;have Eb:((wr.alloc (A7 #[p,v,p,v,m,A0 fa I fc,AX 0,A0 na nd nc] 234)).alloc (A7 #[p,v,p,v,m,A0 fa I fc,AX 0,A0 na nd nc] 234)).drew.heap[wr.heap.size+1]?=Z (A7 #[p,v,p,v,m,A0 fa I fc,AX 0,A0 na nd nc] 234):=CS (wr.alloc _) _ _ AD;(rw[Ea]);(try rw[My]);refine(A_ Eb j).trans ?_;rw[<-hj];simp
    case c2=>intro u hu;simp at hu;rcases hu with rfl|rfl|rfl|rfl|rfl|rfl|rfl|rfl<;>rfl
    intro v' w2 C2 BN _;have hb2:AO w w w2:=(a3g U S _ _).grown BN Av λk hk=>(d.o.lt k hk).1;have R:AE (w2.ownsRow w 234 8 v' (Cc L (k+1)) (HF (Cc L (k+1)))/\AO w w w2):=by refine A2 ⟨?_,hb2⟩;rwa[N.o,aBS,DV]
    clear BN C2 hb2;go_wp2;exact Jz
   have N:AE (Cc L (k+1)=Cc L k++[L[k]]):=by refine A2 ?_;rw[Cc];simp[XF,En hlt,aHW (UM Y)]
   have iA:(L:Int)=(k:Int)+1:=A';generalize L[k]=x at c0 c1 c2 c3 c4 c5 Dj E4 N;obtain⟨⟨p,v,m,fa,I,fc,nd⟩,na,nc⟩:=x;simp only[BI.BF]at c0 c1 c2 c3 c4 c5 Dj E4 N;go_wp2_with fail;go_quiet(fail);have aN0:=A2 iA;clear iA;go_wp2_with(at_builtin;refine IU _ rfl _ _ 130 rfl w 234 i0 (AH #[A4 ⟨#[]⟩,A4 ⟨#[]⟩,A4 ⟨#[]⟩,A4 ⟨#[]⟩,A4 ⟨#[]⟩,A0 J 0 0,AX 0,A0 J 0 0]) 8 136 lU hi hz0 hz1 hz2 rfl Ac _ _ _ rfl (pV d) ⟨wr+1,0,J⟩ 1 1 [p,v,p,v,m,A0 fa I fc,AX 0,A0 na nd nc] rfl rfl ?c1 ?c2 DQ A' RD ?_);case c1=>intro j u hj;have Eb:((wr.alloc (A7 #[p,v,p,v,m,A0 fa I fc,AX 0,A0 na nd nc] 234)).alloc (A7 #[p,v,p,v,m,A0 fa I fc,AX 0,A0 na nd nc] 234)).drew.heap[wr.heap.size+1]?=Z (A7 #[p,v,p,v,m,A0 fa I fc,AX 0,A0 na nd nc] 234):=CS (wr.alloc _) _ _ AD;(try rw[Ea]);(try rw[My]);refine(A_ Eb j).trans ?_;rw[<-hj];simp
   case c2=>intro u hu;simp at hu;rcases hu with rfl|rfl|rfl|rfl|rfl|rfl|rfl|rfl<;>rfl
   intro v' w2 C2 BN _;have hb2:AO w w w2:=(a3h U S _ _ nq).grown BN Av λk hk=>(d.o.lt k hk).1;have R:AE (w2.ownsRow w 234 8 v' (Cc L (k+1)) (HF (Cc L (k+1)))/\AO w w w2):=by refine A2 ⟨?_,hb2⟩;rwa[N.o,aBS,DV]
   clear BN C2 hb2;go_wp2;exact Jz
  have Es:k=L:=A';subst Es;go_wp2;go_ret;exact⟨_,rfl,d,U⟩
def F6(a b:AW):Int:=if Fx a.1 b.1≠0 then Fx a.1 b.1 else V.order a.2 b.2
def nP(a b:AW)(m:Int)(w:A1)(ha:a.2.size<=40)(hb:b.2.size<=40)(hm:w.cell? ⟨0,0,J⟩=Z (AB AJ m)):Ab A6 203 #[AH #[a.1,a.2],AH #[b.1,b.2]] w λe w'=>e=AV (F6 a b)/\AO w w w'/\w.drawn<=w'.drawn:=by
 let⟨p,u⟩:=a;let⟨q,v⟩:=b;simp only at ha hb;go_enter Tryz.func203,Tryz.ntmps203;go_wp2_with fail;refine(Tryz.strings_Compare p q _).mono ?_;rintro e w1⟨rfl,rfl⟩;have h:AE (F6 (p,u) (q,v)=if Fx p q≠0 then Fx p q else V.order u v):=rfl;generalize Fx p q=c at h⊢;by_cases hc:c=0;.subst hc;rw[if_neg AD]at h;go_wp2_with fail;refine(qV u v m _ ha hb (BR (BR hm _) _)).mono ?_;rintro e w2⟨rfl,hb2,hd⟩;have I:=A2 ((K9 w ..).trans (hb2.mono (K9 w ..).size));have N:=A2 hd;clear hb2 hd;go_wp2;go_ret;exact⟨by show AV (AX _)=_;rw[h.o],I,N⟩
 rw[if_pos hc]at h;have U:=Ai hc;go_wp2;go_ret;exact⟨by show AV (AX _)=_;rw[h.o],K9 ..,Ad _⟩
def aKH(x y:BI)(m:Int)(w:A1)(ha:x.rel.v.size<=40)(hb:y.rel.v.size<=40)(hm:w.cell? ⟨0,0,J⟩=Z (AB AJ m)):Ab A6 129 #[aF x.rel x.BF,aF y.rel y.BF] w λe w'=>e=AV (F6 x.rel.name y.rel.name)/\AO w w w'/\w.drawn<=w'.drawn:=by let⟨⟨p,v,mm,fa,Am,fc,nd⟩,na,nc⟩:=x;let⟨⟨p',v',mm',fa',fl',fc',nd'⟩,na',nc'⟩:=y;simp at*;go_enter Tryz.func129,Tryz.ntmps129;go_wp2_with fail;refine(nP (p,v) (p',v') m _ ha hb (BR (BR hm _) _)).mono ?_;rintro e w2⟨rfl,hb2,hd⟩;have h:=A2 ((K9 w ..).trans (hb2.mono (K9 w ..).size));have I:=A2 hd;clear hb2 hd;go_wp2;go_ret;exact⟨rfl,h,I⟩
def a4I(p v:zz)(w:A1)(hp:p.size<=1000000)(hv:v.size<=1000000):Ab A6 136 #[AH #[p,v]] w λe w'=>e=AV (AH #[p,v])/\AO w w w':=by
 have d:p.size<=281474976710656:=A';have i:v.size<=281474976710656:=A';clear hp hv;go_enter Tryz.func136,Tryz.ntmps136;go_wp2_with fail;have U:=A2 (K9 w (A7 #[p,v] 85) (A7 #[A4 ⟨#[]⟩,A4 ⟨#[]⟩] 85));have j:=A2 (CS (w.alloc (A7 #[p,v] 85)) (A7 #[A4 ⟨#[]⟩,A4 ⟨#[]⟩] 85) (w+1) AD);have z:AE (((w.alloc (A7 #[p,v] 85)).alloc (A7 #[A4 ⟨#[]⟩,A4 ⟨#[]⟩] 85)).heap[w.heap.size]?=Z (A7 #[p,v] 85)):=(by rw[BU _ _ _ AD];exact CS _ _ _ rfl);generalize(w.alloc (A7 #[p,v] 85)).alloc (A7 #[A4 ⟨#[]⟩,A4 ⟨#[]⟩] 85)=W at U z j⊢;have N:AE (∀h,AO W W h->h.cell? ⟨w,0,J⟩=Z p/\h.cell? ⟨w,1,J⟩=Z v/\h.cell? ⟨w+1,0,J⟩=Z (A4 ⟨#[]⟩)/\h.cell? ⟨w+1,1,J⟩=Z (A4 ⟨#[]⟩)/\h.frozen? ⟨w+1,0,J⟩=A9/\h.frozen? ⟨w+1,1,J⟩=A9):=by refine λh hb=>?_;have h0:=De hb z;have I:=De hb j;exact⟨by rw[A_ h0];rfl,by rw[A_ h0];rfl,by rw[A_ I];rfl,by rw[A_ I];rfl,C' I 0,C' I 1⟩
 have OH:AO W W W.drew:=⟨rfl,rfl,rfl,Ad _,λ_ _=>rfl⟩;obtain⟨a0,a1,-,-,-,-⟩:=N.o W (Az ..);have k0:=A';go_region_held2 λh=>h.cell? ⟨w,0,J⟩=Z (A4 p)/\h.cell? ⟨w,1,J⟩=Z (A4 v)(go_keep)(first|(go_at_call_of 86(A4 p);refine(nO p _ d).mono ?_;rintro e wa⟨rfl,C⟩;have u:=OH.trans C;(obtain⟨e0,e1,-,-,-,-⟩:=N.o wa u);have H:=A2 u;clear u C)|(go_at_call_of 86(A4 v);refine(nO v _ i).mono ?_;rintro e M⟨rfl,S⟩;have hB:=H.o.trans (S.mono H.o.size);(let⟨g0,g1,g2,g3,g4,g5⟩:=N.o M hB);have Y:=A2 hB;clear hB S));all_goals go_wp2_with fail;have D:=CO _ (w+1) 1 _ _ v (CO M (w+1) 0 _ _ p (De Y j));refine IT (Ss rfl _ _ (w+1) 85 #[p,v] (0,0) _ rfl D fH rfl (rfl)) rfl ?_;have hw:=U.o.trans (Y.o.mono U.o.size);exact⟨rfl,(hw.setCell (by show _<=w.heap.size+1;omega) _).setCell (by show _<=w.heap.size+1;omega) _⟩
def names(L:List BI):List AW:=L.map λx=>x.rel.name
def aT8(L:List BI)(k:Nat)(h:k<L):names (L.take (k+1))=names (L.take k)++[L[k].rel.name]:=by unfold names;rw[KA L k h,Pa];rfl
def aR5(v:A3)(L:List BI)(w:A1)(hv:Hf w v L)(hL:L.length<=1000000)(hs:∀x∈L,x.rel.p.size<=1000000/\x.rel.v.size<=1000000):Ab A6 65 #[v] w λe w'=>∃M,e=AV M/\w'.ownsRow w 85 2 M L (Bb (names L))/\AO w w w':=by
 obtain⟨i0,hi,hz0,hz1,hz2⟩:=FJ jD;obtain⟨a,c,rfl,S⟩:=hv.open;have v3:=A2 S;have Kv:=A2 hs;obtain⟨w1,Ja,Y,SB⟩:=a1c w w 57 85 i0 (AH #[A4 ⟨#[]⟩,A4 ⟨#[]⟩]) 2 fG hi hz0 hz1 AJ AJ L (by rw[hz2];omega) DQ (Ad _);have GS:=A2 Y;have n3:=A2 ((Az _ w).grown SB (Ad _) λk hk=>by cases hk);clear hv S hs Y SB;go_enter Tryz.func65,Tryz.ntmps65;go_wp2;go_loopw[3,11]λv i wr=>∃k:Nat,k<=L/\i=AX k/\AE (wr.ownsRow w 85 2 v k (Bb (names (L.take k)))/\AO w w wr)(λ_ i _=>L-(B0 i).toNat);case atStart=>exact⟨0,A',rfl,A2 ⟨GS.o,n3.o⟩⟩
 case round=>
  obtain⟨k,hk,rfl,H⟩:=hrel;obtain⟨hown,hb⟩:=H.o;have N:=A2 hown;have I:=A2 hb;obtain⟨DJ,C3,rfl⟩:=EA hown;clear H hown hb;by_cases hlt:k<L
  .obtain⟨g,rfl,hc,-⟩:=v3.o k hlt;obtain⟨c0,c1,c2,c3,c4,c5,Dj,E4⟩:=hc.below I.o;have Dd:=I.o.size;have Dk:=Cn (h:=c0);obtain⟨d,z⟩:=Kv.o L[k] (Ci hlt);have U:=A2 (aT8 L k hlt);clear hc;generalize L[k]=x at c0 c1 c2 c3 c4 c5 Dj E4 U d z;obtain⟨⟨p,v,m,fa,Am,fc,nd⟩,na,nc⟩:=x;simp only[BI.BF,Rel.name]at c0 c1 c2 c3 c4 c5 Dj E4 U d z;go_wp2_with fail;refine(a4I p v _ d z).mono ?_;rintro e w2⟨rfl,hb2⟩;have C:=(I.o.alloc Dd (A7 #[A4 p,A4 v,A4 p,A4 v,A4 m,A0 fa Am fc,AX 0,A0 na nd nc] 234)).trans (hb2.mono Av);have Cs:=A2 C;have D:=C.size;have QZ:=A2 (VA (N.o.alloc (A7 #[A4 p,A4 v,A4 p,A4 v,A4 m,A0 fa Am fc,AX 0,A0 na nd nc] 234)) hb2);clear hb2 C;go_wp2_with(at_builtin;refine IU _ rfl _ _ 57 rfl w 85 i0 (AH #[A4 ⟨#[]⟩,A4 ⟨#[]⟩]) 2 32 fG hi hz0 hz1 hz2 rfl Ac _ _ _ rfl (QZ.o.alloc _) ⟨w2,0,J⟩ 1 1 [A4 p,A4 v] rfl rfl ?c1 Of DQ A' RD ?_);case c1=>intro j u hj;have Eb:=CS w2 (A7 #[A4 p,A4 v] 85) _ rfl;match j,hj with|0,hj=>simp at hj;subst hj;rw[Ea,A_ Eb];rfl|1,hj=>simp at hj;subst hj;rw[Ea,A_ Eb];rfl
   intro v' w3 C2 BN _;have Cz:=(Cs.o.alloc D _).grown BN Av λk hk=>(QZ.o.lt k hk).1;have R:AE (w3.ownsRow w 85 2 v' (k+1) (Bb (names (L.take (k+1))))/\AO w w w3):=by exact A2 ⟨by rwa[U.o,R5],Cz⟩
   clear BN C2 Cz;go_wp2;exact Jz
  have Es:k=L:=A';subst Es;go_wp2;go_ret;rw[Hb]at N;exact⟨_,rfl,N.o,I.o⟩
end
theorem aXn{α:Type}{P:List α->Prop}(none:P [])(more:∀l x,P l->P (l++[x])):∀l,P l:=λl=>by rw[<-List.reverse_reverse l];induction l.reverse with|nil=>grind|cons x r ih=>grind
structure QX(F:Nat×Nat->List (Nat×Nat))(rt:List (Nat×Nat))(S l:List (Nat×Nat)):Prop where
 nodup:S.Nodup
 seen:∀x∈S,N.Reach F rt x
 todo:∀x∈l,N.Reach F rt x
 root:∀x∈rt,x∈S∨x∈l
 closed:∀x∈S,∀y∈F x,y∈S∨y∈l
def QX.start(F)(rt):QX F rt [] rt:=⟨a2d,λx hx=>BA,λx hx=>.root hx,λx hx=>AF hx,λx hx=>BA⟩
theorem QX.skip{F rt S l x}(h:QX F rt S (l++[x]))(hx:x∈S):QX F rt S l:=by
 let hm:∀y,y∈S∨y∈l++[x]->y∈S∨y∈l:=λy hy=>by grind
 exact⟨h.nodup,h.seen,λy hy=>h.todo y (E8.2 (AA hy)),λy hy=>hm y (h.root y hy),λy hy z hz=>hm z (h.closed y hy z hz)⟩
theorem QX.more{F rt S l x}(h:QX F rt S (l++[x]))(hx:x∉S):QX F rt (S++[x]) (l++F x):=by
 have hr:=h.todo x AD;let hm:∀y,y∈S∨y∈l++[x]->y∈S++[x]∨y∈l++F x:=λy hy=>by grind
 refine⟨?_,λy hy=>?_,λy hy=>?_,λy hy=>hm y (h.root y hy),λy hy z hz=>?_⟩;.rw[gC];exact⟨h.nodup,AD,λa ha b hb e=>by rw[ES.1 hb]at e;exact hx (e▸ha)⟩
 .rcases E8.1 hy with hy|hy;.exact h.seen y hy
  rwa[ES.1 hy]
 .rcases E8.1 hy with hy|hy;.exact h.todo y (E8.2 (AA hy))
  exact .step hr hy
 rcases E8.1 hy with hy|hy;.exact hm z (h.closed y hy z hz)
 rw[ES.1 hy]at hz;exact AF (E8.2 (AF hz))
def QX.done{F rt S}(h:QX F rt S []):∀x,x∈S↔N.Reach F rt x:=λx=>by refine⟨h.seen x,λhr=>?_⟩;induction hr with|root hx=>exact(h.root _ hx).resolve_right λh=>BA|step _ hy I=>exact(h.closed _ I _ hy).resolve_right λh=>BA
section
open Go.RowKit Go.Sort
variable{w:A1}
abbrev bh:Type:={x:BI//x.rel.v.size<=40}
instance:Inhabited bh:=⟨⟨⟨⟨⟨#[]⟩,⟨#[]⟩,⟨#[]⟩,J,0,0,[]⟩,J,0⟩,by show(0:Nat)<=40;omega⟩⟩
def encR(x:bh):List A3:=[x.1.rel.p,x.1.rel.v,x.1.rel.p,x.1.rel.v,x.1.rel.m,A0 x.1.rel.fa x.1.rel.Am x.1.rel.fc,AB AJ 0,x.1.BF]
def nL(x y:bh):Int:=F6 x.1.rel.name y.1.rel.name
def Zn:V.IZ F6:=by
 let e:F6=V.JF (λa b:AW=>Fx a.1 b.1) λa b:AW=>V.order a.2 b.2:=by
  funext a b;unfold F6 V.JF;by_cases h:Fx a.1 b.1=0;.simp
  simp
 rw[e];exact(V.c7.1.back λa:AW=>a.1).then ⟨λa b=>V.aAT ..,λa b=>V.aAU ..,λa b c=>V.aAS _ _ _⟩
theorem aCS{α}{f:α->α->Int}(h:V.IZ f):SWO (RY f)where
 irrefl x:=by grind[RY,h.refl]
 trans x y z h1 h2:=by
  unfold RY at*;rw[decide_eq_true_eq]at*;let t:=h.2.2 x y z A' A';let r1:=h.2.1 x z;by_cases h0:f x z=0;.let I:=h.2.2 z x y A' A';let r2:=h.2.1 y z;omega
  grind
 ntrans x y z h1 h2:=by unfold RY at*;rw[decide_eq_false_iff_not]at*;let r1:=h.2.1 x y;let r2:=h.2.1 y z;let r3:=h.2.1 x z;let t:=h.2.2 z y x A' A';omega
def aYm:SWO (RY nL):=aCS (Zn.back λx:bh=>x.1.rel.name)
theorem a5R{w':A1}(h:Below w w w')(hd:w.drawn<=w'.drawn):∃q os,w'=grow (w.drewN q) os:=by let⟨p,hp⟩:=aFw h;let I:w.drawn<=p.d:=yu hp hd;refine⟨p.d-w.drawn,p.os,?_⟩;rw[hp];unfold sf aFg;grind
def aCD{blk m b:Nat}{d:Array bh}{os:Array Cq}(hb:b≠blk)(hl:b<w):(b5 encR 8 w blk 0 m d os).heap[b]?=w.heap[b]?:=by show(_++os)[b]?=_;rw[a's (Ar fL)];simp[putRowK,putRow,mapBlock,qu,Gy hb]
def aK6(I N)(m)(w)(hb:I≠0)(hm:w.cell? ⟨0,0,J⟩=Z (AB AJ m)):CmpLays A6 129 #[] encR 8 nL I 0 N w:=by intro k os d _ x y;refine(aKH x.1 y.1 m _ x.2 y.2 ((C8 (aCD (Gy hb) (Cn (h:=hm)))).trans hm)).mono ?_;rintro e w'⟨rfl,U,hd⟩;exact⟨rfl,a5R U hd⟩
theorem aL8:∀h w,(MA 129 h).run A6 w=.ok (NY 129 h) w:=by simp_all
def aIu:∀w,(sb (Tryz.zi.t 24)).run A6 w=.ok A5 w:=by intro w;rfl
def aXf:∀w,(Rb (Tryz.zi.t 24)).run A6 w=.ok 8 w:=by intro w;rfl
def SR(L:List BI)(hv:∀x∈L,x.rel.v.size<=40):List bh:=L.pmap (λx h=>⟨x,h⟩) hv
theorem aVq(L)(hv):(SR L hv).map (·.1)=L:=by simp_all[SR,th]
def He(L:List BI):Prop:=L.Pairwise λa b=>F6 a.rel.name b.rel.name<=0
def aCF(g cap:Nat)(m:Int)(L:List BI)(w:A1)(hl:L.length<=1000000)(hv:∀x∈L,x.rel.v.size<=40)(C:g≠0)(D:g<w)(hr:∀j(h:j<L.length),Pe w g j L[j])(H:∀o,w.frozen? ⟨g,o,J⟩=A9)(hm:w.cell? ⟨0,0,J⟩=Z (AB AJ m)):Ab A6 128 #[A0 (Z ⟨g,0,J⟩) L cap,Br (Bo 129) #[] #[]] w λe w'=>e=AV (Aj #[])/\∃R,R.Perm L/\He R/\(∀j(h:j<R.length),Pe w' g j R[j])/\w.heap.size<=w'/\∀b,b<w.heap.size->b≠g->w'.heap[b]?=w.heap[b]?:=by
 let N:(SR L hv).toArray.size=L:=by simp[SR]
 let d:sU encR 8 w g 0 (SR L hv).toArray:=by
  intro t ht;rw[aFd,N]at ht;refine⟨?_,H _⟩;let hj:t/8<L:=A';have hc:=hr (t/8) hj;have he:(SR L hv).toArray[t/8]!.1=L[t/8]:=by rw[getElem!_pos _ _ (Ar N)];simp[SR]
  rw[id,get_flatK _ _ _ _ (Ar N)];have M:0+t=t/8*8+t%8:=A';rw[M];have hlt:t%8<8:=mi _ A';generalize((SR L hv).toArray[t/8]!)=y at he;unfold encR;rw[he];generalize L[t/8]=z at hc;generalize t/8=q at hc⊢;generalize t%8=o at hlt⊢;match o,hlt with|0,_=>exact hc.c0|1,_=>exact hc.c1|2,_=>exact hc.c2|3,_=>exact hc.c3|4,_=>exact hc.c4|5,_=>exact hc.c5|6,_=>exact hc.Dj|7,_=>exact hc.E4
 have h:=aFA Tryz.aCE 8 aIu aXf encR (λx=>rfl) λx v hx=>by simp[encR]at hx;rcases hx with rfl|rfl|rfl|rfl|rfl|rfl|rfl|rfl<;>rfl nL aYm 129 #[] g 0 cap (SR L hv).toArray w aL8 (aK6 g _ m w C hm) d D (by rw[N];omega);rw[N]at h;refine h.mono ?_;rintro e w'⟨rfl,d',n,U,hp,hs,rfl⟩;have hd:d'.size=L:=by rw[hp.1,N]
 have S:=by have h3:=hp.2.2;rw[<-hd,eM]at h3;rw[show(SR L hv).toArray.extract 0 d'.size=(SR L hv).toArray from As hp.1 eM]at h3;simpa using h3
 refine⟨rfl,d'.toList.map (·.1),?_,?_,?_,?_,?_⟩;.have:=S.map (·.1);rwa[aVq]at this
 .unfold He;rw[I8,Qc];intro i j hi hj hij;have:=hs i j (JS _) hij (by rw[<-hd];simpa using hj);unfold RY nL at this;rw[decide_eq_false_iff_not]at this;rw[getElem!_pos d' i (Ai hi),getElem!_pos d' j (Ai hj)]at this;have t:=Zn.2.1 (d'[i]'(Ai hi)).1.rel.name (d'[j]'(Ai hj)).1.rel.name;simp;omega
 .intro j hj;have u:=Ai hj;have hh:sU encR 8 (b5 encR 8 w g 0 n d' U) g 0 d':=by exact aFb _ _ _ _ _ _ _ (Ar fL) (aFc _ _ _ _ _ _ _ (aFa _ _ _ _ _ _ _ d) (by rw[hd,N]))
  have I:=λc(hc:c<8)=>(hh.cell u hc).1;rw[getElem!_pos d' j u]at I;simp at I;simp;exact⟨I 0 A',I 1 A',I 2 A',I 3 A',I 4 A',I 5 A',I 6 A',I 7 A'⟩
 .show _<=(_++U).size;rw[eP,fL];show AR w<=AR w+U.size;omega
 exact λb hb hne=>aCD hne hb
end
section
open Go.RowKit Go.Sort Go.Shelf
variable{w:A1}{os:Array Cq}{k:Nat}
section
variable{α:Type}[Inhabited α]
omit[Inhabited α]in theorem a5J(l:List A3)(o)(h:o<l.length):l[o]?=Z l[o]!:=by grind
def aCB{enc:α->List A3}{blk m b:Nat}{d:Array α}(hb:b≠blk)(hl:b<w):(b5 enc k w blk 0 m d os).heap[b]?=w.heap[b]?:=by show(_++os)[b]?=_;rw[a's (Ar fL)];simp[putRowK,putRow,mapBlock,qu,Gy hb]
theorem aXp{enc:α->List A3}{blk m:Nat}{d:Array α}:w.heap.size<=b5 enc k w blk 0 m d os:=by simp_all[b5,eP,fL]
def qK{ρ:Ren}(hL:fE A6 ρ)(k)(d:∀w,(sb (ρ.t 24)).run A6 w=.ok A5 w)(u:∀w,(Rb (ρ.t 24)).run A6 w=.ok k w)(enc:α->List A3)(hk:∀x,enc x=k)(D:0<k)(h1:∀x,∀v∈enc x,v.oneCell'=A5)(N:α->α->Int)(H:V.IZ N)(fc:Nat)(vJ:∀I w,(MA fc I).run A6 w=.ok (NY fc I) w)(g cap:Nat)(l:List α)(w:A1)(hl:l.length<=1000000)(Dk:g<w)(hc:∀j(h:j<l.length)o,o<k->w.cell? ⟨g,j*k+o,J⟩=(enc l[j])[o]?)(MW:∀o,w.frozen? ⟨g,o,J⟩=A9)(z:∀U,(∀b,b<w.heap.size->b≠g->U.heap[b]?=w.heap[b]?)->∀x y,Ab A6 fc #[AH (enc x).toArray,AH (enc y).toArray] U λe w'=>e=AV (N x y)/\Below U U w'/\U.drawn<=w'.drawn):Ab A6 (ρ.f 6) #[A0 (Z ⟨g,0,J⟩) l cap,Br (Bo fc) #[] #[]] w λe w'=>e=AV (Aj #[])/\∃R:List α,R.Perm l/\(R.Pairwise λa b=>N a b<=0)/\(∀j(h:j<R.length)o,o<k->w'.cell? ⟨g,j*k+o,J⟩=(enc R[j])[o]?)/\CV g w w w':=by
 let M:sU enc k w g 0 l.toArray:=by
  intro t ht;rw[aFd,Rm]at ht;refine⟨?_,MW _⟩;have hj:=(aHq D).2 ht;let ho:t%k<k:=mi _ D;rw[id,get_flatK _ _ _ _ (Ar Rm)];let JW:0+t=t/k*k+t%k:=by rw[My,Nat.mul_comm];exact(Nat.div_add_mod t k).symm
  rw[JW,hc (t/k) hj (t%k) ho];let KX:l.toArray[t/k]! =l[t/k]:=by rw[getElem!_pos _ _ (Ar Rm)];simp
  rw[KX];exact a5J _ _ (Ar hk)
 let C:CmpLays A6 fc #[] enc k N g 0 l.toArray.size w:=by intro m os Rx _ x y;refine(z (b5 enc k w g 0 m Rx os) (λb hb hne=>aCB hne hb) x y).mono ?_;rintro e w'⟨rfl,hb,hd⟩;exact⟨rfl,a5R hb hd⟩
 let h:=aFA hL k d u enc hk h1 N (aCS H) fc #[] g 0 cap l.toArray w vJ C M Dk (by rw[Rm];omega);rw[Rm]at h;refine h.mono ?_;rintro e w'⟨rfl,d',n,os,hp,hs,rfl⟩;let hd:d'.size=l:=by rw[hp.1,Rm]
 have Ma:=by let h3:=hp.2.2;rw[<-hd,eM]at h3;rw[show l.toArray.extract 0 d'.size=l.toArray from As hp.1 eM]at h3;simpa using h3
 refine⟨rfl,d'.toList,Ma,?_,?_,⟨rfl,rfl,rfl,aXp,λb hb hne=>aCB hne hb⟩⟩;.rw[Qc];intro i j hi hj hij;have:=hs i j (JS _) hij (by rw[<-hd];simpa using hj);unfold RY at this;rw[decide_eq_false_iff_not]at this;rw[getElem!_pos d' i (Ai hi),getElem!_pos d' j (Ai hj)]at this;let t:=H.2.1 (d'[i]'(Ai hi)) (d'[j]'(Ai hj));simp;omega
 intro j hj o ho;have S:=Ai hj;let hh:sU enc k (b5 enc k w g 0 n d' os) g 0 d':=by exact aFb _ _ _ _ _ _ _ (Ar fL) (aFc _ _ _ _ _ _ _ (aFa _ _ _ _ _ _ _ M) (by rw[hd,Rm]))
 let Y:=(hh.cell S ho).1;rw[getElem!_pos d' j S,My]at Y;rw[Y];exact(a5J _ _ (Ar hk)).symm
end
end
section
open Go.RowKit
abbrev VS(r:Rel):A3:=AH #[r.p,r.v,r.m,A0 r.fa r.Am r.fc]
def a9x(p v m:zz)(fa:Option An)(h fc:Nat)(w:A1):Ab A6 122 #[AH #[p,v,m,A0 fa h fc]] w λe w'=>e=AV (AH #[p,v])/\AO w w w'/\w.drawn<=w'.drawn:=by go_enter Tryz.func122,Tryz.ntmps122;go_wp2;(try simp only[Sg,Exit.then]);exact IT (Ss rfl _ _ (AR w+1) 85 #[p,v] (0,0) _ rfl (CS _ _ _ (by simp only[Ck])) fH rfl (rfl)) rfl ⟨rfl,K9 ..,Ad _⟩
def a4G(x y:Rel)(m:Int)(w:A1)(ha:x.v.size<=40)(hb:y.v.size<=40)(hm:w.cell? ⟨0,0,J⟩=Z (AB AJ m)):Ab A6 207 #[VS x,VS y] w λe w'=>e=AV (F6 x.name y.name)/\AO w w w'/\w.drawn<=w'.drawn:=by
 let⟨p,v,mm,fa,Am,fc,nd⟩:=x;let⟨p',v',mm',fa',fl',fc',nd'⟩:=y;simp at*;go_enter Tryz.func207,Tryz.ntmps207;go_wp2_with fail;have j:=A2 (K9 w (A7 #[p,v,mm,A0 fa Am fc] 75) (A7 #[p',v',mm',A0 fa' fl' fc'] 75));have H:=A2 (CS (w.alloc (A7 #[p,v,mm,A0 fa Am fc] 75)) (A7 #[p',v',mm',A0 fa' fl' fc'] 75) (AR w+1) AD);have M:AE (((w.alloc (A7 #[p,v,mm,A0 fa Am fc] 75)).alloc (A7 #[p',v',mm',A0 fa' fl' fc'] 75)).heap[w.heap.size]?=Z (A7 #[p,v,mm,A0 fa Am fc] 75)):=(by rw[BU _ _ _ AD];exact CS _ _ _ rfl);have S:AE (((w.alloc (A7 #[p,v,mm,A0 fa Am fc] 75)).alloc (A7 #[p',v',mm',A0 fa' fl' fc'] 75)).cell? ⟨0,0,J⟩=m):=BR (BR hm _) _;have I:AE (((w.alloc (A7 #[p,v,mm,A0 fa Am fc] 75)).alloc (A7 #[p',A4 v',A4 mm',A0 fa' fl' fc'] 75)).drawn=w.drawn):=A2 rfl;clear hm;generalize(w.alloc (A7 #[A4 p,A4 v,A4 mm,A0 fa Am fc] 75)).alloc (A7 #[A4 p',A4 v',A4 mm',A0 fa' fl' fc'] 75)=W at j M H S I⊢;have i:AE (∀h,AO (AR W) W h->(h.cell? ⟨w,0,J⟩=Z (A4 p)/\h.cell? ⟨w,1,J⟩=Z (A4 v)/\h.cell? ⟨w,2,J⟩=Z (A4 mm)/\h.cell? ⟨w,3,J⟩=Z (A0 fa Am fc))/\h.cell? ⟨w+1,0,J⟩=Z (A4 p')/\h.cell? ⟨w+1,1,J⟩=Z (A4 v')/\h.cell? ⟨w+1,2,J⟩=Z (A4 mm')/\h.cell? ⟨w+1,3,J⟩=Z (A0 fa' fl' fc')):=by refine A2 λh hb=>?_;have h0:=De hb M.o;have h1:=De hb H.o;exact⟨⟨by rw[A_ h0];rfl,by rw[A_ h0];rfl,by rw[A_ h0];rfl,by rw[A_ h0];rfl⟩,by rw[A_ h1];rfl,by rw[A_ h1];rfl,by rw[A_ h1];rfl,by rw[A_ h1];rfl⟩
 have OH:AO (AR W) W W.drew:=⟨rfl,rfl,rfl,Ad _,λ_ _=>rfl⟩;let⟨⟨a0,a1,a2,a3⟩,a4,a5,a6,a7⟩:=i.o W (Az ..);go_region_held2 λh=>h.cell? ⟨w,0,J⟩=Z (A4 p)/\h.cell? ⟨w,1,J⟩=Z (A4 v)/\h.cell? ⟨w,2,J⟩=Z (A4 mm)/\h.cell? ⟨w,3,J⟩=Z (A0 fa Am fc)/\h.cell? ⟨w+1,0,J⟩=Z (A4 p')/\h.cell? ⟨w+1,1,J⟩=Z (A4 v')/\h.cell? ⟨w+1,2,J⟩=Z (A4 mm')/\h.cell? ⟨w+1,3,J⟩=Z (A0 fa' fl' fc')(go_keep)(first|(go_at_call_of 122(AH #[A4 p,A4 v,A4 mm,A0 fa Am fc]);refine(a9x p v mm fa Am fc _).mono ?_;rintro e wa⟨rfl,Y,N⟩;have u:=OH.trans Y;have z:=A2 (Dn (Nat.le_succ _) N);(let⟨⟨e0,e1,e2,e3⟩,e4,e5,e6,e7⟩:=i.o wa u);have z0:=A2 u;clear u Y N)|(go_at_call_of 122(AH #[A4 p',A4 v',A4 mm',A0 fa' fl' fc']);refine(a9x p' v' mm' fa' fl' fc' _).mono ?_;rintro e HH⟨rfl,HO,U⟩;have hB:=z0.o.trans (HO.mono z0.o.size);have C:=A2 (Dn z.o U);(let⟨⟨g0,g1,g2,g3⟩,g4,g5,g6,g7⟩:=i.o HH hB);have D:=A2 hB;clear hB HO U)|(go_at_call 203;refine(nP (p,v) (p',v') m _ ha hb (keep D.o S.o)).mono ?_;rintro e wc⟨rfl,hbc,d⟩;have hC:=D.o.trans (hbc.mono D.o.size);have aaW:=A2 (Dn C.o d);(let⟨⟨k0,k1,k2,F5⟩,k4,k5,k6,k7⟩:=i.o wc hC);have Cg:=A2 hC;clear hC hbc d));all_goals go_wp2_with fail;go_ret;exact⟨rfl,j.o.trans (Cg.o.mono j.o.size),by rwa[<-I.o]⟩
theorem V.aSg(h b):0<=V.Zo h b/\V.Zo h b<18446744073709551616:=by grind[V.Zo,a0h]
def V.aSh(h)(s):0<=V.KB h s/\V.KB h s<18446744073709551616:=As V.a9j (V.aSg ..)
def V.dy(p v m x y:zz):zx:=V.kD (V.KB (V.KB (V.KB (V.KB (V.KB 14695981039346656037 p) v) m) x) y)
def TA(w:A1)(r:Rel)(s:zz):Prop:=∃a x y,r.fa=Z ⟨a,0,J⟩/\r.Am=1/\w.cell? ⟨a,0,J⟩=Z (A4 x)/\w.cell? ⟨a,1,J⟩=Z (A4 y)/\(r.p.size<=1000000000/\r.v.size<=1000000000/\r.m.size<=1000000000/\x.size<=1000000000/\y.size<=1000000000)/\s=V.dy r.p r.v r.m x y
def TA.below{w w':A1}{r:Rel}{s:zz}(h:TA w r s)(hb:AO w w w'):TA w' r s:=by let⟨a,x,y,h1,h2,h3,h4,h5⟩:=h;exact⟨a,x,y,h1,h2,keep hb h3,keep hb h4,h5⟩
theorem a3q{a b:zz}(h:a.data.toList=b):a=b:=by let⟨⟨l⟩⟩:=a;simp_all
def aTV(r:Rel)(s:zz)(w:A1)(hs:TA w r s)(hm:w.cell? ⟨5,15,J⟩=Z (AB Gc 4)):Ab A6 68 #[VS r] w λe w'=>e=AV s/\AO w w w':=by let⟨a,x,y,h1,h2,h3,h4,⟨z1,z2,z3,z4,z5⟩,h6⟩:=hs;let⟨p,v,m,fa,Am,fc,nd⟩:=r;simp only at h1 h2 z1 z2 z3 h6;subst h1 h2;simp only[VS];have hp:p<=BZ:=DQ;have hv:v<=BZ:=DQ;have D:m<=BZ:=DQ;have hx:x<=BZ:=DQ;have hy:y<=BZ:=DQ;have u:=A2 h6;clear z1 z2 z3 z4 z5 h6;go_enter Tryz.func68,Tryz.ntmps68;go_wp2_with fail;go_quiet((go_at_call 137;exact Vh (aD8 _ _ _ TE)));go_wp2_with fail;go_at_call 138;have I:AO (AR w) w ((w.alloc (A7 #[p,v,m,BG a 0 1 fc] 75)).drewN nq):=KP ((Az _ w).alloc (Ad _) _) nq;have j:=keep I hm;refine(aPv a fc x y _ (keep I h3) (keep I h4)).mono ?_;rintro e N⟨H,cc,rfl,hown,hb1⟩;have hb:=I.trans (hb1.mono AD);have z:=keep hb1 j;have q1:=Lx hown 0 _ rfl;have q2:=Lx hown 1 _ rfl;clear I hb1 j hown h3 h4 hm;have U:AE (V.dy p v m x y=V.kD (V.KB (V.KB (V.KB (V.KB (V.KB 14695981039346656037 p) v) m) x) y)):=rfl;generalize V.KB (V.KB (V.KB 14695981039346656037 p) v) m=h0 at U⊢;have C:=V.aSh (V.KB h0 x) y;go_wp2;refine St 2 ?_;rw[Nf];go_wp2_with fail;go_quiet((go_at_call 137;exact Vh (aD8 _ _ _ TE)));go_wp2;rw[Nf];generalize V.KB (V.KB h0 x) y=h9 at U C⊢;obtain⟨h,rfl⟩:∃h:Nat,h9=h:=⟨h9.toNat,A'⟩;have d:AO (AR N) N ((N.alloc (A7 #[x,y] 77)).drewN nq):=KP ((Az _ N).alloc (Ad _) _) _;have i:=keep d z;go_wp2_with(go_at_call 139;refine(aYk h A' _ (by first|exact i|assumption)).mono ?_;rintro e w2⟨t,rfl,ht,hb2⟩);go_ret;refine⟨?_,hb.trans ((d.mono hb.size).trans (hb2.mono (Dn hb.size d.size)))⟩;have:t=s:=a3q (by rw[ht,u.o,U.o]);rw[this];rfl
end
section
open Go.RowKit Go.Sort
variable{w:A1}{g:Nat}
abbrev gR:Type:={x:Rel//x.v.size<=40}
instance:Inhabited gR:=⟨⟨⟨⟨#[]⟩,⟨#[]⟩,⟨#[]⟩,J,0,0,[]⟩,by show(0:Nat)<=40;omega⟩⟩
def vK(x:gR):List A3:=[x.1.p,x.1.v,x.1.m,A0 x.1.fa x.1.Am x.1.fc]
def aJo(x y:gR):Int:=F6 x.1.name y.1.name
theorem aLC:∀h w,(MA 207 h).run A6 w=.ok (NY 207 h) w:=by simp_all
def aIv:∀w,(sb (Tryz.ze.t 24)).run A6 w=.ok A5 w:=by intro w;rfl
def aXg:∀w,(Rb (Tryz.ze.t 24)).run A6 w=.ok 4 w:=by intro w;rfl
def aG(L:List Rel)(hv:∀x∈L,x.v.size<=40):List gR:=L.pmap (λx h=>⟨x,h⟩) hv
theorem aW4(L)(hv):(aG L hv).map (·.1)=L:=by simp_all[aG,th]
def zC(L)(hv):(aG L hv).length=L:=by simp[aG]
def gQ(L:List Rel):Prop:=L.Pairwise λa b=>F6 a.name b.name<=0
def aXr(g cap)(m)(L)(w)(hl:L.length<=1000000)(hv:∀x∈L,x.v.size<=40)(U:g≠0)(d:g<w.heap.size)(hr:Ix w g L)(N:∀o,w.frozen? ⟨g,o,J⟩=A9)(hm:w.cell? ⟨0,0,J⟩=Z (AB AJ m)):Ab A6 206 #[A0 (Z ⟨g,0,J⟩) L cap,Br (Bo 207) #[] #[]] w λe w'=>e=AV (Aj #[])/\∃R,R.Perm L/\gQ R/\Ix w' g R/\CV g w w w':=by
 let h:=qK Tryz.aXq 4 aIv aXg vK (λx=>rfl) A' λx v hx=>by simp[vK]at hx;rcases hx with rfl|rfl|rfl|rfl<;>rfl aJo (Zn.back λx:gR=>x.1.name) 207 aLC g cap (aG L hv) w (Ar zC) d (λj hj o ho=>?_) N λi u x y=>?_
 .rw[zC]at h;refine h.mono ?_;rintro e w'⟨rfl,R,hp,hs,hc,I⟩;refine⟨rfl,R.map (·.1),?_,?_,λj hj=>?_,I⟩;.have:=hp.map (·.1);rwa[aW4]at this
  .unfold gQ;rwa[I8]
  let k:=λo ho=>hc j (Ai hj) o ho;simp only[tg];exact⟨k 0 A',k 1 A',k 2 A',k 3 A'⟩
 .let z:j<L:=by rwa[zC]at hj
  let he:(aG L hv)[j].1=L[j]:=by simp[aG]
  let hc:=hr j z;unfold vK;rw[he];match o,ho with|0,_=>exact hc.1|1,_=>exact hc.2.1|2,_=>exact hc.2.2.1|3,_=>exact hc.2.2.2
 exact a4G x.1 y.1 m i x.2 y.2 ((C8 (u 0 (Cn (h:=hm)) (Gy U))).trans hm)
def aLQ(x y:Rel)(m:Int)(w:A1)(ha:x.v.size<=40)(hb:y.v.size<=40)(hne:F6 x.name y.name≠0)(hm:w.cell? ⟨0,0,J⟩=Z (AB AJ m)):Ab A6 209 #[VS x,VS y] w λe w'=>e=AV (Ag A9)/\Below w w w':=by have I:=A2 λN h=>a4G x y m N ha hb h;generalize F6 x.name y.name=c at hne I;obtain⟨p,v,mm,fa,Am,fc,nd⟩:=x;obtain⟨p',v',mm',fa',fl',fc',nd'⟩:=y;simp at*;have hc:(c==0)=A9:=Ai hne;go_enter Tryz.func209,Tryz.ntmps209;go_wp2_with(go_at_call 207;refine(I _ (BR (BR hm _) _)).mono ?_;rintro e w2⟨rfl,hb2,-⟩;have U:=A2 ((K9 w ..).trans (hb2.mono (K9 w ..).size)));go_ret;trivial
def aKC(g c:Nat)(L:List Rel)(m:Int)(w:A1)(hr:Ix w g L)(hL:L.length<=1000000)(hv:∀x∈L,x.v.size<=40)(hne:∀k(h:k+1<L.length),F6 L[k+1].name L[k].name≠0)(hm:w.cell? ⟨0,0,J⟩=Z (AB AJ m)):Ab A6 208 #[A0 (Z ⟨g,0,J⟩) L c,Br (Bo 209) #[] #[]] w λe w'=>e=AV (A0 (Z ⟨g,0,J⟩) L c)/\Below w w w':=by
 by_cases h2:L.length<2;.have H:L.length<2:=A';clear hr hv hne hm;go_enter Tryz.func208,Tryz.ntmps208;go_wp2;go_ret;exact⟨rfl,Az ..⟩
 have BC:=A2 hr;have z:=A2 hv;have M:=A2 hne;have S:=A2 hm;have H:¬L.length<2:=A';clear hr hv hne hm;go_enter Tryz.func208,Tryz.ntmps208;go_wp2_with fail;go_loopw[5]λi wr=>∃k:Nat,1<=k/\k<=L.length/\i=AX k/\AE (Below (AR w) w wr)(λi _=>L.length-(B0 i).toNat);case atStart=>exact⟨1,A',A',rfl,Az _ _⟩
 case round=>
  obtain⟨k,F',wZ,rfl,I⟩:=hrel;by_cases hlt:k<L
  .obtain⟨d,rfl⟩:∃d,k=d+1:=⟨k-1,A'⟩;have hd:d<L:=A';obtain⟨c0,c1,c2,c3⟩:=BC.o.below I (d+1) hlt;obtain⟨c4,c5,Dj,E4⟩:=BC.o.below I d hd;have F4:0<d+1:=A';have Y:d+1<L:=A';have a6t:0<=d+1/\d+1<L:=⟨A',Y⟩;have j:AE (∀N,Cf N 0 0 (AX m)->Ab A6 209 #[VS L[d+1],VS L[d]] N λe w'=>e=AV (Ag A9)/\Below (AR N) N w'):=λN h=>aLQ _ _ m N (z _ (Ci hlt)) (z _ (Ci hd)) (M d hlt) h;have e1:d+1-1=d:=A';have e2:d<L:=A';have C:=OR (keep I S);generalize L[d+1]=x at c0 c1 c2 c3 j;generalize L[d]=y at c4 c5 Dj E4 j;obtain⟨p,v,mm,fa,Am,fc,nd⟩:=x;obtain⟨p',v',mm',fa',fl',fc',nd'⟩:=y;simp only[VS]at*;have k0:=OR c0;have k1:=OR c1;have k2:=OR c2;have F5:=OR c3;have k4:=OR c4;have k5:=OR c5;have k6:=OR Dj;have k7:=OR E4;have U:∀u os,Ab A6 209 #[AH #[p,v,mm,A0 fa Am fc],AH #[p',v',mm',A0 fa' fl' fc']] (grow (sf wr u) os) λe q_=>e=AV (Ag A9)/\∃p:Regrown,q_=grow (sf wr p.d) p.os:=λu os=>Calls.regrown_of (j _ (C u os));have wu:A6.follows l8=A5:=A8;clear j C;go_wp2_with fail;refine aG6 wu A8 ?_;repeat(go_big_quiet_step((go_at_call 209;exact U _ _)))
   refine aG5 λCU Zb=>?_;obtain⟨⟨vC,yc⟩,D⟩:=Zb;have R:AE (Below (AR w) w CU):=As D (I.o.trans ((aFk wr vC yc).mono I.o.size));clear D U k0 k1 k2 F5 k4 k5 k6 k7 c0 c1 c2 c3 c4 c5 Dj E4;go_wp2;first
   |exact⟨⟨d+1+1,A',A',BV,R⟩,by simp[B0];omega⟩
   |
    (
     go_roundw;case rel=>exact⟨d+1+1,A',A',BV,R⟩
     case measure=>simp[B0];omega)
  have he:k=L:=A';subst he;go_wp2;go_ret;exact⟨rfl,I⟩
def a8F:(A6.info? 75).map (λi=>(i.zero,i.size,i.bytes))=Z (Z (AH #[A4 ⟨#[]⟩,A4 ⟨#[]⟩,A4 ⟨#[]⟩,A0 J 0 0]),4,72):=rfl
def Mi(L:List Rel):List A3:=L.flatMap λr=>[r.p,r.v,r.m,A0 r.fa r.Am r.fc]
def aW2(x)(L):Mi (x::L)=[A4 x.p,A4 x.v,A4 x.m,A0 x.fa x.Am x.fc]++Mi L:=rfl
def aBX(L x):Mi (L++[x])=Mi L++[A4 x.p,A4 x.v,A4 x.m,A0 x.fa x.Am x.fc]:=by simp[Mi]
theorem jv(L:List Rel):∀j(h:j<L.length)(o:Nat)(u:A3),o<4->[A4 L[j].p,A4 L[j].v,A4 L[j].m,A0 L[j].fa L[j].Am L[j].fc][o]?=Z u->(Mi L)[j*4+o]?=u:=by induction L with|nil=>grind|cons x xs I=>intro j hj o u ho hu;rw[aW2];match j with|0=>rw[mY Av];simpa using hu|j+1=>rw[Rj Av];have:=I j (by simp at hj;omega) o u ho hu;rw[<-this];congr 1;simp;omega
def aW'{B c:Nat}{L:List Rel}(h:w.ownsRow B 75 4 (A0 (Z ⟨g,0,J⟩) L c) L (Mi L)):Ix w g L:=λj hj=>by let k:=λo u ho hu=>Lx h _ _ (jv L j hj o u ho hu);exact⟨k 0 _ A' rfl,k 1 _ A' rfl,k 2 _ A' rfl,k 3 _ A' rfl⟩
def Hs(L:List BI):List Rel:=L.map (·.rel)
def aWC(L:List BI)(k:Nat)(h:k<L):Hs (L.take (k+1))=Hs (L.take k)++[L[k].rel]:=by unfold Hs;rw[KA L k h,Pa];rfl
def pK{a b}(h:F6 a b≠0):F6 b a≠0:=BO (Zn.2.1 a b)
def aW3(v:A3)(L:List BI)(m:Int)(w:A1)(hv:Hf w v L)(hL:L.length<=1000000)(hs:∀x∈L,x.rel.v.size<=40)(hne:(Hs L).Pairwise λa b=>F6 a.name b.name≠0)(hm:w.cell? ⟨0,0,J⟩=Z (AB AJ m)):Ab A6 135 #[v] w λe w'=>∃g c R,e=AV (A0 (Z ⟨g,0,J⟩) R.length c)/\R.Perm (Hs L)/\gQ R/\Ix w' g R/\w<=g/\Below w w w':=by
 obtain⟨i0,hi,hz0,hz1,hz2⟩:=FJ a8F;obtain⟨a,c,rfl,f9⟩:=hv.open;have v3:=A2 f9;have Kv:=A2 hs;have UE:=A2 hne;have S:=A2 hm;obtain⟨w1,Ja,HA,SB⟩:=a1c w w 47 75 i0 (AH #[A4 ⟨#[]⟩,A4 ⟨#[]⟩,A4 ⟨#[]⟩,A0 J 0 0]) 4 a1D hi hz0 hz1 AJ AJ L (by rw[hz2];omega) DQ (Ad _);have GS:=A2 HA;have n3:AE (Below w w w1):=A2 ((Az _ w).grown SB (Ad _) λk hk=>by cases hk);clear hv f9 hs HA SB hne hm;go_enter Tryz.func135,Tryz.ntmps135;go_wp2;go_loopw[3,11]λv i wr=>∃k:Nat,k<=L/\i=AX k/\AE ((∃g c,v=BG g 0 k c)/\wr.ownsRow w 75 4 v k (Mi (Hs (L.take k)))/\Below w w wr)(λ_ i _=>L-(B0 i).toNat);case atStart=>exact⟨0,A',rfl,A2 ⟨⟨_,_,rfl⟩,GS.o,n3.o⟩⟩
 case round=>
  obtain⟨k,hk,rfl,H⟩:=hrel;obtain⟨⟨N,C,rfl⟩,hown,hb⟩:=H.o;have D:=A2 hown;have I:=A2 hb;clear H hown hb;by_cases hlt:k<L
  .obtain⟨g,rfl,hc,-⟩:=v3.o k hlt;obtain⟨c0,c1,c2,c3,c4,c5,Dj,E4⟩:=hc.below I.o;have Dd:w.heap.size<=wr:=I.o.size;have Dk:g<wr:=Cn (h:=c0);have Y:=A2 (aWC L k hlt);clear hc;generalize L[k]=x at c0 c1 c2 c3 c4 c5 Dj E4 Y;obtain⟨⟨p,v,m,fa,Am,fc,nd⟩,na,nc⟩:=x;simp only[BI.BF]at c0 c1 c2 c3 c4 c5 Dj E4 Y;go_wp2_with(at_builtin;refine IU _ rfl _ _ 47 rfl w 75 i0 (AH #[A4 ⟨#[]⟩,A4 ⟨#[]⟩,A4 ⟨#[]⟩,A0 J 0 0]) 4 72 a1D hi hz0 hz1 hz2 rfl Ac _ _ _ rfl ((D.o.alloc _).alloc _) ⟨wr+1,0,J⟩ 1 1 [A4 p,A4 v,A4 m,A0 fa Am fc] rfl rfl ?c1 ?c2 DQ A' RD ?_);case c1=>intro j u hj;have M:=λW o i h=>CS W o i h;match j,hj with|0,hj=>simp at hj;subst hj;rw[Ea,A_ (M _ _ _ AD)];rfl|1,hj=>simp at hj;subst hj;rw[Ea,A_ (M _ _ _ AD)];rfl|2,hj=>simp at hj;subst hj;rw[Ea,A_ (M _ _ _ AD)];rfl|3,hj=>simp at hj;subst hj;rw[Ea,A_ (M _ _ _ AD)];rfl
   case c2=>intro u hu;simp at hu;rcases hu with rfl|rfl|rfl|rfl<;>rfl
   intro v' w3 C2 BN _;have a7x:w.heap.size<=wr+1:=A';have Cz:Below w w w3:=((I.o.alloc Dd _).alloc Av _).grown BN Av λk hk=>(D.o.lt k hk).1;obtain⟨d,cc,hv⟩:∃d cc,v'=BG d 0 (k+1) cc:=by
    rcases C2.2 with⟨_,h0⟩|⟨d,cc,cur,hv,_⟩;.omega
    exact⟨d,cc,hv⟩
   have R:AE ((∃g c,v'=BG g 0 (k+1) c)/\w3.ownsRow w 75 4 v' (k+1) (Mi (Hs (L.take (k+1))))/\Below w w w3):=by exact A2 ⟨⟨d,cc,hv⟩,by rwa[Y.o,aBX],Cz⟩
   clear BN C2 Cz hv;go_wp2;exact Jz
  have Es:k=L:=A';subst Es;rw[Hb]at D;have GO:(Hs L).length=L:=by simp[Hs]
  have z:∀x∈Hs L,x.v.size<=40:=λx hx=>by obtain⟨y,hy,rfl⟩:=Bt.1 hx;exact Kv.o y hy
  have EM:∃cur,Fl wr N (A7 cur 75 (0,0))/\w<=N:=by
   rcases D.o.2 with⟨e,_⟩|⟨g',c',cur,e,hb,h,_⟩;.cases e
   injection e with e;injection e with e;injection e with e;subst e;exact⟨cur,h,hb⟩
  obtain⟨cur,hcur,aPc⟩:=EM;have K5:=keep I.o S.o;have a5S:0<w.heap.size:=Cn (h:=S.o);have LH:Ix wr N (Hs L):=aW' (Ar GO);have aGu:AE (Ab A6 206 #[BG N 0 L C,Br (Bo 207) #[] #[]] wr λe w'=>e=AV (Aj #[])/\∃R,R.Perm (Hs L)/\gQ R/\Ix w' N R/\CV N wr.heap.size wr w'):=by have:=aXr N C m (Hs L) wr A' z A' (B3 hcur) LH (λo=>C' hcur o) K5;rw[GO]at this;exact A2 this
  clear LH hcur K5;go_wp2_with(first|(go_at_call 206;refine aGu.o.mono ?_;rintro e Bd⟨rfl,R,hp,hord,xH,U⟩;(have Z3:R.length=L:=Ar hp.length_eq);(have vm:=aKC N C R m Bd xH A' (λx hx=>z x (hp.mem_iff.1 hx)) (λk hk=>pK (Qc.1 ((hp.pairwise_iff λ{a b}h=>pK h).2 UE.o) k (k+1) A' hk A')) ((C8 (U.block 0 (BO I.o.size) A')).trans (keep I.o S.o)));rw[Z3]at vm;have aGB:=A2 vm;(have H_:AE (Below w w Bd):=A2 ⟨U.os.trans I.o.os,U.tape.trans I.o.tape,U.output.trans I.o.output,Dn I.o.size U.size,λb hb=>(U.block b (BO I.o.size) A').trans (I.o.block b hb)⟩);have DL:=A2 hp;have aGm:=A2 hord;have tQ:=A2 xH;clear hp hord xH U vm)|(go_at_call 208;refine aGB.o.mono ?_;rintro e EC⟨rfl,hb6⟩;have bG:=A2 hb6;clear hb6));go_ret;exact⟨N,C,R,Af Z3,DL.o,aGm.o,tQ.o.below bG.o,aPc,H_.o.trans (bG.o.mono H_.o.size)⟩
def step_append{P:Ao}{ops:Array B8}{o:B8}{a:HL}{K:HL->A1->Prop}{Q:Exit->HL->A1->Prop}{E:Prop}(d:o.guard=J)(s x)(t)(ho:o.op=Em {callee:=Fw QR,args:=#[s,x],argTypes:=#[t,t]})(I:Nat)(e:BL)(i:TypeInfo)(z:A3)(size bytes:Nat)(ht:P.underlying t=Z (.slice e))(hi:P.info? e=i)(hz:i.zero=z)(C:i.size=size)(D:i.bytes=bytes)(H:z.cells=size)(M:0<size)(v:A3)(n:Nat)(xs:List A3)(hs:a.eval s=v)(hown:w.ownsRow I e size v n xs)(ad:An)(m c:Nat)(N:List A3)(hx:a.eval x=A0 (Z ad) m c)(hl:N=m*size)(S:∀j u,N[j]?=Z u->w.cell? (ad.add j)=Z u)(U:∀u∈N,u.oneCell'=A5)(Y:n+m<=BZ)(Wx:(n+m)*bytes<=140737488355328)(hbase:I<=w)(h:∀v' w',w'.ownsRow I e size v' (n+m) (xs++N)->w.grownBy w' v.ownBlock->v'.ownBlock=v.ownBlock∨v'.ownBlock=Z w.heap.size->K (a.put o.dst v') w'):if Gd o (I4 ops a.tmps)=A5 then fD P o a w K Q else E:=by rw[if_pos (by simp[Gd,d])];let⟨v',w',hr,h2,h3,_,h5⟩:=aFy w I t o.type e i z size bytes ht hi hz C D H M v n xs hown ad m c N hl S U Y Wx hbase;unfold fD AM;simp only[ho,KQ,Ra,lj,YA,lX,lW,JO,Ee,Iw,hs,hx,hr];exact h v' w' h2 h3 h5
abbrev IN:=AW×zz
variable{E:List IN}
def xl:(A6.info? 217).map (λi=>(i.zero,i.size,i.bytes))=Z (Z (AH #[A4 ⟨#[]⟩,A4 ⟨#[]⟩,A4 ⟨#[]⟩]),3,48):=rfl
def L3(E:List IN):List A3:=E.flatMap λx=>[x.1.1,x.1.2,x.2]
def a4k(x)(E):L3 (x::E)=[A4 x.1.1,A4 x.1.2,A4 x.2]++L3 E:=rfl
def aL2(E)(x):L3 (E++[x])=L3 E++[A4 x.1.1,A4 x.1.2,A4 x.2]:=by simp[L3]
theorem a4m(E):(L3 E).length=E*3:=by induction E with|nil=>rfl|cons x xs h=>rw[a4k,DV,h];grind
def aL1(E):∀u∈L3 E,u.oneCell'=A5:=by intro u hu;let⟨x,_,hx⟩:=YX.1 hu;simp at hx;rcases hx with rfl|rfl|rfl<;>rfl
def Nu(f:Rel->zz)(R:List Rel):List IN:=R.map λr=>(r.name,f r)
def aL3(f:Rel->zz)(L:List Rel)(k:Nat)(h:k<L):Nu f (L.take (k+1))=Nu f (L.take k)++[(L[k].name,f L[k])]:=by unfold Nu;rw[KA L k h,Pa];rfl
theorem aL5(w:A1)(p v s)(j)(u)(hj:[A4 p,A4 v,A4 s][j]?=Z u):(w.alloc (A7 #[p,v,s] 217)).cell? ((⟨w,0,J⟩:An).add j)=Z u:=by simp_all[Ea,A_]
def aLG(v:A3)(L:List BI)(m:Int)(f:Rel->zz)(w:A1)(hv:Hf w v L)(hL:L.length<=1000000)(hs:∀x∈L,x.rel.v.size<=40)(hne:(Hs L).Pairwise λa b=>F6 a.name b.name≠0)(hm:w.cell? ⟨0,0,J⟩=Z (AB AJ m))(NC:w.cell? ⟨5,15,J⟩=Z (AB Gc 4))(ZX:∀x∈L,TA w x.rel (f x.rel)):Ab A6 64 #[v] w λe w'=>∃g c R,e=AV (A0 (Z ⟨g,0,J⟩) R.length c)/\R.Perm (Hs L)/\gQ R/\w'.ownsRow w 217 3 (A0 (Z ⟨g,0,J⟩) R c) R (L3 (Nu f R))/\Below w w w':=by
 obtain⟨i0,hi,hz0,hz1,hz2⟩:=FJ xl;obtain⟨a,c,rfl,f9⟩:=hv.open;have v3:=A2 hv;have Kv:=A2 hs;have UE:=A2 hne;have wt:=A2 hm;have mK:=A2 NC;have aGw:=A2 ZX;obtain⟨w1,Ja,HA,SB⟩:=a1c w w 119 217 i0 (AH #[A4 ⟨#[]⟩,A4 ⟨#[]⟩,A4 ⟨#[]⟩]) 3 sO hi hz0 hz1 AJ AJ L (by rw[hz2];omega) DQ (Ad _);have GS:=A2 HA;have hb1:Below w w w1:=(Az _ w).grown SB (Ad _) (λk hk=>by cases hk);have n3:=A2 hb1;have aG9:=A2 (aW3 _ L m w1 (hv.below hb1) hL hs hne (keep hb1 hm));clear hv f9 hs HA SB hne hm NC ZX hb1;go_enter Tryz.func64,Tryz.ntmps64;go_wp2_with(go_at_call 135;refine aG9.o.mono ?_;rintro e w2⟨d,rc,R,rfl,hp,hord,M,a7U,hb2⟩;have DL:=A2 hp;have ff:=A2 hord;have tQ:=A2 M;have v2:=A2 hb2;clear hp hord M hb2);have Z3:R.length=L:=by rw[DL.o.length_eq];simp[Hs]
 have nw:R.length<=1000000:=A';clear Z3;have QZ:=A2 (VA GS.o v2.o);have PS:AE (Below w w w2):=A2 (n3.o.trans (v2.o.mono n3.o.size));have ir:w≠d:=by have:w.heap.size<w1:=(GS.o.lt w rfl).2;omega
 go_loopw[3,12]λv i wr=>∃k:Nat,k<=R/\i=AX k/\AE ((∃g c,v=BG g 0 k c/\g≠d)/\wr.ownsRow w 217 3 v k (L3 (Nu f (R.take k)))/\Below w w wr/\Ix wr d R)(λ_ i _=>R-(B0 i).toNat);case atStart=>exact⟨0,A',rfl,A2 ⟨⟨_,_,rfl,ir⟩,QZ.o,PS.o,tQ.o⟩⟩
 case round=>
  obtain⟨k,hk,rfl,H⟩:=hrel;obtain⟨⟨C,C3,rfl,Me⟩,hown,hb,M⟩:=H.o;have S:=A2 hown;have Y:=A2 hb;have BC:=A2 M;clear H hown hb M;by_cases hlt:k<R
  .obtain⟨c0,c1,c2,c3⟩:=BC.o k hlt;have H9:∃x∈L,x.rel=R[k]:=by have:=DL.o.mem_iff.1 (Ci hlt);obtain⟨x,hx,e⟩:=Bt.1 this;exact⟨x,hx,e⟩
   have tU:AE (TA wr R[k] (f R[k])):=A2 (by obtain⟨x,hx,e⟩:=H9;rw[<-e];exact(aGw.o x hx).below Y.o);have Dd:w.heap.size<=wr:=Y.o.size;have Dk:d<wr:=Cn (h:=c0);have z9:=A2 (aL3 f R k hlt);have a7B:=keep Y.o mK.o;have ad4:C<wr:=by obtain⟨_,h⟩:=S.o.lt C rfl;exact h
   clear H9;generalize aco:R[k]=x at c0 c1 c2 c3 z9 tU;generalize f x=s at z9 tU;obtain⟨p,v,mm,fa,N,fc,nd⟩:=x;simp only[Rel.name]at c0 c1 c2 c3 z9;go_wp2_with fail;have Cl:=A2 (CS wr (A7 #[A4 p,A4 v,A4 mm,A0 fa N fc] 75) wr rfl);have D:=A2 ((Az _ wr).alloc (Ad _) (A7 #[A4 p,A4 v,A4 mm,A0 fa N fc] 75));have mN:=A2 (S.o.alloc (A7 #[A4 p,A4 v,A4 mm,A0 fa N fc] 75));have Wp:(wr.alloc (A7 #[A4 p,A4 v,A4 mm,A0 fa N fc] 75)).heap.size=wr+1:=AD;generalize wr.alloc (A7 #[A4 p,A4 v,A4 mm,A0 fa N fc] 75)=W at Cl D mN Wp⊢;have G':AE (∀I,Below W W I->I.cell? ⟨wr,0,J⟩=Z (A4 p)/\I.cell? ⟨wr,1,J⟩=Z (A4 v)/\I.cell? ⟨wr,2,J⟩=Z (A4 mm)/\I.cell? ⟨wr,3,J⟩=Z (A0 fa N fc)):=by refine A2 λI hb=>?_;have h0:=De hb Cl.o;exact⟨Af (A_ h0),Af (A_ h0),Af (A_ h0),Af (A_ h0)⟩
   have OH:Below W W W.drew:=⟨rfl,rfl,rfl,Ad _,λ_ _=>rfl⟩;have aGz:AE (TA W ⟨p,v,mm,fa,N,fc,nd⟩ s):=A2 (tU.o.below D.o);have aGh:AE (W.cell? ⟨5,15,J⟩=Z (AB Gc 4)):=A2 (keep D.o a7B);obtain⟨a0,a1,a2,a3⟩:=G'.o W (Az _ _);clear a7B c0 c1 c2 c3;go_region_held2 λI=>I.cell? ⟨wr,0,J⟩=Z (A4 p)/\I.cell? ⟨wr,1,J⟩=Z (A4 v)/\I.cell? ⟨wr,2,J⟩=Z (A4 mm)/\I.cell? ⟨wr,3,J⟩=Z (A0 fa N fc)(first|(go_keep;done)|exact⟨BR g0 _,BR g1 _,BR g2 _,BR g3 _⟩|exact⟨f0,f1,f2,f3⟩)(first|(go_at_call 122;refine(a9w p v mm fa N fc _).mono ?_;rintro e wa⟨rfl,Ps⟩;have m9:=OH.trans Ps;(obtain⟨e0,e1,e2,e3⟩:=G'.o wa m9);have z0:=A2 m9;clear m9 Ps)|(go_at_call 68;refine(aTV ⟨p,v,mm,fa,N,fc,nd⟩ s _ (aGz.o.below z0.o) (keep z0.o aGh.o)).mono ?_;rintro e z⟨rfl,HO⟩;have hB:=z0.o.trans (HO.mono z0.o.size);(obtain⟨g0,g1,g2,g3⟩:=G'.o z hB);have fT:=A2 hB;clear hB HO)|(refine step_append rfl _ _ 119 rfl w 217 i0 (AH #[A4 ⟨#[]⟩,A4 ⟨#[]⟩,A4 ⟨#[]⟩]) 3 48 sO hi hz0 hz1 hz2 rfl Ac _ _ _ rfl ((VA mN.o fT.o).alloc _) ⟨z,0,J⟩ 1 1 [A4 p,A4 v,A4 s] rfl rfl (aL5 z p v s) (by intro u hu;simp at hu;rcases hu with rfl|rfl|rfl<;>rfl) DQ A' (by have:=fT.o.size;simp;omega) ?_;intro v' w3 C2 BN N8;(have U:∀o,Z (⟨wr.heap.size,o,J⟩:An).block≠(BG C 0 k C3).ownBlock:=λo h=>by simp[Kt]at h;omega);have f0:=BN.cell (BR g0 _) (U _);have f1:=BN.cell (BR g1 _) (U _);have f2:=BN.cell (BR g2 _) (U _);have f3:=BN.cell (BR g3 _) (U _);have aGn:=A2 C2;have fW:=A2 BN;have fR:=A2 N8;clear C2 BN N8 U));all_goals
    have a7c:wr.heap.size+1<=z:=BO fT.o.size;have HO:Below w w (z.alloc (A7 #[A4 p,A4 v,A4 s] 217)):=(Y.o.trans ((D.o.trans (fT.o.mono D.o.size)).mono Dd)).alloc A' _;have Cz:Below w w w3:=HO.grown fW.o Av λk hk=>(S.o.lt k hk).1;have a7T:Ix z d R:=(BC.o.below D.o).below fT.o;have a7S:Ix w3 d R:=λi hi=>by
     have U:∀o,Z (⟨d,o,J⟩:An).block≠(BG C 0 k C3).ownBlock:=λo h=>by simp[Kt]at h;omega
     obtain⟨x0,x1,x2,x3⟩:=a7T i hi;exact⟨fW.o.cell (BR x0 _) (U _),fW.o.cell (BR x1 _) (U _),fW.o.cell (BR x2 _) (U _),fW.o.cell (BR x3 _) (U _)⟩
    obtain⟨j,cc,hv,a6R⟩:∃j cc,v'=BG j 0 (k+1) cc/\j≠d:=by
     rcases aGn.o.2 with⟨_,h0⟩|⟨j,cc,cur,hv,_⟩;.omega
     refine⟨j,cc,hv,?_⟩;have h9:=fR.o;rw[hv]at h9;rcases h9 with h9|h9;.have h9:j=C:=CP h9;rwa[h9]
     have h9:j=z.alloc (A7 #[A4 p,A4 v,A4 s] 217):=CP h9;simp at h9;omega
    have Mz:AE ((∃g c,v'=BG g 0 (k+1) c/\g≠d)/\w3.ownsRow w 217 3 v' (k+1) (L3 (Nu f (R.take (k+1))))/\Below w w w3/\Ix w3 d R):=by exact A2 ⟨⟨j,cc,hv,a6R⟩,by rwa[z9.o,aL2],Cz,a7S⟩
    clear Cz HO a7T a7S hv;go_wp2;first
    |exact⟨⟨k+1,A',BV,Mz⟩,by simp[B0];omega⟩
    |
     (
      go_roundw;case rel=>exact⟨k+1,A',BV,Mz⟩
      case measure=>simp[B0];omega)
  have Es:k=R.length:=A';subst Es;rw[Hb]at S;go_wp2;go_ret;exact⟨C,C3,R,rfl,DL.o,ff.o,S.o,Y.o⟩
def aMS(n:Nat)(w:A1)(hn:n<=1000000):Ab A6 204 #[A0 J 0 0,n] w λe w'=>∃v,e=AV v/\w'.ownsRow w 217 3 v 0 []/\Below w w w':=by
 let⟨i0,hi,hz0,hz1,hz2⟩:=FJ xl;by_cases h0:n=0;.subst h0;refine(Any8.slices_Grow_room Tryz.a5P J 0 0 0 w A' A' A' A').mono ?_;rintro e w'⟨rfl,rfl⟩;exact⟨_,rfl,PR ..,Az ..⟩
 refine(Any8.slices_Grow_grow Tryz.a5P i0 _ hi hz0 A' J 0 0 n [] w A' A' (by rw[hz2];omega) A' AD (λ_=>rfl) λa ha=>by cases ha).mono ?_;rintro e w'⟨rfl,rfl⟩;let I:=grownCap_ge w (0+n) 0 217;refine⟨_,rfl,World.ownsRow_made w.drew _ _ (Ad _) (grownCap_le_maxLen w (0+n) 0 217 DQ) ?_,?_⟩;.let h3:(AH #[A4 ⟨#[]⟩,A4 ⟨#[]⟩,A4 ⟨#[]⟩]).cells.size=3:=rfl;let h4:grownCap w (0+n) 0 (Tryz.a5Q.t 25)=grownCap w (0+n) 0 217:=rfl;rw[eP,eP,aG3,aG3,h3,h4];simp only[Rm,List.length_nil];omega
 let h:Below (AR w) w w.drew:=⟨rfl,rfl,rfl,Ad _,λ_ _=>rfl⟩;exact h.alloc (Ad _) _
def aKI(g c b:Nat)(E:List IN)(w:A1)(h0:w.cell? ⟨b,0,J⟩=Z (A0 J 0 0))(N:w.cell? ⟨b,1,J⟩=Z (A0 (Z ⟨g,0,J⟩) E c))(hc:∀j u,(L3 E)[j]?=Z u->w.cell? ⟨g,j,J⟩=Z u)(hE:E.length<=1000000):Ab A6 131 #[A0 (Z ⟨b,0,J⟩) 2 2] w λe w'=>∃v,e=AV v/\w'.ownsRow w 217 3 v E (L3 E)/\Below w w w':=by let⟨i0,hi,hz0,hz1,hz2⟩:=FJ xl;have z:=A2 hc;have C:=A2 (aMS E w hE);have hlen:=A';clear hc;go_enter Tryz.func131,Tryz.ntmps131;go_wp2;refine St 3 ?_;rw[Nf];go_wp2;rw[Nf];go_wp2;rw[Nf];go_wp2_with(go_at_call 204;refine C.o.mono ?_;rintro e w1⟨M,rfl,d,hb1⟩;have I:=A2 d;have h:=A2 hb1;clear d hb1);obtain⟨S,Y,rfl⟩:=EA I;have c0:=keep h h0;have c1:=keep h N;clear h0 N;refine St 3 ?_;rw[Nf];go_wp2_with(at_builtin;refine a1i rfl _ _ 119 rfl (AR w) 217 i0 3 sO hi _ _ _ rfl I rfl ?_);rw[Nf];go_wp2_with(at_builtin;refine IU _ rfl _ _ 119 rfl (AR w) 217 i0 (AH #[A4 ⟨#[]⟩,A4 ⟨#[]⟩,A4 ⟨#[]⟩]) 3 48 sO hi hz0 hz1 hz2 rfl Ac _ _ _ rfl I ⟨g,0,J⟩ E c (L3 E) rfl (a4m E) (λj u hj=>As Ea (keep h.o (z.o j u hj))) (aL1 E) DQ A' h.o.size ?_);intro v' w2 i U _;have hb2:=h.o.grown U h.o.size λk hk=>(I.o.lt k hk).1;have D:=A2 i;have H:=A2 hb2;clear i U hb2;go_wp2;rw[Nf];go_wp2;go_ret;exact⟨v',rfl,D.o,H.o⟩
abbrev Qm(x:IN):A3:=AH #[x.1.1,x.1.2,x.2]
def Ty(w:A1)(g:Nat)(E:List IN):Prop:=∀i(h:i<E.length),w.cell? ⟨g,i*3,J⟩=Z (A4 E[i].1.1)/\w.cell? ⟨g,i*3+1,J⟩=Z (A4 E[i].1.2)/\w.cell? ⟨g,i*3+2,J⟩=Z (A4 E[i].2)
def Ty.below{w':A1}(h:Ty w g E)(hb:Below w w w'):Ty w' g E:=λi hi=>⟨keep hb (h i hi).1,keep hb (h i hi).2.1,keep hb (h i hi).2.2⟩
theorem a4l(L:List IN):∀j(h:j<L.length)(o:Nat)(u:A3),o<3->[A4 L[j].1.1,L[j].1.2,L[j].2][o]?=u->(L3 L)[j*3+o]?=u:=by induction L with|nil=>grind|cons x xs I=>intro j hj o u ho hu;rw[a4k];match j with|0=>rw[mY Av];simpa using hu|j+1=>rw[Rj Av];have:=I j (by simp at hj;omega) o u ho hu;rw[<-this];congr 1;simp;omega
def a4j{B c n L}(h:w.ownsRow B 217 3 (A0 (Z ⟨g,0,J⟩) n c) n (L3 L)):Ty w g L:=λj hj=>by let k:=λo u ho hu=>Lx h _ _ (a4l L j hj o u ho hu);exact⟨k 0 _ A' rfl,k 1 _ A' rfl,k 2 _ A' rfl⟩
def aKG(x y:IN)(m:Int)(w:A1)(ha:x.1.2.size<=40)(hb:y.1.2.size<=40)(hm:w.cell? ⟨0,0,J⟩=Z (AB AJ m)):Ab A6 133 #[Qm x,Qm y] w λe w'=>e=AV (F6 x.1 y.1)/\Below w w w'/\w.drawn<=w'.drawn:=by let⟨⟨p,v⟩,s⟩:=x;let⟨⟨p',v'⟩,s'⟩:=y;simp at*;go_enter Tryz.func133,Tryz.ntmps133;go_wp2_with fail;refine(nP (p,v) (p',v') m _ ha hb (BR (BR hm _) _)).mono ?_;rintro e w2⟨rfl,hb2,hd⟩;have h:=A2 ((K9 w ..).trans (hb2.mono (K9 w ..).size));have I:=A2 hd;clear hb2 hd;go_wp2;go_ret;exact⟨rfl,h,I⟩
abbrev e_:Type:={x:IN//x.1.2.size<=40}
instance:Inhabited e_:=⟨⟨((⟨#[]⟩,⟨#[]⟩),⟨#[]⟩),by show(0:Nat)<=40;omega⟩⟩
def vL(x:e_):List A3:=[x.1.1.1,x.1.1.2,x.1.2]
def aJp(x y:e_):Int:=F6 x.1.1 y.1.1
theorem aL9:∀h w,(MA 133 h).run A6 w=.ok (NY 133 h) w:=by simp_all
def aIs:∀w,(sb (Tryz.zf.t 24)).run A6 w=.ok A5 w:=by intro w;rfl
def aXd:∀w,(Rb (Tryz.zf.t 24)).run A6 w=.ok 3 w:=by intro w;rfl
def Yo(L:List IN)(hv:∀x∈L,x.1.2.size<=40):List e_:=L.pmap (λx h=>⟨x,h⟩) hv
theorem aLK(L)(hv):(Yo L hv).map (·.1)=L:=by simp_all[Yo,th]
def vN(L)(hv):(Yo L hv).length=L:=by simp[Yo]
def km(L:List IN):Prop:=L.Pairwise λa b=>F6 a.1 b.1<=0
def aXt(p)(c)(f)(w):Ab A6 132 #[A0 p 0 c,f] w λe w'=>e=AV (Aj #[])/\w'=w:=aF9 Tryz.aCC p c f w
def aXs(g cap)(m)(L)(w:A1)(hl:L.length<=1000000)(hv:∀x∈L,x.1.2.size<=40)(U:g≠0)(d:g<w.heap.size)(hr:Ty w g L)(N:∀o,w.frozen? ⟨g,o,J⟩=A9)(hm:w.cell? ⟨0,0,J⟩=Z (AB AJ m)):Ab A6 132 #[A0 (Z ⟨g,0,J⟩) L cap,Br (Bo 133) #[] #[]] w λe w'=>e=AV (Aj #[])/\∃R,R.Perm L/\km R/\Ty w' g R/\CV g w w w':=by
 let h:=qK Tryz.aCC 3 aIs aXd vL (λx=>rfl) A' λx v hx=>by simp[vL]at hx;rcases hx with rfl|rfl|rfl<;>rfl aJp (Zn.back λx:e_=>x.1.1) 133 aL9 g cap (Yo L hv) w (Ar vN) d (λj hj o ho=>?_) N λi u x y=>?_
 .rw[vN]at h;refine h.mono ?_;rintro e w'⟨rfl,R,hp,hs,hc,I⟩;refine⟨rfl,R.map (·.1),?_,?_,λj hj=>?_,I⟩;.have:=hp.map (·.1);rwa[aLK]at this
  .unfold km;rwa[I8]
  let k:=λo ho=>hc j (Ai hj) o ho;simp only[tg];exact⟨k 0 A',k 1 A',k 2 A'⟩
 .let z:j<L:=by rwa[vN]at hj
  let he:(Yo L hv)[j].1=L[j]:=by simp[Yo]
  let hc:=hr j z;unfold vL;rw[he];match o,ho with|0,_=>exact hc.1|1,_=>exact hc.2.1|2,_=>exact hc.2.2
 exact aKG x.1 y.1 m i x.2 y.2 ((C8 (u 0 (Cn (h:=hm)) (Gy U))).trans hm)
theorem gi(x y:zz):x.toList=y.toList↔x=y:=by
 constructor;.intro h;rw[QS,QS]at h;exact a3q h
 grind
def vO(n:Nat)(a b c d:zz)(w:A1):(PN (n+2) 85 (AH #[a,b]) (AH #[c,d])).run A6 w=.ok (BK (((a,b):AW)=(c,d))) w:=by let U:=Tryz.underlying9;let h:=Tryz.isAgg9;let e:=Tryz.sizeOf9;let N:A6.underlying 85=Z (a1Q (A6.fieldsOf 85)):=rfl;rw[aFz w (n+1) 85 _ _ N A8];simp only[aF7,fH];go_simp;simp only[gi];by_cases I:a=c<;>by_cases h2:b=d<;>simp[I,h2]
def aLN(n x y w):(PN (n+3) 217 (Qm x) (Qm y)).run A6 w=.ok (BK (x=y)) w:=by obtain⟨⟨a,b⟩,s⟩:=x;obtain⟨⟨c,d⟩,t⟩:=y;let e:=Tryz.underlying9;let I:=Tryz.isAgg9;let i:=Tryz.sizeOf9;let h:=Tryz.isAgg85;let j:=Tryz.sizeOf85;let u:=vO n;let U:A6.underlying 217=Z (a1Q (A6.fieldsOf 217)):=rfl;simp;rw[aFz w (n+2) 217 _ _ U A8];simp only[aF7,Tryz.underlying217];go_simp;simp only[gi];by_cases N:a=c<;>by_cases h2:b=d<;>by_cases h3:s=t<;>simp[N,h2,h3]
def aLP(a b c d:zz)(w:A1):(OQ OK 85 (AH #[a,b]) (AH #[c,d])).run A6 w=.ok (Ag (BK (((a,b):AW)=(c,d)))) w:=by let h:(PN lO 85 (AH #[a,b]) (AH #[c,d])).run A6 w=.ok (BK ((a,b)=(c,d))) w:=vO 9998 a b c d w;simp[OQ,U8,h,KO]
def aLO(x y w):(OQ OK 217 (Qm x) (Qm y)).run A6 w=.ok (Ag (BK (x=y))) w:=by let h:(PN lO 217 (Qm x) (Qm y)).run A6 w=.ok (BK (x=y)) w:=aLN 9997 x y w;simp only[Qm]at h;simp[OQ,U8,h,KO]
def a4B(p n c w)(h2:n<2):Ab A6 134 #[A0 p n c] w λe w'=>e=AV (A0 p n c)/\w'=w:=by have h:=A';go_enter Tryz.func134,Tryz.ntmps134;go_wp2;go_ret;exact⟨rfl,rfl⟩
def aK9(g c:Nat)(L:List IN)(w:A1)(hr:Ty w g L)(hL:L.length<=1000000)(hne:∀k(h:k+1<L.length),L[k+1]≠L[k]):Ab A6 134 #[A0 (Z ⟨g,0,J⟩) L c] w λe w'=>e=AV (A0 (Z ⟨g,0,J⟩) L c)/\Below w w w':=by
 by_cases h2:L.length<2;.refine(a4B _ _ c w h2).mono ?_;rintro e w'⟨rfl,rfl⟩;exact⟨rfl,Az ..⟩
 have BC:=A2 hr;have z:=A2 hne;have Yt:¬L.length<2:=A';clear hr hne;go_enter Tryz.func134,Tryz.ntmps134;go_wp2_with fail;go_loopw[3]λi wr=>∃k:Nat,1<=k/\k<=L.length/\i=AX k/\AE (Below (AR w) w wr)(λi _=>L.length-(B0 i).toNat);case atStart=>exact⟨1,A',A',rfl,Az ..⟩
 case round=>
  obtain⟨k,F',wZ,rfl,I⟩:=hrel;by_cases hlt:k<L
  .obtain⟨d,rfl⟩:∃d,k=d+1:=⟨k-1,A'⟩;have hd:d<L:=A';obtain⟨c0,c1,c2⟩:=BC.o.below I (d+1) hlt;obtain⟨c4,c5,U⟩:=BC.o.below I d hd;have F4:0<d+1:=A';have C:d+1<L:=A';have D:0<=d+1/\d+1<L:=⟨A',C⟩;have N:AE (∀j,(OQ OK 217 (Qm L[d+1]) (Qm L[d])).run A6 j=.ok (Ag A9) j):=λj=>by rw[aLO,decide_eq_false (z.o d hlt)]
   have e1:d+1-1=d:=A';have e2:d<L:=A';generalize L[d+1]=x at c0 c1 c2 N;generalize L[d]=y at c4 c5 U N;obtain⟨⟨p,v⟩,s⟩:=x;obtain⟨⟨p',v'⟩,s'⟩:=y;simp only[Qm]at*;have k0:=OR c0;have k1:=OR c1;have k2:=OR c2;have k4:=OR c4;have k5:=OR c5;have k6:=OR U;have H:=N.o;have M:A6.follows l8=A5:=rfl;have NB:A6.eqGuardType A6.depth 217=A9:=A8;clear N;go_wp2_with fail;refine aG6 M A8 ?_;repeat(go_big_quiet_step(fail))
   refine aG5 λS Y=>?_;obtain⟨⟨vC,yc⟩,u⟩:=Y;have R:AE (Below (AR w) w S):=A2 (As u (I.o.trans ((aFk wr vC yc).mono I.o.size)));clear u k0 k1 k2 k4 k5 k6 c0 c1 c2 c4 c5 U H;go_wp2;first
   |exact⟨⟨d+1+1,A',A',BV,R⟩,by simp[B0];omega⟩
   |
    (
     go_roundw;case rel=>exact⟨d+1+1,A',A',BV,R⟩
     case measure=>simp[B0];omega)
  have he:k=L:=A';subst he;go_wp2;go_ret;exact⟨rfl,I⟩
def RQ(w:A1)(v:A3)(E:List IN):Prop:=v=A0 J 0 0/\E=[]∨∃g c,v=A0 (Z ⟨g,0,J⟩) E c/\Ty w g E
def RQ.below{w w':A1}{v:A3}{E:List IN}(h:RQ w v E)(hb:Below w w w'):RQ w' v E:=by
 rcases h with h|⟨g,c,I,h2⟩;.exact AA h
 exact AF ⟨g,c,I,h2.below hb⟩
theorem RQ.open{v:A3}(h:RQ w v E):∃a c,v=A0 a E c/\∀k(h),∃g,a=Z ⟨g,0,J⟩/\w.cell? ⟨g,k*3,J⟩=Z (A4 E[k].1.1)/\w.cell? ⟨g,k*3+1,J⟩=Z (A4 E[k].1.2)/\w.cell? ⟨g,k*3+2,J⟩=Z (A4 E[k].2):=by
 rcases h with⟨rfl,rfl⟩|⟨g,c,rfl,h⟩;.simp_all
 exact⟨_,c,rfl,λk hk=>⟨g,rfl,h k hk⟩⟩
def aY2(B)(v)(m)(E)(w)(hown:w.ownsRow B 217 3 v E.length (L3 E))(hB:0<B)(hE:E.length<=1000000)(hs:∀x∈E,x.1.2.size<=40)(hm:w.cell? ⟨0,0,J⟩=Z (AB AJ m)):Ab A6 132 #[v,Br (Bo 133) #[] #[]] w λe w'=>e=AV (Aj #[])/\∃R,R.Perm E/\km R/\RQ w' v R/\∃b,B<=b/\CV b w w w':=by
 rcases hown.2 with⟨rfl,h0⟩|⟨g,c,cur,rfl,hg,hcur,_⟩;.obtain rfl:=ma.1 h0;refine(aXt J 0 _ w).mono ?_;rintro e w'⟨rfl,rfl⟩;exact⟨rfl,[],.refl _,.nil,AA ⟨rfl,rfl⟩,B,Ad _,CV.refl ..⟩
 refine(aXs g c m E w hE hs A' (B3 hcur) (a4j hown) (λo=>C' hcur o) hm).mono ?_;rintro e w'⟨rfl,R,hp,ho,hat,h⟩;exact⟨rfl,R,hp,ho,AF ⟨g,c,by rw[hp.length_eq],hat⟩,g,hg,h⟩
def aKA(v)(R)(w)(h:RQ w v R)(hL:R.length<=1000000)(hne:∀k(h:k+1<R.length),R[k+1]≠R[k]):Ab A6 134 #[v] w λe w'=>e=AV v/\Below w w w':=by
 rcases h with⟨rfl,rfl⟩|⟨g,c,rfl,h⟩;.refine(a4B J 0 0 w A').mono ?_;rintro e w'⟨rfl,rfl⟩;exact⟨rfl,Az ..⟩
 exact aK9 g c R w h hL hne
def aSF(a):F6 a a=0:=Zn.refl a
def aSR(g c:Nat)(m:Int)(E:List IN)(w:A1)(hc:Ty w g E)(hE:E.length<=1000000)(hs:∀x∈E,x.1.2.size<=40)(hne:E.Pairwise λa b=>F6 a.1 b.1≠0)(hm:w.cell? ⟨0,0,J⟩=Z (AB AJ m)):Ab A6 63 #[A0 J 0 0,A0 (Z ⟨g,0,J⟩) E c] w λe w'=>∃v R,e=AV (Aj #[v,CN])/\R.Perm E/\km R/\RQ w' v R/\Below w w w':=by
 have L9:∀j u,(L3 E)[j]?=Z u->w.cell? ⟨g,j,J⟩=Z u:=λj u hj=>by
  have cn:j<E*3:=by rw[<-a4m];exact Po hj
  have hq:j/3<E:=A';have H5:=hc (j/3) hq;have hg:=λo u=>a4l E (j/3) hq o u;have e:j=j/3*3+j%3:=A';have ho:j%3<3:=A';rw[e]at hj⊢;generalize j%3=o at ho hj;match o,ho,hj with|0,_,hj=>rw[hg 0 _ A' rfl]at hj;rw[<-hj];exact H5.1|1,_,hj=>rw[hg 1 _ A' rfl]at hj;rw[<-hj];exact H5.2.1|2,_,hj=>rw[hg 2 _ A' rfl]at hj;rw[<-hj];exact H5.2.2
 have Cg:=A2 L9;have z9:=A2 hs;have UE:=A2 hne;have wt:=A2 hm;clear hc hs hne hm L9;have GM:Below w w (w.alloc (A7 #[A0 J 0 0,BG g 0 E c] 119)):=(Az _ w).alloc (Ad _) _;have Ge:=A2 GM;have xa:=CS w (A7 #[A0 J 0 0,BG g 0 E c] 119) _ rfl;have C:=A2 (aKI g c w E (w.alloc (A7 #[A0 J 0 0,BG g 0 E c] 119)) (by rw[A_ xa];rfl) (by rw[A_ xa];rfl) (λj u hj=>keep GM (Cg.o j u hj)) hE);clear GM xa;go_enter Tryz.func63,Tryz.ntmps63;go_wp2_with(go_at_call 131;refine C.o.mono ?_;rintro e w1⟨El,rfl,HA,hb1⟩;have Nh:=A2 HA;have N:AE (Below w w w1):=A2 (Ge.o.trans (hb1.mono Ge.o.size));(have ac5:=hb1.size);clear HA hb1);have a5S:0<w.heap.size:=Cn (h:=wt.o);obtain⟨DJ,C3,rfl⟩:=EA Nh.o;have D:=A2 (aY2 _ _ m E w1 Nh.o AD hE z9.o (keep N.o wt.o));go_wp2_with(go_at_call 132;refine D.o.mono ?_;rintro e w2⟨rfl,R,hp,hord,ND,b,hb,z⟩;have DL:=A2 hp;have ff:=A2 hord;have bP:=A2 ND;(have v2:AE (Below w w w2):=A2 ⟨z.os.trans N.o.os,z.tape.trans N.o.tape,z.output.trans N.o.output,Dn N.o.size z.size,λk hk=>(z.block k (by have:=N.o.size;omega) (by simp at hb;omega)).trans (N.o.block k hk)⟩);clear hp hord ND z hb);have H:AE (∀k(h:k+1<R.length),R[k].1≠R[k+1].1):=A2 λk hk h=>by have:=Qc.1 ((DL.o.pairwise_iff λ{a b}h=>pK h).2 UE.o) k (k+1) A' hk A';rw[h]at this;exact this (aSF _)
 have M:AE (R.length=E.length):=A2 DL.o.length_eq;have v3:AE (∀k(h:k<R.length),∃U,DJ=Z ⟨U,0,J⟩/\w2.cell? ⟨U,k*3,J⟩=Z (A4 R[k].1.1)/\w2.cell? ⟨U,k*3+1,J⟩=Z (A4 R[k].1.2)/\w2.cell? ⟨U,k*3+2,J⟩=Z (A4 R[k].2)):=by obtain⟨a,c',e,f9⟩:=bP.o.open;injection e with e;subst e;exact A2 f9
 clear Nh C D;go_loopw[17]λi wr=>∃k:Nat,k<=E.length/\i=AX k/\AE (Below w2 w2 wr)(λi _=>E-(B0 i).toNat);case atStart=>exact⟨0,A',rfl,A2 (Az _ _)⟩
 case round=>
  obtain⟨k,hk,rfl,I⟩:=hrel;by_cases hlt:k<E
  .have Pw:k<R:=by rwa[M.o]
   obtain⟨U,rfl,c0,c1,c2⟩:=v3.o k Pw;have c0:=keep I.o c0;have c1:=keep I.o c1;have c2:=keep I.o c2;have Dd:w2.heap.size<=wr:=I.o.size;have Dk:U<wr:=Cn (h:=c0);by_cases F4:k=0
   .subst F4;have acN:0<R.length:=Pw;generalize R[0]=x at c0 c1 c2;obtain⟨⟨p,v⟩,s⟩:=x;simp only at c0 c1 c2;go_wp2_with fail;go_quiet(fail);have S:AE (Below w2 w2 ((wr.alloc (A7 #[A4 p,A4 v,A4 s] 217)).drewN nq)):=A2 (KP (I.o.alloc Dd _) _);go_wp2;first
    |exact⟨⟨1,A',BV,S⟩,by simp[B0];omega⟩
    |
     (
      go_roundw;case rel=>exact⟨1,A',BV,S⟩
      case measure=>simp[B0];omega)
   obtain⟨d,rfl⟩:∃d,k=d+1:=⟨k-1,A'⟩;have aNu:d<R:=A';obtain⟨ab_,Y,p4,d1,d2⟩:=v3.o d aNu;injection Y with Y;injection Y with Y;subst Y;have p4:=keep I.o p4;have d1:=keep I.o d1;have d2:=keep I.o d2;have I7:AE (∀d0,(OQ OK 85 (AH #[A4 R[d].1.1,A4 R[d].1.2]) (AH #[A4 R[d+1].1.1,A4 R[d+1].1.2])).run A6 d0=.ok (Ag A9) d0):=A2 λd0=>by rw[aLP,decide_eq_false (H.o d Pw)]
   have F4:(0:Int)<(d:Int)+1:=A';have Qr:(d:Int)+1<(E.length:Int):=A';have a6t:0<=(d:Int)+1/\(d:Int)+1<(E:Int):=⟨A',Qr⟩;have e1:(d:Int)+1-1=(d:Int):=A';have e2:(d:Int)<(E:Int):=A';generalize R[d+1]=x at c0 c1 c2 I7;generalize R[d]=y at p4 d1 d2 I7;obtain⟨⟨p,v⟩,s⟩:=x;obtain⟨⟨p',v'⟩,s'⟩:=y;simp only at c0 c1 c2 p4 d1 d2 I7;have Ie:=I7.o;have NB:A6.eqGuardType A6.depth 85=A9:=A8;clear I7;go_wp2_with fail;have f0:=BR p4 (A7 #[A4 p,A4 v,A4 s] 217);have f1:=BR d1 (A7 #[A4 p,A4 v,A4 s] 217);have f2:=BR d2 (A7 #[A4 p,A4 v,A4 s] 217);go_quiet(fail);have S:AE (Below w2.heap.size w2 ((wr.alloc (A7 #[A4 p,A4 v,A4 s] 217)).drewN nq)):=A2 (KP (I.o.alloc Dd _) _);go_wp2;first
   |exact⟨⟨d+1+1,A',BV,S⟩,by simp[B0];omega⟩
   |
    (
     go_roundw;case rel=>exact⟨d+1+1,A',BV,S⟩
     case measure=>simp[B0];omega)
  have Es:k=E:=A';subst Es;have aG8:=A2 (aKA _ R wr (bP.o.below I.o) (by rwa[M.o]) λk h e=>H.o k h (by rw[e]));go_wp2_with(go_at_call 134;refine aG8.o.mono ?_;rintro e w4⟨rfl,Cz⟩;have Dg:=A2 Cz;clear Cz);go_ret2;have Cz:=v2.o.trans ((I.o.trans (Dg.o.mono I.o.size)).mono v2.o.size);exact⟨_,R,rfl,DL.o,ff.o,(bP.o.below I.o).below Dg.o,Cz⟩
def Ry(x:IN):zz:=x.1.1++⟨#[32]⟩++x.1.2++⟨#[32]⟩++x.2++⟨#[10]⟩
def N5(E:List IN):zx:=E.flatMap λx=>Ry x
def a4n(E:List IN)(k:Nat)(h:k<E):N5 (E.take (k+1))=N5 (E.take k)++Ry E[k]:=by unfold N5;rw[KA E k h,a2Z];simp
def aJF(s):ax s=IS s:=by rfl
def aJD(a b):IS a++IS b=IS (a++b):=by simp[IS]
def aJE(a):(IS a).length=a:=by simp[IS]
theorem aJb{T e B b:Nat}{B5:List A3}{w':A1}(h:Mq T e B b B5 w)(hb:Below w w w'):Mq T e B b B5 w':=by
 let I:∀p,Vt T e B b p B5 w->Vt T e B b p B5 w':=by rintro p⟨N,v,h2,h3,h4⟩;refine⟨N,v,Ar (hb.block b (B3 h2)),?_,h4⟩;refine h3.kept (row:=J) ⟨hb.os,hb.tape,hb.output,hb.size,λk hk _=>hb.block k hk⟩ ?_;cases v.ownBlock with|none=>grind|some x=>grind
 rcases h with h|h;.exact AA (I _ h)
 exact AF (I _ h)
def aL4(E:List IN)(hs:∀x∈E,x.1.1.size<=1000/\x.1.2.size<=1000/\x.2.size<=1000)(k:Nat)(hk:k<=E):N5 (E.take k)<=k*4000:=by
 induction k with
 |zero=>simp[N5]
 |succ k h=>
  have hk':=hk;rw[a4n E k hk',DV];let⟨h2,h3,h4⟩:=hs E[k] (Ci hk');let h5:(Ry E[k]).data.toList.length=E[k].1.1.size+1+E[k].1.2.size+1+E[k].2.size+1:=by unfold Ry;simp;omega
  omega
def aZ9(v:A3)(E:List IN)(w:A1)(hv:RQ w v E)(hE:E.length<=1000000)(hs:∀x∈E,x.1.1.size<=1000/\x.1.2.size<=1000/\x.2.size<=1000):Ab A6 67 #[v] w λe w'=>e=AV (A4 ⟨(N5 E).toArray⟩)/\Below w w w':=by
 obtain⟨a,c,rfl,u⟩:=hv.open;have v3:=A2 u;have F9:=A2 hs;have Au:=A2 (aL4 E hs);have z:Mq 190 5 (AR w) (AR w) [] (w.alloc (A7 #[B2 J,A0 J 0 0] 190)):=AA ⟨Ad _,A0 J 0 0,OS w _,⟨rfl,AA ⟨rfl,rfl⟩⟩,by simp[Kt]⟩;have mB:=A2 z;clear z hv u hs;go_enter Tryz.func67,Tryz.ntmps67;go_wp2;go_loopw[8]λi wr=>∃k:Nat,k<=E/\i=AX k/\AE (Mq 190 5 (AR w) (AR w) (IS (N5 (E.take k))) wr/\Below w w wr)(λi _=>E-(B0 i).toNat);case atStart=>exact⟨0,A',rfl,A2 ⟨mB,(Az ..).alloc (Ad _) _⟩⟩
 case round=>
  obtain⟨k,hk,rfl,H⟩:=hrel;obtain⟨C,hb⟩:=H.o;have d:=A2 C;have I:=A2 hb;clear H C hb;by_cases hlt:k<E
  .obtain⟨g,rfl,c0,c1,c2⟩:=v3 k hlt;have c0:=keep I c0;have c1:=keep I.o c1;have c2:=keep I.o c2;have j:=A2 (a4n E k hlt);have Dd:=I.o.size;have Dk:=Cn (h:=c0);have hlen:IS (N5 (E.take k))+(Ry E[k]).size<=140737488355328:=by rw[aJE];have h1:=Au.o (k+1) A';rw[j.o,DV]at h1;have h2:(Ry E[k]).data.toList.length=(Ry E[k]).size:=AD;rw[h2]at h1;omega
   have D:AE (∀N,Mq 190 5 w w (IS (N5 (E.take k))) N->w.heap.size<=N->Ab A6 101 #[XU (AR w),A4 (Ry E[k])] N λe w'=>e=AV (Aj #[AX (Ry E[k]).size,CN])/\Vt 190 5 w w (XU (AR w)) (IS (N5 (E.take k))++ax (Ry E[k])) w'/\Below w N w'):=A2 λN h1 h2=>a'D _ _ _ _ N h1 hlen h2;generalize hx:E[k]=x at c0 c1 c2 j D;obtain⟨⟨p,v⟩,s⟩:=x;have U:AE (Ry ((p,v),s)=p++⟨#[32]⟩++v++⟨#[32]⟩++s++⟨#[10]⟩):=A2 rfl;simp only at c0 c1 c2;obtain⟨z1,z2,z3⟩:=F9.o E[k] (Ci hlt);rw[hx]at z1 z2 z3;simp only at z1 z2 z3;have e1:(Ji #[32]).size=1:=rfl;have e2:(Ji #[10]).size=1:=rfl;have k1:=Gk p ⟨#[32]⟩ A';have k2:=Gk (p++⟨#[32]⟩) v (by rw[EO];omega);have F5:=Gk (p++⟨#[32]⟩++v) ⟨#[32]⟩ (by rw[EO,EO];omega);have k4:=Gk (p++⟨#[32]⟩++v++⟨#[32]⟩) s (by rw[EO,EO,EO];omega);have k5:=Gk (p++⟨#[32]⟩++v++⟨#[32]⟩++s) ⟨#[10]⟩ (by rw[EO,EO,EO,EO];omega);rw[<-U.o]at k5;clear hx hlen e1 e2 U;go_wp2_with(go_at_call 101;refine(D.o _ (aJb d.o ((Az _ wr).alloc (Ad _) _)) Av).mono ?_;rintro e w4⟨rfl,M,S⟩;have mF:=A2 M;have Dg:=A2 ((I.o.alloc Dd _).trans S);clear M S);have Y:AE (Mq 190 5 w w (IS (N5 (E.take (k+1)))) w4/\Below w w w4):=by exact A2 ⟨AF (by rwa[j.o,<-aJD,<-aJF]),Dg.o⟩
   clear k1 k2 F5 k4 k5;go_wp2;first
   |exact⟨⟨k+1,A',BV,Y⟩,by simp[B0];omega⟩
   |
    (
     go_roundw;case rel=>exact⟨k+1,A',BV,Y⟩
     case measure=>simp[B0];omega)
  have Es:k=E:=A';subst Es;rw[Hb]at d;go_wp2_with fail;refine(Any.Builder_String_any Tryz.a8f Tryz.a03 w w (N5 E) _ d.o I.o.size).mono ?_;rintro e Bd⟨rfl,EG⟩;have H_:=A2 (I.o.trans EG);clear EG;go_wp2;go_ret;exact⟨rfl,H_.o⟩
def aQm(w):Ab A6 57 #[A4 ⟨#[]⟩] w λe w'=>e=AV (Aj #[A0 J 0 0,CN])/\w'=w:=by go_enter Tryz.func57,Tryz.ntmps57;go_wp2;refine St 1 ?_;rw[Nf];go_wp2;go_ret2;exact⟨rfl,rfl⟩
end
section
open Go.RowKit
variable{w:A1}{v:A3}{E:List (List Nat)}{b n:Nat}{nd:Nat->Nat->List (Nat×Nat)}{AI:Nat->Nat->Nat}
def aYP{P:Ao}{ops:Array B8}{o:B8}{a:HL}{K:HL->A1->Prop}{Q:Exit->HL->A1->Prop}{E:Prop}(U)(d:o.guard=J)(s x)(t)(ho:o.op=Em {callee:=Fw QR,args:=#[s,x],argTypes:=#[t,t]})(I:Nat)(e:BL)(i:TypeInfo)(z:A3)(size bytes:Nat)(ht:P.underlying t=Z (.slice e))(hi:P.info? e=i)(hz:i.zero=z)(C:i.size=size)(D:i.bytes=bytes)(H:z.cells=size)(M:0<size)(S:∀u∈z.cells.toList,U u)(v:A3)(n:Nat)(xs:List A3)(hs:a.eval s=v)(hown:w.ownsRow I e size v n xs)(hsp:GH U w size v n)(ad:An)(m c:Nat)(N:List A3)(hx:a.eval x=A0 (Z ad) m c)(hl:N=m*size)(Y:∀j u,N[j]?=Z u->w.cell? (ad.add j)=Z u)(h1:∀u∈N,u.oneCell'=A5)(MZ:0<m)(Wl:n+m<=BZ)(Wx:(n+m)*bytes<=140737488355328)(hbase:I<=w)(h:∀v' w',w'.ownsRow I e size v' (n+m) (xs++N)->w.grownBy w' v.ownBlock->GH U w' size v' (n+m)->K (a.put o.dst v') w'):if Gd o (I4 ops a.tmps)=A5 then fD P o a w K Q else E:=by rw[if_pos (by simp[Gd,d])];let⟨v',w',hr,h2,h3,h4⟩:=aBl w U I t o.type e i z size bytes ht hi hz C D H M S v n xs hown hsp ad m c N hl Y h1 MZ Wl Wx hbase;unfold fD AM;simp only[ho,KQ,Ra,lj,YA,lX,lW,JO,Ee,Iw,hs,hx,hr];exact h v' w' h2 h3 h4
def Qn:zz:=⟨#[97,46,116,108]⟩
structure gP(AI:Nat->Nat->Nat)(nd:Nat->Nat->List (Nat×Nat))(B:Nat)(w:A1)(q k:Nat)(r:Rel):Prop where
 path:r.p=V.mp q
 version:r.v=V.CY (AI q k)
 yC:r.m=GQ (V.mp q) (nd q k)
 Bs:r.Bs=(nd q k).map B1
 file:∃b,r.fa=Z ⟨b,0,J⟩/\r.Am=1/\B<=b/\w.heap[b]?=Z (A7 #[Qn,r.v] 77)
theorem gP.same{B w' q k r}(h:gP AI nd B w q k r)(e:∀(b:Nat)(c:zw)(q:Nat×Nat),w.heap[b]?=Z (A7 c 77 q)->w'.heap[b]?=w.heap[b]?):gP AI nd B w' q k r:=by let⟨h1,h2,h3,h4,b,h5,h6,h7,h8⟩:=h;exact⟨h1,h2,h3,h4,b,h5,h6,h7,(e b _ _ h8).trans h8⟩
def Xd(v:A3):Prop:=isStr v∨v=A0 J 0 0
structure MK(AI:Nat->Nat->Nat)(nd:Nat->Nat->List (Nat×Nat))(w:A1)(n:Nat)(v:A3)(wr:A1)(L:List Rel):Prop where
 len:L=n
 rel:∀j(h:j<L.length),gP AI nd w wr (j/3) (j%3) L[j]
 own:wr.ownsRow w 75 4 v n (Mi L)
 spare:GH Xd wr 4 v n
 below:AO w w wr
def MK.start(AI)(nd)(w):MK AI nd w 0 (A0 J 0 0) w []:=⟨rfl,λj h=>absurd h (gJ j),PR ..,GH.nil _ _ _,Az ..⟩
def MK.drewN{AI nd w n v wr L}(h:MK AI nd w n v wr L)(m):MK AI nd w n v (wr.drewN m) L:=⟨h.len,λj hj=>(h.rel j hj).same λ_ _ _ _=>rfl,h.own,h.spare,⟨h.below.os,h.below.tape,h.below.output,h.below.size,h.below.block⟩⟩
theorem MK.next{v':A3}{wr w3:A1}{L:List Rel}(h:MK AI nd w n v wr L)(hb:b=wr)(o1 o2:Cq)(d:o1=A7 #[Qn,A4 (V.CY (AI (n/3) (n%3)))] 77)(U:((wr.alloc o1).alloc o2).grownBy w3 v.ownBlock)(r:Rel)(hr:r=⟨V.mp (n/3),V.CY (AI (n/3) (n%3)),GQ (V.mp (n/3)) (nd (n/3) (n%3)),Z ⟨b,0,J⟩,1,1,(nd (n/3) (n%3)).map B1⟩)(hown:w3.ownsRow w 75 4 v' (n+1) (Mi L++[A4 r.p,A4 r.v,A4 r.m,A0 r.fa r.Am r.fc]))(hsp:GH Xd w3 4 v' (n+1)):MK AI nd w (n+1) v' w3 (L++[r]):=by
 let z:=h.below.size;let i:∀k o,Fl ((wr.alloc o1).alloc o2) k o->(∀cur,o≠A7 cur 75 (0,0))->w3.heap[k]?=((wr.alloc o1).alloc o2).heap[k]?:=λk o hk hne=>by
  refine U.block k (B3 hk) λe=>?_;rcases h.own.2 with⟨rfl,_⟩|⟨g,cap,cur,rfl,_,h3,_⟩;.cases e
  have e:=CP e;subst e;have:((wr.alloc o1).alloc o2).heap[k]?=Z (A7 cur 75 (0,0)):=by let u:=B3 h3;rwa[BU _ _ _ Av,BU _ _ _ A']
  grind
 let C:∀k,k<wr.heap.size->((wr.alloc o1).alloc o2).heap[k]?=wr.heap[k]?:=λk hk=>by rw[BU _ _ _ Av,BU _ _ _ A']
 refine⟨by rw[DV,h.len];rfl,λj hj=>?_,?_,hsp,?_⟩
 .by_cases hjn:j<L.length;.rw[List.getElem_append_left hjn];refine(h.rel j hjn).same λk c q hk=>?_;let u:=C k (B3 hk);rwa[i k _ (u.trans hk) λ_=>by simp]
  have I:j=n:=by rw[DV,h.len]at hj;simp at hj;have:=h.len;omega
  subst I;have e:(L++[r])[j]=r:=by rw[List.getElem_append_right (As h.len (Ad _))];simp
  rw[e,hr];refine⟨rfl,rfl,rfl,rfl,b,rfl,rfl,A',?_⟩;have N:((wr.alloc o1).alloc o2).heap[b]?=Z o1:=by rw[BU _ _ _ Av];exact CS _ _ _ hb
  rw[i b _ N λ_=>by rw[d];simp,N,d]
 .rwa[aBX]
 exact((h.below.alloc z o1).alloc Av o2).grown U Av λk hk=>(h.own.lt k hk).1
def aY9:∀u∈(AH #[A4 ⟨#[]⟩,A4 ⟨#[]⟩,A4 ⟨#[]⟩,A0 J 0 0]).cells.toList,Xd u:=by
 intro u hu;let hu:u∈[A4 ⟨#[]⟩,A4 ⟨#[]⟩,A4 ⟨#[]⟩,A0 J 0 0]:=hu;simp at hu;rcases hu with rfl|rfl;.exact AA ⟨_,rfl⟩
 exact AF rfl
structure PG(W d0:A1)(o1 o2:Cq):Prop where
 heap:d0.heap=((W.alloc o1).alloc o2).heap
 os:d0.os=W.os
 tape:d0.tape=W.tape
 output:d0.output=W.output
def PG.old{W d o1 o2}(h:PG W d o1 o2)(b)(hb:b<W.heap.size):d.heap[b]?=W.heap[b]?:=by rw[h.heap,BU _ _ _ Av,BU _ _ _ A']
def PG.own{AI:Nat->Nat->Nat}{nd:Nat->Nat->List (Nat×Nat)}{w:A1}{n:Nat}{v:A3}{W d:A1}{L:List Rel}{o1 o2:Cq}(h:PG W d o1 o2)(hR:MK AI nd w n v W L):d.ownsRow w 75 4 v n (Mi L)/\GH Xd d 4 v n:=by
 let⟨a,y⟩:=hR.own;refine⟨⟨a,y.imp (λz=>z) ?_⟩,hR.spare.same λg cap hv=>?_⟩;.rintro⟨g,cap,cur,I,h2,h3,h4⟩;exact⟨g,cap,cur,I,h2,(h.old g (B3 h3)).trans h3,h4⟩
 subst hv;exact h.old g (hR.own.lt g rfl).2
def PG.src{W d:A1}{o1:Cq}{x0 x1 x2 x3:A3}(h:PG W d o1 (A7 #[x0,x1,x2,x3] 75))(j)(u)(hj:[x0,x1,x2,x3][j]?=Z u):d.cell? ((⟨W+1,0,J⟩:An).add j)=Z u:=by
 let hl:d.heap[W.heap.size+1]?=Z (A7 #[x0,x1,x2,x3] 75):=by rw[h.heap];exact CS _ _ _ AD
 match j,hj with|0,hj=>simp at hj;subst hj;rw[Ea,A_ hl];rfl|1,hj=>simp at hj;subst hj;rw[Ea,A_ hl];rfl|2,hj=>simp at hj;subst hj;rw[Ea,A_ hl];rfl|3,hj=>simp at hj;subst hj;rw[Ea,A_ hl];rfl
def PG.next{AI:Nat->Nat->Nat}{nd:Nat->Nat->List (Nat×Nat)}{w:A1}{n q k:Nat}{v v':A3}{W d w3:A1}{L:List Rel}{o2:Cq}(I:d.grownBy w3 v.ownBlock)(h:PG W d (A7 #[Qn,A4 (V.CY (AI q k))] 77) o2)(hR:MK AI nd w n v W L)(hq:n/3=q)(hk:n%3=k)(hown:w3.ownsRow w 75 4 v' (n+1) (Mi L++[A4 (V.mp q),A4 (V.CY (AI q k)),A4 (GQ (V.mp q) (nd q k)),A0 (Z ⟨W,0,J⟩) 1 1]))(hsp:GH Xd w3 4 v' (n+1)):∃N,MK AI nd w (n+1) v' w3 N:=by subst hq hk;refine⟨_,hR.next rfl _ o2 rfl ⟨I.os.trans h.os,I.tape.trans h.tape,I.output.trans h.output,As h.heap.symm I.size,λb hb hne=>?_⟩ _ rfl hown hsp⟩;rw[<-h.heap]at hb⊢;exact I.block b hb hne
def aW1(AI nd d w)(hver:∀q k,q<5->k<3->w.cell? ⟨d,q*3+k,J⟩=Z (AB AJ (AI q k:Int))/\AI q k<30)(hnd:∀q k,q<5->k<3->∃a n c,w.cell? ⟨d,15+q*3+k,J⟩=Z (A0 a n c)/\Nl w (A0 a n c) (nd q k)/\(nd q k).length<=5/\∀x∈nd q k,x.1<5/\x.2<30):Ab A6 27 #[B2 (Z ⟨d,0,J⟩)] w λe w'=>∃v L,e=AV v/\MK AI nd w 15 v w' L:=by
 obtain⟨i0,hi,hz0,hz1,hz2⟩:=FJ a8F;have v3:=A2 hver;have Ch:=A2 hnd;clear hver hnd;go_enter Tryz.func27,Tryz.ntmps27;go_wp2;go_loopw[3,4]λv p wr=>∃q:Nat,q<=5/\p=q/\AE (∃L,MK AI nd w (q*3) v wr L)(λ_ p _=>5-(B0 p).toNat);case atStart=>exact⟨0,A',rfl,A2 ⟨[],MK.start AI nd w⟩⟩
 case round=>
  obtain⟨q,hq,rfl,H⟩:=hrel;by_cases hlt:q<5
  .go_wp2;rw[show BK ((q:Int)<5)=A5 from decide_eq_true A'];go_loopw[3,5]λv p wr=>∃k:Nat,k<=3/\p=k/\AE (∃L,MK AI nd w (q*3+k) v wr L)(λ_ p _=>3-(B0 p).toNat);case atStart=>exact⟨0,A',rfl,H⟩
   case round=>
    clear H;obtain⟨k,hk,rfl,H⟩:=hrel;by_cases z:k<3
    .obtain⟨L,hR⟩:=H.o;have BC:=A2 hR;have hb:=hR.below;obtain⟨c0,o_⟩:=v3.o q k hlt z;have c0:=keep hb c0;obtain⟨na,i,nc,c1,EM,ia,O3⟩:=Ch.o q k hlt z;have c1:=keep hb c1;have GC:=A2 (EM.later hb);have Dd:w.heap.size<=wr:=hb.size;obtain⟨DJ,C3,rfl⟩:=EA hR.own;clear hb EM hR H;have C:(q*3+k)/3=q:=A';have D:(q*3+k)%3=k:=A';go_wp2_with(go_at_call 22;refine(qW (AI q k) o_ _).mono ?_;rintro e w1⟨rfl,n1,rfl⟩);have aOc:d<w:=Cn (h:=(v3.o q k hlt z).1);have M:d≠wr:=A';have S:d≠wr+1:=A';have U:=A2 (BC.o.drewN n1);have c1:Cf (wr.drewN n1) d (15+q*3+k) (A0 na i nc):=c1;have Y:(wr.drewN n1).heap.size=wr:=rfl;have N:AE (Nl (wr.drewN n1) (A0 na i nc) (nd q k)):=GC;clear c0 BC GC;generalize wr.drewN n1=W at U c1 Y N⊢;rw[<-Y]at Dd M S;clear Y;have aGt:AE (∀I:A1,I.heap=W.heap∨(∃o,I.heap=W.heap.push o)->Nl I (A0 na i nc) (nd q k)):=A2 λI hx=>by
      have hb:∀b,b<W.heap.size->I.heap[b]?=W.heap[b]?:=λb hb=>by
       rcases hx with e|⟨o,e⟩;.rw[e]
       rw[e,KF hb,<-G8]
      rcases N.o with h|⟨g,c,h,hc⟩;.exact AA h
      exact AF ⟨g,c,h,λj hj=>⟨(C8 (a:=⟨g,j*2,J⟩) (hb g (Cn (h:=(hc j hj).1)))).trans (hc j hj).1,(C8 (a:=⟨g,j*2+1,J⟩) (hb g (Cn (h:=(hc j hj).1)))).trans (hc j hj).2⟩⟩
     have aOj:(V.mp q).size<=60:=by rw[XO];omega
     go_region_held2 λI=>Cf I d (15+q*3+k) (A0 na i nc)(first|(go_keep;done)|exact c1|exact BR c1 _|exact BR (BR c1 _) _|exact f0)(first|(go_at_call 21;refine(pY q hlt _).mono ?_;rintro e I⟨rfl,rfl⟩)|(go_at_call 51;refine(a9P (V.mp q) aOj _ (nd q k) _ ia O3 (aGt.o _ (by first|exact AA rfl|exact AF ⟨_,rfl⟩))).mono ?_;rintro e I⟨rfl,n2,rfl⟩)|(refine aYP Xd rfl _ _ 47 rfl w 75 i0 (AH #[A4 ⟨#[]⟩,A4 ⟨#[]⟩,A4 ⟨#[]⟩,A0 J 0 0]) 4 72 a1D hi hz0 hz1 hz2 rfl Ac aY9 (A0 DJ (q*3+k) C3) (q*3+k) (Mi L) rfl (PG.own (W:=W) (o1:=A7 #[A4 Qn,A4 (V.CY (AI q k))] 77) (o2:=A7 #[A4 (V.mp q),A4 (V.CY (AI q k)),A4 (GQ (V.mp q) (nd q k)),A0 (Z ⟨W,0,J⟩) 1 1] 75) ⟨rfl,rfl,rfl,rfl⟩ U.o).1 (PG.own (W:=W) (o1:=A7 #[A4 Qn,A4 (V.CY (AI q k))] 77) (o2:=A7 #[A4 (V.mp q),A4 (V.CY (AI q k)),A4 (GQ (V.mp q) (nd q k)),A0 (Z ⟨W,0,J⟩) 1 1] 75) ⟨rfl,rfl,rfl,rfl⟩ U.o).2 ⟨W+1,0,J⟩ 1 1 [A4 (V.mp q),A4 (V.CY (AI q k)),A4 (GQ (V.mp q) (nd q k)),A0 (Z ⟨W,0,J⟩) 1 1] rfl rfl (PG.src (W:=W) (o1:=A7 #[A4 Qn,A4 (V.CY (AI q k))] 77) ⟨rfl,rfl,rfl,rfl⟩) (by intro u hu;simp at hu;rcases hu with rfl|rfl|rfl|rfl<;>rfl) Ac DQ A' Av ?_;intro v' w3 C2 BN hsp;have f0:=BN.cell ((C8 (a:=⟨d,15+q*3+k,J⟩) (PG.old (W:=W) (o1:=A7 #[A4 Qn,A4 (V.CY (AI q k))] 77) (o2:=A7 #[A4 (V.mp q),A4 (V.CY (AI q k)),A4 (GQ (V.mp q) (nd q k)),A0 (Z ⟨W,0,J⟩) 1 1] 75) ⟨rfl,rfl,rfl,rfl⟩ d A')).trans c1) λh=>BO ((U.o.own.lt d h.symm).1);have Dp:=A2 (PG.next (W:=W) (o2:=A7 #[A4 (V.mp q),A4 (V.CY (AI q k)),A4 (GQ (V.mp q) (nd q k)),A0 (Z ⟨W,0,J⟩) 1 1] 75) BN ⟨rfl,rfl,rfl,rfl⟩ U.o C D C2 hsp);clear C2 BN hsp));all_goals
      go_wp2;first
      |exact⟨⟨k+1,A',BV,Dp⟩,by simp[B0];omega⟩
      |
       (
        go_roundw;case rel=>exact⟨k+1,A',BV,Dp⟩
        case measure=>simp[B0];omega)
    have D:k=3:=A';subst D;have R:=H;rw[show q*3+3=(q+1)*3 by omega]at R;go_wp2;first
    |exact⟨⟨q+1,A',BV,R⟩,by simp[B0];omega⟩
    |
     (
      go_roundw;case rel=>exact⟨q+1,A',BV,R⟩
      case measure=>simp[B0];omega)
  have ZT:q=5:=A';subst ZT;go_wp2;go_ret;obtain⟨L,hR⟩:=H.o;exact⟨_,L,rfl,hR⟩
def aLo(k:Int)(p v:zz)(w:A1)(hp:p.size<=1000000)(hv:v.size<=1000000):Ab A6 130 #[k,AH #[p,v]] w λe w'=>∃r,e=AV r/\HK w w' r (Z (k,0,p,v))/\AO w w w':=by have d:AE (AO (AR w) w (w.alloc (A7 #[p,v] 85))):=(Az _ w).alloc (Ad _) _;have j:=A2 (CS w (A7 #[p,v] 85) _ rfl);have N:=A2 (a4I p v (w.alloc (A7 #[p,v] 85)) hp hv);go_enter Tryz.func130,Tryz.ntmps130;go_wp2_with(go_at_call 136;refine N.o.mono ?_;rintro e h⟨rfl,hb1⟩;(have I:=A2 (De hb1 j));(have G5:h.cell? ⟨w,0,J⟩=Z p:=Af (A_ I));(have u:h.cell? ⟨w,1,J⟩=Z v:=Af (A_ I));(have z:=C' I 0);(have z1:=C' I 1);have U:AE (AO (AR w) w h):=d.o.trans (hb1.mono d.o.size);clear hb1);go_ret;have hb2:=(U.o.setCell (p:=⟨AR w,0,J⟩) (Ad _) p).setCell (p:=⟨w,1,J⟩) (Ad _) v;have i:(h.setCell ⟨w.heap.size,0,J⟩ p).setCell ⟨w.heap.size,1,J⟩ v=h.heap.size:=AD;refine⟨_,rfl,⟨h.heap.size,U.o.size,rfl,CS _ _ _ i.symm⟩,hb2.alloc (As i U.o.size) _⟩
def above(a t:AW):Bool:=a.1.toList==t.1.toList&&BK (0<V.order a.2 t.2)
def a4p(own p v:zz)(BF:A3)(na:Option An)(d nc:Nat)(i:BF=A0 na d nc)(w:A1):Ab A6 143 #[AH #[own,BF,A0 J 0 0,A0 J 0 0],AH #[p,v]] w λe w'=>e=AV (Ag A9)/\AO w w w':=by
 subst i;have H:AE (∀h:A1,Ab A6 219 #[A0 J 0 0,AH #[p,v]] h λe w'=>e=AV (Ag A9)/\AO (AR h) h w'):=λh=>by
  have j:AE (∀h:A1,Ab A6 317 #[A0 J 0 0,AH #[p,v]] h λe w'=>e=AV (AX (-1))/\AO (AR h) h w'):=λh=>by go_enter Tryz.func317,Tryz.ntmps317;go_wp2;refine St 1 ?_;rw[Nf];go_wp2;go_ret;exact⟨rfl,(Az _ h).alloc (Ad _) _⟩
  have I:AE (AO (AR h) h (h.alloc (A7 #[p,v] 222))):=(Az _ h).alloc (Ad _) _;go_enter Tryz.func219,Tryz.ntmps219;go_wp2_with(go_at_call 317;refine(j _).mono ?_;rintro e w1⟨rfl,hb⟩;have U:=A2 (I.o.trans (hb.mono I.o.size));clear hb);go_ret;exact⟨rfl,U⟩
 have N:AE (AO (AR w) w ((w.alloc (A7 #[own,A0 na d nc,A0 J 0 0,A0 J 0 0] 128)).alloc (A7 #[p,v] 85))):=((Az _ w).alloc (Ad _) _).alloc AD _;go_enter Tryz.func143,Tryz.ntmps143;go_wp2_with(refine(H _).mono ?_;rintro e w1⟨rfl,hb⟩;have U:=A2 (N.o.trans (hb.mono N.o.size)));go_ret;trivial
def a8I(a t:AW)(m:Int)(w:A1)(ha:a.2.size<=40)(ht:t.2.size<=40)(hm:w.cell? ⟨0,0,J⟩=Z (AB AJ m)):Ab A6 142 #[AH #[a.1,a.2],AH #[t.1,t.2]] w λe w'=>e=AV (Ag (above a t))/\AO w w w':=by
 let⟨p,v⟩:=a;let⟨q,u⟩:=t;simp only at ha ht⊢;have h:AE (AO (AR w) w ((w.alloc (A7 #[p,v] 85)).alloc (A7 #[q,u] 85))):=((Az _ w).alloc (Ad _) _).alloc AD _;have H:=A2 (aCt v u m ((w.alloc (A7 #[p,v] 85)).alloc (A7 #[q,u] 85)) ha ht (keep h hm));clear hm;by_cases hp:(p.toList==q.toList)=A5;.have I:AE (above (p,v) (q,u)=BK (0<V.order v u)):=(by unfold above;rw[hp];rfl);go_enter Tryz.func142,Tryz.ntmps142;go_wp2_with(go_at_call 44;refine H.o.mono ?_;rintro e U⟨rfl,hb⟩;have N:=A2 (h.o.trans (hb.mono h.o.size));clear hb);go_ret;exact⟨Af I,N⟩
 rw[a02]at hp;have I:AE (above (p,v) (q,u)=A9):=(by unfold above;rw[hp];rfl);go_enter Tryz.func142,Tryz.ntmps142;go_wp2_with fail;go_ret;exact⟨Af I,h⟩
theorem Zm{l:List AW}(h:EL w v l):∃a c,v=A0 a l c/\∀k(h),∃g,a=Z ⟨g,0,J⟩/\w.cell? ⟨g,k*2,J⟩=Z (A4 l[k].1)/\w.cell? ⟨g,k*2+1,J⟩=Z (A4 l[k].2):=by
 rcases h with⟨rfl,rfl⟩|⟨g,c,rfl,h⟩;.simp_all
 exact⟨_,c,rfl,λk hk=>⟨g,rfl,(h k hk).1,(h k hk).2⟩⟩
def lastB(L:List AW)(k:Nat):Bool:=match L[k]?,L[k+1]? with|Z x,Z y=>BK (x.1.toList≠y.1.toList)|_,_=>A5
def F0(L:List AW):Nat->List AW|0=>[]|k+1=>match L[k]? with|Z x=>if lastB L k then F0 L k++[x]else F0 L k|J=>F0 L k
theorem a8Z(L):∀k,(F0 L k).length<=k|0=>by simp[F0]|k+1=>by have:=a8Z L k;grind[F0]
def aQP(v:A3)(L:List AW)(w:A1)(hv:EL w v L)(hL:L.length<=1000000):Ab A6 149 #[v] w λe w'=>∃tv,e=AV tv/\w'.ownsRow w 221 2 tv (F0 L L.length) (Bb (F0 L L))/\AO w w w':=by
 obtain⟨i0,hi,hz0,hz1,hz2⟩:=FJ Ze;obtain⟨a,c,rfl,f9⟩:=Zm hv;have v3:=A2 f9;clear hv f9;go_enter Tryz.func149,Tryz.ntmps149;go_wp2;go_loopw[3,8]λv i wr=>∃k:Nat,k<=L/\i=AX k/\AE (wr.ownsRow w 221 2 v (F0 L k) (Bb (F0 L k))/\AO w w wr)(λ_ i _=>L-(B0 i).toNat);case atStart=>exact⟨0,A',rfl,A2 ⟨PR _ _ _ _,Az _ _⟩⟩
 case round=>
  obtain⟨k,hk,rfl,H⟩:=hrel;obtain⟨hown,hb⟩:=H.o;have U:=A2 hown;have N:=A2 hb;obtain⟨DJ,C3,rfl⟩:=EA hown;clear H hown hb;by_cases hlt:k<L
  .obtain⟨g,rfl,hc⟩:=v3.o k hlt;have c0:=keep N hc.1;have c1:=keep N hc.2;have M:w.heap.size<=wr:=N.o.size;have Dk:g<wr:=Cn (h:=c0);have F':=a8Z L k;clear hc;have hwr:AJ.wrap ((k:Int)+1)=(k:Int)+1:=BO (RU ((k:Int)+1));by_cases S:k+1<L
   .obtain⟨g',z,hc'⟩:=v3 (k+1) S;injection z with z;injection z with z;subst z;have Y:=keep N hc'.1;have I:AE (F0 L (k+1)=if BK (L[k].1.toList≠L[k+1].1.toList)then F0 L k++[L[k]]else F0 L k):=by refine A2 ?_;rw[F0];simp[lastB,En hlt,En S]
    generalize L[k+1]=y at Y I;generalize L[k]=x at c0 c1 I;obtain⟨p,v⟩:=x;obtain⟨p',_⟩:=y;simp only at c0 c1 Y I;have hne:((k:Int)+1==(L:Int))=A9:=Av;have MY:(k:Int)+1<(L:Int):=A';have aMV:(0:Int)<=(k:Int)+1:=A';have Md:((k:Int)+1).toNat=k+1:=A';have v8:Cf wr g ((k+1)*2) p':=Y;clear hc';by_cases d:p.toList=p'.toList
    .rw[if_neg (Ai d)]at I;have j0:(p'.toList==p.toList)=A5:=by simp[d]
     have R:AE ((wr.alloc (A7 #[p,v] 221)).drew.ownsRow w 221 2 (A0 DJ (F0 L k) C3) (F0 L (k+1)) (Bb (F0 L (k+1)))/\AO w w (wr.alloc (A7 #[p,v] 221)).drew):=by have C:=N.o.alloc M (A7 #[p,v] 221);refine A2 ⟨?_,⟨C.os,C.tape,C.output,C.size,C.block⟩⟩;rw[I.o];exact U.o.alloc _
     clear d;go_wp2_with fail;go_region_held2 λD=>D.cell? ⟨g,(k+1)*2,J⟩=Z p'/\D.cell? ⟨wr,0,J⟩=Z p(go_keep)(fail);go_wp2;exact Jz
    rw[if_pos (Ai d)]at I;have j0:(p'.toList==p.toList)=A9:=by simp;exact λh=>d h.symm
    clear d;go_wp2_with fail;go_region_held2 λD=>D.cell? ⟨g,(k+1)*2,J⟩=Z p'/\D.cell? ⟨wr,0,J⟩=Z p(go_keep)(fail);go_wp2_with(at_builtin;refine IU _ rfl _ _ 124 rfl w 221 i0 (AH #[A4 ⟨#[]⟩,A4 ⟨#[]⟩]) 2 32 Vw hi hz0 hz1 hz2 rfl Ac _ _ _ rfl (pV U) ⟨wr+1,0,J⟩ 1 1 [p,v] rfl rfl ?c1 Of DQ A' RD ?_);case c1=>intro j u hj;have Eb:((wr.alloc (A7 #[p,v] 221)).alloc (A7 #[p,v] 221)).drew.heap[wr.heap.size+1]?=Z (A7 #[p,v] 221):=CS (wr.alloc _) _ _ AD;(rw[Ea]);(try rw[My]);refine(A_ Eb j).trans ?_;rw[<-hj];simp
    intro v' w2 C2 BN _;have hb2:AO w w w2:=(a3g N M _ _).grown BN Av λk hk=>(U.o.lt k hk).1;have R:AE (w2.ownsRow w 221 2 v' (F0 L (k+1)) (Bb (F0 L (k+1)))/\AO w w w2):=by refine A2 ⟨?_,hb2⟩;rwa[I.o,R5,DV]
    clear BN C2 hb2;go_wp2;exact Jz
   have I:AE (F0 L (k+1)=F0 L k++[L[k]]):=by refine A2 ?_;rw[F0];simp[lastB,En hlt,aHW (UM S)]
   have iA:(L:Int)=(k:Int)+1:=A';generalize L[k]=x at c0 c1 I;obtain⟨p,v⟩:=x;simp only at c0 c1 I;go_wp2_with fail;go_quiet(fail);have aN0:=A2 iA;clear iA;go_wp2_with(at_builtin;refine IU _ rfl _ _ 124 rfl w 221 i0 (AH #[A4 ⟨#[]⟩,A4 ⟨#[]⟩]) 2 32 Vw hi hz0 hz1 hz2 rfl Ac _ _ _ rfl (pV U) ⟨wr+1,0,J⟩ 1 1 [p,v] rfl rfl ?c1 Of DQ A' RD ?_);case c1=>intro j u hj;have Eb:((wr.alloc (A7 #[p,v] 221)).alloc (A7 #[p,v] 221)).drew.heap[wr.heap.size+1]?=Z (A7 #[p,v] 221):=CS (wr.alloc _) _ _ AD;(try rw[Ea]);(try rw[My]);refine(A_ Eb j).trans ?_;rw[<-hj];simp
   intro v' w2 C2 BN _;have hb2:AO w w w2:=(a3h N M _ _ nq).grown BN Av λk hk=>(U.o.lt k hk).1;have R:AE (w2.ownsRow w 221 2 v' (F0 L (k+1)) (Bb (F0 L (k+1)))/\AO w w w2):=by refine A2 ⟨?_,hb2⟩;rwa[I.o,R5,DV]
   clear BN C2 hb2;go_wp2;exact Jz
  have Es:k=L:=A';subst Es;go_wp2;go_ret;exact⟨_,rfl,U,N⟩
def a4'(own p v rm:zz)(na fa:Option An)(N nc Am fc a9 I cap bi:Nat)(m:Int)(w:A1)(hne:(p.toList==own.toList)=A9)(hf:V.IF p v=J)(hp:p.size<=60)(hv:v.size<=40)(hm:w.cell? ⟨0,0,J⟩=Z (AB AJ m))(S:AE (∀h,AO w w h->Ab A6 218 #[AH #[A0 (Z ⟨a9,0,J⟩) I cap,AL (Z bi)],AH #[p,v]] h λe w'=>e=AV (Aj #[AH #[p,v,rm,A0 fa Am fc],Ag A5])/\AO h h w')):Ab A6 141 #[AH #[own,A0 na N nc,A0 J 0 0,A0 J 0 0],AH #[A0 (Z ⟨a9,0,J⟩) I cap,AL (Z bi)],AH #[p,v]] w λe w'=>e=AV CN/\AO w w w':=by
 have Y:=A2 hm;have j:=A2 hf;clear hm hf;go_enter Tryz.func141,Tryz.ntmps141;go_wp2_with fail;have u:=R3 w (A7 #[own,A0 na N nc,A0 J 0 0,A0 J 0 0] 128) (A7 #[BG a9 0 I cap,AL (Z bi)] 136) (A7 #[p,v] 85);have x0:=Zg w (A7 #[own,A0 na N nc,A0 J 0 0,A0 J 0 0] 128) (A7 #[BG a9 0 I cap,AL (Z bi)] 136) (A7 #[p,v] 85);have x1:=Zh w (A7 #[own,A0 na N nc,A0 J 0 0,A0 J 0 0] 128) (A7 #[BG a9 0 I cap,AL (Z bi)] 136) (A7 #[p,v] 85);have x2:=Zi w (A7 #[own,A0 na N nc,A0 J 0 0,A0 J 0 0] 128) (A7 #[BG a9 0 I cap,AL (Z bi)] 136) (A7 #[p,v] 85);have hz:=p6 w (A7 #[own,A0 na N nc,A0 J 0 0,A0 J 0 0] 128) (A7 #[BG a9 0 I cap,AL (Z bi)] 136) (A7 #[p,v] 85);generalize((w.alloc (A7 #[own,A0 na N nc,A0 J 0 0,A0 J 0 0] 128)).alloc (A7 #[BG a9 0 I cap,AL (Z bi)] 136)).alloc (A7 #[p,v] 85)=W at u x0 x1 x2 hz⊢;have U:=A2 u;have d:=A2 hz;have MD:=A2 x0;have G0:=A2 x1;have OV:=A2 x2;clear u hz x0 x1 x2;have z:AE (∀h,AO (AR W) W h->h.cell? ⟨w,0,J⟩=Z own/\h.cell? ⟨w,1,J⟩=Z (A0 na N nc)/\h.cell? ⟨w,2,J⟩=Z (A0 J 0 0)/\h.cell? ⟨w,3,J⟩=Z (A0 J 0 0)/\h.cell? ⟨w+1,0,J⟩=Z (A0 (Z ⟨a9,0,J⟩) I cap)/\h.cell? ⟨w+1,1,J⟩=Z (AL (Z bi))/\h.cell? ⟨w+1+1,0,J⟩=Z p/\h.cell? ⟨w+1+1,1,J⟩=Z v):=by refine λh hb=>?_;have h0:=De hb MD;have h1:=De hb G0;have h2:=De hb OV;exact⟨Af (A_ h0),Af (A_ h0),Af (A_ h0),Af (A_ h0),Af (A_ h1),Af (A_ h1),Af (A_ h2),Af (A_ h2)⟩
 let⟨a0,a1,a2,a3,a4,a5,a6,a7⟩:=z W (Az ..);go_wp2_with fail;refine(yF p v m _ A' A' (keep U Y)).mono ?_;rintro e w1⟨r,rfl,D,hb1⟩;rw[j.o]at D;obtain rfl:r=B2 J:=D;have i:=A2 hb1;clear hb1 a0 a1 a2 a3 a4 a5 a6 a7;let⟨a0,a1,a2,a3,a4,a5,a6,a7⟩:=z w1 i;have m0:=BO d;have m1:=BO d;have QA:=BO d;go_wp2_with fail;refine(S _ (U.o.trans (i.o.mono U.o.size))).mono ?_;rintro e HH⟨rfl,H⟩;have C:=A2 (i.o.trans (H.mono i.o.size));have M:=C.o.size;have FW:=BO d.o;have n2:=BO d.o;clear H a0 a1 a2 a3 a4 a5 a6 a7 m0 m1 QA;let⟨a0,a1,a2,a3,a4,a5,a6,a7⟩:=z.o (HH.alloc (A7 #[A4 p,A4 v,A4 rm,A0 fa Am fc] 75)) (C.o.alloc M _);go_wp2_with(go_at_call 143;refine(a4p own p v _ na N nc rfl _).mono ?_;rintro e w2⟨rfl,hb⟩;(have v2:=A2 ((C.o.alloc M _).trans (hb.mono Av)));clear hb);go_ret;exact⟨rfl,U.o.trans (v2.o.mono U.o.size)⟩
def Dr(R:List AW)(t:AW):Nat->List AW×AW|0=>([],t)|k+1=>match R[k]? with|Z x=>if x.1.toList==t.1.toList then if above x (Dr R t k).2 then((Dr R t k).1,x)else Dr R t k else((Dr R t k).1++[x],(Dr R t k).2)|J=>Dr R t k
theorem z6(R)(t)(ht:t.2.size<=40)(hR:∀x∈R,x.2.size<=40):∀k,(Dr R t k).1.length<=k/\(Dr R t k).2.1.toList=t.1.toList/\(Dr R t k).2.2.size<=40|0=>⟨Ad _,rfl,ht⟩|k+1=>by have h:=z6 R t ht hR k;grind[Dr]
def aVh(own p v rm:zz)(R:List AW)(na fa:Option An)(nc Am fc a9 d cap bi:Nat)(m:Int)(w:A1)(hne:(p.toList==own.toList)=A9)(hf:V.IF p v=J)(hp:p.size<=60)(hv:v.size<=40)(hm:w.cell? ⟨0,0,J⟩=Z (AB AJ m))(hR:EL w (A0 na R nc) R)(Cv:∀x∈R,x.2.size<=40)(hlen:R.length<=1000000)(v5:AE (∀I,AO w w I->Ab A6 218 #[AH #[A0 (Z ⟨a9,0,J⟩) d cap,AL (Z bi)],AH #[p,v]] I λe w'=>e=AV (Aj #[AH #[p,v,rm,A0 fa Am fc],Ag A5])/\AO I I w')):Ab A6 71 #[AH #[own,A0 na R nc,A0 J 0 0,A0 J 0 0],AH #[A0 (Z ⟨a9,0,J⟩) d cap,AL (Z bi)],AH #[p,v]] w λe w'=>∃tv,e=AV (Aj #[tv,CN])/\w'.ownsRow w 221 2 tv ((Dr R (p,v) R.length).1++[(Dr R (p,v) R.length).2]) (Bb ((Dr R (p,v) R).1++[(Dr R (p,v) R).2]))/\AO w w w':=by
 obtain⟨i0,hi,hz0,hz1,hz2⟩:=FJ Ze;have wt:=A2 hm;have aGT:=A2 (z6 R (p,v) hv Cv);have v3:=A2 λk(hk:k<R.length)=>Zm hR;have Ni:=A2 Cv;have aGo:=A2 λI hb=>a4' own p v rm na fa R nc Am fc a9 d cap bi m I hne hf hp hv (keep hb hm) λLX hy=>v5 LX (hb.trans (hy.mono hb.size));obtain⟨a',c',MT,f9⟩:=Zm hR;injection MT with MT _ L9;subst MT L9;clear v3;have v3:=A2 f9;clear hm hf hR Cv f9;go_enter Tryz.func71,Tryz.ntmps71;go_wp2_with fail;have MS:=R3 w (A7 #[own,A0 na R nc,A0 J 0 0,A0 J 0 0] 128) (A7 #[BG a9 0 d cap,AL (Z bi)] 136) (A7 #[p,v] 85);have x0:=Zg w (A7 #[own,A0 na R nc,A0 J 0 0,A0 J 0 0] 128) (A7 #[BG a9 0 d cap,AL (Z bi)] 136) (A7 #[p,v] 85);have x2:=Zi w (A7 #[own,A0 na R nc,A0 J 0 0,A0 J 0 0] 128) (A7 #[BG a9 0 d cap,AL (Z bi)] 136) (A7 #[p,v] 85);have hz:=p6 w (A7 #[own,A0 na R nc,A0 J 0 0,A0 J 0 0] 128) (A7 #[BG a9 0 d cap,AL (Z bi)] 136) (A7 #[p,v] 85);generalize((w.alloc (A7 #[own,A0 na R nc,A0 J 0 0,A0 J 0 0] 128)).alloc (A7 #[BG a9 0 d cap,AL (Z bi)] 136)).alloc (A7 #[p,v] 85)=W at MS x0 x2 hz⊢;have Bh:=A2 MS;have F9:=A2 hz;have MD:=A2 x0;have OV:=A2 x2;clear MS hz x0 x2;have G':AE (∀I,AO W W I->I.cell? ⟨w,0,J⟩=Z own/\I.cell? ⟨w,1,J⟩=Z (A0 na R nc)):=by refine λI hb=>?_;have h0:=De hb MD;exact⟨Af (A_ h0),Af (A_ h0)⟩
 refine(aGo W Bh).mono ?_;rintro e w1⟨rfl,hb1⟩;have n3:=A2 hb1;have Dc:W.heap.size<=w1:=hb1.size;clear hb1;obtain⟨a0,a1⟩:=G' w1 n3;go_wp2;go_loopw[9,22]λt i wr=>∃k:Nat,k<=R/\i=AX k/\AE (wr.ownsRow W 221 2 t (Dr R (p,v) k).1.length (Bb (Dr R (p,v) k).1)/\AO w w wr/\W.heap.size<=wr/\wr.heap[w.heap.size]?=Z (A7 #[own,A0 na R nc,A0 J 0 0,A0 J 0 0] 128)/\wr.heap[w.heap.size+1+1]?=Z (A7 #[A4 (Dr R (p,v) k).2.1,A4 (Dr R (p,v) k).2.2] 85))(λ_ i _=>R-(B0 i).toNat);case atStart=>exact⟨0,A',rfl,A2 ⟨PR _ _ _ _,Bh.o.trans (n3.o.mono Bh.o.size),Dc,De n3 MD,De n3 OV⟩⟩
 case round=>
  obtain⟨k,hk,rfl,H⟩:=hrel;obtain⟨hown,hb,hs,h0,h2⟩:=H.o;have U:=A2 hown;have z:=A2 hb;have HM:=A2 h0;have M:=A2 h2;obtain⟨DJ,C3,rfl⟩:=EA hown;clear H hown hb a0 a1;have Dd:w.heap.size<=wr:=z.o.size;have hz:W.heap.size=w+1+1+1:=F9.o;have GM:w.heap.size<wr:=A';have hb2:w.heap.size+1+1<wr:=A';have G_:wr.cell? ⟨w+1+1,0,J⟩=Z (A4 (Dr R (p,v) k).2.1):=Af (A_ h2);have t1:wr.cell? ⟨w+1+1,1,J⟩=Z (A4 (Dr R (p,v) k).2.2):=Af (A_ h2);have r0:wr.cell? ⟨w,0,J⟩=Z own:=Af (A_ h0);have r1:wr.cell? ⟨w,1,J⟩=Z (A0 na R nc):=Af (A_ h0);have r2:wr.cell? ⟨w,2,J⟩=Z (A0 J 0 0):=Af (A_ h0);have r3:wr.cell? ⟨w,3,J⟩=Z (A0 J 0 0):=Af (A_ h0);clear h0 h2;obtain⟨hf1,C,Y⟩:=aGT k;by_cases hlt:k<R
  .obtain⟨g,rfl,hc⟩:=v3 k hlt;have c0:=keep z hc.1;have c1:=keep z hc.2;have Dk:g<wr:=Cn (h:=c0);clear hc;have hwr:AJ.wrap (k+1)=(k:Int)+1:=BO (RU ((k:Int)+1));have N:AE (Dr R (p,v) (k+1)=if R[k].1.toList==p.toList then if above R[k] (Dr R (p,v) k).2 then((Dr R (p,v) k).1,R[k])else Dr R (p,v) k else((Dr R (p,v) k).1++[R[k]],(Dr R (p,v) k).2)):=by refine A2 ?_;rw[Dr];simp[En hlt]
   have Zc:=Ni _ (Ci hlt);generalize R[k]=x at c0 c1 N Zc;obtain⟨a,b⟩:=x;generalize Dr R (p,v) k=S at N U M G_ t1 hf1 C Y;obtain⟨S,q,u⟩:=S;simp only at c0 c1 N Zc U M G_ t1 hf1 C Y;by_cases Ig:(a.toList==p.toList)=A5
   .have aP4:(a.toList==q.toList)=A5:=by rwa[C]
    rw[Ig,if_pos rfl]at N;have Dm:AE (∀I,AO (wr+1) (wr.alloc (A7 #[a,b] 221)) I->I.heap[w.heap.size]?=Z (A7 #[own,A0 (Z ⟨g,0,J⟩) R nc,A0 J 0 0,A0 J 0 0] 128)/\I.heap[w.heap.size+1+1]?=Z (A7 #[q,u] 85)/\I.heap[wr.heap.size]?=Z (A7 #[a,b] 221)/\I.cell? ⟨0,0,J⟩=m/\I.ownsRow W 221 2 (A0 DJ S C3) S (Bb S)/\AO w w I/\wr.heap.size+1<=I):=by refine λI hb=>?_;have D:AO (wr.alloc (A7 #[a,b] 221)) (wr.alloc (A7 #[a,b] 221)) I:=Ar Ck;have hB:=(z.o.alloc Dd (A7 #[a,b] 221)).trans (D.mono (by rw[Ck];omega));exact⟨De D (Ar (BU _ _ _ GM)),De D (Ar (BU _ _ _ hb2)),De D (CS _ _ _ rfl),keep hB wt,VA (U.o.alloc _) D,hB,by have:=D.size;rw[Ck]at this;omega⟩
    have Cg:AE (∀I,AO (wr+1) (wr.alloc (A7 #[a,b] 221)) I->I.cell? ⟨w,0,J⟩=Z own/\I.cell? ⟨w,1,J⟩=Z (A0 (Z ⟨g,0,J⟩) R nc)/\I.cell? ⟨w,2,J⟩=Z (A0 J 0 0)/\I.cell? ⟨w,3,J⟩=Z (A0 J 0 0)/\I.cell? ⟨wr,0,J⟩=Z a/\I.cell? ⟨wr,1,J⟩=Z b/\I.frozen? ⟨w+1+1,0,J⟩=A9/\I.frozen? ⟨w+1+1,1,J⟩=A9/\I.cell? ⟨w+1+1,0,J⟩=Z q/\I.cell? ⟨w+1+1,1,J⟩=Z u):=by refine λI hb=>?_;obtain⟨h0,h2,h3,_⟩:=Dm I hb;exact⟨Af (A_ h0),Af (A_ h0),Af (A_ h0),Af (A_ h0),Af (A_ h3),Af (A_ h3),C' h2 0,C' h2 1,Af (A_ h2),Af (A_ h2)⟩
    have I5:=A2 (a8I (a,b) (q,u) m (wr.alloc (A7 #[a,b] 221)) Zc Y (Dm _ (Az _ _)).2.2.2.1);by_cases hab:above (a,b) (q,u)=A5
    .rw[hab,if_pos rfl]at N;rw[hab]at I5;go_wp2_with(first|(go_at_call 142;refine I5.o.mono ?_;rintro e w2⟨rfl,hb⟩;rw[Ck]at hb;obtain⟨uW,uX,uY,uZ,u_,ua,ub,uc,ud,ue⟩:=Cg w2 hb;have v2:=A2 hb;clear hb)|(go_at_call 143;refine(a4p own a b _ (Z ⟨g,0,J⟩) R nc rfl _).mono ?_;rintro e w3⟨rfl,hb⟩;(have Cs:=A2 (v2.o.trans (hb.mono (Dm _ v2).2.2.2.2.2.2)));clear hb uW uX uY uZ u_ ua ub uc ud ue;obtain⟨uW,uX,uY,uZ,u_,ua,ub,uc,ud,ue⟩:=Cg w3 Cs));obtain⟨h0,h2,h3,_,ho,Uq,li⟩:=Dm w3 Cs;refine⟨⟨k+1,A',BV,A2 ?_⟩,by simp[B0];omega⟩;rw[N.o];refine⟨?_,(Uq.setCell (p:=⟨w+1+1,0,J⟩) (by show w.heap.size<=w+1+1;omega) _).setCell (p:=⟨w+1+1,1,J⟩) (by show w.heap.size<=w+1+1;omega) _,Av,?_,CO _ _ 1 _ _ _ (CO w3 _ 0 _ _ _ h2)⟩
     .refine⟨ho.1,?_⟩;rcases ho.2 with h1|⟨Bv,cap,cur,h1,h2,h3,h4⟩;.exact AA h1
      refine AF ⟨Bv,cap,cur,h1,h2,?_,h4⟩;have hg:Bv≠w+1+1:=A';rwa[DC _ _ _ _ (show Bv≠w+1+1 from hg),DC _ _ _ _ (show Bv≠w+1+1 from hg)]
     rwa[DC _ _ _ _ (show w.heap.size≠w+1+1 by omega),DC _ _ _ _ (show w.heap.size≠w+1+1 by omega)]
    rw[a02]at hab;rw[hab,if_neg AD]at N;rw[hab]at I5;go_wp2_with(go_at_call 142;refine I5.o.mono ?_;rintro e w2⟨rfl,hb⟩;rw[Ck]at hb;obtain⟨uW,uX,uY,uZ,u_,ua,ub,uc,ud,ue⟩:=Cg w2 hb;have v2:=A2 hb;clear hb);obtain⟨h0,h2,h3,_,ho,Uq,li⟩:=Dm w2 v2;refine⟨⟨k+1,A',BV,A2 ?_⟩,by simp[B0];omega⟩;rw[N.o];exact⟨ho,Uq,A',h0,h2⟩
   rw[a02]at Ig;rw[Ig,if_neg AD]at N;have aP4:(a.toList==q.toList)=A9:=Ar C;go_wp2_with(at_builtin;refine IU _ rfl _ _ 124 rfl W 221 i0 (AH #[A4 ⟨#[]⟩,A4 ⟨#[]⟩]) 2 32 Vw hi hz0 hz1 hz2 rfl Ac _ _ _ rfl ((U.o.alloc _).alloc _) ⟨wr+1,0,J⟩ 1 1 [a,b] rfl rfl ?c1 Of DQ A' RD ?_);case c1=>intro j arr hj;have Eb:((wr.alloc (A7 #[a,b] 221)).alloc (A7 #[a,b] 221)).heap[wr.heap.size+1]?=Z (A7 #[a,b] 221):=CS (wr.alloc _) _ _ AD;(rw[Ea]);(try rw[My]);refine(A_ Eb j).trans ?_;rw[<-hj];simp
   intro v' w2 C2 BN _;have hr:AO W wr w2:=(((Az W wr).alloc hs _).alloc Av _).grown BN Av λk hk=>(U.o.lt k hk).1;have R:AE (w2.ownsRow W 221 2 v' (Dr R (p,v) (k+1)).1.length (Bb (Dr R (p,v) (k+1)).1)/\AO w w w2/\W.heap.size<=w2/\w2.heap[w.heap.size]?=Z (A7 #[own,A0 (Z ⟨g,0,J⟩) R nc,A0 J 0 0,A0 J 0 0] 128)/\w2.heap[w.heap.size+1+1]?=Z (A7 #[A4 (Dr R (p,v) (k+1)).2.1,A4 (Dr R (p,v) (k+1)).2.2] 85)):=by
    refine A2 ⟨?_,z.o.trans (hr.mono A'),Dn hs hr.size,(hr.block _ A').trans HM,?_⟩;.rwa[N.o,R5,DV,hz]
    rw[N.o];exact(hr.block _ A').trans M
   clear BN C2 hr;go_wp2;exact Jz
  have Es:k=R:=A';subst Es;generalize v0:Dr R (p,v) R=S at U M G_ t1 hf1 C Y⊢;obtain⟨S,a,b⟩:=S;have z9:=A2 v0;clear v0;simp only at U M G_ t1 hf1 C Y⊢;go_wp2_with(at_builtin;refine IU _ rfl _ _ 124 rfl W 221 i0 (AH #[A4 ⟨#[]⟩,A4 ⟨#[]⟩]) 2 32 Vw hi hz0 hz1 hz2 rfl Ac _ _ _ rfl (U.o.alloc _) ⟨wr,0,J⟩ 1 1 [a,b] rfl rfl ?c1 Of DQ A' RD ?_);case c1=>intro j arr hj;have Eb:(wr.alloc (A7 #[a,b] 221)).heap[wr.heap.size]?=Z (A7 #[a,b] 221):=CS wr _ _ rfl;(rw[Ea]);(try rw[My]);refine(A_ Eb j).trans ?_;rw[<-hj];simp
  intro v' w2 C2 BN _;have hr:AO W wr w2:=((Az W wr).alloc hs _).grown BN Av λk hk=>(U.o.lt k hk).1;have Mz:AE (w2.ownsRow w 221 2 v' (S++[(a,b)]) (Bb (S++[(a,b)]))/\AO w w w2):=by refine A2 ⟨?_,z.o.trans (hr.mono A')⟩;rw[R5,DV];exact Q8 C2 A'
  clear BN C2 hr;go_wp2;go_ret2;rw[z9.o];exact⟨v',rfl,Mz.o.1,Mz.o.2⟩
theorem aW7(own)(R:List AW)(k:Nat)(h:k<R):Gr own (R.take (k+1))=Gr own (R.take k)++[DD 221 (AH #[R[k].1,R[k].2])]:=by grind[Gr,T4]
def a8w(own:zz)(R:List AW)(BF:A3)(w:A1)(hR:EL w BF R)(hlen:R.length<=1000000):Ab A6 140 #[AH #[own,BF,A0 J 0 0,A0 J 0 0]] w λe w'=>∃tv,e=AV tv/\w'.ownsRow w 179 1 tv (R+1) (Gr own R)/\AO w w w':=by
 obtain⟨i0,hi,hz0,hz1,hz2⟩:=FJ om;obtain⟨na,nc,rfl,d⟩:=Zm hR;have z:=A2 d;clear hR d;go_enter Tryz.func140,Tryz.ntmps140;go_wp2;have I:AE (((w.alloc (A7 #[own,A0 na R nc,A0 J 0 0,A0 J 0 0] 128)).alloc (A7 #[DD 123 (AH #[own])] 179)).ownsRow (w+1) 179 1 (BG (AR w+1) 0 1 1) (0+1) (Gr own (R.take 0))):=A2 ⟨rfl,AF ⟨w+1,1,_,rfl,A',CS _ _ _ AD,A',DQ,rfl,rfl⟩⟩;go_loopw[3,17]λv i wr=>∃k:Nat,k<=R/\i=AX k/\AE (wr.ownsRow (w+1) 179 1 v (k+1) (Gr own (R.take k))/\AO w w wr/\wr.heap[w.heap.size]?=Z (A7 #[own,A0 na R nc,A0 J 0 0,A0 J 0 0] 128))(λ_ i _=>R-(B0 i).toNat);case atStart=>exact⟨0,A',rfl,A2 ⟨I,K9 w _ _,by rw[BU _ _ _ AD];exact CS _ _ _ rfl⟩⟩
 case round=>
  clear I;obtain⟨k,hk,rfl,H⟩:=hrel;obtain⟨hown,hb,h0⟩:=H.o;have U:=A2 hown;have N:=A2 hb;have I:=A2 h0;obtain⟨DJ,C3,rfl⟩:=EA hown;have C:w.heap.size<wr:=B3 h0;have r2:wr.cell? ⟨w,2,J⟩=Z (A0 J 0 0):=by rw[A_ h0];rfl
  have r3:wr.cell? ⟨w,3,J⟩=Z (A0 J 0 0):=by rw[A_ h0];rfl
  clear H hown hb h0;by_cases hlt:k<R
  .obtain⟨g,rfl,hc⟩:=z.o k hlt;have c0:=keep N.o hc.1;have c1:=keep N.o hc.2;have Dk:g<wr:=Cn (h:=c0);clear hc;have hwr:AJ.wrap (k+1)=(k:Int)+1:=by have:=RU ((k:Int)+1);omega
   have Au:=A2 (aW7 own R k hlt);generalize R[k]=x at c0 c1 Au;obtain⟨a,b⟩:=x;simp only at c0 c1 Au;go_wp2_with(at_builtin;refine IU _ rfl _ _ 99 rfl (w+1) 179 i0 CN 1 16 lV hi hz0 hz1 hz2 rfl Ac _ _ _ rfl ((U.o.alloc _).alloc _) ⟨wr+1,0,J⟩ 1 1 [DD 221 (AH #[a,b])] rfl rfl ?c1 uh DQ A' RD ?_);case c1=>intro j D hj;have M:((wr.alloc (A7 #[a,b] 221)).alloc (A7 #[DD 221 (AH #[a,b])] 179)).heap[wr.heap.size+1]?=Z (A7 #[DD 221 (AH #[a,b])] 179):=CS (wr.alloc _) _ _ AD;(rw[Ea]);(try rw[My]);refine(A_ M j).trans ?_;rw[<-hj];simp
   intro v' w2 S BN _;have hr:AO (w+1) wr w2:=(((Az (w+1) wr).alloc C _).alloc Av _).grown BN Av λk hk=>(U.o.lt k hk).1;have u:AE (w2.ownsRow (w+1) 179 1 v' (k+1+1) (Gr own (R.take (k+1)))/\AO w w w2/\w2.heap[w.heap.size]?=Z (A7 #[own,A0 (Z ⟨g,0,J⟩) R nc,A0 J 0 0,A0 J 0 0] 128)):=by exact A2 ⟨by rwa[Au.o],N.o.trans (hr.mono A'),(hr.block _ A').trans I⟩
   clear BN S hr;go_wp2;first
   |exact⟨⟨k+1,A',BV,u⟩,by simp[B0];omega⟩
   |
    (
     go_roundw;case rel=>exact⟨k+1,A',BV,u⟩
     case measure=>simp[B0];omega)
  have Y:k=R:=A';subst Y;go_wp2;refine St 1 ?_;rw[Nf];go_wp2;refine St 1 ?_;rw[Nf];go_wp2;go_ret;have:=U;rw[Hb]at this;exact⟨_,rfl,Q8 this A',N⟩
def aZr(own:zz)(R:List AW)(na:Option An)(nc a9 cap r5 d j:Nat)(G:List Rel)(i:Nat)(hi:i<G)(m:Int)(w:A1)(D:Lg G)(hs:Ix w a9 G)(H:∀r∈G,V.IF r.p r.v=J)(u:∀r∈G,r.p.size<=60/\r.v.size<=40)(hne:(G[i].p.toList==own.toList)=A9)(hm:w.cell? ⟨0,0,J⟩=Z (AB AJ m))(hR:EL w (A0 na R nc) R)(M:∀x∈R,x.2.size<=40)(hlen:R.length<=1000000)(h5:w.cell? ⟨r5,0,J⟩=Z (A0 (Z ⟨a9,0,J⟩) G cap))(h6:w.cell? ⟨d,0,J⟩=Z (A4 G[i].p))(h7:w.cell? ⟨j,0,J⟩=Z (A4 G[i].v)):Ab A6 70 #[AH #[own,A0 na R nc,A0 J 0 0,A0 J 0 0],B2 (Z ⟨r5,0,J⟩),B2 (Z ⟨d,0,J⟩),B2 (Z ⟨j,0,J⟩)] w λe w'=>∃tv,e=AV (Aj #[tv,CN])/\w'.ownsRow w 221 2 tv ((Dr R G[i].name R.length).1++[(Dr R G[i].name R.length).2]) (Bb ((Dr R G[i].name R).1++[(Dr R G[i].name R).2]))/\AO w w w':=by
 have z0:=A2 λI hb=>uj a9 cap G m I D (hs.below hb) H (keep hb hm) λr hr=>⟨BO ((u r hr).1),BO ((u r hr).2)⟩;have BC:=A2 λI hb bi(z:Fl I bi (B4 (Ba (places G)) G))=>aVh own G[i].p G[i].v G[i].m R na G[i].fa nc G[i].Am G[i].fc a9 G cap bi m I hne (H _ (Ci hi)) (u _ (Ci hi)).1 (u _ (Ci hi)).2 (keep hb hm) (EL.below hR hb) M hlen λLX hy=>vY a9 cap bi _ G i hi D LX (De hy z) ((hs.below hb).below hy);have acS:=Cn (h:=h5);have acT:=Cn (h:=h6);have acU:=Cn (h:=h7);have Cg:AE (∀I,AO (AR w) w I->I.cell? ⟨r5,0,J⟩=Z (A0 (Z ⟨a9,0,J⟩) G cap)/\I.cell? ⟨d,0,J⟩=Z (G[i].p)/\I.cell? ⟨j,0,J⟩=Z (G[i].v)):=λI hb=>⟨keep hb h5,keep hb h6,keep hb h7⟩;simp only[Rel.name];generalize G[i].p=p at*;generalize G[i].v=v at*;clear D hs H u hne hm hR M;go_enter Tryz.func70,Tryz.ntmps70;go_wp2_with fail;have N:=A2 (Q9 w (A7 #[own,A0 na R nc,A0 J 0 0,A0 J 0 0] 128));have S:=A2 (CS w (A7 #[own,A0 na R nc,A0 J 0 0,A0 J 0 0] 128) _ rfl);generalize w.alloc (A7 #[own,A0 na R nc,A0 J 0 0,A0 J 0 0] 128)=W at N S⊢;have C:AE (∀I,AO (AR W) W I->I.cell? ⟨w,0,J⟩=Z own/\I.cell? ⟨w,1,J⟩=Z (A0 na R nc)/\I.cell? ⟨w,2,J⟩=Z (A0 J 0 0)/\I.cell? ⟨w,3,J⟩=Z (A0 J 0 0)/\I.cell? ⟨r5,0,J⟩=Z (A0 (Z ⟨a9,0,J⟩) G cap)/\I.cell? ⟨d,0,J⟩=Z p/\I.cell? ⟨j,0,J⟩=Z v):=by refine A2 λI hb=>?_;have h0:=De hb S.o;exact⟨Af (A_ h0),Af (A_ h0),Af (A_ h0),Af (A_ h0),Cg.o I (N.o.trans (hb.mono N.o.size))⟩
 have Y:AO (AR W) W W.drew:=⟨rfl,rfl,rfl,Ad _,λ_ _=>rfl⟩;obtain⟨a0,a1,a2,a3,a4,a5,a6⟩:=C.o W (Az ..);clear h5 h6 h7;go_region_held2 λI=>I.cell? ⟨w,0,J⟩=Z (A4 own)/\I.cell? ⟨w,1,J⟩=Z (A0 na R nc)/\I.cell? ⟨w,2,J⟩=Z (A0 J 0 0)/\I.cell? ⟨w,3,J⟩=Z (A0 J 0 0)/\I.cell? ⟨r5,0,J⟩=Z (A0 (Z ⟨a9,0,J⟩) G cap)/\I.cell? ⟨d,0,J⟩=Z (A4 p)/\I.cell? ⟨j,0,J⟩=Z (A4 v)(first|go_keep|exact C.o _ U.o|exact C.o _ Fe.o)(first|(go_at_call 60;refine(z0.o _ (N.o.trans (Y.mono N.o.size))).mono ?_;rintro e HH⟨bi,rfl,_,z,HO⟩;have U:=A2 (Y.trans HO);have DL:=A2 z;(obtain⟨g0,g1,g2,g3,g4,g5,g6⟩:=C.o HH U.o);clear HO z)|(go_at_call 71;refine(BC.o _ (N.o.trans (U.o.mono N.o.size)) _ DL.o).mono ?_;rintro e wd⟨tv,rfl,hown,MU⟩;have Fe:=A2 (U.o.trans (MU.mono U.o.size));have m3:=A2 hown;clear hown MU));all_goals go_wp2;go_ret2;exact⟨_,rfl,Q8 m3.o (Dn N.o.size U.o.size),N.o.trans (Fe.o.mono N.o.size)⟩
def Jd(own:zz)(R:List AW):List (Nat×List zz):=(123,[own])::R.map λx=>(221,[x.1,x.2])
def a8u(own)(R):(Jd own R).map LM=Gr own R:=by unfold Jd Gr;rw[Ee,Ld];rfl
def dR(own)(R):(Jd own R).length=R+1:=by simp[Jd]
def aJq(own s:zz)(R R':List AW)(a b c:A3)(m:Int)(w:A1)(X':V.GL s)(d:Kh (V.parse s).1=Gr own R)(li:s.size<=1000000000)(hlen:R.length<=1000000)(oN:R'.length<=1000000)(hv:∀x∈Jd own R',V.Valid x.1 x.2)(hm:w.cell? ⟨0,0,J⟩=Z (AB AJ m))(Cg:AE (∀(I:A1)(na:Option An)(nc:Nat),AO w w I->EL I (A0 na R nc) R->Ab A6 70 #[AH #[own,A0 na R nc,A0 J 0 0,A0 J 0 0],a,b,c] I λe w'=>∃tv,e=AV (Aj #[tv,CN])/\w'.ownsRow I 221 2 tv R' (Bb R')/\AO I I w')):Ab A6 69 #[s,Br (Bo 70) #[] #[a,b,c]] w λe w'=>∃S,S.Perm (Jd own R')/\V.PY S/\e=AV (Aj #[A4 ⟨(V.G6 S).toArray⟩,CN])/\AO w w w':=by
 have IW:=A2 X';have Dy:=A2 d;have v3:=A2 hv;have wt:=A2 hm;clear X' d hv hm;go_enter Tryz.func69,Tryz.ntmps69;go_wp2_with fail;refine(pr s m _ A' wt).mono λe w1⟨hsay,hb1⟩=>?_;have n3:=A2 hb1;obtain⟨C,Bm,rfl,D⟩:∃C Bm,e=AV (Aj #[BG C 0 (R+1) Bm,CN])/\AE (∀j u,(Gr own R)[j]?=Z u->Cf w1 C j u):=by
  rcases hsay with⟨_,v,N,h2⟩|⟨h,_⟩
  .have d:=Dy;rw[d]at h2;have hlen:(V.parse s).1.length=R+1:=by have:=congrArg mZ d;simpa[Kh,Gr]using this
   rw[hlen]at h2;obtain⟨g,c,rfl,_,_⟩:=SH h2 A';exact⟨g,c,N,A2 λj u hj=>Lx h2 j u hj⟩
  exact absurd IW h
 clear hsay hb1;go_wp2_with fail;refine(ng C Bm own R _ A' D).mono ?_;rintro e w2⟨BF,rfl,hown,hb2⟩;have H:=A2 (n3.o.trans (hb2.mono n3.o.size));have tL:=A2 (VG hown);obtain⟨na,nc,rfl⟩:=EA hown;clear hown hb2;go_wp2_with fail;have M:=A2 (H.o.alloc H.o.size (A7 #[own,A0 na R nc,A0 J 0 0,A0 J 0 0] 128));have Cl:=A2 (CS w2 (A7 #[own,A0 na R nc,A0 J 0 0,A0 J 0 0] 128) _ rfl);have Mc:w.heap.size<=w2:=H.o.size;refine(Cg _ na nc M (EL.below tL (Q9 w2 _))).mono ?_;rintro e w4⟨tv,rfl,hown,Y⟩;obtain⟨i,z,rfl⟩:=EA hown;have Dg:=A2 (M.o.trans (Y.mono M.o.size));have YN:=A2 (De Y Cl);have LJ:w2.heap.size<w4:=B3 YN;obtain⟨EY,z1,z2,z3,KE,y1,y2,y3,_⟩:=nI YN;have fo:=A2 (CO w4 _ 1 _ _ (A0 i R' z) YN);have H_:=A2 (Dg.o.setCell (p:=⟨w2,1,J⟩) Mc (A0 i R' z));have mK:AE (EL (w4.setCell ⟨w2,1,J⟩ (A0 i R' z)) (A0 i R' z) R'):=by
  refine VG (B:=w) (e:=221) ?_;refine⟨hown.1,?_⟩;rcases hown.2 with N|⟨Bv,cap,cur,N,h2,h3,h4⟩;.exact AA N
  refine AF ⟨Bv,cap,cur,N,by rw[Ck]at h2;omega,?_,h4⟩;rwa[DC _ _ _ _ (show Bv≠w2 by rw[Ck]at h2;omega)]
 clear hown Y;go_wp2_with fail;generalize w4.setCell ⟨w2,1,J⟩ (A0 i R' z)=Bd at fo H_ mK⊢;refine(a8w own R' _ _ mK oN).mono ?_;rintro e EC⟨tv,rfl,hown,hb6⟩;have bG:=A2 (H_.o.trans (hb6.mono H_.o.size));obtain⟨aQx,aQi,rfl,_,_⟩:=SH hown A';rw[<-a8u,<-dR own R']at hown;rw[<-dR own R'];have m3:=A2 hown;clear hown hb6;go_wp2_with fail;refine(aAK _ aQx aQi m (Jd own R') _ (by rw[dR];omega) (by simp[Jd]) v3 m3 (keep bG wt)).mono ?_;rintro e Gb⟨S,hp,hi,rfl,U⟩;have aGI:=A2 (bG.o.trans (U.mono bG.o.size));have DL:=A2 hp;have I5:=A2 hi;clear hp hi U;go_wp2;go_ret2;exact⟨S,DL,I5,rfl,aGI⟩
def XX(R:List AW)(t:AW):List AW:=(Dr R t R).1++[(Dr R t R).2]
def aZt(own s:zz)(R:List AW)(a9 cap:Nat)(G:List Rel)(i:Nat)(hi:i<G)(m:Int)(w:A1)(d:V.GL s)(j:Kh (V.parse s).1=Gr own R)(u:s.size<=1000000000)(hlen:R.length<=999999)(hv:∀x∈Jd own (XX R G[i].name),V.Valid x.1 x.2)(z:Lg G)(hs:Ix w a9 G)(C:∀r∈G,V.IF r.p r.v=J)(U:∀r∈G,r.p.size<=60/\r.v.size<=40)(hne:(G[i].p.toList==own.toList)=A9)(N:∀x∈R,x.2.size<=40)(hm:w.cell? ⟨0,0,J⟩=Z (AB AJ m)):Ab A6 33 #[s,A0 (Z ⟨a9,0,J⟩) G cap,G[i].p,G[i].v] w λe w'=>∃S,S.Perm (Jd own (XX R G[i].name))/\V.PY S/\e=AV (Aj #[A4 ⟨(V.G6 S).toArray⟩,CN])/\AO w w w':=by
 have D:(XX R G[i].name).length<=1000000:=by have:=(z6 R G[i].name (U _ (Ci hi)).2 N R).1;unfold XX;simp;omega
 have H:=λW r5 M Y hb h5 h6 h7=>aJq own s R (XX R G[i].name) _ _ _ m W d j u A' D hv (keep hb hm) λd0 na nc hx hmd=>aZr own R na nc a9 cap r5 M Y G i hi m d0 z ((hs.below hb).below hx) C U hne (keep hx (keep hb hm)) hmd N A' (keep hx h5) (keep hx h6) (keep hx h7);generalize G[i].p=p at H⊢;generalize G[i].v=v at H⊢;go_enter Tryz.func33,Tryz.ntmps33;go_wp2_with fail;have x0:=Zg w (A7 #[BG a9 0 G cap] 47) (A7 #[p] 9) (A7 #[v] 9);have x1:=Zh w (A7 #[BG a9 0 G cap] 47) (A7 #[p] 9) (A7 #[v] 9);have x2:=Zi w (A7 #[BG a9 0 G cap] 47) (A7 #[p] 9) (A7 #[v] 9);have h:=R3 w (A7 #[BG a9 0 G cap] 47) (A7 #[p] 9) (A7 #[v] 9);generalize((w.alloc (A7 #[BG a9 0 G cap] 47)).alloc (A7 #[p] 9)).alloc (A7 #[v] 9)=W at x0 x1 x2 h⊢;have I:=A2 h;refine(H W _ _ _ h (Af (A_ x0)) (Af (A_ x1)) (Af (A_ x2))).mono ?_;rintro e w1⟨S,hp,By,rfl,hb⟩;have DL:=A2 hp;have I5:=A2 By;have eq:=A2 hb;go_wp2;go_ret2;exact⟨S,DL,I5,rfl,I.o.trans (eq.o.mono I.o.size)⟩
theorem aQC(r a9 n c k:Nat)(L:List Int)(w:A1)(h0:w.cell? ⟨r,0,J⟩=Z (A0 (Z ⟨a9,0,J⟩) n c))(hn:L=n)(hL:∀j(h:j<L.length),w.cell? ⟨a9,j,J⟩=Z (AB AJ L[j]))(hk:k<L):Ab A6 227 #[k,B2 (Z ⟨r,0,J⟩)] w λe w'=>e=AV (Ag (L[k]==0))/\w'=w:=by subst hn;go_wp2;go_ret;simp_all
def aQA(r:Rel)(U:A3)(t:AW)(d:Nat)(m:Int)(w:A1)(i:∃a n c,U=A0 a n c)(ha:r.v.size<=40)(ht:t.2.size<=40)(hm:w.cell? ⟨0,0,J⟩=Z (AB AJ m))(h0:w.cell? ⟨d,0,J⟩=Z (A4 t.1))(h1:w.cell? ⟨d,1,J⟩=Z (A4 t.2)):Ab A6 146 #[aF r U,B2 (Z ⟨d,0,J⟩)] w λe w'=>e=AV (Ag (above r.name t))/\AO w w w':=by obtain⟨na,N,nc,rfl⟩:=i;let⟨p,v,rm,fa,Am,fc,nd⟩:=r;simp at*;have hlt:=Cn (h:=h0);have I:=A2 (Q9 w (A7 #[p,v,p,v,rm,A0 fa Am fc,AX 0,A0 na N nc] 234));have j:=A2 (a8I (p,v) t m (w.alloc (A7 #[p,v,p,v,rm,A0 fa Am fc,AX 0,A0 na N nc] 234)) ha ht (keep I hm));clear hm;go_enter Tryz.func146,Tryz.ntmps146;go_wp2_with(go_at_call 142;refine j.o.mono ?_;rintro e w1⟨rfl,hb⟩;have u:=A2 (I.o.trans (hb.mono I.o.size)));go_ret;trivial
def counted(l:List (AW×Nat))(p:AW):Prop:=∃x∈l,x.1=p/\x.2≠0
open Classical in def aQE(Jg bi c:Nat)(l:List (AW×Nat))(p:AW)(w:A1)(hp:D6 p)(hl:∀x∈l,D6 x.1)(hnd:(l.map (·.1)).Nodup)(h0:w.cell? ⟨Jg,0,J⟩=Z (AL (Z bi)))(hb:w.heap[bi]?=Z (B4 (Ba l) c)):Ab A6 148 #[AH #[p.1,p.2],B2 (Z ⟨Jg,0,J⟩)] w λe w'=>e=AV (Ag (BK (counted l p)))/\AO w w w':=by
 have hlt:Jg<AR w:=Cn (h:=h0);have hrl:=B3 hb;have GN:=Zk bi c l p (w.alloc (A7 #[p.1,p.2] 221)) hp hl (Ar (BU _ _ _ hrl));have Ge:=A2 (Q9 w (A7 #[p.1,p.2] 221));rcases GN with⟨U,h2⟩|⟨x,hx,he,U⟩;.simp only[EH]at U;go_enter Tryz.func148,Tryz.ntmps148;go_wp2;go_ret;exact⟨by rw[decide_eq_false λ⟨x,hx,he,_⟩=>h2 x hx he];rfl,Ge⟩
 have hc:counted l p↔x.2≠0:=by
  constructor;.rintro⟨y,hy,hye,hy0⟩;obtain⟨i,hi,rfl⟩:=Rk hx;obtain⟨j,hj,rfl⟩:=Rk hy;have:=(aHZ (h₀:=Ai hi) (h₁:=by simpa using hj) hnd).1 (by simpa using he.trans hye.symm);subst this;exact hy0
  exact λh=>⟨x,hx,he,h⟩
 simp only[EH]at U;have I:((x.2:Int)!=0)=BK (counted l p):=by rw[Bool.eq_iff_iff];simp[hc]
 have N:=A2 I;clear I;go_enter Tryz.func148,Tryz.ntmps148;go_wp2;go_ret;exact⟨by rw[<-N.o];rfl,Ge⟩
def ints(M:List Int):zw:=(M.map (AB AJ)).toArray
def fx(w:A1)(d:Nat)(v:A3)(l:List Nat):Prop:=v=A0 J 0 0/\l=[]∨∃g c,v=A0 (Z ⟨g,0,J⟩) l c/\g≠d/\∀k(h:k<l.length),w.cell? ⟨g,k,J⟩=Z (AB AJ (l[k]:Int))
structure M3(fk:Nat)(w w':A1):Prop where
 os:w'.os=w.os
 tape:w'.tape=w.tape
 output:w'.output=w.output
 size:w.heap.size<=w'
 block:∀b,b<w.heap.size->b≠fk->w'.heap[b]?=w.heap[b]?
theorem M3.cell{d w w'}(h:M3 d w w'){b o v}(hb:b≠d)(hc:w.cell? ⟨b,o,J⟩=Z v):w'.cell? ⟨b,o,J⟩=Z v:=by have:=h.block b (Cn (h:=hc)) hb;simp_all[Cr,this]
def jQ(w:A1)(d:Nat):List Int:=match w.heap[d]? with|Z (A7 c _ _)=>c.toList.map B0|_=>[]
theorem a9S{d M}(h:w.heap[d]?=Z (A7 (ints M) 3)):jQ w d=M:=by simp_all[jQ,ints,B0,a_u]
def lenOf:A3->Nat|A0 _ n _=>n|_=>0
def ints_set(M)(j)(m):(ints M).setIfInBounds j (AB AJ m)=ints (M.set j m):=by simp[ints,List.map_set]
def xm:(A6.info? 3).map (λi=>(i.zero,i.size,i.bytes))=Z (Z (AB AJ 0),1,8):=rfl
structure mz(w:A1)(B fk eb UY bi Hi:Nat)(V:List A3)(E:List (List Nat))(st:List Nat)(v:A3)(M':List Int)(wr:A1):Prop where
 all:M3 fk w wr
 marks:wr.heap[fk]?=Z (A7 (ints M') 3)
 box:wr.heap[UY]?=Z (A7 #[AL (Z bi),A0 (Z ⟨eb,0,J⟩) E Hi] 260)
 todo:wr.ownsRow B 3 1 v st (st.map λ(j:Nat)=>(j:Int))
def aTP{a c d e}(h:a+d+1=b)(h2:b+(e+1)<=c+1)(h3:c<=1000000):d<=1000000:=A'
def aTQ{c e}(h2:b+(e+1)<=c+1)(h3:c<=1000000):e<=1000001:=A'
def aTR{c e}(h2:b+(e+1)<=c+1):b+e<=c+1:=A'
def aTO{a c d e}(h:a+d+1=b)(h2:b+(e+1)<=c+1):a+(e+d)<=c+1/\a+(e+d)<b+(e+1):=A'
def aYD(P:List (AW×Nat))(E:List (List Nat))(V:List A3)(M:List Int)(mark:Int)(S:AW)(s bi rc eb z d pF:Nat)(w:A1)(E5:w.heap[bi]?=Z (B4 (Ba P) rc))(a6u:∀x∈P,D6 x.1)(a6i:D6 S)(hin:∃x∈P,x.1=S)(a7o:∀x∈P,x.1=S->x.2=s)(a6x:V.length=E)(EU:∀j(h:j<V.length),w.cell? ⟨eb,j,J⟩=Z V[j])(EM:∀j(h:j<V.length),fx w d V[j] (E.getD j []))(hne:eb≠d)(hM:w.heap[d]?=Z (A7 (ints M) 3))(hlen:M.length=E)(hE:∀j,∀k∈E.getD j [],k<E)(hs:s<E)(hm:mark≠0)(a6Q:cost E M<=1000000)(cQ:E.length<=1000000):Ab A6 222 #[AH #[AL (Z bi),A0 (Z ⟨eb,0,J⟩) E z],AH #[S.1,S.2],mark,A0 (Z ⟨d,0,J⟩) M pF] w λe w'=>e=AV (Aj #[])/\∃M',H' E mark s M [] M'/\w'.heap[d]?=Z (A7 (ints M') 3)/\M3 d w w':=by
 obtain⟨i0,hi,hz0,hz1,hz2⟩:=FJ xm;have hrl:bi<w:=B3 E5;have cu:d<w:=B3 hM;obtain⟨p,v⟩:=S;have GN:∀x y,(Fb 131 (AL (Z bi)) (AH #[p,v]) A5).run A6 ((w.alloc x).alloc y)=.ok (Aj #[AX (s:Int),Ag A5]) ((w.alloc x).alloc y):=by
  intro x y;rcases y0 bi rc P (p,v) ((w.alloc x).alloc y) a6i a6u (by rwa[BU _ _ _ (by simp only[Ck];omega),BU _ _ _ hrl])with⟨_,h⟩|⟨x,hx,he,h⟩;.obtain⟨x,hx,he⟩:=hin;exact absurd he (h x hx)
  rwa[a7o x hx he]at h
 simp only;clear E5 a6u a6i hin a7o;have v3:=A2 EU;have BC:=A2 EM;have wt:=A2 hM;have KS:=A2 hE;clear EU EM hM hE;go_enter Tryz.func222,Tryz.ntmps222;go_wp2;go_loopw[10]λt wr=>∃st M',AE (H' E mark s M st M'/\mz w (w+1+1) d eb w bi z V E st t M' wr/\cost E M'+st<=cost E M+1)(λt wr=>cost E (jQ wr d)+lenOf t);case atStart=>
  refine⟨[s],M,A2 ⟨H'.begin hs,⟨⟨rfl,rfl,rfl,Av,λb hb _=>?_⟩,?_,?_,⟨rfl,AF ⟨w+1+1,1,_,rfl,A',CS _ _ _ AD,AD,DQ,rfl,rfl⟩⟩⟩,AD⟩⟩;.rw[BU _ _ _ Av,BU _ _ _ Av,BU _ _ _ hb]
  .rwa[BU _ _ _ Av,BU _ _ _ Av,BU _ _ _ cu]
  rw[BU _ _ _ Av,BU _ _ _ AD];exact CS _ _ _ rfl
 case round=>
  obtain⟨st,M',H⟩:=hrel;obtain⟨hsp,hat,hc⟩:=H.o;have z9:=A2 hsp;have I:=A2 hat;obtain⟨DJ,N,rfl⟩:=EA hat.todo;clear H hsp hat;rcases show st=[]∨∃i j,st=i++[j]from(List.eq_nil_or_concat st).imp id λ⟨a,b,h⟩=>⟨a,b,by rw[h,List.concat_eq_append]⟩with rfl|⟨st,j,rfl⟩;.go_wp2;exact bodyPost_end (by simp[D5,Tryz.f222]) rfl ⟨rfl,M',z9.o,I.o.marks,I.o.all⟩
  have oT:=I.o.todo;have ZJ:=z9.o.qN j AD;have ie:(st++[j]).length=st+1:=AD;rcases oT.2 with⟨_,h0⟩|⟨g,cap,cur,e,U,h2,h3,h4,h5,h6⟩;.rw[ie]at h0;omega
  rw[ie]at e h3 h6 oT⊢;have Dk:g<wr:=B3 h2;injection e with e1 e2 e3;subst e1 e3;clear e2;have hg:=Lx oT st (AX (j:Int)) AD;have Au:AE (wr.ownsRow (w+1+1) 3 1 (BG g 0 st N) st (st.map λ(j:Nat)=>AX (j:Int))):=by
   refine A2 ⟨AD,AF ⟨g,N,cur,rfl,U,h2,A',h4,h5,?_⟩⟩;have h7:cur.toList.take (st*1)=(cur.toList.take ((st+1)*1)).take (st*1):=by rw[List.take_take,Nat.min_eq_left A']
   rw[h7,h6];simp
  obtain⟨Y,wv⟩:∃Y,M'[j]?=Z Y:=⟨_,En (BO z9.o.len)⟩;have Ja:wr.cell? ⟨d,j,J⟩=Z Y:=by rw[A_ I.o.marks];simp[ints,wv]
  have cn:(j:Int)<(M:Int):=A';have ND:(st:Int)<9223372036854775807:=by rw[ie]at hc;omega
  have o7:st+1<=N:=h3;rw[ie]at hc;have fU:=A2 hc;have tC:=A2 ZJ;have aGf:=A2 a6x;have aaX:=A2 hlen;have sw:=A2 a6Q;have a1x:=A2 cQ;have wS:w+1+1<=g:=U;have hjn:(0:Int)<=(j:Int):=A';have aPP:st.length<=1000001:=aTQ fU sw;have e1:(st:Int)+1-1=(st:Int):=A';have e2:(0:Int)<(st:Int)+1:=A';have e3:(st:Int)<(st:Int)+1:=A';have e4:(st:Int)<=(N:Int):=A';have e5:(st:Int)<2000000:=A';clear oT h2 h4 h5 h6 U ie GN hc ZJ a6x hs hlen a6Q cQ ND aPP o7;have tH:=A2 wv;clear wv;by_cases h0:Y=0
  .subst h0;have MW:=C' I.o.marks j;have wW:j<V:=RB tC.o.1 aGf.o;have C:AE (M3 d w (wr.setCell ⟨d,j,J⟩ (AX mark))):=by have h:=I.o.all;refine A2 ⟨h.os,h.tape,h.output,Ai h.size,λb hb hn=>?_⟩;rw[DC _ _ _ _ (show b≠d from hn)];exact h.block b hb hn
   have G0:AE ((wr.setCell ⟨d,j,J⟩ mark).heap[w.heap.size]?=Z (A7 #[AL (Z bi),A0 (Z ⟨eb,0,J⟩) E z] 260)):=by refine A2 ?_;rw[DC _ _ _ _ (show w≠d by omega)];exact I.o.box
   have mI:AE ((wr.setCell ⟨d,j,J⟩ mark).heap[d]?=Z (A7 (ints (M'.set j mark)) 3)):=by refine A2 ?_;rw[CO wr d j _ _ (AX mark) I.o.marks,ints_set]
   have a2L:AE ((wr.setCell ⟨d,j,J⟩ (AX mark)).ownsRow (w+1+1) 3 1 (BG g 0 st N) st (st.map λ(j:Nat)=>AX (j:Int))):=by
    have ho:=Au;refine A2 ⟨ho.1,?_⟩;rcases ho.2 with U|⟨Bv,cap,cur,U,h2,h3,h4⟩;.exact AA U
    refine AF ⟨Bv,cap,cur,U,h2,?_,h4⟩;rwa[DC _ _ _ _ (show Bv≠d by omega)]
   have e0:=C.o.cell hne (v3 j wW);have e1:(wr.setCell ⟨d,j,J⟩ mark).cell? ⟨w,1,J⟩=Z (A0 (Z ⟨eb,0,J⟩) E z):=Af (A_ G0);have acH:(j:Int)<(E:Int):=BO tC.o.1;have GC:=A2 (BC j wW);generalize V[j]=aeo at e0 GC;have sx:=A2 (a4J E M' j mark hm tC.o.1 tH);have Gw:=A2 (H'.put hm KS z9 tH);have a2':AE (∀(v':A3)(w2:A1),w2.ownsRow (w+1+1) 3 1 v' (st++E.getD j []) ((st++E.getD j []).map λ(j:Nat)=>(j:Int))->(wr.setCell ⟨d,j,J⟩ mark).grownBy w2 (Z g)->(∃i D,AE (H' E mark s M i D/\mz w (w+1+1) d eb w bi z V E i v' D w2/\cost E D+i<=cost E M+1))/\cost E (jQ w2 d)+lenOf v'<cost E (jQ wr d)+lenOf (A0 (Z ⟨g,0,J⟩) (st+1) N)):=by
    refine λv' w2 ho hg=>?_;have li:w.heap.size<=wr.setCell ⟨d,j,J⟩ (AB AJ mark):=C.o.size;have wx:w2.heap[d]?=Z (A7 (ints (M'.set j mark)) 3):=(hg.block d A' λe=>BO (CP e)).trans mI;have hbx:w2.heap[w.heap.size]?=Z (A7 #[AL (Z bi),A0 (Z ⟨eb,0,J⟩) E z] 260):=(hg.block _ (B3 G0) λe=>BO (CP e)).trans G0;have FD:M3 d w w2:=by
     refine⟨hg.os.trans C.o.os,hg.tape.trans C.o.tape,hg.output.trans C.o.output,Dn li hg.size,λb hb hn=>?_⟩;refine Eq.trans (hg.block b ?_ ?_) (C.o.block b hb hn);.omega
     intro e;have:=CP e;omega
    have aPM:mz w (w+1+1) d eb w bi z V E (st++E.getD j []) v' (M'.set j mark) w2:=⟨FD,wx,hbx,ho⟩;have hn:=aTO sx fU;rw[<-DV]at hn;refine⟨⟨st++E.getD j [],M'.set j mark,A2 ⟨Gw,aPM,hn.1⟩⟩,?_⟩;have K5:=a9S wx;have Ec:=a9S I.o.marks;obtain⟨DJ,N,rfl⟩:=EA ho;rw[K5,Ec];exact hn.2
   rcases GC with⟨rfl,Q'⟩|⟨Ft,aVm,rfl,a7U,hrc⟩;.have aGj:=A2 Q';clear Q';go_wp2_with(at_builtin;refine a1i rfl _ _ 33 rfl (w+1+1) 3 i0 1 UA hi (A0 (Z ⟨g,0,J⟩) st N) st _ rfl a2L rfl ?_);exact a2' _ _ (by rwa[aGj.o,YU]) ⟨rfl,rfl,rfl,Ad _,λ_ _ _=>rfl⟩
   have aGp:=A2 λk hk=>C.o.cell a7U (hrc k hk);clear hrc;have acp:(E.getD j []).length<=1000000:=by have:=sx;have:=fU;have:=sw;exact aTP sx fU sw
   go_wp2_with(at_builtin;refine IU _ rfl _ _ 33 rfl (w+1+1) 3 i0 (AB AJ 0) 1 8 UA hi hz0 hz1 hz2 rfl Ac _ _ _ rfl a2L ⟨Ft,0,J⟩ (E.getD j []) aVm ((E.getD j []).map λ(j:Nat)=>(j:Int)) rfl AD ?c1 ?c2 DQ A' RD ?_);case c1=>intro k arr hk;(rw[Ea]);(try rw[My]);rw[YV]at hk;obtain⟨q,hq,rfl⟩:=Option.map_eq_some_iff.1 hk;obtain⟨U,h2⟩:=bW.1 hq;have:=aGp k U;rwa[h2]at this
   case c2=>intro u hu;obtain⟨q,_,rfl⟩:=Bt.1 hu;rfl
   intro v' w2 C2 BN _;have Mz:=A2 (a2' v' w2 (by rwa[DV,Pa]) BN);clear BN C2;go_wp2;exact Mz.o
  have WA:=A2 (z9.o.pass ⟨Y,tH.o,h0⟩);have R:AE (∃i D,AE (H' E mark s M i D/\mz w (w.heap.size+1+1) d eb w bi z V E i (A0 (Z ⟨g,0,J⟩) st N) D wr/\cost E D+i<=cost E M+1)):=A2 ⟨st,M',A2 ⟨WA,⟨I.o.all,I.o.marks,I.o.box,Au.o⟩,aTR fU.o⟩⟩;have GM:(Y==0)=A9:=Ai h0;clear h0;have aII:AE (∀q:Nat,q+lenOf (A0 (Z ⟨g,0,J⟩) st N)<q+lenOf (A0 (Z ⟨g,0,J⟩) (st+1) N)):=λq=>Nat.add_lt_add_left (Nat.lt_succ_self _) q;go_wp2;exact⟨R.o,aII.o _⟩
def JB(l:List Nat):List A3:=l.map λ(j:Nat)=>(j:Int)
def aTT(l)(k:Nat):JB (l++[k])=JB l++[AB AJ (k:Int)]:=by simp[JB]
def aWd{B k ty:Nat}{xs:List A3}(hown:w.ownsRow B 3 1 v n xs)(hb:w.cell? ⟨b,0,J⟩=Z (AB AJ (k:Int)))(hn:n<=1000000)(hB:B<=w):∃v' w',(U1 #[33,33] ty #[v,A0 (Z ⟨b,0,J⟩) 1 1]).run A6 w=.ok v' w'/\w'.ownsRow B 3 1 v' (n+1) (xs++[AB AJ (k:Int)])/\w.grownBy w' v.ownBlock/\∀g,v'.ownBlock=Z g->v.ownBlock=g∨w<=g:=by
 let⟨i0,hi,hz0,hz1,hz2⟩:=FJ xm;let I:∀(j:Nat)(u:A3),[AX (k:Int)][j]?=u->w.cell? ((⟨b,0,J⟩:An).add j)=u:=λj u hj=>by match j,hj with|0,hj=>simp at hj;subst hj;exact hb
 let U:∀u∈([AX (k:Int)]:List A3),u.oneCell'=A5:=λu hu=>Af (ES.1 hu);let⟨v',w',hr,h2,h3,_⟩:=aFx w B 33 ty 3 i0 (AX 0) 1 8 UA hi hz0 hz1 hz2 rfl Ac v n xs hown ⟨b,0,J⟩ 1 1 [AX k] rfl I U DQ A' hB;refine⟨v',w',hr,h2,h3,λg hg=>?_⟩;rcases hown.2 with⟨rfl,rfl⟩|⟨N,cap,cur,rfl,h4,h5,h6,h7,h8,h9⟩;.let h:=run_append_nil w 33 ty 3 i0 (AX 0) UA hi hz0 ⟨b,0,J⟩ 1 1 [AX k] (Af hz1) I A' A' (by rw[hz2];omega);rw[hr]at h;injection h with e1 e2;subst e1;right;injection hg with hg;exact aHr hg
 by_cases d:n+1<=cap;.let h:=run_append_room w 33 ty 3 i0 UA hi N n cap cur h5 ⟨b,0,J⟩ 1 1 [AX k] (Af hz1) I U d (by rw[hz1];simp;omega);rw[hr]at h;injection h with e1 e2;subst e1;exact AA hg
 let h:=run_append_grow w 33 ty 3 i0 (AX 0) UA hi hz0 ⟨N,0,J⟩ n cap xs (As hz1 hown.1) (hown.cells rfl) ⟨b,0,J⟩ 1 1 [AX k] (by rw[hz1];rfl) I A' A' (by rw[hz2];exact growslice_fits A' A');rw[hr]at h;injection h with e1 e2;subst e1;right;injection hg with hg;exact aHr hg
section
variable{ops:Array B8}{rest:List B8}{o:B8}{a:HL}{Q:Exit->HL->A1->Prop}{w:A1}{B n b k:Nat}{v:A3}{xs:List A3}{s x:BP}{K:HL->A1->Prop}{E:Prop}
def aDH(ho:o.op=Em {callee:=Fw QR,args:=#[s,x],argTypes:=#[33,33]})(hs:a.eval s=v)(hown:w.ownsRow B 3 1 v n xs)(hx:a.eval x=A0 (Z ⟨b,0,J⟩) 1 1)(hb:w.cell? ⟨b,0,J⟩=Z (AB AJ (k:Int)))(hn:n<=1000000)(hB:B<=w)(h:∀v' w',w'.ownsRow B 3 1 v' (n+1) (xs++[AB AJ (k:Int)])->w.grownBy w' v.ownBlock->(∀g,v'.ownBlock=Z g->v.ownBlock=Z g∨w<=g)->K (a.put o.dst v') w'):o.wp A6 a w K Q:=by obtain⟨v',w',hr,h2,h3,h4⟩:=aWd (ty:=o.type) hown hb hn hB;unfold fD AM;simp only[ho,KQ,Ra,lj,YA,lX,lW,JO,Ee,Iw,hs,hx,hr];exact h v' w' h2 h3 h4
def a_d(I:o.guard=J)(ho:o.op=Em {callee:=Fw QR,args:=#[s,x],argTypes:=#[33,33]})(hs:a.eval s=v)(hown:w.ownsRow B 3 1 v n xs)(hx:a.eval x=A0 (Z ⟨b,0,J⟩) 1 1)(hb:w.cell? ⟨b,0,J⟩=Z (AB AJ (k:Int)))(hn:n<=1000000)(hB:B<=w)(h:∀v' w',w'.ownsRow B 3 1 v' (n+1) (xs++[AB AJ (k:Int)])->w.grownBy w' v.ownBlock->(∀g,v'.ownBlock=Z g->v.ownBlock=Z g∨w<=g)->wpList A6 ops Q rest (a.put o.dst v') w'):wpList A6 ops Q (o::rest) a w:=wpList_plain I λ_ hK=>aDH ho hs hown hx hb hn hB λv' w' h2 h3 h4=>hK _ _ (h v' w' h2 h3 h4)
theorem qM(I:o.guard=J)(ho:o.op=Em {callee:=Fw QR,args:=#[s,x],argTypes:=#[33,33]})(hs:a.eval s=v)(hown:w.ownsRow B 3 1 v n xs)(hx:a.eval x=A0 (Z ⟨b,0,J⟩) 1 1)(hb:w.cell? ⟨b,0,J⟩=Z (AB AJ (k:Int)))(hn:n<=1000000)(hB:B<=w)(h:∀v' w',w'.ownsRow B 3 1 v' (n+1) (xs++[AB AJ (k:Int)])->w.grownBy w' v.ownBlock->(∀g,v'.ownBlock=Z g->v.ownBlock=Z g∨w<=g)->K (a.put o.dst v') w'):if Gd o (I4 ops a.tmps)=A5 then fD A6 o a w K Q else E:=by rw[if_pos (by grind[Gd])];exact aDH ho hs hown hx hb hn hB h
end
structure Fh(w:A1)(B eb:Nat)(V:List A3)(L:List (List Nat)):Prop where
 len:V.length=L
 blk:w.heap[eb]?=Z (A7 V.toArray 33)
 row:∀j,j<L.length->w.ownsRow B 3 1 (V.getD j AN) (L.getD j []) (JB (L.getD j []))
 sep:∀i j g,i<L.length->j<L.length->i≠j->(V.getD i AN).ownBlock=Z g->(V.getD j AN).ownBlock≠Z g
 lt:eb<B
section
variable{w w' w2:A1}{B eb:Nat}{V:List A3}{L:List (List Nat)}
theorem Fh.cell(h:Fh w B eb V L){j:Nat}(hj:j<L):w.cell? ⟨eb,j,J⟩=Z (V.getD j AN):=by rw[A_ h.blk];grind[h.len,En]
theorem Fh.frozen(h:Fh w B eb V L)(j):w.frozen? ⟨eb,j,J⟩=A9:=C' h.blk j
def Fh.more(h:Fh w B eb V L)(k:∀b,b<w.heap.size->b=eb∨B<=b->w'.heap[b]?=w.heap[b]?):Fh w' B eb V L:=by refine⟨h.len,(k _ (B3 h.blk) (AA rfl)).trans h.blk,λj hj=>?_,h.sep,h.lt⟩;let ho:=h.row j hj;refine⟨ho.1,ho.2.imp id ?_⟩;rintro⟨g,cap,cur,I,h2,h3,h4⟩;exact⟨g,cap,cur,I,h2,(k g (B3 h3) (AF h2)).trans h3,h4⟩
theorem XT{v:A3}{n:Nat}{xs:List A3}{g:Nat}(h:w.ownsRow B 3 1 v n xs)(hg:v.ownBlock=g):B<=g/\g<w:=by
 rcases h.2 with⟨rfl,_⟩|⟨I,cap,cur,rfl,h2,h3,_⟩;.cases hg
 injection hg with hg;grind
theorem Fh.put(h:Fh w B eb V L){j k:Nat}(hj:j<L){v':A3}(ho:w2.ownsRow B 3 1 v' (L.getD j []+1) (JB (L.getD j [])++[AB AJ (k:Int)]))(hg:w.grownBy w2 (V.getD j AN).ownBlock)(hs:∀g,v'.ownBlock=Z g->(V.getD j AN).ownBlock=g∨w<=g):Fh (w2.setCell ⟨eb,j,J⟩ v') B eb (V.set j v') (push L (j,k)):=by
 let H:j<V:=Ar h.len;let hlt:=h.lt;let hne:∀g,(V.getD j AN).ownBlock=Z g->g≠eb:=λg e=>BO ((XT (h.row j hj) e).1);let hlen:(push L (j,k)).length=L:=by simp[push]
 let z:∀i,(V.set j v').getD i AN=if i=j then v' else V.getD i AN:=λi=>by grind
 let u:∀i,(push L (j,k)).getD i []=if i=j then L.getD j []++[k]else L.getD i []:=λi=>by unfold push;grind
 let C:∀{v:A3}{n:Nat}{xs:List A3},w2.ownsRow B 3 1 v n xs->(w2.setCell ⟨eb,j,J⟩ v').ownsRow B 3 1 v n xs:=λ{v n xs}ho=>by refine⟨ho.1,ho.2.imp id ?_⟩;rintro⟨g,cap,cur,h1,h2,h3,h4⟩;exact⟨g,cap,cur,h1,h2,Ar (DC _ _ _ _ (show g≠eb by omega)),h4⟩
 refine⟨by simp[push,h.len],?_,λi hi=>?_,λi U g hi d D hg1 I=>?_,hlt⟩;.rw[CO w2 eb j _ _ v' ((hg.block eb (B3 h.blk) λe=>hne eb e.symm rfl).trans h.blk)];simp
 .rw[hlen]at hi;rw[z,u];by_cases e:i=j;.rw[if_pos e,if_pos e,aTT,DV];exact C ho
  rw[if_neg e,if_neg e];refine C ((h.row i hi).kept hg ?_);cases hv:(V.getD i AN).ownBlock with|none=>exact AA rfl|some g=>exact AF λe2=>h.sep i j g hi hj e hv e2.symm
 rw[hlen]at hi d;rw[z]at hg1 I;by_cases e:i=j
 .let N:U≠j:=λx=>D (e.trans x.symm);rw[if_pos e]at hg1;rw[if_neg N]at I;rcases hs g hg1 with x|x;.exact h.sep j U g hj d (Gy N) x I
  have:=(XT (h.row U d) I).2;omega
 rw[if_neg e]at hg1;by_cases N:U=j
 .rw[if_pos N]at I;rcases hs g I with x|x;.exact h.sep i j g hi hj e hg1 x
  have:=(XT (h.row i hi) hg1).2;omega
 rw[if_neg N]at I;exact h.sep i U g hi d D hg1 I
end
def Kk(E:List (List Nat))(i:Nat):List (Nat×Nat):=((E.take i).zipIdx).flatMap λx=>x.1.map λj=>(j,x.2)
def turns(E:List (List Nat)):List (Nat×Nat):=Kk E E
theorem a''(E)(i)(h:i<E.length):Kk E (i+1)=Kk E i++(E.getD i []).map λj=>(j,i):=by unfold Kk;rw[KA E i h,me,a2Z];grind
theorem aCm{i j k:Nat}(h:(j,k)∈Kk E i):k<E/\j∈E.getD k []:=by grind[Kk,En]
theorem aZk{j k:Nat}(hk:k<E)(hj:j∈E.getD k []):(j,k)∈turns E:=by refine YX.2 ⟨(E.getD k [],k),?_,Bt.2 ⟨j,hj,rfl⟩⟩;grind
def aCi(E):∀d i,i+d=E.length->(Kk E i).length<=(turns E).length|0,i,h=>by subst h;exact Ad _|d+1,i,h=>by have:=aCi E d (i+1) A';rw[a'' E i A',DV]at this;omega
theorem aBe(n:Nat)(j):∀(q:List (Nat×Nat))(L),((q.foldl push L).getD j []).length<=(L.getD j []).length+q.length
 |[],L=>AD
 |e::q,L=>by
  have I:=aBe n j q (push L e);let h2:((push L e).getD j []).length<=L.getD j []+1:=by
   unfold push;by_cases h:e.1=j
   .subst h;by_cases hl:e.1<L;.rw[P_,List.getElem?_set_self hl];simp
    rw[List.set_eq_of_length_le A'];omega
   rw[P_,List.getElem?_set_ne h,<-P_];omega
  grind
theorem px(n j)(q):((rowsOf n q).getD j []).length<=q:=by have:=aBe n j q (Dt n []);grind[rowsOf]
theorem a9L(z)(n):madeCells #[z] (n*1)=(Dt n z).toArray:=by unfold madeCells;grind
def aQ3:(A6.info? 33).map (λi=>(i.zero,i.size,i.bytes))=Z (Z (A0 J 0 0),1,24):=rfl
def yB(n:Nat)(w)(h:n<=1000000):(au 258 (n:Int) (n:Int)).run A6 w=.ok (A0 (Z ⟨w,0,J⟩) n n) (w.alloc (A7 (Dt n (A0 J 0 0)).toArray 33)):=by let⟨i0,hi,hz0,hz1,hz2⟩:=FJ aQ3;have:=run_make w 258 33 i0 (A0 J 0 0) Tryz.underlying258 hi hz0 AJ AJ n n A' A' (by rw[hz2];omega) A';rw[hz1,bS]at this;rw[this,show(A0 J 0 0).cells=#[A0 J 0 0]from rfl,a9L]
def yA(n:Nat)(w)(h:n<=1000000):(au 33 (n:Int) (n:Int)).run A6 w=.ok (A0 (Z ⟨w,0,J⟩) n n) (w.alloc (A7 (ints (Dt n 0)) 3)):=by let⟨i0,hi,hz0,hz1,hz2⟩:=FJ xm;have:=run_make w 33 3 i0 (AX 0) UA hi hz0 AJ AJ n n A' A' (by rw[hz2];omega) A';rw[hz1,bS]at this;rw[this,show(AX 0).cells=#[AX 0]from rfl,a9L];simp[ints]
def zK(n B eb)(w)(hb:w.heap[eb]?=Z (A7 (Dt n (A0 J 0 0)).toArray 33))(hlt:eb<B):Fh w B eb (Dt n (A0 J 0 0)) (rowsOf n []):=by
 let e:rowsOf n []=Dt n []:=rfl;let hv:∀j,j<n->(Dt n (A0 J 0 0)).getD j AN=A0 J 0 0:=λj hj=>BA;refine⟨BA,hb,λj hj=>?_,λi j g hi hj hne h h2=>?_,hlt⟩;.rw[e,aHe]at hj;rw[hv j hj,e,show(Dt n []).getD j []=[]by simp[hj]];exact⟨rfl,AA ⟨rfl,rfl⟩⟩
 rw[e,aHe]at hi;rw[hv i hi]at h;cases h
def aWA(E:List (List Nat))(V:List A3)(bi eb d B:Nat)(w:A1)(hr:Fh w B eb V E)(hE:∀j,∀k∈E.getD j [],k<E)(cQ:E.length<=1000000)(hq:(turns E).length<=1000000):Ab A6 221 #[AH #[AL (Z bi),A0 (Z ⟨eb,0,J⟩) E d]] w λe w'=>∃M N,e=AV (AH #[AL (Z bi),A0 (Z ⟨M,0,J⟩) E E])/\w<=M/\Fh w' (w+3) M N (rowsOf E (turns E))/\AO w w w':=by
 have BC:=A2 hr;have KS:=A2 hE;have aNz:eb<w:=B3 hr.blk;have Ja:=λd0=>yB E d0 cQ;clear hr hE;go_enter Tryz.func221,Tryz.ntmps221;go_wp2;go_loopw[15]λi wr=>∃k:Nat,k<=E/\i=AX k/\AE (∃N,Fh wr (w+3) (w+2) N (rowsOf E (Kk E k))/\AO w w wr/\Fl wr (AR w) (A7 #[AL (Z bi),BG eb 0 E d] 260)/\Fl wr (AR w+1) (A7 #[AL J,A0 J 0 0] 260))(λi _=>E-(B0 i).toNat);case atStart=>refine⟨0,A',rfl,A2 ⟨_,zK E (w+3) (w+2) _ (CS _ _ _ AD) A',R3 _ _ _ _,Zg _ _ _ _,Zh _ _ _ _⟩⟩
 case round=>
  obtain⟨k,hk,rfl,H⟩:=hrel;by_cases hlt:k<E
  .have u:=BC.o.row k hlt;have S:=BC.o.cell hlt;have Y:∀c∈E.getD k [],c<E:=KS k;have z:=A2 (a'' E k hlt);have I7:AE (Kk E k++(E.getD k []).map (λj=>(j,k))=Kk E (k+1)):=z.o.symm;generalize E.getD k []=row at u Y I7;generalize V.getD k AN=aep at u S;obtain⟨D9,adQ,rfl⟩:=EA u;obtain⟨n5,I,h2,h3,h4⟩:=H.o;have abK:=keep h2 S;have GC:=A2 u;have aGX:=A2 Y;have hrl:(Kk E k).length+row.length<=1000000:=by have I:=aCi E (E-(k+1)) (k+1) A';rw[<-I7.o,DV,Gf]at I;omega
   have aGq:=A2 hrl;have acs:row.length<=1000000:=A';have z9:=A2 (aU I (aU h2 (aU h3 h4)));clear H u S Y z I h2 h3 h4;go_wp2;go_loopw[22]λi wr=>∃c:Nat,c<=row/\i=AX c/\AE (∃N,Fh wr (w+3) (w+2) N (rowsOf E (Kk E k++(row.take c).map λj=>(j,k)))/\AO w w wr/\Fl wr (AR w) (A7 #[AL (Z bi),BG eb 0 E d] 260)/\Fl wr (AR w+1) (A7 #[AL J,A0 J 0 0] 260))(λi _=>row-(B0 i).toNat);case atStart=>refine⟨0,A',rfl,A2 ⟨n5,?_,z9.o.2⟩⟩;rw[List.take_zero,Iw,YU];exact z9.o.1
   case round=>
    obtain⟨c,hc,rfl,H⟩:=hrel;by_cases Ur:c<row
    .obtain⟨N,I,h2,h3,h4⟩:=H.o;obtain⟨g,aMH,e,hg1,J6⟩:=SH GC.o A';injection e with e1 e2 e3;subst e1 e3;clear e2;have Md:=aGX.o _ (Ci Ur);have c0:Cf wr g c (AX row[c]):=keep h2 (Lx GC.o c _ (by rw[JB,YV,En Ur];rfl));have Au:AE (Kk E k++(row.take (c+1)).map (λj=>(j,k))=(Kk E k++(row.take c).map λj=>(j,k))++[(row[c],k)]):=A2 (by rw[KA row c Ur,Pa,<-T1];rfl);have j1:(Kk E k++(row.take c).map λj=>(j,k)).length<=1000000:=by have:=aGq.o;simp;omega
     generalize row[c]=h at Md c0 Au;generalize Kk E k++(row.take c).map (λj=>(j,k))=q at I Au j1;have hl:=dk E q;have xS:h<rowsOf E.length q:=Ar hl;have r1:=I.row h xS;have c1:=I.cell xS;have f1:=I.frozen h;have LI:((rowsOf E.length q).getD h []).length<=1000000:=Dn (px _ _ _) j1;have U:AE (∀(v':A3)(w2:A1),w2.ownsRow (w+3) 3 1 v' ((rowsOf E.length q).getD h []+1) (JB ((rowsOf E q).getD h [])++[AX k])->(wr.alloc (A7 #[AX k] 3)).grownBy w2 (N.getD h AN).ownBlock->(∀g,v'.ownBlock=Z g->(N.getD h AN).ownBlock=Z g∨wr.alloc (A7 #[AB AJ k] 3)<=g)->w2.cell? ⟨w+2,h,J⟩=Z (N.getD h AN)/\w2.frozen? ⟨w+2,h,J⟩=A9/\∃uJ,Fh (w2.setCell ⟨w+2,h,J⟩ v') (w+3) (w+2) uJ (rowsOf E (Kk E k++(row.take (c+1)).map λj=>(j,k)))/\AO w w (w2.setCell ⟨w+2,h,J⟩ v')/\(w2.setCell ⟨w+2,h,J⟩ v').heap[w.heap.size]?=Z (A7 #[AL (Z bi),A0 (Z ⟨eb,0,J⟩) E d] 260)/\(w2.setCell ⟨w+2,h,J⟩ v').heap[w.heap.size+1]?=Z (A7 #[AL J,A0 J 0 0] 260)):=by
      refine A2 λv' w2 ho hg hs=>?_;have X9:Fh (wr.alloc (A7 #[AX k] 3)) (w+3) (w+2) N (rowsOf E q):=I.more λb hb _=>BU _ _ _ hb;have C:∀b,b<w.heap.size+3->b<wr.heap.size->w2.heap[b]?=wr.heap[b]?:=λb hb hb2=>by refine(hg.block b (by rw[Ck];omega) λe=>?_).trans (BU _ _ _ hb2);have:=(XT r1 e.symm).1;omega
      have XB:w.heap.size<wr:=B3 h3;have Dc:w.heap.size+1<wr:=B3 h4;have HB:w.heap.size+2<wr:=B3 I.blk;have hb2:w2.heap[w.heap.size+2]?=wr.heap[w.heap.size+2]?:=C _ A' HB;refine⟨(C8 hb2).trans c1,C' (hb2.trans I.blk) h,N.set h v',?_,?_,?_,?_⟩;.rw[Au.o,zI];exact X9.put xS ho hg hs
      .exact Below.setCell ⟨hg.os.trans h2.os,hg.tape.trans h2.tape,hg.output.trans h2.output,by have:=hg.size;rw[Ck]at this;omega,λb hb=>(C b A' A').trans (h2.block b hb)⟩ (by show _<=w.heap.size+2;omega) _
      .rwa[DC _ _ _ _ (show w.heap.size≠w+2 by omega),C _ A' XB]
      rwa[DC _ _ _ _ (show w.heap.size+1≠w+2 by omega),C _ A' Dc]
     have D:=A2 (r1.alloc (A7 #[AX k] 3));have li:w.heap.size+3<=wr:=BO (B3 I.blk);obtain⟨Tt,Tu,hu⟩:=EA r1;rw[hu]at c1 U D;clear H I h2 h3 h4 r1 hu Au;generalize((rowsOf E q).getD h []).length=HE at LI c1 U D;generalize JB ((rowsOf E q).getD h [])=xs at U D;go_wp2_with(at_builtin;refine a_d (k:=k) (b:=wr) rfl rfl rfl D.o rfl ?c1 A' ?c3 ?_);case c1=>rw[A_ (CS _ _ _ rfl)];rfl
     case c3=>first|omega|(simp only[Ck];omega)
     intro v' w2 ho hg hs;obtain⟨c2,f2,R⟩:=U.o v' w2 ho hg λg e=>As Ck (hs g e);obtain⟨DJ,C3,rfl⟩:=EA ho;have UF:=A2 R;clear R ho hg hs U;go_wp2;exact⟨⟨c+1,A',BV,UF⟩,by simp[B0];omega⟩
    obtain rfl:c=row:=A';have R:=H.o;rw[Hb,I7.o]at R;have Q_:=A2 R;clear R H;go_wp2;exact⟨⟨k+1,A',BV,Q_⟩,by simp[B0];omega⟩
  obtain rfl:k=E:=A';obtain⟨N,I,h2,h3,h4⟩:=H.o;have KT:=A2 (aU I h2);have a0:wr.cell? ⟨w,0,J⟩=Z (AL (Z bi)):=Af (A_ h3);have a1:wr.cell? ⟨w,1,J⟩=Z (A0 (Z ⟨eb,0,J⟩) E d):=Af (A_ h3);have E3:wr.cell? ⟨w+1,0,J⟩=Z (AL J):=Af (A_ h4);have CW:wr.cell? ⟨w+1,1,J⟩=Z (A0 J 0 0):=Af (A_ h4);have EY:=C' h4 0;have z1:=C' h4 1;have Cl:=A2 h4;have LJ:w.heap.size+1<wr:=B3 h4;clear H I h2 h3 h4;go_wp2;have hx1:=CO wr (w+1) 0 _ _ (AL (Z bi)) Cl.o;have hx2:=CO _ (w+1) 1 _ _ (BG (AR w+2) 0 E E) hx1;refine IT (Ss rfl _ _ (w+1) 260 _ (0,0) _ rfl hx2 Tryz.underlying260 rfl A8) rfl ?_;refine⟨w+2,N,rfl,A',KT.o.1.more λb hb he=>?_,(KT.o.2.setCell (p:=⟨w+1,0,J⟩) (by show _<=w.heap.size+1;omega) _).setCell (p:=⟨w+1,1,J⟩) (by show _<=w.heap.size+1;omega) _⟩;have hne:b≠w+1:=A';rw[DC _ _ _ _ (show b≠w+1 from hne),DC _ _ _ _ (show b≠w+1 from hne)]
end
end Go.Proofs.YtcfhleenecfghaaGreatDoor
namespace Go.Proofs.YtcfhleenecfghaaGreatDoor.Twin
section
open Go.Proofs.YtcfhleenecfghaaGreatDoor
open Go.Conc Go.RowKit
open Go.ConcR(Payload)
variable{w w':A1}{BF v x:A3}{E:AZ}{s:zz}{m:Int}{P:List (AW×Nat)}{ms:List (zz×zz)}{xs:List A3}{l:List AW}{A:List BI}{Bi:List Nat}{d9:List Rel}{B a9 b bi cap g hH r1 r2:Nat}{BE F R:zy}{na:Option An}{f:Rel->zz}
structure a3A(w:A1)(own:zz)(br r1 r2 a9 cap bi:Nat)(G:List Rel)(BE:zy):Prop where
 Gp:Pd reads BE w
 a8C:BE br
 og:BE r1
 oh:BE r2
 oi:BE a9
 oj:BE bi
 box:w.heap[br]?=Z (A7 #[own,AL (Z r1),AL (Z r2),A0 (Z ⟨a9,0,J⟩) G cap,AL (Z bi)] 138)
 reads:Reads w own r1 r2 a9 bi G
 files:∀r∈G,∀a,r.fa=Z a->BE a.block
 ok:Lg G
 rel:∀r∈G,mu own r
def a2x(G:List Rel)(p v:zz)(n:Nat)(x:A3)(w1:A1):Prop:=∃i,∃hi:i<G.length,G[i].name=(p,v)/\∃h,x=aF G[i] h/\w1.ownsRow n 85 2 h G[i].Bs.length (Bb G[i].Bs)/\GH isStr w1 2 h G[i].Bs.length
def Iv(w:A1)(M:zy)(h:A3)(l:List AW):Prop:=h=A0 J 0 0/\l=[]∨∃g cap cur q,h=A0 (Z ⟨g,0,J⟩) l cap/\M g/\w.heap[g]?=Z (A7 cur 85 q)/\q.1=q.2/\cur.toList.take (l*2)=Bb l
def WQ(G:List Rel)(I:List (zz×zz))(j:Nat)(x:A3)(M:zy)(w:A1):Prop:=∃i,∃hi:i<G.length,I[j]?=Z G[i].name/\∃h,x=aF G[i] h/\Iv w M h G[i].Bs
def WQ.aYG{G j M}(h:∀b,M b->w'.heap[b]?=w.heap[b]?)(k:WQ G ms j x M w):WQ G ms j x M w':=by
 let⟨i,hi,h1,BF,h2,h3⟩:=k;refine⟨i,hi,h1,BF,h2,?_⟩;rcases h3 with h3|⟨g,cap,cur,q,a,b,c,d⟩;.exact AA h3
 exact AF ⟨g,cap,cur,q,a,b,BA,d⟩
theorem aPp{c t p}(h:w.heap[b]?=Z (A7 c t p))(I:w'.heap[b]?=Z (Q4 (A7 c t p)))(o):w'.cell? ⟨b,o,J⟩=w.cell? ⟨b,o,J⟩:=by grind[Cr,Q4]
theorem a3w{o:Nat}(h:w.cell? ⟨b,o,J⟩=v):∃c t p,w.heap[b]?=Z (A7 c t p):=by grind[Cr]
theorem aVu{own G}(h:Reads w own r1 r2 a9 bi G)(h0:BE 0)(I:BE r1)(h2:BE r2)(hb:BE a9)(hp:BE bi)(hi:∀b o,BE b->w.heap[b]?=Z o->w'.heap[b]?=Z (Twin.Q4 o)):Reads w' own r1 r2 a9 bi G:=by
 let hc:∀b o v,BE b->Cf w b o v->w'.cell? ⟨b,o,J⟩=v:=λb o v hb hv=>by let⟨c,t,p,e⟩:=a3w hv;rwa[aPp e (hi b _ hb e)]
 let⟨⟨m,g⟩,⟨c1,e1⟩,⟨c2,e2⟩,⟨c3,e3⟩,e4⟩:=h;refine⟨⟨m,hc _ _ _ h0 g⟩,⟨c1,hi _ _ I e1⟩,⟨c2,hi _ _ h2 e2⟩,⟨c3,hi _ _ hp e3⟩,λi hj=>?_⟩;let⟨a,b,c,d⟩:=e4 i hj;grind
def aCM{F E}:∀{l l'},Al F E l l'->(∀u∈l,isStr u)->l'=l|_,_,.nil,_=>rfl|_,_,.cons (v:=v) h t,hs=>by obtain⟨s,rfl⟩:=hs v AD;cases h;rw[aCM t λu hu=>hs u BA]
def aTa(x):(A4 x).oneCell'=A5:=rfl
def aTZ(a)(l c):(A0 a l c).oneCell'=A5:=rfl
def aTY(k)(n):(AB k n).oneCell'=A5:=rfl
theorem a_B{G5 d s2 e i:zz}{j u:A3}{k:IntKind}{n:Int}{l':List A3}(h:Al F E [G5,d,s2,e,i,j,AB k n,u] l'):∃x5 x7,l'=[A4 G5,A4 d,A4 s2,A4 e,A4 i,x5,AB k n,x7]/\AK F E j x5/\AK F E u x7:=by cases h with|cons h0 h=>cases h0;cases h with|cons I h=>cases I;cases h with|cons h2 h=>cases h2;cases h with|cons h3 h=>cases h3;cases h with|cons h4 h=>cases h4;cases h with|cons h5 h=>cases h with|cons h6 h=>cases h6;cases h with|cons h7 h=>cases h with|nil=>grind
def aCN{F E}:∀{l},(∀u∈l,isStr u)->Al F E l l|[],_=>.nil|v::l,hs=>by obtain⟨s,rfl⟩:=hs v AD;exact .cons (.string s) (aCN λu hu=>hs u BA)
section
def aRA{ρ br d e i j u p}(h2:ρ (Aa 2)=AT br)(h:w.heap[br]?=Z (A7 #[d,e,i,j,u] 138 p)):∃es,(AM ρ (I' 1)).runT A6 w #[]=(.ok (BB (AH #[d,e,i,j,u])) w,es):=by
 let ho:(I' 1).op=ED 138 (Aa 2):=rfl;unfold AM;rw[ho];simp only[h2];let c0:w.cell? ⟨br,0,J⟩=d:=by simp[Cr,h]
 let c1:w.cell? ⟨br,1,J⟩=e:=by simp[Cr,h]
 let c2:w.cell? ⟨br,2,J⟩=i:=by simp[Cr,h]
 let c3:w.cell? ⟨br,3,J⟩=j:=by simp[Cr,h]
 let c4:w.cell? ⟨br,4,J⟩=u:=by simp[Cr,h]
 exact⟨_,by simp[go_sem,c0,c1,c2,c3,c4];rfl⟩
def aXV{R:F3}{own:zz}{G:List Rel}(I:a3A R.AU own R.br r1 r2 a9 cap bi G BE)(hsub:∀b,BE b->R.old b)(Ww:R.old R.B5)(hch:∃t p,R.AU.heap[R.B5]?=Z (A7 #[.chan (Z R.X.Bn)] t p))(hmsg:R.X.Nk=WO BE (WQ G R.ms))(Gn:∀(j:Nat)p v,R.ms[j]?=Z (p,v)->∃i,∃hi:i<G.length,G[i].name=(p,v)):gT R BE (JD own r1 r2 a9 G cap bi) (a2x G):=by
 refine⟨I.Gp,hsub,I.a8C,Ww,hch,λw hw ρ md=>?_,λj p v hj w hw=>?_,?_⟩;.exact aRA md (hw _ _ I.a8C I.box)
 .let⟨i,hi,hn⟩:=Gn j p v hj;let Y:=aVr own r1 r2 a9 cap bi G i hi I.ok (I.rel _ (Ci hi)) w (aVu I.reads (I.Gp.Ca 0 Ac) I.og I.oh I.oi I.oj hw);let e1:G[i].p=p:=congrArg Prod.fst hn;let e2:G[i].v=v:=congrArg bf hn;rw[e1,e2]at Y;refine Y.mono ?_;rintro e w1⟨BF,rfl,hown,hsp,hb⟩;exact⟨_,rfl,⟨i,hi,hn,BF,rfl,hown,hsp⟩,hb.block⟩
 intro j p v Ay hj cx n E x x' w1 w' S Lp LI hE hx hq hr hc aby;obtain⟨i,hi,hn,BF,rfl,hown,hsp⟩:=hq;have d:=I.files _ (Ci hi);generalize hg:G[i]=r at hn hown hsp hx d;let⟨rp',rv,rm,fa,Am,fc,nd⟩:=r;simp at hx hown hsp d;let hsame:∀a a',fa=Z a->C6 E a a'->a'=a:=λa a' ha N=>by have h2:=E.one _ _ _ N.1 (hE _ _ ⟨rfl,AA (d a ha)⟩);let⟨b,o,s⟩:=a;let⟨b',o',s'⟩:=a';let⟨_,h3,h4⟩:=N;simp only at h2 h3 h4;subst h2 h3 h4;rfl
 cases hx with
 |agg hv=>
  rename_i a';let⟨l'⟩:=a';let⟨x5,x7,el,h5,h7⟩:=a_B hv;subst el;skip;have e5:x5=A0 fa Am fc:=by cases h5 with|FZ=>rfl|slice _ _ N=>rw[hsame _ _ rfl N]
  subst e5;let C:∀M,AK CK (C7 (be BE M)) (A0 fa Am fc) (A0 fa Am fc):=λM=>by cases fa with|none=>exact .FZ ..|some a=>exact .slice _ _ ⟨⟨rfl,AA (d a rfl)⟩,rfl,rfl⟩
  rw[hmsg];let D:∃M:zy,(∀b,M b->S b/\b≠Ay)/\AK CK (C7 (be BE M)) x7 x7/\x7.oneCell'=A5/\(∀b,M b->∃o,Fl w' b o/\Ff CK (C7 (be BE M)) o o)/\Iv w' M x7 nd:=by
   rcases hown.2 with⟨e,e0⟩|⟨g,cp,cur,e,acf,hcur,_,_,FU,ZY⟩;.subst e;cases h7;exact⟨λ_=>False,λb hb=>hb.elim,.FZ ..,rfl,λb hb=>hb.elim,AA ⟨rfl,ma.1 e0⟩⟩
   subst e;cases h7 with
   |slice _ _ N=>
    rename_i a7;let⟨hrel,ho,hs⟩:=N;let⟨g',o',s'⟩:=a7;simp only at hrel ho hs;subst ho hs;let H:S g':=by
     rcases hc g g' hrel with⟨h,_⟩|⟨_,h⟩;.exact absurd h λh=>BO (LI g h)
     exact h
    let Ot:g'≠Ay:=λh=>by subst h;have:=E.other _ _ _ hrel (hE _ _ ⟨rfl,AF rfl⟩);omega
    let U:∀u∈cur.toList,isStr u:=by
     intro u hu;obtain⟨k,hk,rfl⟩:=Mw.1 hu;by_cases hlt:k<nd*2
     .let h1:cur.toList[k]∈Bb nd:=by rw[<-ZY];exact Mw.2 ⟨k,by simp at hk⊢;omega,AD⟩
      unfold Bb at h1;let⟨y,_,hy⟩:=YX.1 h1;simp at hy;rcases hy with hy|hy<;>exact⟨_,hy⟩
     refine hsp g cp cur 85 (0,0) rfl hcur k _ A' ?_;rw[<-Array.getElem?_toList];exact En hk
    let⟨T,hwr⟩:=hr;let⟨o1,o1',z,eb,hoo⟩:=hwr.heap g g' hrel;let z:w1.heap[g]?=o1:=z;rw[hcur]at z;obtain rfl:=CP z;cases hoo with
    |cells _ Jc hz=>
     rename_i c' q;have L9:=Array.toList_inj.1 (aCM Jc U);subst L9;let hq:q.1=q.2:=by
      rcases hz with h|⟨_,_,h⟩;.exact h
      exact absurd rfl h
     refine⟨λb=>b=g',λb hb=>by subst hb;exact⟨H,Ot⟩,.slice _ _ ⟨⟨rfl,AF rfl⟩,rfl,rfl⟩,rfl,λb hb=>?_,AF ⟨g',cp,c',q,rfl,rfl,eb,hq,ZY⟩⟩;subst hb;exact⟨_,eb,.cells _ (aCN U) (NT.refl _)⟩
  let⟨M,hM1,hM2,hM3,hM4,hM5⟩:=D;refine⟨M,hM1,⟨_,rfl,rfl,?_,?_⟩,hM4,⟨i,hi,?_,x7,?_,?_⟩⟩;.simp[hM3,aTa,aTZ,aTY]
  .exact .cons (.string _) (.cons (.string _) (.cons (.string _) (.cons (.string _) (.cons (.string _) (.cons (C M) (.cons (.int ..) (.cons hM2 .nil)))))))
  .rw[hj,hg];exact congrArg Z hn.symm
  .rw[hg]
  rwa[hg]
end
noncomputable def aCJ(Wb BE:zy)(G:List Rel)(ms:List (zz×zz))(cs:List Ah)(bl off cap c0:Nat)(w':A1)(h:Nat)(Goal:zy->zv):F3:={
 X:={P:=A6,ty:=LN.tWg,Ae:=w',Bn:=h+1,c0:=c0,C0:=0,n:=ms,Wb:=Wb,Nk:=WO BE (WQ G ms),Goal:=Goal}
 cs:=cs
 ,
 bl:=bl
 ,
 off:=off
 ,
 cap:=cap
 ,
 ms:=ms
 ,
 br:=h
 ,
 B5:=h+2
 old:=WJ Wb w' (h+1) (w'+1)
 ,
 AU:={w' with heap:=w'.heap.push (NV LN.tWg 0 0)}}
noncomputable def QF(Wb BE:zy)(G:List Rel)(I:List (zz×zz))(cs:List Ah)(bl h cap c0:Nat)(w':A1)(N:Nat):F3:=aCJ Wb BE G I cs bl h cap c0 w' N (aCJ Wb BE G I cs bl h cap c0 w' N λ_ _ _ _=>False).Goal
section
def aYF(Wb BE)(G)(U)(cs)(bl I cap c0)(w')(d N):((QF Wb BE G U cs bl I cap c0 w' d).from N).X.Goal=((QF Wb BE G U cs bl I cap c0 w' d).from N).Goal:=by
 funext AG S g w;refine propext ⟨?_,?_⟩;.rintro⟨T,h,h2,h3⟩;exact⟨T,⟨h.at_,h.av⟩,⟨h2.Ub,h2.P6,h2.s,h2.same,h2.size,h2.out⟩,h3⟩
 rintro⟨T,h,h2,h3⟩;exact⟨T,⟨h.at_,h.av⟩,⟨h2.Ub,h2.P6,h2.s,h2.same,h2.size,h2.out⟩,h3⟩
end
theorem aTN{l:List Nat}{n}(hnd:l.Nodup)(h:∀i,i∈l↔i<n):l.Perm (Lf n):=by grind
def aC2{G ms w Bn}:∀(d:List (Nat×A3)),(∀i x,(i,x)∈d->∃M,(∀b,M b->b<w.heap.size/\b≠Bn)/\WQ G ms i x M w)->∃L:List BI,L.length=d.length/\(d.map (·.2)).flatMap (λv=>v.cells.toList)=HF L/\L.map (λx=>Z x.rel.name)=d.map (λs=>ms[s.1]?)/\∀x∈L,x.rel∈G/\∃M,(∀b,M b->b<w.heap.size/\b≠Bn)/\Iv w M x.BF x.rel.Bs
 |[],_=>⟨[],rfl,rfl,rfl,λx hx=>BA⟩
 |(i,x)::S,h=>by
  let⟨L,h1,h2,h3,h4⟩:=aC2 S λj y hj=>h j y (by simp[hj]);obtain⟨M,hM,k,hk,hn,BF,rfl,hl⟩:=h i x AD;obtain⟨na,nc,rfl⟩:∃na nc,BF=A0 na G[k].Bs.length nc:=by
   rcases hl with⟨rfl,e⟩|⟨g,c,cur,q,rfl,_⟩;.exact⟨J,0,Af e⟩
   exact⟨_,_,rfl⟩
  refine⟨⟨G[k],na,nc⟩::L,by simp[h1],?_,?_,?_⟩;.rw[z8,Ee,List.flatMap_cons,h2];rfl
  .simp only[Ee,h3,hn]
  intro y hy;rcases DO.1 hy with rfl|hy;.exact⟨Ci hk,M,hM,hl⟩
  exact h4 y hy
theorem pB{M}(h:Iv w M BF l):EL w BF l:=by
 rcases h with h|⟨g,cap,cur,q,e,_,hc,_,ht⟩;.exact AA h
 refine AF ⟨g,cap,e,λj hj=>?_⟩;let I:=pI l j hj;grind[A_]
theorem Iv.same{M}(h:Iv w M BF l)(e:∀b,M b->w'.heap[b]?=w.heap[b]?):Iv w' M BF l:=by
 rcases h with h|⟨g,cap,cur,q,a,b,c,d⟩;.exact AA h
 exact AF ⟨g,cap,cur,q,a,b,BA,d⟩
def Iv.mono{M}(h:Iv w M BF l):Iv w (λ_=>True) BF l:=by
 rcases h with h|⟨g,cap,cur,q,a,_,c,d⟩;.exact AA h
 exact AF ⟨g,cap,cur,q,a,trivial,c,d⟩
def a3B(G:List Rel)(h:List (zz×zz))(v:A3)(w2 w1:A1):Prop:=∃g c L,v=A0 (Z ⟨g,0,J⟩) h c/\L.length=h.length/\T6 w1 g L/\He L/\(names L).Perm h/\(∀x∈L,x.rel∈G/\Iv w1 (λ_=>True) x.BF x.rel.Bs)/\w2.heap.size<=w1/\∀b,b<w2.heap.size->b≠g->w1.heap[b]?=w2.heap[b]?
def aY5{G:List Rel}{d:List (Nat×A3)}{w2:A1}{Bn:Nat}(hver:∀r∈G,r.v.size<=40)(hn:ms.length<=1000000)(i3:0<ms.length)(C:∀i,(∃x,(i,x)∈d)↔i<ms)(hnd:(d.map (·.1)).Nodup)(hC:∀i x,(i,x)∈d->∃M,(∀b,M b->b<w.heap.size/\b≠Bn)/\WQ G ms i x M w)(hB:B=w)(hsame:∀b,b<w.heap.size->b≠Bn->w2.heap[b]?=w.heap[b]?)(hm:w2.cell? ⟨0,0,J⟩=Z (AB AJ m))(h0:0<w.heap.size)(hown:w2.ownsRow B 234 8 v d ((d.map (·.2)).flatMap λv=>v.cells.toList))(T0:Tape):Ab A6 128 #[v,Br (Bo 129) #[] #[]] (on w2 T0) λe w1=>e=AV (Aj #[])/\a3B G ms v w2 w1:=by
 let⟨L,hlen,hcells,hnames,hL⟩:=aC2 d hC;have z:=aTN hnd λi=>by
  rw[<-C i];constructor;.intro h;obtain⟨y,hy,rfl⟩:=Bt.1 h;exact⟨y.2,hy⟩
  rintro⟨x,hx⟩;exact Bt.2 ⟨_,hx,rfl⟩
 have U:=Ai z.length_eq;have hnm:=by
  let h1:(names L).map Z=d.map λs=>ms[s.1]?:=by rw[<-hnames];simp[names]
  let h2:(d.map λs=>ms[s.1]?).Perm ((Lf ms).map λi=>ms[i]?):=by have:=z.map λi=>ms[i]?;rwa[Ld]at this
  let h3:((Lf ms).map λi=>ms[i]?)=ms.map Z:=by
   apply a2Y;intro i;by_cases hi:i<ms;.simp[hi]
   simp[hi]
  rw[<-h1,h3]at h2;simpa using h2.filterMap id
 rw[hcells,U,<-hlen.trans U]at hown;obtain⟨g,c,rfl,D,H⟩:=SH hown A';let S:∃cur,Fl w2 g (A7 cur 234 (0,0)):=by
  rcases hown.2 with⟨e,_⟩|⟨g',c',cur,e,_,h,_⟩;.cases e
  injection e with e;injection e with e;injection e with e;subst e;exact⟨cur,h⟩
 let⟨cur,hcur⟩:=S;let I:∀j(h:j<L.length),Pe w2 g j L[j]:=λj hj=>by let k:=λo u ho hu=>Lx hown _ _ (po L j hj o u ho hu);exact⟨k 0 _ A' rfl,k 1 _ A' rfl,k 2 _ A' rfl,k 3 _ A' rfl,k 4 _ A' rfl,k 5 _ A' rfl,k 6 _ A' rfl,k 7 _ A' rfl⟩
 refine(aCF g c m L (on w2 T0) A' (λx hx=>hver _ (hL x hx).1) A' H (λj hj=>⟨(I j hj).c0,(I j hj).c1,(I j hj).c2,(I j hj).c3,(I j hj).c4,(I j hj).c5,(I j hj).Dj,(I j hj).E4⟩) (λo=>C' hcur o) hm).mono ?_;rintro e w1⟨rfl,R,hp,ho,Y,Dc,hb1⟩;let N:∀x∈R,Iv w1 (λ_=>True) x.BF x.rel.Bs:=λx hx=>by
  let⟨_,M,hM,hl⟩:=hL x (hp.mem_iff.1 hx);refine Iv.mono (hl.same λb hb=>?_);let⟨hbl,hbc⟩:=hM b hb;let h2:=hsame b hbl hbc;have hb2:=by rw[G8 hbl]at h2;exact B3 h2
  exact(hb1 b hb2 A').trans h2
 exact⟨rfl,g,c,R,by rw[hlen,U],by rw[hp.length_eq,hlen,U],λj hj=>⟨Y j hj,pB (N _ (Ci hj))⟩,ho,(hp.map _).trans hnm,λx hx=>⟨(hL x (hp.mem_iff.1 hx)).1,N x hx⟩,Dc,hb1⟩
def aTI(P w ty r Ay c seen es)(hb:w.heap[Ay]?=Z (B4 es c))(hr:w.heap[r]?=Z (NZ (Z Ay) c seen c))(U:∀x∈es.toList,x.born<c):(W2 es seen).size=0/\(eu (B2 (Z ⟨r,0,J⟩)) A9 ty).run P w=.ok (Aj #[Ag A9]) w∨∃e∈(W2 es seen).toList,∃h:A1,h.heap=w.heap.setIfInBounds r (NZ (Z Ay) c (seen.push e.born) c)/\(eu (B2 (Z ⟨r,0,J⟩)) A9 ty).run P w=.ok (Aj #[Ag A5,e.key,e.val]) h:=by
 simp only[eu,getObj,YA,fK,hb,hr,KO,next_test_false seen es c c U (Ad _),if_false];unfold W2;have N:∀x∈(Tx (λe=>!seen.contains e.born) es).toList,x.born<c:=λx hx=>U x (by simp at hx⊢;exact hx.1);generalize Tx (λe=>!seen.contains e.born) es=L at N⊢;let e1:L.filter (λx=>BK (x.born<c))=L:=Array.filter_eq_self.2 λx hx=>Ai (N x (by simpa using hx));let e2:L.filter (λx=>BK (x.born≥c))=#[]:=by rw[Array.filter_eq_empty_iff];intro x hx;have:=N x (Ai hx);simp;omega
 simp only[e1,e2,Array.append_empty];by_cases h0:L.size=0;.left;have:=Array.eq_empty_of_size_eq_zero h0;subst this;exact⟨rfl,by simp[sQ]⟩
 right;let hne:L.isEmpty=A9:=by simp[Array.isEmpty,h0]
 simp only[hne,Bool.false_eq_true,if_false,Array.empty_append,Array.size_map];let hch:∃(j:Nat)(h:A1),j<L.size/\h.heap=w.heap/\(choose (aaS L.size)).run P w=.ok j h:=by
  by_cases hf:L.size<=1;.exact⟨0,w,A',rfl,by simp[sQ,hf]⟩
  exact⟨_,w.drew,mi _ A',rfl,by simp only[choose,fK,sQ,hf,aFU];rfl⟩
 obtain⟨j,h,hj,I,hrun⟩:=hch;refine⟨L[j],AD,NL h r (NZ (Z Ay) c (seen.push L[j].born) c),by show h.heap.setIfInBounds ..=_;rw[I],?_⟩;let d:∀(o':Cq),(setObj r o').run P h=.ok () (NL h r o'):=λo'=>by simp only[setObj,fK,I,hr];unfold NL;rw[I]
 simp only[hrun,Array.getElem?_map,G8 hj,Option.map_some,YA,d,KO];rfl
def aLH(P)(w)(r Ay c)(seen:Array Nat)(es)(e)(hb:w.heap[Ay]?=Z (B4 es c))(hr:w.heap[r]?=Z (NZ (Z Ay) c (seen.push e.born) c))(he:e∈es.toList)(hn:(es.toList.map (·.born)).Nodup):(rr (B2 (Z ⟨r,0,J⟩))).run P w=.ok (Aj #[e.key,e.val]) w:=by let hf:es.find? (·.born==e.born)=e:=As (Array.find?_toList).symm (Go.find_born e es.toList hn he);simp only[rr,getObj,YA,fK,hb,hr,KO,Array.back?_push,bne_self_eq_false,hf];rfl
section
variable{ρ:BP->A3}{w:A1}{o:B8}{x y:BP}{b bi c r n:Nat}{es:Array Fy}{s:Array Nat}{p q:zz}{a a':Option An}{n' c':Nat}
def aX2(ho:o.op=ED 131 x)(hx:ρ x=AT b)(h:w.heap[b]?=Z (A7 #[AL (Z bi)] 131)):(AM ρ o).run A6 w=.ok (BB (AL (Z bi))) w:=by unfold AM;rw[ho];simp[go_sem,hx,Cr,h]
def aXJ(ho:o.op=.range 131 x)(hx:ρ x=AL (Z bi))(hm:w.heap[bi]?=Z (B4 es c)):(AM ρ o).run A6 w=.ok (BB (AT w)) (w.alloc (NZ (Z bi) c #[] c)):=by unfold AM;rw[ho];simp[hx,run_range_map w 131 85 3 bi es c (by rw[Tryz.underlying131]) hm]
def aXH(ho:o.op=.next x A9)(hx:ρ x=AT r)(hb:w.heap[bi]?=Z (B4 es c))(hr:w.heap[r]?=Z (NZ (Z bi) c s c))(N:∀x∈es.toList,x.born<c):(W2 es s).size=0/\(AM ρ o).run A6 w=.ok (BB (Aj #[Ag A9])) w∨∃e∈(W2 es s).toList,∃h:A1,h.heap=w.heap.setIfInBounds r (NZ (Z bi) c (s.push e.born) c)/\(AM ρ o).run A6 w=.ok (BB (Aj #[Ag A5,e.key,e.val])) h:=by
 unfold AM;rw[ho];rcases aTI A6 w o.type r bi c s es hb hr N with⟨I,h2⟩|⟨e,I,h,h2,h3⟩;.exact AA ⟨I,by simp[hx,h2]⟩
 exact AF ⟨e,I,h,h2,by simp[hx,h3]⟩
def aWp{e}(ho:o.op=.entry x)(hx:ρ x=AT r)(hb:w.heap[bi]?=Z (B4 es c))(hr:w.heap[r]?=Z (NZ (Z bi) c (s.push e.born) c))(he:e∈es.toList)(hn:(es.toList.map (·.born)).Nodup):(AM ρ o).run A6 w=.ok (BB (Aj #[e.key,e.val])) w:=by unfold AM;rw[ho];simp[hx,aLH A6 w r bi c s es e hb hr he hn]
def aBk(ho:o.op=Vv 85):(AM ρ o).run A6 w=.ok (BB (AT w)) (w.alloc (A7 #[A4 ⟨#[]⟩,A4 ⟨#[]⟩] 85)):=by unfold AM;rw[ho];simp[go_sem,Tryz.zeroValue85]
def aXb{x y p q}(h:w.heap[b]?=Z (A7 #[x,y] 85)):((w.setCell ⟨b,0,J⟩ p).setCell ⟨b,1,J⟩ q).heap[b]?=Z (A7 #[p,q] 85):=by rw[CO _ b 1 _ _ q (CO w b 0 _ _ p h)];simp
theorem aXc{x y p q:A3}(h:w.heap[b]?=Z (A7 #[x,y] 85)):((w.setCell ⟨b,0,J⟩ p).setCell ⟨b,1,J⟩ q).heap.size=w/\(∀z,z≠b->((w.setCell ⟨b,0,J⟩ p).setCell ⟨b,1,J⟩ q).heap[z]?=w.heap[z]?)/\((w.setCell ⟨b,0,J⟩ p).setCell ⟨b,1,J⟩ q).heap[b]?=Z (A7 #[p,q] 85):=⟨AD,λz hz=>by simp_all[DC,],aXb h⟩
def aBv(ho:o.op=La 85 x y)(hx:ρ x=AT b)(hy:ρ y=AH #[p,q])(h:w.heap[b]?=Z (A7 #[A4 ⟨#[]⟩,A4 ⟨#[]⟩] 85)):∃I,(AM ρ o).run A6 w=.ok JN I/\I.heap.size=w/\(∀z,z≠b->I.heap[z]?=w.heap[z]?)/\I.heap[b]?=Z (A7 #[p,q] 85):=by
 refine⟨_,?_,aXc h⟩;unfold AM;rw[ho];let c0:w.cell? ⟨b,0,J⟩=Z (A4 ⟨#[]⟩):=by simp[Cr,h]
 let c1:w.cell? ⟨b,1,J⟩=Z (A4 ⟨#[]⟩):=by simp[Cr,h]
 simp[go_sem,hx,hy,c0,c1,C' h]
def aBr(ho:o.op=ED 85 x)(hx:ρ x=AT b)(h:w.heap[b]?=Z (A7 #[p,q] 85)):(AM ρ o).run A6 w=.ok (BB (AH #[p,q])) w:=by unfold AM;rw[ho];simp[go_sem,hx,Cr,h]
def aWg(ho:o.op=.box 57 x)(hx:ρ x=A0 a n c):(AM ρ o).run A6 w=.ok (BB (AT w)) (w.alloc (A7 #[A0 a n c] 57)):=by unfold AM;rw[ho];simp only[hx];kernel_rfl
def aBq(ho:o.op=ED 57 x)(hx:ρ x=AT b)(hb:w.heap[b]?=Z (A7 #[A0 a n c] 57)):(AM ρ o).run A6 w=.ok (BB (A0 a n c)) w:=by unfold AM;rw[ho];simp[go_sem,hx,Cr,hb]
def aWl(ho:o.op=.buildSlice 57 1 #[(0,x)])(hx:ρ x=AH #[p,q]):(AM ρ o).run A6 w=.ok (BB (A0 (Z ⟨w,0,J⟩) 1 1)) (w.alloc (A7 #[p,q] 85)):=by unfold AM;rw[ho];simp[go_sem,hx]
def aXN(ho:o.op=La 57 x y)(hx:ρ x=AT b)(hy:ρ y=A0 a' n' c')(hb:w.heap[b]?=Z (A7 #[A0 a n c] 57)):∃h,(AM ρ o).run A6 w=.ok JN h/\h.heap.size=w/\(∀z,z≠b->h.heap[z]?=w.heap[z]?)/\h.heap[b]?=Z (A7 #[A0 a' n' c'] 57):=by refine⟨w.setCell ⟨b,0,J⟩ (A0 a' n' c'),?_,AD,λz hz=>DC _ _ _ _ hz,CO w b 0 _ _ _ hb⟩;unfold AM;rw[ho];simp[go_sem,hx,hy,Cr,hb,C' hb]
def aWc{B:Nat}{v:A3}{xs:List A3}(ho:o.op=Em {callee:=Fw QR,args:=#[x,y],argTypes:=#[57,57]})(hx:ρ x=v)(hy:ρ y=A0 (Z ⟨b,0,J⟩) 1 1)(hown:w.ownsRow B 85 2 v n xs)(hb:w.heap[b]?=Z (A7 #[p,q] 85))(hn:n<=1000000)(hB:B<=w):∃v' w',(AM ρ o).run A6 w=.ok (BB v') w'/\w'.ownsRow B 85 2 v' (n+1) (xs++[A4 p,A4 q])/\w.grownBy w' v.ownBlock:=by
 obtain⟨i0,hi,hz0,hz1,hz2⟩:=FJ jD;obtain⟨v',w',h,h2,h3,_⟩:=aFx w B 57 o.type 85 i0 (AH #[A4 ⟨#[]⟩,A4 ⟨#[]⟩]) 2 32 fG hi hz0 hz1 hz2 rfl Ac v n xs hown ⟨b,0,J⟩ 1 1 [p,q] rfl (λj u hj=>by
  let hc:∀k,w.cell? ⟨b,k,J⟩=#[A4 p,A4 q][k]?:=λk=>by rw[A_ hb]
  rw[Ea,hc];simpa using hj) λu hu=>by simp at hu;rcases hu with rfl|rfl<;>rfl DQ A' hB;refine⟨v',w',?_,h2,h3⟩;unfold AM;simp only[ho,KQ,Ra,lj,YA,lX,lW,JO,Ee,Iw,hx,hy,h]
end
def II(P:List (AW×Nat))(j:Nat):AW:=(P.getD j ((⟨#[]⟩,⟨#[]⟩),0)).1
def Zu{W W':A1}{e z n}(h:W.ownsRow B e z v n xs)(k:∀b,b<W.heap.size->B<=b->W'.heap[b]?=W.heap[b]?):W'.ownsRow B e z v n xs:=by refine⟨h.1,h.2.imp id ?_⟩;rintro⟨g,cap,cur,I,h2,h3,h4⟩;exact⟨g,cap,cur,I,h2,(k g (B3 h3) h2).trans h3,h4⟩
theorem a9V{e}(h:e∈(Ba P).toList):∃j,j<P.length/\e.key=EH (II P j)/\e.born=j:=by
 let⟨j,hj,he⟩:=Mw.1 h;let I:j<P:=by rw[<-jS P];simpa using hj
 let h2:=VF j I;rw[Array.getElem_toList]at he;rw[G8 (Ai hj),he]at h2;simp_all[II,P_,En]
theorem aSB(P):((Ba P).toList.map (·.born)).Nodup:=by
 have:(Ba P).toList.map (·.born)=Lf P:=by unfold Ba;rw[tn,Ld];have:((λx:Fy=>x.born)∘λx:(AW×Nat)×Nat=>{key:=EH x.1.1,val:=AX (x.1.2:Int),born:=x.2})=bf:=rfl;rw[this,List.zipIdx_map_snd,List.range'_eq_map_range];simp
 grind
theorem aQn{e}(h:e∈(W2 (Ba P) Bi.toArray).toList):e∈(Ba P).toList/\e.born∉Bi:=by let⟨h1,h2⟩:=mem_left h;grind
theorem aQo(h:(W2 (Ba P) Bi.toArray).size=0):∀j,j<P.length->j∈Bi:=λj hj=>by have:=all_seen (Ba P) Bi.toArray h _ (As Array.mem_toList_iff (Array.mem_of_getElem? (VF j hj)));grind
def aU4{n}(h:Bi.Nodup)(I:∀j∈Bi,j<n)(h2:∀j,j<n->j∈Bi):Bi.Perm (Lf n):=(aHh h List.nodup_range).2 λj=>⟨λhj=>Pb.2 (I j hj),λhj=>h2 j (Pb.1 hj)⟩
theorem keys_perm(h:Bi.Perm (Lf P)):(Bi.map (II P)).Perm (P.map (·.1)):=by refine(h.map (II P)).trans (aag ?_);refine List.ext_getElem AD λi I h2=>?_;grind[II]
section
variable{Wb R:zy}{Post:zv}{w w':A1}{l r n f:Nat}{o:Cq}{s:a0m}{fn:FuncId}{T:zw}{ps:Array Tmp}{az Gj:DK}{cs:List Ah}{q:List Item}{v:Nat->A3}
theorem Ce.SS{g g':AY}(hs:g.status=.running)(h:∀d,stepG A6 A5 g (w.at d)=.go g' (NL (w.at d) l o) (seen A6 f #[⟨.obj l,A9,A9⟩,⟨.obj l,A5,A9⟩]))(I:CC Wb R w)(hl:l<w)(hn:¬Wb l)(k:∀w',w'.heap=w.heap.setIfInBounds l o->Ce Wb g' w' Post):Ce Wb g w Post:=.own (w2:=NL w l o) hs h I.low (by simp[NL]) λx _ hx=>by show(w.heap.setIfInBounds l o)[x]?=_;grind ⟨rfl,rfl,rfl⟩ λe he=>by have:=mem_seen he;grind[NL] λd=>k _ rfl
def CC.pP(h:CC Wb R w)(ho:gK o)(e:w.heap[l]?=o):¬R l:=λhr=>by let⟨o',e',k⟩:=h.closed.heap l hr;rw[e]at e';cases e';rcases ho with⟨x,rfl⟩|⟨x,rfl⟩<;>cases k
def Ap.SS{D AU gc}(S:Ap n D AU gc Wb R w v)(hn:¬R l)(e:w'.heap=w.heap.setIfInBounds l o):Ap n D AU gc Wb R w' v:=by let h:∀b,R b->JE b w' w:=λb hb=>BA;exact⟨S.H.keep h BA,S.V,λb hb=>⟨(S.S b hb).1,(h b (S.S b hb).1).trans (S.S b hb).2⟩⟩
theorem Be.range{g n':Nat}{x:BP}{cap:zw}(hx:Ed n v x=Br (Bo g) #[] cap)(hF:okF g=A5)(h:CC Wb R w)(k:∀w',w'.heap=(w.heap.push (PM (Z []))).push (FV M7 f (Ax n v) ps az Gj w)->Ce Wb (G (Fa A6 g (#[Br (U4 (w+1)) #[] #[]]++cap) EI) (Fr (J,[⟨b8 w,#[]⟩]) f (Ax n v) (.inRangeFunc (w+1)::q)::cs)) w' Post):Be f n cs Wb w (v,Aw (rF x ps az Gj)::q) Post:=by let⟨fn,c,h1,h2,h3⟩:=dX hF;refine .own (w2:=(w.alloc (PM (Z []))).alloc (FV M7 f (Ax n v) ps az Gj (AR w))) rfl (λd=>aYX rfl (VN.trans hx) h1 h2 h3 (w.at d)) h.low Av (λx hx _=>?_) ⟨rfl,rfl,rfl⟩ (λe he=>by simp at he) λd=>k _ rfl;show((w.heap.push _).push _)[x]?=_;grind
theorem Be.yield{n' t i:Nat}{F_:Nat->A3}{ops:Array B8}{rest:List Nat}{oo:B8}{x y:BP}{ats:Array BL}{u:A3}(ho:ops[i]?=oo)(hg:oo.guard=J)(I:oo.op=Em {callee:=.value x,args:=#[y],argTypes:=ats})(hx:Ed n v x=Br (U4 l) #[] #[])(hy:Ed n v y=u)(hl:w.heap[l]?=Z (FV s fn (Ax n' F_) #[t] az Gj r))(h:CC Wb R w)(hn:¬Wb l)(k:∀d,Ce Wb (G (aE_ l fn (Ax n' (BQ F_ t u)) az Gj EI) (Fr (J,[]) f (Ax n v) (Ak ops (i::rest)::q)::cs)) (w.at d) Post):Be f n cs Wb w (v,Ak ops (i::rest)::q) Post:=by
 refine .own rfl (λd=>aYa (a:=⟨Ax n v,[]⟩) ho (by grind[Gd]) rfl I (VN.trans hx) hl) h.low (Ad _) (λ_ _ _=>rfl) ⟨rfl,rfl,rfl⟩ (λe he=>?_) λd=>?_;.have:=mem_seen he;grind
 rw[VN,hy,Qj];exact k d
end
noncomputable def bq:DK:=match R1 (sndC (fstC (sndC (J1 423))))with|rF _ _ a _=>a|c=>c
noncomputable def U_:DK:=match R1 (sndC (fstC (sndC (J1 423))))with|rF _ _ _ b=>b|c=>c
structure Kx(n:Nat)(F_:Nat->A3)(P:List (AW×Nat))(c bi:Nat)(s:a0m)(Mv Bi:List Nat)(v:A3)(W:A1):Prop where
 box:W.heap[n]?=Z (A7 #[v] 57)
 c9:W.heap[n+1]?=Z (PM (Z []))
 FV:W.heap[n+2]?=Z (FV s 423 (Ax 13 F_) #[7] bq U_ (n+1))
 it:W.heap[n+3]?=Z (NZ (Z bi) c Mv.toArray c)
 row:W.ownsRow (n+4) 85 2 v Bi (Bb (Bi.map (II P)))
section
variable{n:Nat}{F_:Nat->A3}{P:List (AW×Nat)}{c bi:Nat}{s s':a0m}{Mv Bi:List Nat}{v v':A3}{W W':A1}
theorem Kx.size(h:Kx n F_ P c bi s Mv Bi v W):n+3<W:=B3 h.it
def Kx.on(h:Kx n F_ P c bi s Mv Bi v W)(k:∀b,b<W.heap.size->W'.heap[b]?=W.heap[b]?):Kx n F_ P c bi s Mv Bi v W':=by let hz:=h.size;exact⟨(k _ A').trans h.box,(k _ A').trans h.c9,(k _ A').trans h.FV,(k _ A').trans h.it,Zu h.row λb hb _=>k b hb⟩
def Kx.iter(h:Kx n F_ P c bi s Mv Bi v W){j}(e:W'.heap=W.heap.setIfInBounds (n+3) (NZ (Z bi) c (Mv.toArray.push j) c)):Kx n F_ P c bi s (Mv++[j]) Bi v W':=by let hz:=h.size;let k:∀b,b≠n+3->JE b W' W:=λb hb=>BA;exact⟨(k _ A').trans h.box,(k _ A').trans h.c9,(k _ A').trans h.FV,BA,Zu h.row λb _ hb=>k b A'⟩
def Kx.zu(h:Kx n F_ P c bi s Mv Bi v W)(s')(e:W'.heap=W.heap.setIfInBounds (n+2) (Twin.FV s' 423 (Ax 13 F_) #[7] bq U_ (n+1))):Kx n F_ P c bi s' Mv Bi v W':=by let hz:=h.size;let k:∀b,b≠n+2->JE b W' W:=λb hb=>BA;exact⟨(k _ A').trans h.box,(k _ A').trans h.c9,BA,(k _ A').trans h.it,Zu h.row λb _ hb=>k b A'⟩
end
def results385(T)(w):(D5 Tryz.f385 T).runT A6 w #[]=(.ok (Aj #[]) w,#[]):=by unfold D5;simp
def results423(T)(v)(h:T.getD 4 AN=v)(w):(D5 aFG T).runT A6 w #[]=(.ok v w,#[]):=by have:aFG.results=#[.tmp 4]:=rfl;unfold D5;rw[this,<-h];simp
def a2T(P:List (AW×Nat))(w:A1)(v:A3)(w':A1):Prop:=∃K,K.Perm (P.map (·.1))/\w'.ownsRow w 85 2 v K.length (Bb K)
noncomputable def jF:DK:=R1 (R1 (sndC (J1 385)))
noncomputable def aAt:List Item:=[Aw jF,NW jF,Ks 0]
noncomputable def F5:Array B8:=IL (fstC (sndC (R1 (sndC (sndC jF)))))
section
variable{Wb R gc:zy}{Post:zv}{w AU W:A1}{n c bi:Nat}{F_:Nat->A3}{P:List (AW×Nat)}{cs:List Ah}{d8:Ah}{Mv Bi:List Nat}{v:A3}
def aWH{j}(h2:F_ 2=AT n)(hn:∀b,gc b->b<n)(CF:∀b,Wb b->b<n)(w5:Bi.length<=1000000)(hL:Kx n F_ P c bi M7 Mv Bi v W)(S:Ap 13 [] AU gc Wb R W (BQ F_ 7 (EH (II P j))))(k:∀R' W' v',(∀b,R b->R' b)->CC Wb R' W'->(∀b,gc b->W'.heap[b]?=AU.heap[b]?)->Kx n F_ P c bi M7 Mv (Bi++[j]) v' W'->Ce Wb (G (d8.finish (Ag A5)) cs) W' Post):Ce Wb (G (aE_ (n+2) 423 (Ax 13 (BQ F_ 7 (EH (II P j)))) bq U_ EI) (d8::cs)) W Post:=by
 show Fz (Z (n+2),[]) 423 13 (d8::cs) Wb W (BQ F_ 7 (EH (II P j)),[Aw bq,aEl,Aw U_]) Post;let hz:=hL.size;refine Ap.fix [(2,AT n),(7,EH (II P j))] (by simp[BQ,h2]) S λS=>?_;refine S.alloc (A7 #[A4 ⟨#[]⟩,A4 ⟨#[]⟩] 85) (e:=5) (rfl) (λ_ _ h=>aBk h) λip w1 t0 Er Ez Dc HP=>?_;refine t0.store W (A7 #[A4 (II P j).1,A4 (II P j).2] 85) (λh=>absurd (hn _ h) A') (rfl) (λx T0 o h=>aBv (x:=Aa 5) (y:=Aa 7) h (rfl) (rfl) Ez) λFg w2 v9 MR HB Kc Hj=>?_;let D:Kx n F_ P c bi M7 Mv Bi v w2:=hL.on λb hb=>(Kc b A').trans (HP b hb);refine v9.to 1 (q:=[aEl,Aw U_]) (rfl) λm M=>?_;refine Ce.SS rfl (λd=>aYQ rfl D.FV) M.H (by show _<w2.heap.size;omega) (λh=>absurd (CF _ h) A') λw3 e3=>?_;let Y:=D.zu .busy e3;let Cj:=M.SS (M.H.pP QB D.FV) e3;let Mc:w3=AR w2:=by rw[e3,a0'];rfl
 let KZ:w3.heap[W.heap.size]?=Z (A7 #[A4 (II P j).1,A4 (II P j).2] 85):=by rwa[e3,Mm A']
 obtain⟨DJ,C3,rfl⟩:=EA Y.row;show Fz (Z (n+2),[]) 423 13 (d8::cs) Wb w3 (_,[Aw U_]) Post;refine Cj.calm (s:=(_,[Aw U_])) (A0 DJ Bi C3) (e:=8) (rfl) (λ_ _ _ h=>⟨_,aBq (x:=Aa 2) h (rfl) Y.box,rfl⟩) λHd Bd E_ Ln e5=>?_;refine E_.calm (EH (II P j)) (e:=9) (rfl) (λx T _ h=>⟨_,aBr (x:=Aa 5) h (rfl) (by show Bd.heap[_]?=_;rwa[e5]),rfl⟩) λJs EC Dh On e6=>?_;let e6:=e6.trans e5;refine Dh.g_ (A7 #[A4 (II P j).1,A4 (II P j).2] 85) (λz=>BG z 0 1 1) (e:=10) (rfl) (λ_ _ h=>aWl (x:=Aa 9) h (rfl)) λJt i Fi Wo aMk a7_ aOv=>?_;let I:Kx n F_ P c bi .busy Mv Bi (A0 DJ Bi C3) i:=Y.on λb hb=>(aOv b (Ar e6)).trans (by rw[e6]);let U:=I.size;refine Fi.jZ (λu w1=>w1.ownsRow (n+4) 85 2 u (Bi+1) (Bb (Bi.map (II P))++[A4 (II P j).1,A4 (II P j).2])/\∀b,b<n+4->w1.heap[b]?=i.heap[b]?) (e:=11) A8 (λx T o h=>let⟨v',w',h1,h2,h3⟩:=aWc (w:=on (i.at x) T) (x:=Aa 8) (y:=Aa 10) h A8 A8 I.row aMk (Ai w5) U;⟨_,v',w',h1,AA rfl,Ai h2,λb hb=>h3.block b (Hw hb U) λe=>BO ((I.row.lt b e.symm).1)⟩) (λu w1 hq b hb=>hq.2 b (BO (hn b hb))) λKV u qd HG Gg aOC JW⟨hown,ho8⟩=>?_;obtain⟨Tt,Tu,rfl⟩:=EA hown;rw[<-JW]at ho8;refine Gg.store n (A7 #[A0 Tt (Bi+1) Tu] 57) (λh=>absurd (hn _ h) (WK _)) A8 (λx T o h=>aXN (x:=Aa 2) (y:=Aa 11) h A8 A8 ((ho8 n A').trans I.box)) λOb Gt JU iD acy N aMl=>?_;let C:Kx n F_ P c bi .busy Mv (Bi++[j]) (A0 Tt (Bi+1) Tu) Gt:=by let k:∀b,b<n+4->b≠n->JE b Gt i:=λb hb h=>(N b h).trans (ho8 b hb);refine⟨aMl,(k _ A' A').trans I.c9,(k _ A' A').trans I.FV,(k _ A' A').trans I.it,?_⟩;rw[Pa,List.map_singleton,R5,DV];exact Zu hown λb _ h=>by rw[N b A',JW]
 refine JU.to 2 (q:=[]) A8 λm Iy=>?_;refine Ce.SS rfl (λd=>aYW rfl C.FV) Iy.H (by have:=C.size;show _<Gt.heap.size;omega) (λh=>absurd (CF _ h) A') λQM TJ=>?_;let Hg:=Iy.SS (Iy.H.pP QB C.FV) TJ;exact k Ob QM _ (λb hb=>iD b (aOC.1 b (Wo b (On b (Ln b (MR b (Er b hb))))))) Hg.H (λb hb=>(Hg.S b hb).2) (C.zu M7 TJ)
def a90(E5:AU.heap[bi]?=Z (B4 (Ba P) c))(FE:gc bi)(hc:P.length<=c)(y4:P.length<=1000000)(h2:F_ 2=AT n)(hn:∀b,gc b->b<n)(CF:∀b,Wb b->b<n)(k:∀Bi v R W z,Kx n F_ P c bi M7 Bi Bi v W->Bi.Perm (Lf P.length)->Ap 14 [0,10] AU gc Wb R W z->Cb 13 [] R F_->Be 385 14 (d8::cs) Wb W (z,[]) Post):∀(t){Bi v R W}{z:Nat->A3},P.length<Bi.length+t->Bi.Nodup->(∀j∈Bi,j<P.length)->Kx n F_ P c bi M7 Bi Bi v W->Ap 14 [0,10] AU gc Wb R W z->Cb 13 [] R F_->z 0=Br (U4 (n+2)) #[] #[]->z 5=AT (n+3)->Be 385 14 (d8::cs) Wb W (z,aAt) Post
 |0,Bi,v,R,W,z,hN,hd,hj,hL,S,M,KE,PF=>absurd (N.Tn hd λj h=>Pb.2 (hj j h)) (by rw[aHd];omega)
 |t+1,Bi,v,R,W,z,hN,hd,hj,hL,S,M,KE,PF=>by
  refine Ap.fix [(0,Br (U4 (n+2)) #[] #[]),(5,AT (n+3))] (by simp[KE,PF]) S λS=>?_;have C1:∀x∈(Ba P).toList,x.born<c:=λx hx=>by obtain⟨j,h1,_,h3⟩:=a9V hx;omega
  refine S.jZ (λu I=>(W2 (Ba P) Bi.toArray).size=0/\u=Aj #[Ag A9]/\I.heap=W.heap∨∃e∈(W2 (Ba P) Bi.toArray).toList,u=Aj #[Ag A5,e.key,e.val]/\I.heap=W.heap.setIfInBounds (n+3) (NZ (Z bi) c (Bi.toArray.push e.born) c)) (p:=.next (Aa 5) A9) (e:=6) A8 (λx T o h=>?_) (λu I hq b hb=>?_) λip u w1' I Y hg1 e1 hq=>?_
  .rcases aXH (w:=on (W.at x) T) h A8 ((S.S bi FE).2.trans E5) hL.it C1 with⟨a,b⟩|⟨e,a,I,b,d⟩;.exact⟨_,_,_,b,AA rfl,AA ⟨a,rfl,rfl⟩⟩
   exact⟨_,_,_,d,AA rfl,AF ⟨e,a,rfl,b⟩⟩
  .have:=hn b hb;rcases hq with⟨_,_,e⟩|⟨_,_,_,e⟩<;>rw[e];exact Mm A'
  rcases hq with⟨hl,rfl,e⟩|⟨e,he,rfl,gv⟩;.refine Y.to 5 A8 λm v9=>k Bi v ip _ _ (hL.on λb _=>by show I.heap[b]?=_;rw[e1,e]) (aU4 hd hj (aQo hl)) v9 (M.mono hg1.1)
  let e1:=e1.trans gv;obtain⟨hin,E9⟩:=aQn he;obtain⟨j,acI,aOR,C⟩:=a9V hin;rw[C]at E9 e1;let Ul:=hL.iter e1;refine Y.calm (Aj #[e.key,e.val]) (e:=8) A8 (λx T o h=>⟨_,aWp (x:=Aa 5) (s:=Bi.toArray) h A8 ((Y.S bi FE).2.trans E5) (by rw[C];show I.heap[n+3]?=_;simpa using Ul.it) hin (aSB P),rfl⟩) λFg w2 v9 MR e2=>?_;rw[aOR]at Y v9⊢;refine v9.alloc (A7 #[A4 ⟨#[]⟩,A4 ⟨#[]⟩] 85) (e:=3) A8 (λ_ _ h=>aBk h) λDp w3 Bu K0 KZ Mc LD=>?_;let hz:=Ul.size;rw[e2]at Mc;refine Bu.store w2 (A7 #[A4 (II P j).1,A4 (II P j).2] 85) (λh=>absurd (hn _ h) (by rw[e2];omega)) A8 (λx T0 o h=>aBv (w:=on (w3.at x) T0) (x:=Aa 3) (y:=Aa 9) h A8 A8 KZ) λIA w4 Cj Lm LJ V' vp=>?_;refine Cj.calm (EH (II P j)) (e:=11) A8 (λx T _ h=>⟨_,aBr (w:=on (w4.at x) T) (x:=Aa 3) h A8 vp,rfl⟩) λHd Bd E_ Ln e5=>?_;let D:Kx n F_ P c bi M7 (Bi++[j]) Bi v Bd:=Ul.on λb hb=>by rw[e5,V' b (by rw[e2];omega),LD b (Ar e2),e2]
  let hR:∀b,R b->Hd b:=λb hb=>Ln b (Lm b (K0 b (MR b (hg1.1 b hb))));refine E_.to 0 (q:=Ak F5 [2,3]::[Aw (.cond (Aa 13) .ret .skip),Ks 1,NW jF,Ks 0]) A8 λm U=>?_;refine Be.yield (x:=Aa 10) (y:=Aa 11) (u:=EH (II P j)) (ats:=#[85]) (oo:=F5.getD 2 default) A8 A8 A8 A8 A8 D.FV U.H (λh=>absurd (CF _ h) A') λd=>?_;refine aWH h2 hn CF (by have:=N.Tn hd λj h=>Pb.2 (hj j h);rw[aHd]at this;omega) (W:=(Bd.at m).at d) (D.on λ_ _=>rfl) ⟨U.H.at d,(M.mono hR).upd λ_=>.agg (.cons (.string _) (.cons (.string _) .nil)),U.S⟩ λJt aIc aM Wo aMv a7_ Um=>?_;rw[Uh (o:=F5.getD 2 default) (d:=Z 12) A8 A8];show Ce Wb (G (Fr (J,[]) 385 ((Ax 14 _).setIfInBounds 12 (Ag A5)) _) _) _ _;rw[Qj];let Gg:Ap 14 [0,10] AU gc Wb Jt aIc (BQ _ 12 (Ag A5)):=⟨aMv,(U.V.mono Wo).upd λ_=>.bool _,λb hb=>⟨Wo b (U.S b hb).1,a7_ b hb⟩⟩;refine Ap.to (s:=(BQ _ 12 (Ag A5),Ak F5 [3]::[Aw (.cond (Aa 13) .ret .skip),Ks 1,NW jF,Ks 0])) Gg 6 (q:=aAt) A8 λm JU=>a90 E5 FE hc y4 h2 hn CF k t Av (gC.2 ⟨hd,AD,λa ha b hb e=>E9 (by simp at hb;rwa[<-hb,<-e])⟩) (λi hi=>?_) (Um.on λ_ _=>rfl) JU (M.mono λb hb=>Wo b (hR b hb)) A8 A8;rcases E8.1 hi with hi|hi;.exact hj i hi
  simp at hi;omega
def aJ'{Ay:Nat}(E5:w.heap[bi]?=Z (B4 (Ba P) c))(hc:P<=c)(y4:P.length<=1000000)(Lp:w.heap[Ay]?=Z (A7 #[AL (Z bi)] 131))(C:CC Wb R w)(Et:Ey R #[A0 J 0 0,Br (Bo 385) #[] #[AT Ay]]):HJ 423 #[A0 J 0 0,Br (Bo 385) #[] #[AT Ay]] Wb R w (a2T P w):=by
 intro x c' cs';let Ws:R Ay:=by let h:=Ey.nth Et 1 rfl;cases h with|func _ _ h=>cases h with|cons h _=>exact AK.Kf h
 let Hm:R bi:=by obtain⟨o,e,k⟩:=C.closed.heap Ay Ws;rw[Lp]at e;cases e;cases k with|cells _ h _=>exact AK.Q6 (Al.nth 0 h rfl)
 let hn:∀b,R b->b<w.heap.size:=λb hb=>C.closed.lt hb;refine Be.enter 13 rfl ?_;let S0:Ap 13 [] w R Wb R (w.at x) (Ep 423 #[A0 J 0 0,Br (Bo 385) #[] #[AT Ay]]).1:=⟨C.at x,Cb.Ep Et,λb hb=>⟨hb,rfl⟩⟩;refine S0.alloc (A7 #[A0 J 0 0] 57) (e:=2) A8 (λ_ _ h=>aWg (x:=Aa 0) h A8) λip I t0 Er Ez Y HP=>?_;let Y:I.heap.size=w+1:=Y;refine t0.to 8 (q:=[Aw (rF (Aa 6) #[7] bq U_),Ks 0,Aw (sndC (sndC (J1 423)))]) A8 λm v9=>?_;generalize D:(D2 13 [] 8 _).1=F_ at v9⊢;let h2:F_ 2=AT w:=by rw[<-D];kernel_rfl
 refine Be.range (n':=13) (g:=385) (cap:=#[AT Ay]) (by show F_ 6=_;rw[<-D];kernel_rfl) A8 v9.H λN e3=>?_;rw[show I.at m=AR w+1 from Y]at e3⊢;let e3:N.heap=(I.heap.push (PM (Z []))).push (FV M7 423 (Ax 13 F_) #[7] bq U_ (AR w+1)):=e3;let LD:∀b,b<I.heap.size->N.heap[b]?=I.heap[b]?:=λb hb=>by rw[e3,KF Av,Array.getElem_push_lt hb,G8 hb]
 let Mc:N.heap.size=w+3:=by rw[e3];simp;omega
 let m9:=v9.V;let aMt:CC Wb ip N:=t0.H.keep (λb hb=>LD b (t0.H.closed.lt hb)) A';show Ce Wb (G (Fa A6 385 #[Br (U4 (AR w+2)) #[] #[],AT Ay] EI) _) N _;refine Be.enter 14 rfl ?_;let Bu:Ap 14 [0,10] w R Wb ip N (Ep 385 #[Br (U4 (AR w+2)) #[] #[],AT Ay]).1:=⟨aMt,λj hj hd=>?_,λb hb=>⟨Er b hb,(LD b (BO (hn b hb))).trans (HP b (hn b hb))⟩⟩;rotate_left;.match j,hd with|1,_=>exact .ptr ⟨⟨rfl,Er Ay Ws⟩,rfl,rfl⟩|j+2,_=>exact AK.undef
 refine Bu.calm (AL (Z bi)) (e:=4) A8 (λx T _ h=>⟨_,aX2 (x:=Aa 1) h A8 ((Bu.S Ay Ws).2.trans Lp),rfl⟩) λIA w4 Cj Lm e4=>?_;let LJ:w4=AR w+3:=Ar e4;refine Cj.op (λu I=>u=AT (AR w+3)/\I.heap=w4.heap.push (NZ (Z bi) c #[] c)) (d:=Z 5) A8 (λx T o h=>⟨_,_,_,aXJ (x:=Aa 4) h A8 ((Cj.S bi Hm).2.trans E5),AA rfl,Af LJ.symm,rfl⟩) λHd u a_J z aPX⟨hu,e5'⟩cg e5 vy=>?_;subst hu;let e5:=e5.trans e5';let TY:∀b,b<N.heap.size->z.heap[b]?=N.heap[b]?:=λb hb=>by rw[e5,e4,KF hb,G8 hb]
 let E_:Ap 14 [0,10] w R Wb Hd z (EB (BM 14 [0,10] _) 5 (AT (w+3))).1:=⟨vy,(Cj.V.BM.mono cg.1).upd λ_=>aPX,λb hb=>⟨cg.1 b (Cj.S b hb).1,As (TY b (by have:=hn b hb;omega)) ((Bu.S b hb).2)⟩⟩;refine E_.to 3 A8 λadL Dh=>a90 E5 Hm hc y4 h2 hn (λb hb=>C.low b hb) ?_ (P+1) AD .nil (λj hj=>by cases hj) ⟨?_,?_,?_,?_,⟨rfl,AA ⟨rfl,rfl⟩⟩⟩ Dh (m9.mono λb hb=>cg.1 b (Lm b hb)) A8 A8
 .intro Bi v Jt W S_ hL w5 Fi S3;let hz:=hL.size;let M:∀i,¬Wb (w+i):=λi h=>absurd (C.low _ h) A';refine .ctl rfl (λ_=>stepG_end (b:=B5 385) (a:=⟨Ax 14 S_,[]⟩)) λd1=>?_;refine .ctl rfl (λw=>zn rfl rfl Tryz.func385 (results385 _)) λd2=>?_;show Ce Wb (G ((B5 423).at ⟨Ax 13 F_,[⟨b8 (w+1),#[]⟩]⟩ [.endRangeFunc (w+2),Ks 0,Aw (sndC (sndC (J1 423)))]) (c'::cs')) _ _;refine Ce.SS rfl (λd=>aYV hL.FV) (Fi.H.heap rfl) (by show _<W.heap.size;omega) (M 2) λHG JW=>?_;let w8:=(hL.on (W':=(W.at d1).at d2) λ_ _=>rfl).zu .exhausted JW;let Gg:Ap 13 [] w R Wb Jt HG _:=Ap.SS (w:=(W.at d1).at d2) ⟨Fi.H.heap rfl,S3,Fi.S⟩ (Fi.H.pP QB hL.FV) JW;obtain⟨DJ,C3,rfl⟩:=EA w8.row;show Fz (J,[⟨b8 (w+1),#[]⟩]) 423 13 (c'::cs') Wb HG (F_,[Ks 0,Aw (sndC (sndC (J1 423)))]) _;refine Ap.fix [(2,AT w)] (by simp[h2]) Gg λGg=>?_;refine Gg.calm (A0 DJ Bi C3) (e:=12) A8 (λ_ _ _ h=>⟨_,aBq (x:=Aa 2) h A8 w8.box,rfl⟩) λOb Gt JU iD KX=>?_;refine JU.to 2 (q:=[Aw .ret]) A8 λy9 U=>?_;generalize aPZ:(D2 13 [] 2 _).1=qU at U⊢;let h4:qU 4=A0 DJ Bi C3:=by rw[<-aPZ];kernel_rfl
  refine .ctl rfl (λ_=>stepG_ret' (b:=B5 423) (a:=⟨Ax 13 qU,[⟨b8 (w+1),#[]⟩]⟩)) λd3=>?_;let Un:=w8.on (W':=(Gt.at y9).at d3) λb _=>by show Gt.heap[b]?=_;rw[KX]
  refine Ce.SS (f:=423) rfl (λd=>aYT (b:=B5 423) (T:=Ax 13 qU) (w:=((Gt.at y9).at d3).at d) Un.c9) (U.H.at d3) (BO Un.size) (M 1) λQM TJ=>?_;let Hg:=Ap.SS (w:=(Gt.at y9).at d3) ⟨U.H.at d3,U.V,U.S⟩ ((U.H.at d3).pP (AF ⟨_,rfl⟩) Un.c9) TJ;refine .ctl rfl (λw=>zn (b:=B5 423) (a:=⟨Ax 13 qU,[]⟩) rfl rfl Tryz.func423 (results423 _ (A0 DJ Bi C3) ((uG Ac).trans h4))) λd4=>?_;refine .here ⟨Ob,_,rfl,Hg.val 4 rfl h4,λb hb=>(Hg.S b hb).1,Hg.H.at d4,λb hb=>(Hg.S b hb).2,Bi.map (II P),keys_perm w5,?_⟩;rw[Gf];exact Q8 (Zu Un.row λb _ hb=>by show QM.heap[b]?=_;rw[TJ,Mm A']) A'
 .show z.heap[_]?=_;rwa[TY _ A',LD _ A']
 .show z.heap[_]?=_;rw[TY _ A',e3,KF Av];simp[<-Y]
 .show z.heap[_]?=_;rw[TY _ A',e3,show w+2=(I.heap.push (PM (Z []))).size by simp;omega,kW]
 show z.heap[_]?=_;rw[e5,<-LJ,kW]
end
def a2l(G:List Rel)(h:List (zz×zz))(v:A3)(w':A1):Prop:=∃g c L,v=A0 (Z ⟨g,0,J⟩) h c/\L.length=h.length/\T6 w' g L/\He L/\(names L).Perm h/\∀x∈L,x.rel∈G/\Iv w' (λ_=>True) x.BF x.rel.Bs
section
variable[Bg]
def aJ6{Wb:zy}{c':Ah}{cs':List Ah}{own:zz}{G:List Rel}{bl off u:Nat}(D:CC Wb R w)(H:∀b,BE b->R b)(hM:Pd reads BE w)(a7R:Reads w own r1 r2 a9 bi G)(i1:BE r1)(i2:BE r2)(S:BE a9)(oq:BE bi)(cd:∀r∈G,∀a,r.fa=Z a->BE a.block)(v1:Lg G)(hrel:∀r∈G,mu own r)(hver:∀r∈G,r.v.size<=40)(hbl:R bl)(cv:∀j p v,ms[j]?=Z (p,v)->w.cell? ⟨bl,off+j*2,J⟩=Z (A4 p)/\w.cell? ⟨bl,off+j*2+1,J⟩=Z (A4 v))(Gn:∀(j:Nat)p v,ms[j]?=Z (p,v)->∃i,∃hi:i<G.length,G[i].name=(p,v))(hn:ms.length<=1000000)(i3:0<ms.length):Ce Wb (Go.Conc.G (Fa A6 126 #[JD own r1 r2 a9 G cap bi,A0 (Z ⟨bl,off,J⟩) ms u] EI) (c'::cs')) w λBJ g' w'=>∃R' v,g'=Go.Conc.G (c'.finish v) cs'/\AK CK (C7 R') v v/\(∀b,R b->R' b)/\CC BJ R' w'/\(∀b,R b->w'.heap[b]?=w.heap[b]?)/\a2l G ms v w'/\∀b c,v=A0 (Z ⟨b,0,J⟩) ms c->¬R b:=by
 refine .Km (aL7 D.low A') ?_;rintro g I⟨v,rfl,⟨h1,h2,h5⟩,cW,iS⟩;intro Wc U Z7 J4 gs sl t q J5;have iG:∀b,¬Wb b->¬Wc b:=λb h x=>h (Z7▸AA x);have a5s:∀b,U b->Wb b:=λb h=>Z7▸AF h;have Dc:I.heap.size=w.heap.size+3:=by rw[iS];simp
 have a3e:∀b,b<w.heap.size->I.heap[b]?=w.heap[b]?:=λb hb=>by rw[iS,KF Av,<-G8,KF Av,<-G8,KF hb,<-G8]
 have E3:I.heap[w.heap.size]?=Z (A7 #[own,AL (Z r1),AL (Z r2),A0 (Z ⟨a9,0,J⟩) G cap,AL (Z bi)] 138):=by rw[iS,KF Av,<-G8,KF AD,<-G8,eN,if_pos rfl]
 have CW:I.heap[w.heap.size+1]?=Z (.chan ms #[] A9 0 0 A9):=by rw[iS,KF AD,<-G8,eN,if_pos AD]
 have b2:I.heap[w.heap.size+2]?=Z (A7 #[.chan (Z (w+1))] 316):=by rw[iS,eN,if_pos AD]
 let d:=λb=>BE b∨b=w;let rc:=λb=>R b∨b=w;have Y:∀b,R b->b<w:=λb hb=>D.closed.lt hb;have aNN:=λb hb=>iG b (D.closed.off b hb);have wC:∀b,w.heap.size<=b->¬Wc b:=λb hb=>iG b λh=>BO (D.low b h);have aO:∀b,b<I.heap.size->(QF Wc d G ms (c'::cs') bl off u gs I w.heap.size).AU.heap[b]?=I.heap[b]?:=λb hb=>by show(I.heap.push _)[b]?=_;rw[KF hb,<-G8]
 have D':∀b o v,b<w.heap.size->Cf w b o v->(QF Wc d G ms (c'::cs') bl off u gs I w).AU.cell? ⟨b,o,J⟩=v:=λb o v hb hv=>(C8 ((aO b A').trans (a3e b hb))).trans hv;have FK:=λb hb=>(aO b A').trans (a3e b hb);have oS:∀b,rc b->(QF Wc d G ms (c'::cs') bl off u gs I w.heap.size).old b:=λb hb=>by
  show b<I+1/\¬Wc b/\b≠I/\b≠w+1;rcases hb with hb|rfl;.have:=Y b hb;exact⟨A',aNN b hb,A',A'⟩
  exact⟨A',wC _ (Ad _),A',A'⟩
 have aOf:Pd reads d (QF Wc d G ms (c'::cs') bl off u gs I w).AU:=by
  refine⟨λb hb=>?_,λb hb=>AA (hM.Ca b hb),?_⟩
  .rcases hb with hb|rfl;.let⟨o,e,k,z⟩:=hM.heap b hb;exact⟨o,(FK b (hM.lt hb)).trans e,k.mono (Q5 λc y=>AA y),z⟩
   refine⟨_,(aO _ A').trans E3,.cells _ (.cons (.string _) (.cons (.map ⟨rfl,AA i1⟩) (.cons (.map ⟨rfl,AA i2⟩) (.cons (.slice _ _ ⟨⟨rfl,AA S⟩,rfl,rfl⟩) (.cons (.map ⟨rfl,AA oq⟩) .nil))))) (.refl _),λc t p e=>?_⟩;cases e;rfl
  show CX<=I.heap.push _;have:=hM.low;simp;omega
 have aPA:Reads (QF Wc d G ms (c'::cs') bl off u gs I w).AU own r1 r2 a9 bi G:=by let⟨⟨m,hm⟩,⟨c1,e1⟩,⟨c2,e2⟩,⟨c3,e3⟩,e4⟩:=a7R;refine⟨⟨m,D' _ _ _ (Cn (h:=hm)) hm⟩,⟨c1,(FK _ (hM.lt i1)).trans e1⟩,⟨c2,(FK _ (hM.lt i2)).trans e2⟩,⟨c3,(FK _ (hM.lt oq)).trans e3⟩,λi hi=>?_⟩;let⟨x0,x1,x2,x3⟩:=e4 i hi;exact⟨D' _ _ _ (hM.lt S) x0,D' _ _ _ (hM.lt S) x1,D' _ _ _ (hM.lt S) x2,D' _ _ _ (hM.lt S) x3⟩
 have aPL:a3A (QF Wc d G ms (c'::cs') bl off u gs I w).AU own w r1 r2 a9 cap bi G d:=⟨aOf,AF rfl,AA i1,AA i2,AA S,AA oq,(aO _ A').trans E3,aPA,λr hr a ha=>AA (cd r hr a ha),v1,hrel⟩;have aNr:Closed CK (QF Wc d G ms (c'::cs') bl off u gs I w).X.BJ rc (QF Wc d G ms (c'::cs') bl off u gs I w).AU:=by
  refine⟨λb hb=>?_,λb hb=>?_,λb hb=>AA (D.closed.Ca b hb)⟩
  .rcases hb with hb|rfl;.let⟨o,e,k⟩:=D.closed.heap b hb;exact⟨o,(FK b (Y b hb)).trans e,k.mono (Q5 λc y=>AA y)⟩
   exact⟨_,(aO _ A').trans E3,.cells _ (.cons (.string _) (.cons (.map ⟨rfl,AA (H _ i1)⟩) (.cons (.map ⟨rfl,AA (H _ i2)⟩) (.cons (.slice _ _ ⟨⟨rfl,AA (H _ S)⟩,rfl,rfl⟩) (.cons (.map ⟨rfl,AA (H _ oq)⟩) .nil))))) (.refl _)⟩
  have h:=oS b hb;rintro(x|x);.exact h.2.1 x
  exact h.2.2.1 x
 have aNR:=λb hb=>D.low b (a5s b hb);have aNT:∀b,U b->(QF Wc d G ms (c'::cs') bl off u gs I w).old b/\¬rc b/\b≠(QF Wc d G ms (c'::cs') bl off u gs I w).B5:=λb hb=>by
  have h1:=aNR b hb;refine⟨?_,λx=>?_,?_⟩;.show b<I+1/\¬Wc b/\b≠I/\b≠w+1;exact⟨A',(J4 b hb).1,A',A'⟩
  .rcases x with x|x;.exact D.closed.off b x (a5s b hb)
   omega
  show b≠w+2;omega
 let⟨m,hm⟩:=a7R.Ca;have abc:=Cn (h:=hm);have aNo:WJ Wc I (w+1) (I+1) (w+2):=⟨A',wC _ A',A',A'⟩;have aNp:Du Wc I (w+1):=⟨A',wC _ A'⟩;have aPJ:∀C0,gT ((QF Wc d G ms (c'::cs') bl off u gs I w).from C0) d (JD own r1 r2 a9 G cap bi) (a2x G):=λC0=>aXV aPL (λb hb=>oS b (hb.imp (H b) id)) aNo ⟨_,_,(aO (w+2) A').trans b2⟩ rfl Gn;obtain⟨N,DI,g',w',sl',v4,q',UX,hrun,hc,aNS,hk,Ia,v,w2,w3,sm,rfl,hv,hle,aMx,⟨hq,Px⟩,hh⟩:=aMC (T:=v) (Q:=λ_ v w2 I=>a3B G ms v w2 I/\∀b,R b->b<w2/\(∀g c,v=BG g 0 ms c->g≠b)/\w2.heap[b]?=w.heap[b]?) aNT rfl rfl rfl (by show ms.length<_;omega) (λj p v hj=>⟨D' _ _ _ (Y _ hbl) (cv j p v hj).1,D' _ _ _ (Y _ hbl) (cv j p v hj).2⟩) (AA hbl) aPJ (λC0=>aYF _ _ _ _ _ _ _ _ _ _ _ C0) rfl (λi v M w w'=>WQ.aYG) rfl rfl rfl rfl ⟨λx hx=>by simp only[F3.HM,DO,IX,or_false]at hx;rcases hx with rfl|rfl|rfl<;>assumption,cW⟩ ⟨A9,CW⟩ aNp aNr (λb hb=>hb.imp (H b) id) oS λsm wa HH v B C1 FD hnd hC Q3 hB hfr hown T0=>by
  have adB:=by have h:(I.heap.push _).size<=wa:=Q3;simpa using h
  have nw:∀b,R b->HH.heap[b]?=w.heap[b]?:=λb hb=>by have:=Y b hb;rw[hfr b A' (by show b≠w+1;omega),C1 b (oS b (AA hb)),FK b this]
  have K5:=(C8 (nw 0 (H _ (hM.Ca 0 Ac)))).trans hm;refine(aY5 hver hn i3 FD hnd hC hB hfr K5 A' hown T0).mono ?_;rintro e w4⟨rfl,hq⟩;refine⟨rfl,hq,λb hb=>⟨?_,λBv c e=>?_,nw b hb⟩⟩;.have h:=nw b hb;rw[G8 (Y b hb)]at h;exact B3 h
  subst e;have:=(hown.lt Bv rfl).1;have:=Y b hb;omega gs sl t q rfl J5;refine⟨N,DI,_,w',sl',v4,q',UX,hrun,hc,aNS,⟨hk.os,hk.output,Dn (by show I<=(I.heap.push _).size;simp) hk.size,λb hb hl=>(hk.same b hb (by show b<I.heap.push _;simp;omega)).trans (aO b hl)⟩,Ia,v,rfl,hv,λb hb=>hle b (AA hb),aMx,λb hb=>?_,?_,λb c hv hb=>(Px b hb).2.1 b c hv rfl⟩;.obtain⟨Bv,c,L,rfl,_,_,_,_,_,_,hbk⟩:=hq;let⟨k1,k2,F5⟩:=Px b hb;rw[hh,hbk b k1 (k2 Bv c rfl).symm,F5]
 let⟨Bv,c,L,e,hlen,hat,hord,hnm,hG,_⟩:=hq;refine⟨Bv,c,L,e,hlen,λj hj=>?_,hord,hnm,λx hx=>⟨(hG x hx).1,(hG x hx).2.same λb _=>by rw[hh]⟩⟩;let⟨⟨x0,x1,x2,x3,x4,x5,x6,x7⟩,hmd⟩:=hat j hj;have C:∀a,w'.cell? a=w3.cell? a:=λa=>by simp[Cr,hh]
 refine⟨⟨(C _).trans x0,(C _).trans x1,(C _).trans x2,(C _).trans x3,(C _).trans x4,(C _).trans x5,(C _).trans x6,(C _).trans x7⟩,?_⟩;rcases hmd with h|⟨g2,c2,e2,h⟩;.exact AA h
 exact AF ⟨g2,c2,e2,λk hk=>⟨(C _).trans (h k hk).1,(C _).trans (h k hk).2⟩⟩
end
def Ej(d9:List Rel)(m:AW):List AW:=((d9.find? λr=>BK (r.name=m)).map Rel.Bs).getD []
theorem dW(I:Lg d9){r}(h:r∈d9):Ej d9 r.name=r.Bs:=by unfold Ej;cases e:d9.find? λx=>BK (x.name=r.name)with|none=>grind|some x=>obtain⟨i,hi,rfl⟩:=Mw.1 h;obtain⟨j,hj,rfl⟩:=Mw.1 (List.mem_of_find?_eq_some e);obtain rfl:=I.inj hj hi (Ai (List.find?_some e));rfl
def aA2{d9}(I:Lg d9):∀{L},(∀x∈L,x.rel∈d9)->GY L=(names L).flatMap (Ej d9)|[],_=>rfl|x::L,h=>by show x.rel.Bs++GY L=Ej d9 x.rel.name++(names L).flatMap (Ej d9);rw[aA2 I (L:=L) λy hy=>h y BA,dW I (h x AD)]
def aTC(A L):GY (A++L)=GY A++GY L:=by simp[GY]
def aT6(A L):names (A++L)=names A++names L:=by simp[names]
theorem yR{c}:∀{L},(∀x∈L,x.rel.Bs.length<=c)->(GY L).length<=L.length*c|[],_=>by simp[GY]|x::L,h=>by have I:=yR (L:=L) λy hy=>h y (by simp[hy]);show(x.rel.Bs++GY L).length<=(L.length+1)*c;grind
structure Whole(d9:List Rel)(rt:List AW)(own:zz):Prop where
 ok:Lg d9
 rel:∀r∈d9,mu own r
 AI:∀r∈d9,r.v.size<=40
 Rz:d9.length<=1000
 short:∀r∈d9,r.Bs.length<=1000
 Bs:∀r∈d9,∀m∈r.Bs,∃x∈d9,x.name=m
 root:∀m∈rt,∃x∈d9,x.name=m
 roots:rt.length<=1000
def Whole.reach{rt own}(h:Whole d9 rt own){m}(hr:N.Reach (Ej d9) rt m):∃x∈d9,x.name=m:=by induction hr with|root hx=>exact h.root _ hx|step _ hy I=>let⟨x,hx,e⟩:=I;rw[<-e,dW h.ok hx]at hy;exact h.Bs x hx _ hy
theorem Whole.len{rt:List AW}{own:zz}(h:Whole d9 rt own){F A X:List AW}(hr:N.UR (Ej d9) rt F A X):A+X.length<=d9:=by
 let I:=N.Tn hr.nodup λm hm=>by let⟨x,hx,e⟩:=h.reach (hr.reach m hm);exact Bt.2 ⟨x,hx,e⟩
 let h2:=hr.perm.length_eq;grind
structure n0(AU:A1)(gc BE:zy)(own:zz)(r1 r2 a9 bi:Nat)(d9:List Rel):Prop where
 sub:∀b,BE b->gc b
 Gp:Pd reads BE AU
 reads:Reads AU own r1 r2 a9 bi d9
 og:BE r1
 oh:BE r2
 oi:BE a9
 oj:BE bi
 files:∀r∈d9,∀a,r.fa=Z a->BE a.block
 low:∀b,gc b->b<AU
theorem Reads.same{own}(h:Reads w own r1 r2 a9 bi d9)(h0:BE 0)(I:BE r1)(h2:BE r2)(hb:BE a9)(hp:BE bi)(hi:∀b,BE b->w'.heap[b]?=w.heap[b]?):Reads w' own r1 r2 a9 bi d9:=by let hc:∀b o v,BE b->Cf w b o v->Cf w' b o v:=λb o v hb hv=>(C8 (hi b hb)).trans hv;let⟨⟨m,g⟩,⟨c1,e1⟩,⟨c2,e2⟩,⟨c3,e3⟩,e4⟩:=h;refine⟨⟨m,hc _ _ _ h0 g⟩,⟨c1,(hi _ I).trans e1⟩,⟨c2,(hi _ h2).trans e2⟩,⟨c3,(hi _ hp).trans e3⟩,λi hj=>?_⟩;let⟨a,b,c,d⟩:=e4 i hj;grind
structure gU(d9:List Rel)(rt:List AW)(own:zz)(r1 r2 a9 cap bi b2 r:Nat)(gc:zy)(AU:A1)(R:zy)(av fv:A3)(A:List BI)(F X:List AW)(w:A1):Prop where
 old:∀b,gc b->R b/\w.heap[b]?=AU.heap[b]?
 size:AU.heap.size<=w
 box:w.heap[b2]?=Z (A7 #[own,AL (Z r1),AL (Z r2),A0 (Z ⟨a9,0,J⟩) d9 cap,AL (Z bi)] 138)
 new:AU<=r
 found:Found w r F (rt+GY A)
 all:w.ownsRow AU 234 8 av A (HF A)
 LL:∀x∈A,x.rel∈d9/\Iv w R x.BF x.rel.Bs
 fresh:w.ownsRow AU 85 2 fv X (Bb X)
 round:N.UR (Ej d9) rt F (names A) X
def QD{e s k:Nat}(h:w.ownsRow B e s v k xs)(hs:∀b,v.ownBlock=Z b->w'.heap[b]?=w.heap[b]?):w'.ownsRow B e s v k xs:=by let⟨x,y⟩:=h;refine⟨x,y.imp id ?_⟩;rintro⟨g,cap,cur,I,h2,h3,h4⟩;subst I;exact⟨g,cap,cur,rfl,h2,Ar (hs g rfl),h4⟩
def aA_{B' e s k:Nat}(h:w.ownsRow B e s v k xs)(hB:B'<=B):w.ownsRow B' e s v k xs:=by let⟨x,y⟩:=h;refine⟨x,y.imp id ?_⟩;rintro⟨g,cap,cur,I,h2,h3,h4⟩;exact⟨g,cap,cur,I,A',h3,h4⟩
theorem aAa{e s k:Nat}(h:w.ownsRow B e s v k xs)(hb:v.ownBlock=b):∃cur,w.heap[b]?=Z (A7 cur e (0,0)):=by
 rcases h.2 with⟨rfl,_⟩|⟨g,cap,cur,rfl,_,h3,_⟩;.cases hb
 obtain rfl:=CP hb;grind
def AK.QC(h:AK CK (C7 R) v v)(hb:v.ownBlock=b):R b:=by match v,hb with|A0 (Z ⟨b',o,s⟩) l c,hb=>obtain rfl:=CP hb;exact AK.V5 h
theorem Iv.at{R'}(h:Iv w R BF l)(hR:∀b,R b->R' b)(hs:∀b c q,R b->w.heap[b]?=Z (A7 c 85 q)->w'.heap[b]?=w.heap[b]?):Iv w' R' BF l:=by
 rcases h with h|⟨g,cap,cur,q,a,b,c,d⟩;.exact AA h
 exact AF ⟨g,cap,cur,q,a,hR g b,BA,d⟩
def aQy{Wb j x}(I:CC Wb R w)(hg:R g)(hc:Pe w g j x)(hl:Iv w (λ_=>True) x.BF l):Iv w R x.BF l:=by
 rcases hl with h|⟨g2,c2,cur,q,a,_,c,d⟩;.exact AA h
 refine AF ⟨g2,c2,cur,q,a,?_,c,d⟩;let⟨o,e,k⟩:=I.closed.heap g hg;let h7:=hc.E4;let⟨cc,t,p,e'⟩:=a3w h7;rw[e]at e';obtain rfl:=CP e';rw[A_ e]at h7;cases k with|cells _ hv _=>have:=Al.nth _ hv (Ai h7);rw[a]at this;exact AK.V5 this
def pn{j x}(h:Pe w g j x)(e:w'.heap[g]?=w.heap[g]?):Pe w' g j x:=by let hc:∀o v,Cf w g o v->Cf w' g o v:=λo v hv=>(C8 e).trans hv;exact⟨hc _ _ h.c0,hc _ _ h.c1,hc _ _ h.c2,hc _ _ h.c3,hc _ _ h.c4,hc _ _ h.c5,hc _ _ h.Dj,hc _ _ h.E4⟩
def a9Y(h:EL w v l)(e:w'.heap=w.heap):EL w' v l:=by
 let hc:∀a,w'.cell? a=w.cell? a:=λa=>by simp[Cr,e]
 rcases h with h|⟨g,c,I,h2⟩;.exact AA h
 exact AF ⟨g,c,I,λj hj=>⟨(hc _).trans (h2 j hj).1,(hc _).trans (h2 j hj).2⟩⟩
def aBQ{L}(h:T6 w g L)(e:w'.heap=w.heap):T6 w' g L:=λj hj=>⟨pn (h j hj).1 (by rw[e]),a9Y (h j hj).2 e⟩
def aE{L}(h:Hf w v L)(e:w'.heap=w.heap):Hf w' v L:=by
 rcases h with h|⟨g,c,I,h2⟩;.exact AA h
 exact AF ⟨g,c,I,aBQ h2 e⟩
def TF{o:Cq}(h:w.heap[b]?=o):b<w:=B3 h
def aSj(w):(Instr.makeMap 131 J).run A6 w=.ok (AL (Z w)) (w.alloc (B4 #[] 0)):=rfl
def aVn{L}(h:T6 w g L)(j)(u)(hj:(HF L)[j]?=Z u):w.cell? ((⟨g,0,J⟩:An).add j)=Z u:=by
 let hlt:j<L*8:=by rw[<-aBR];exact Po hj
 rw[Ea];have hq:j/8<L:=A';have ho:j%8<8:=A';have he:j=j/8*8+j%8:=A';let hr:=(h _ hq).1;generalize j/8=q at hq he hr;generalize j%8=o at ho he;subst he;let G:=λu' hu=>po L q hq o u' ho hu;rw[hj]at G;match o,ho,G with|0,_,G=>exact hr.c0.trans (G _ rfl).symm|1,_,G=>exact hr.c1.trans (G _ rfl).symm|2,_,G=>exact hr.c2.trans (G _ rfl).symm|3,_,G=>exact hr.c3.trans (G _ rfl).symm|4,_,G=>exact hr.c4.trans (G _ rfl).symm|5,_,G=>exact hr.c5.trans (G _ rfl).symm|6,_,G=>exact hr.Dj.trans (G _ rfl).symm|7,_,G=>exact hr.E4.trans (G _ rfl).symm
def aVp(L):∀u∈HF L,u.oneCell'=A5:=by intro u hu;simp only[HF,YX]at hu;let⟨x,_,hx⟩:=hu;simp at hx;rcases hx with rfl|rfl|rfl|rfl|rfl|rfl|rfl|rfl<;>rfl
def aY1(f)(w):Ab A6 128 #[A0 J 0 0,f] w λe w'=>e=AV (Aj #[])/\w'=w:=aF9 Tryz.aCE J 0 f w
structure mj(d9:List Rel)(rt:List AW)(R R':zy)(w:A1)(u:A3)(A:List BI)(w':A1):Prop where
 same:∀b,R b->w'.heap[b]?=w.heap[b]?
 sl:Hf w' u A
 LL:∀x∈A,x.rel∈d9/\Iv w' R' x.BF x.rel.Bs
 order:He A
 nodup:(names A).Nodup
 reach:∀m,m∈names A↔N.Reach (Ej d9) rt m
def SI(h:EL w v l)(e:∀g,v.ownBlock=Z g->w'.heap[g]?=w.heap[g]?):EL w' v l:=by
 rcases h with h|⟨g,c,rfl,h2⟩;.exact AA h
 let hc:=λo=>C8 (a:=⟨g,o,J⟩) (e g rfl);exact AF ⟨g,c,rfl,λj hj=>⟨(hc _).trans (h2 j hj).1,(hc _).trans (h2 j hj).2⟩⟩
section
variable{ρ:BP->A3}{w:A1}{o:B8}{x:BP}{own:zz}{r1 r2 a9 n cap bi b:Nat}{a:Option An}
def aWe(ho:o.op=.box 138 x)(hx:ρ x=JD own r1 r2 a9 n cap bi):(AM ρ o).run A6 w=.ok (BB (AT w)) (w.alloc (A7 #[own,AL (Z r1),AL (Z r2),A0 (Z ⟨a9,0,J⟩) n cap,AL (Z bi)] 138)):=by unfold AM;rw[ho];simp only[hx];kernel_rfl
def aXC(ho:o.op=.makeMap 131 J):(AM ρ o).run A6 w=.ok (BB (AL (Z w))) (w.alloc (B4 #[] 0)):=by unfold AM;rw[ho];kernel_rfl
def aWs(ho:o.op=OP 138 x 0)(hx:ρ x=AT b):(AM ρ o).run A6 w=.ok (BB (AT b)) w:=by unfold AM;rw[ho];simp[go_sem,hx]
def aX4{d e i j u}(ho:o.op=ED 134 x)(hx:ρ x=AT b)(h:w.heap[b]?=Z (A7 #[d,e,i,j,u] 138)):(AM ρ o).run A6 w=.ok (BB (AH #[d,e,i])) w:=by unfold AM;rw[ho];simp[go_sem,hx,Cr,h]
def aX6{d e i j u}(ho:o.op=ED 138 x)(hx:ρ x=AT b)(h:w.heap[b]?=Z (A7 #[d,e,i,j,u] 138)):(AM ρ o).run A6 w=.ok (BB (AH #[d,e,i,j,u])) w:=by unfold AM;rw[ho];simp[go_sem,hx,Cr,h]
def aBs(ho:o.op=Em {callee:=Fw .len,args:=#[x],argTypes:=#[57]})(hx:ρ x=A0 a n cap):(AM ρ o).run A6 w=.ok (BB n) w:=by unfold AM;rw[ho];simp[go_sem,hx]
def aWz(ho:o.op=.binOp .gtr 3 x (.const (AB AJ 0)) 3)(hc:ρ (.const (AB AJ 0))=AB AJ 0)(hx:ρ x=n):(AM ρ o).run A6 w=.ok (BB (Ag (BK (0<n)))) w:=by unfold AM;rw[ho];simp[go_sem,hx,hc]
def aWa{ρ:BP->A3}{B g c:Nat}{v:A3}{L:List BI}(hown:w.ownsRow B 234 8 v A (HF A))(hat:T6 w g L)(hlen:A+L.length<=1000000)(hB:B<=w)(x T0)(ho:o.op=Em {callee:=Fw QR,args:=#[Aa 22,Aa 23],argTypes:=#[130,130]})(I:ρ (Aa 22)=v)(h2:ρ (Aa 23)=A0 (Z ⟨g,0,J⟩) L c):∃h v' w',(AM ρ o).run A6 (on (w.at x) T0)=.ok h w'/\Sb h v'/\w'.ownsRow B 234 8 v' (A++L) (HF (A++L))/\w.heap.size<=w'/\∀k,k<w.heap.size->Z k≠v.ownBlock->w'.heap[k]?=w.heap[k]?:=by let⟨i0,hi,hz0,hz1,hz2⟩:=FJ Go.Proofs.YtcfhleenecfghaaGreatDoor.a8D;let⟨v',w',e1,e2,e3,_⟩:=aFy (on (w.at x) T0) B 130 o.type 234 i0 (AH #[A4 ⟨#[]⟩,A4 ⟨#[]⟩,A4 ⟨#[]⟩,A4 ⟨#[]⟩,A4 ⟨#[]⟩,A0 J 0 0,AX 0,A0 J 0 0]) 8 136 lU hi hz0 hz1 hz2 rfl Ac v _ _ (QD hown λ_ _=>rfl) ⟨g,0,J⟩ L c (HF L) (aBR L) (aVn (aBQ hat rfl)) (aVp L) DQ A' hB;refine⟨_,v',w',?_,AA rfl,by rwa[aVo,DV],e3.size,e3.block⟩;unfold AM;simp only[ho,KQ,Ra,lj,YA,lX,lW,JO,Ee,Iw,I,h2,e1]
end
def aDP(K l:List AW)(M r:Nat)(h:Array Cq)(fv:A3)(w':A1):Prop:=w'.ownsRow h 85 2 fv (N.fresh K l) (Bb (N.fresh K l))/\Found w' r (K++N.fresh K l) (M+l)/\h.size<=w'/\∀b,b<h.size->b≠r->w'.heap[b]?=h[b]?
theorem a3L{r M:Nat}{K:List AW}{w1:A1}(e:w.heap=w1.heap)(hf:Found w1 r K M)(hnd:K.Nodup)(N:∀m∈K,D6 m)(hown:w1.ownsRow B 85 2 BF l (Bb l))(hr:r<B)(hl:∀m∈l,D6 m)(hM:M+l<=1000000000):Ab A6 124 #[AL (Z r),BF] w λe w'=>∃fv,e=AV fv/\aDP K l M r w1.heap fv w':=by
 have hown:=QD hown λ_ _=>by rw[e]
 refine(aIn r K M BF l w (hf.heap (by rw[e])) hnd N (VG hown) (λg c hg=>?_) hl hM).mono λU w'⟨fv,I,h2,h3,h4⟩=>⟨fv,I,?_⟩
 .rcases jR hown with⟨h,_⟩|⟨g',c',I,_,h3,h4⟩;.rw[h]at hg;cases hg
  grind
 rw[Hb]at h2 h3;rw[e]at h2;exact⟨h2,h3,As e.symm h4.size,λb hb hr=>by rw[<-e]at hb⊢;exact h4.block b hb hr⟩
noncomputable def a8h:DK:=R1 (R1 (fstC (sndC (sndC (sndC (sndC (J1 61)))))))
noncomputable def aUX:List Item:=[Aw a8h,NW a8h,Ks 0,Aw (sndC (sndC (sndC (sndC (sndC (J1 61))))))]
section
variable{d9:List Rel}{rt:List AW}{own:zz}{r1 r2 a9 cap bi b2 r:Nat}{gc BE:zy}{AU:A1}{c':Ah}{cs':List Ah}{Wb R:zy}{w w':A1}{av fv:A3}{A:List BI}{F X:List AW}{v:Nat->A3}
def gU.heap{R'}(h:gU d9 rt own r1 r2 a9 cap bi b2 r gc AU R av fv A F X w)(e:w'.heap=w.heap)(hR:∀b,R b->R' b):gU d9 rt own r1 r2 a9 cap bi b2 r gc AU R' av fv A F X w':=⟨λb hb=>⟨hR b (h.old b hb).1,As e ((h.old b hb).2)⟩,As e h.size,As e h.box,h.new,h.found.heap (by rw[e]),QD h.all λb _=>by rw[e],λx hx=>⟨(h.LL x hx).1,(h.LL x hx).2.at hR λb c q _ _=>by rw[e]⟩,QD h.fresh λb _=>by rw[e],h.round⟩
def aL'(C:Whole d9 rt own)(i:n0 AU gc BE own r1 r2 a9 bi d9){s:FC}(S:Ap 32 [] AU gc Wb R w s.1)(hc:Lj 32 (BM 32 [] s)=Z (128,#[av,Br (Bo 129) #[] #[]],30))(ha:(Rs [] (BM 32 [] s)&&Hh 128&&okF 128)=A5)(D:∀u,dh 61 32 (BM 32 [] (EB (BM 32 [] s) 30 u))=av)(H:∀u,(EB (BM 32 [] s) 30 u).1 5=av)(N:gU d9 rt own r1 r2 a9 cap bi b2 r gc AU R av fv A F [] w):Be 61 32 (c'::cs') Wb w s (kh gc AU c' cs' λu w'=>∃A R',mj d9 rt gc R' AU u A w'):=by
 let⟨hnd,hreach⟩:=N.round.done;let hlen:=C.len N.round;let ZF:=C.Rz;let Om:(names A).length=A:=by simp[names]
 rcases N.all.2 with⟨rfl,M⟩|⟨g,cp,cur,rfl,Oq,hcur,_⟩;.obtain rfl:=ma.1 M;exact S.lone hc ha (Q:=λ_ _=>True) (λT x=>(aY1 _ _).mono λe w'⟨h1,h2⟩=>⟨_,h1,trivial,λb _=>Af h2⟩) λY z u w1 U hk _=>U.ret (D u) (U.val 5 rfl (H u)) λd=>⟨[],z,λb hb=>(U.S b hb).2,AA ⟨rfl,rfl⟩,λx hx=>BA,.nil,hnd,hreach⟩
 let⟨m,hm⟩:=i.reads.Ca;let h0:=i.sub 0 (i.Gp.Ca 0 Ac);let a5S:=i.low 0 h0;let Jb:∀j(h:j<A.length),Pe w g j A[j]:=λj hj=>by let k:=λo u ho hu=>Lx N.all _ _ (po A j hj o u ho hu);exact⟨k 0 _ A' rfl,k 1 _ A' rfl,k 2 _ A' rfl,k 3 _ A' rfl,k 4 _ A' rfl,k 5 _ A' rfl,k 6 _ A' rfl,k 7 _ A' rfl⟩
 refine S.dT hc ha (Q:=λ_ w1=>∃I,I.Perm A/\He I/\(∀j(h:j<I.length),Pe w1 g j I[j])/\∀b,b<w.heap.size->b≠g->JE b w1 w) (λT x=>(aCF g cp m A (on (w.at x) T) A' (λx hx=>C.AI _ (N.LL x hx).1) A' (TF hcur) (λj hj=>pn (Jb j hj) rfl) (λo=>C' hcur o) ((C8 (N.old 0 h0).2).trans hm)).mono λe w'⟨h1,I,h2,h3,h4,_,h5⟩=>⟨_,h1,I,h2,h3,h4,h5⟩) (λu w1⟨I,_,_,_,h⟩b hb=>h b (RB (i.low b hb) N.size) (BO (i.low b hb))) λY z u w1 w2 U Er e2⟨I,hp,hord,hc',hbl⟩=>?_;let hnm:(names I).Perm (names A):=hp.map _;let hl:∀x∈I,x.rel∈d9/\Iv w2 z x.BF x.rel.Bs:=λx hx=>by let⟨h1,h2⟩:=N.LL x (hp.mem_iff.1 hx);refine⟨h1,h2.at Er λb c q hb e=>?_⟩;rw[e2];exact hbl b (TF e) λh=>by rw[h,hcur]at e;cases e
 exact U.ret (D u) (U.val 5 rfl (H u)) λd=>⟨I,z,λb hb=>(U.S b hb).2,AF ⟨g,cp,by rw[hp.length_eq],λj hj=>⟨pn (hc' j hj) (by show w2.heap[_]?=_;rw[e2]),pB (hl _ (Ci hj)).2⟩⟩,hl,hord,hnm.nodup_iff.2 hnd,λm=>(hnm.mem_iff).trans (hreach m)⟩
def aBd[Bg](d:Whole d9 rt own)(U:n0 AU gc BE own r1 r2 a9 bi d9):∀(k){Wb R w v av fv A F X},d9.length<A.length+k->Ap 32 [] AU gc Wb R w v->v 2=AT b2->v 5=av->v 6=AL (Z r)->v 7=fv->gU d9 rt own r1 r2 a9 cap bi b2 r gc AU R av fv A F X w->Be 61 32 (c'::cs') Wb w (v,aUX) (kh gc AU c' cs' λu w'=>∃A R',mj d9 rt gc R' AU u A w')
 |0,Wb,R,w,v,av,fv,A,F,X,hn,S,h2,h5,h6,h7,I=>by
  have h1:=d.len I.round;let h2:(names A).length=A:=by simp[names]
  omega
 |k+1,Wb,R,w,v,av,fv,A,F,X,hn,S,h2,h5,h6,h7,I=>by
  let hlen:=d.len I.round;let ZF:=d.Rz;let Om:(names A).length=A:=by simp[names]
  obtain⟨fa,fc,rfl⟩:=EA I.fresh;refine Ap.fix [(2,AT b2),(5,av),(6,AL (Z r)),(7,A0 fa X fc)] (by simp[h2,h5,h6,h7]) S λS=>?_;refine S.calm (AX X) (e:=17) (rfl) (λ_ _ _ h=>⟨_,aBs (x:=Aa 16) (a:=fa) (cap:=fc) h (rfl),rfl⟩) λip w1 t0 Er e1=>?_;refine t0.calm (Ag (BK (0<X.length))) (e:=18) (rfl) (λ_ _ _ h=>⟨_,aWz (x:=Aa 17) h rfl (rfl),rfl⟩) λFg w2 v9 MR e2=>?_;let I:=I.heap (e2.trans e1) λb hb=>MR b (Er b hb);cases X with
  |nil=>exact aL' d U v9 A8 (rfl) (λu=>rfl) (λu=>rfl) I
  |cons x X=>
   refine v9.calm (JD own r1 r2 a9 d9 cap bi) (e:=19) (rfl) (λ_ _ _ h=>⟨_,aX6 (x:=Aa 2) h (rfl) I.box,rfl⟩) λD w3 M K0 e3=>?_;let I:=I.heap e3 K0;let C1:∀b,BE b->JE b w3 AU:=λb hb=>(I.old b (U.sub b hb)).2;obtain⟨bl,h⟩:∃bl,fa=Z ⟨bl,0,J⟩/\JP w3 bl (x::X):=by
    rcases jR I.fresh with⟨h,_⟩|⟨g,c,h,_,h2,_⟩;.cases h
    cases h;exact⟨g,rfl,h2⟩
   obtain⟨rfl,aOd⟩:=h;let Hm:D r:=M.xh 6 rfl (rfl);let a6A:D b2:=M.jC 2 rfl (rfl);let aNm:D bl:=AK.V5 (M.val (u:=BG bl 0 (x::X) fc) 7 rfl (rfl));let a62:∀b,av.ownBlock=Z b->D b:=λb hb=>AK.QC (M.val 5 rfl (rfl)) hb;let li:=I.size;let hat:HJ 126 #[JD own r1 r2 a9 d9 cap bi,BG bl 0 (x::X) fc] Wb D w3 λv w'=>a2l d9 (x::X) v w'/\∀b c,v=BG b 0 (x::X) c->¬D b:=λx' c' cs'=>aJ6 (M.H.at x') (λb hb=>(I.old b (U.sub b hb)).1) (U.Gp.same C1 (by have:=U.Gp.low;show _<=w3.heap.size;omega)) (Reads.same U.reads (U.Gp.Ca 0 Ac) U.og U.oh U.oi U.oj C1) U.og U.oh U.oi U.oj U.files d.ok d.rel d.AI aNm λj p v hj=>by obtain⟨hlt,hg⟩:=bW.1 hj;have:=aOd j hlt;rw[hg]at this;rwa[My] (λj p v hj=>by obtain⟨r,hr,e⟩:=d.reach (I.round.reach _ (I.round.perm.mem_iff.1 (E8.2 (AF (Jq hj)))));obtain⟨i,hi,rfl⟩:=Mw.1 hr;exact⟨i,hi,e⟩) A' (Nat.zero_lt_succ _);refine M.call (e:=21) A8 A8 hat λTD IA u w4 Cj Y⟨hq,E9⟩=>?_;obtain⟨C,c,L,rfl,wh,Jb,_,O1,hL⟩:=hq;let E9:=E9 C c rfl;let a6m:IA C:=AK.V5 (Cj.val (u:=BG C 0 (x::X) c) 21 rfl A8);let wP:Found w4 r F (rt+GY A):=I.found.heap (Y r Hm).2;let X6:w4.ownsRow AU 234 8 av A (HF A):=QD I.all λb hb=>(Y b (a62 b hb)).2;let oe:AU.heap.size<=w4:=RB wP.lt I.new;refine Cj.jZ (λv' Bd=>Bd.ownsRow AU 234 8 v' (A++L) (HF (A++L))/\w4.heap.size<=Bd/\∀k,k<w4.heap.size->Z k≠av.ownBlock->Bd.heap[k]?=w4.heap[k]?) (e:=24) A8 (λx T0 o h=>aWa (c:=c) X6 Jb A' oe x T0 h A8 (by rw[wh];kernel_rfl)) (λu w1⟨_,_,h⟩b hb=>h b (BO (U.low b hb)) λh=>RB ((X6.lt b h.symm).1) (U.low b hb)) λJs v' Bd z Dh wR e6⟨TZ,hsz6,hb6⟩=>?_;rw[<-e6]at hsz6 hb6;let TZ:z.ownsRow AU 234 8 v' (A++L) (HF (A++L)):=QD TZ λ_ _=>by rw[e6]
   let cz:∀b o,Fl w4 b o->(∀cur,o≠A7 cur 234 (0,0))->z.heap[b]?=w4.heap[b]?:=λb o e h=>hb6 b (TF e) λh2=>by obtain⟨cur,h3⟩:=aAa X6 h2.symm;rw[e]at h3;exact h cur (CP h3)
   obtain⟨adM,fk,a7W⟩:∃a b,w4.heap[r]?=Z (B4 a b):=let⟨_,h,_⟩:=wP;⟨_,_,h⟩;let oW:=cz r _ a7W λ_=>AD;let vo:∀b c q,w4.heap[b]?=Z (A7 c 85 q)->z.heap[b]?=w4.heap[b]?:=λb c q e=>cz b _ e λ_=>AD;let L4:∀x∈L,x.rel∈d9:=λx hx=>(hL x hx).1;let a5a:∀x∈A,x.rel∈d9:=λx hx=>(I.LL x hx).1;let we:∀x∈A++L,x.rel∈d9/\Iv z Js x.BF x.rel.Bs:=λx hx=>by
    rcases E8.1 hx with hx|hx;.exact⟨a5a x hx,((I.LL x hx).2.at (λb hb=>(Y b hb).1) λb c q hb _=>(Y b hb).2).at wR.1 λb c q _ e=>vo b c q e⟩
    refine⟨L4 x hx,?_⟩;obtain⟨j,hj,rfl⟩:=Mw.1 hx;exact(aQy Cj.H a6m (Jb j hj).1 (hL _ hx).2).at wR.1 λb c q _ e=>vo b c q e
   let ac_:=yR λx hx=>d.short _ (a5a x hx);let Ja:∀k,(GY (L.take k)).length<=1000000:=λk=>by
    let h1:=yR (L:=L.take k) λx hx=>d.short _ (L4 x (mb hx));let h2:(L.take k).length<=L:=by rw[UK];omega
    let h3:(L.take k).length*1000<=1000*1000:=aHv _ A';omega
   let aOl:=Ja L;rw[Hb]at aOl;let a7X:=d.roots;let cO:A.length*1000<=1000*1000:=aHv _ A';let aP9:Hf z (BG C 0 (x::X) c) L:=AF ⟨C,c,by rw[wh],λj hj=>⟨pn (Jb j hj).1 (hb6 C (Cj.H.closed.lt a6m) λh=>E9 (a62 C h.symm)),pB (we _ (List.mem_append_right _ (Ci hj))).2⟩⟩;refine Dh.lone (e:=27) (Q:=λBF w'=>w'.ownsRow z 85 2 BF (GY L) (Bb (GY L))) A8 A8 (λT x=>(aTD _ L (on (z.at x) T) (aE aP9 rfl) A' λk=>BO (Ja k)).mono λe w'⟨BF,h1,h2,h3⟩=>⟨BF,h1,h2,h3.block⟩) λbo Jt BF Gb Fi Qr⟨_,e7,hown7⟩=>?_;let On:=λb hb=>wR.1 b (Y b hb).1;let aP8:=Qr r (On r Hm);let a6f:Found Gb r F (rt+GY A):=wP.heap (aP8.2.trans oW);let acZ:=a6f.lt;let aOn:=I.new;refine Fi.dT (e:=28) A8 A8 (λT x=>a3L rfl a6f I.round.nodup (λm hm=>?_) (QD hown7 λ_ _=>by rw[e7]) (Dh.H.closed.lt (On r Hm)) (λm hm=>?_) A') (λu w1 hq b hb=>hq.2.2.2 b (Fi.H.closed.lt (Fi.S b hb).1) (BO (U.low b hb))) λWV KV f2 HG Gt JU iC KX⟨hfr,hfd,a7a,hb8⟩=>?_;.obtain⟨x,hx,rfl⟩:=d.reach (I.round.reach m hm);exact d.ok.short x hx
   .obtain⟨x,hx,hm⟩:=YX.1 hm;exact((d.rel _ (L4 x hx)).Bs m hm).2
   let Wr:∀b,Js b->b≠r->KV b/\Gt.heap[b]?=z.heap[b]?:=λb hb h=>⟨iC b (Qr b hb).1,by rw[KX,hb8 b (Fi.H.closed.lt (Qr b hb).1) h];exact(Qr b hb).2⟩;let D':∀b c t q,Js b->z.heap[b]?=Z (A7 c t q)->KV b/\Gt.heap[b]?=z.heap[b]?:=λb c t q hb e=>Wr b hb λh=>by rw[h,oW,a7W]at e;cases e
   refine JU.to 4 A8 λm Iy=>aBd d U k (av:=v') (fv:=f2) (F:=F++N.fresh F (GY L)) (X:=N.fresh F (GY L)) (by rw[DV,wh];exact Hw hn Av) Iy A8 A8 A8 A8 ⟨λb hb=>Iy.S b hb,?_,?_,aOn,?_,?_,λx hx=>⟨(we x hx).1,(we x hx).2.at (λb hb=>iC b (Qr b hb).1) λb c q hb e=>(D' b _ _ _ hb e).2⟩,?_,?_⟩;.show _<=Gt.heap.size;rw[KX];have:=a7a;omega
   .show Gt.heap[b2]?=_;let h2:w4.heap[b2]?=_:=(Y b2 a6A).2.trans I.box;let h4:=cz b2 _ h2 λ_=>AD;rw[(D' b2 _ _ _ (On b2 a6A) (h4.trans h2)).2];exact h4.trans h2
   .rw[aTC,DV,<-mh];exact hfd.heap (by show Gt.heap[r]?=_;rw[KX])
   .refine QD TZ λb hb=>?_;obtain⟨cur,h⟩:=aAa TZ hb;exact(D' b _ _ _ (AK.QC (Dh.val 24 rfl A8) hb) h).2
   .exact aA_ (QD hfr λb _=>by show Gt.heap[b]?=_;rw[KX]) A'
   rw[aT6];exact I.round.next O1 (aA2 d.ok L4)
def yQ[Bg](i:Whole d9 rt own)(D:n0 w R BE own r1 r2 a9 bi d9)(M:CC Wb R w){v:A3}(Et:Ey R #[JD own r1 r2 a9 d9 cap bi,v])(hv:EL w v rt)(v1:∀m∈rt,m.1≠own):HJ 61 #[JD own r1 r2 a9 d9 cap bi,v] Wb R w λu w'=>∃A R',mj d9 rt R R' w u A w':=by
 intro x c' cs';refine Be.enter 32 rfl ?_;let S0:Ap 32 [] w R Wb R (w.at x) (Ep 61 #[JD own r1 r2 a9 d9.length cap bi,v]).1:=⟨M.at x,Cb.Ep Et,λb hb=>⟨hb,rfl⟩⟩;refine S0.alloc (A7 #[own,AL (Z r1),AL (Z r2),BG a9 0 d9 cap,AL (Z bi)] 138) (e:=2) (rfl) (λ_ _ h=>aWe (x:=Aa 0) h (rfl)) λip w1 t0 Er Ez Y HP=>?_;refine t0.g_ (B4 #[] 0) (λz=>AL (Z z)) (e:=9) (rfl) (λ_ _ h=>aXC h) λFg w2 v9 MR Hj HB Kc=>?_;let Y:w1.heap.size=w+1:=Y;let abf:=(Kc _ A').trans Ez;refine v9.calm (AT (AR w)) (e:=11) (rfl) (λ_ _ _ h=>⟨_,aWs (x:=Aa 2) h (rfl),rfl⟩) λDp w3 Bu K0 e3=>?_;refine Bu.calm (AH #[own,AL (Z r1),AL (Z r2)]) (e:=12) (rfl) (λ_ _ _ h=>⟨_,aX4 (x:=Aa 11) h (rfl) (by show w3.heap[_]?=_;rwa[e3]),rfl⟩) λIA w4 C Lm e4=>?_;let e4:=e4.trans e3;let C1:∀b,b<w.heap.size->w4.heap[b]?=w.heap[b]?:=λb hb=>by rw[e4,Kc b A'];exact HP b hb
 obtain⟨c1,Eh⟩:=D.reads.ex;let a7X:=i.roots;let U:∀m∈rt,m.1≠own/\D6 m:=λm hm=>by obtain⟨x,hx,e⟩:=i.root m hm;exact⟨v1 m hm,e▸i.ok.short x hx⟩
 refine C.lone (e:=14) (Q:=λBF w'=>w'.ownsRow w4 85 2 BF rt (Bb rt)) A8 A8 (λT x=>(aA4 own r1 r2 c1 v rt (on (w4.at x) T) ((C1 r1 (TF Eh)).trans Eh) ?_ A' U).mono λe w'⟨BF,h1,h2,_,h3⟩=>⟨BF,h1,h2,h3.block⟩) λa3J Hd BF Bd I SC⟨_,e5,hown5⟩=>?_
 .rcases hv with h|⟨g,c,h1,h2⟩;.exact AA h
  let hc:∀o u,Cf w g o u->Cf w4 g o u:=λo u h=>(C8 (C1 g (Cn (h:=h)))).trans h;exact AF ⟨g,c,h1,λj hj=>⟨hc _ _ (h2 j hj).1,hc _ _ (h2 j hj).2⟩⟩
 let Hm:=SC _ (C.xh (b:=w1) 6 rfl A8);let Ws:=SC _ (C.jC (b:=w) 2 rfl A8);let dE:=I.H.closed.lt Hm.1;let ZE:Found Bd w1 [] 0:=⟨[],Hm.2.trans (Ar e4),rfl,λx hx=>by cases hx⟩;refine I.dT (e:=15) A8 A8 (λT x=>a3L rfl ZE a2d AD (QD hown5 λ_ _=>by rw[e5]) (by rw[e4,HB];omega) (λm hm=>(U m hm).2) A') (λu w1' hq b hb=>hq.2.2.2 b (I.H.closed.lt (I.S b hb).1) (BO (M.closed.lt hb))) λn9 Js fv EC d Fi On e7⟨hfr,hfd,hs6,hb6⟩=>?_;refine Fi.to 5 A8 λm Gg=>aBd i D (d9+1) (cap:=cap) (b2:=AR w) (r:=w1) (fv:=fv) (A:=[]) AD Gg A8 A8 A8 A8 ⟨Gg.S,?_,?_,A',?_,PR ..,λx hx=>(by cases hx),?_,.start ..⟩;.show _<=d.heap.size;rw[e7];omega
 .show d.heap[_]?=_;rwa[e7,hb6 _ (I.H.closed.lt Ws.1) A',Ws.2,e4]
 .have:Found (d.at m) (AR w1) ([]++N.fresh [] rt) (0+rt):=hfd.heap (by show d.heap[_]?=_;rw[e7]);simpa[GY]using this
 exact aA_ (QD hfr λb _=>by show d.heap[b]?=_;rw[e7]) A'
end
theorem aBV(I own)(rt)(m)(w)(d:V.GL I)(N:Kh (V.parse I).1=Gr own rt)(i:I.size<=1000000000)(hm:w.cell? ⟨0,0,J⟩=Z (AB AJ m)):Ab A6 45 #[I] w λe w'=>∃U Bm,e=AV (Aj #[A0 (Z ⟨U,0,J⟩) (rt+1) Bm,CN])/\(∀j u,(Gr own rt)[j]?=Z u->w'.cell? ⟨U,j,J⟩=Z u)/\AO w w w':=by
 refine(pr I m w A' hm).mono λe w1⟨hsay,hb1⟩=>?_;rcases hsay with⟨_,v,h1,h2⟩|⟨h,_⟩
 .rw[N]at h2;have hlen:=by have:=congrArg mZ N;simpa[Kh,Gr]using this
  rw[hlen]at h2;obtain⟨g,c,rfl,_,_⟩:=SH h2 A';exact⟨g,c,h1,λj u hj=>Lx h2 j u hj,hb1⟩
 grind
theorem VV(L):∀k,∀x∈Cc L k,x∈L
 |0,x,hx=>by cases hx
 |k+1,x,hx=>by
  unfold Cc at hx;split at hx
  .split at hx
   .rcases E8.1 hx with hx|hx;.exact VV L k x hx
    grind
   exact VV L k x hx
  exact VV L k x hx
def aT7(L):(names L).length=L:=by simp[names]
structure RP(AU:A1)(gc Ek:zy)(own:zz)(rt:List AW)(na:Option An)(nc hH a9:Nat)(d9:List Rel)(m:Int):Prop where
 whole:Whole d9 rt own
 Xe:∀x∈rt,x.1≠own
 check:∀r∈d9,V.IF r.p r.v=J
 zc:∀r∈d9,r.p.size<=1000000/\r.v.size<=1000000
 parts:AU.heap[hH]?=Z (A7 #[own,A0 na rt nc,A0 J 0 0,A0 J 0 0] 128)
 xj:gc hH
 Bs:EL AU (A0 na rt nc) rt
 xi:∀g,Kt (A0 na rt nc)=Z g->gc g
 reg:Ix AU a9 d9
 sub:∀b,Ek b->gc b
 Gp:Pd reads Ek AU
 R2:Ek a9
 files:∀r∈d9,∀a,r.fa=Z a->Ek a.block
 low:∀b,gc b->b<AU
 Ca:AU.cell? ⟨0,0,J⟩=Z (AB AJ m)
def a9o{F E}:∀(l),(∀e∈l,(∃p:AW,e.key=EH p)/\∃n:Int,e.val=AB AJ n)->DM F E l l|[],_=>.nil|⟨k,v,n⟩::l,h=>by let⟨⟨p,hk⟩,z,hv⟩:=h ⟨k,v,n⟩ AD;subst hk hv;exact .cons (.agg (.cons (.string _) (.cons (.string _) .nil))) (.int ..) (a9o l λe he=>h e BA)
theorem aUC(l):DM F E (Ba l).toList (Ba l).toList:=a9o _ λe he=>by let⟨x,_,h1,h2⟩:=a9W he;grind
theorem zo{AU:A1}{gc j:zy}{own:zz}{rt:List AW}{nc:Nat}(h:RP AU gc j own rt na nc hH a9 d9 m)(I:∀b,gc b->R b/\w.heap[b]?=AU.heap[b]?)(U:∀b,R b->b<w)(N:w.heap[r1]?=Z (B4 #[] 0))(h2:w.heap[r2]?=Z (B4 #[] 0))(hp:w.heap[bi]?=Z (B4 (Ba (places d9)) d9))(i1:R r1)(i2:R r2)(u:R bi):n0 w R (λb=>j b∨b=r1∨b=r2∨b=bi) own r1 r2 a9 bi d9:=by
 have hs:=λb hb=>(I b (h.sub b hb)).2;refine⟨λb hb=>?_,⟨λb hb=>?_,λb hb=>AA (h.Gp.Ca b hb),?_⟩,⟨⟨m,?_⟩,⟨0,N⟩,⟨0,h2⟩,⟨_,hp⟩,λi hi=>?_⟩,AF (AA rfl),AF (AF (AA rfl)),AA h.R2,AF (AF (AF rfl)),λr hr a ha=>AA (h.files r hr a ha),U⟩
 .rcases hb with hb|rfl|rfl|rfl;.exact(I b (h.sub b hb)).1
  .exact i1
  .exact i2
  grind
 .rcases hb with hb|rfl|rfl|rfl;.let⟨o,e,k,z⟩:=h.Gp.heap b hb;exact⟨o,(hs b hb).trans e,k.mono (Q5 λc y=>AA y),z⟩
  .exact⟨_,N,.map _ .nil,λc t p e=>BA⟩
  .exact⟨_,h2,.map _ .nil,λc t p e=>BA⟩
  exact⟨_,hp,.map _ (aUC _),λc t p e=>BA⟩
 .have:=U _ (I _ (h.sub _ (h.Gp.Ca (CX-1) Ac))).1;omega
 .exact(C8 (hs 0 (h.Gp.Ca 0 Ac))).trans h.Ca
 let hc:=λo=>C8 (a:=⟨a9,o,J⟩) (hs a9 h.R2);let⟨a,b,c,d⟩:=h.reg i hi;exact⟨(hc _).trans a,(hc _).trans b,(hc _).trans c,(hc _).trans d⟩
def Cm(own:zz)(v:A3):zw:=#[own,v,A0 J 0 0,A0 J 0 0]
theorem RP.over{R' e:zy}{own:zz}{rt:List AW}{nc:Nat}(h:RP w R e own rt na nc hH a9 d9 m)(hk:∀b,R b->R' b/\w'.heap[b]?=w.heap[b]?)(N:∀b,R' b->b<w'):RP w' R' e own rt na nc hH a9 d9 m:=by
 refine⟨h.whole,h.Xe,h.check,h.zc,(hk hH h.xj).2.trans h.parts,(hk hH h.xj).1,SI h.Bs λg hg=>(hk g (h.xi g hg)).2,λg hg=>(hk g (h.xi g hg)).1,λi hi=>?_,λb I=>(hk b (h.sub b I)).1,h.Gp.same (λb I=>(hk b (h.sub b I)).2) ?_,h.R2,h.files,N,?_⟩;.let hc:=λo=>C8 (a:=⟨a9,o,J⟩) (hk a9 (h.sub a9 h.R2)).2;let⟨a,b,c,d⟩:=h.reg i hi;grind
 .have:=N _ (hk _ (h.sub _ (h.Gp.Ca (CX-1) Ac))).1;omega
 exact(C8 (hk 0 (h.sub 0 (h.Gp.Ca 0 Ac))).2).trans h.Ca
structure Rn(w:A1)(R Ek:zy)(root own:zz)(rt:List AW)(a9:Nat)(d9:List Rel)(m:Int)(f:Rel->zz):Prop where
 GL:V.GL root
 lines:Kh (V.parse root).1=Gr own rt
 size:root.size<=1000000000
 whole:Whole d9 rt own
 Xe:∀x∈rt,x.1≠own
 check:∀r∈d9,V.IF r.p r.v=J
 pb:∀r∈d9,r.p.size<=1000
 reg:Ix w a9 d9
 sub:∀b,Ek b->R b
 Gp:Pd reads Ek w
 R2:Ek a9
 files:∀r∈d9,∀a,r.fa=Z a->Ek a.block
 Ca:w.cell? ⟨0,0,J⟩=Z (AB AJ m)
 a5M:w.cell? ⟨5,15,J⟩=Z (AB Gc 4)
 aCP:∀r∈d9,TA w r (f r)
 aCQ:∀r∈d9,(f r).size<=1000
 sep:∀a∈d9,∀b∈d9,F6 a.name b.name=0->a.name=b.name
def aCO{r}(h:TA w r s)(e:∀a,r.fa=Z a->w'.heap[a.block]?=w.heap[a.block]?):TA w' r s:=by let⟨a,x,y,h1,h2,h3,h4,h5⟩:=h;let hc:=λo=>C8 (a:=⟨a,o,J⟩) (e ⟨a,0,J⟩ h1);exact⟨a,x,y,h1,h2,(hc _).trans h3,(hc _).trans h4,h5⟩
theorem Rn.at8{AU:A1}{Wb gc e:zy}{root own:zz}{rt:List AW}{nc:Nat}(hL:Rn AU gc e root own rt a9 d9 m f)(hk:∀b,gc b->R b/\w.heap[b]?=AU.heap[b]?)(h:CC Wb R w)(hp:w.heap[hH]?=Z (A7 #[own,A0 na rt nc,A0 J 0 0,A0 J 0 0] 128))(N:R hH)(hn:EL w (A0 na rt nc) rt)(I:∀g,Kt (A0 na rt nc)=Z g->R g):RP w R e own rt na nc hH a9 d9 m:=by
 refine⟨hL.whole,hL.Xe,hL.check,λr hr=>⟨BO (hL.pb r hr),BO (hL.whole.AI r hr)⟩,hp,N,hn,I,λi hi=>?_,λb hb=>(hk b (hL.sub b hb)).1,hL.Gp.same (λb hb=>(hk b (hL.sub b hb)).2) ?_,hL.R2,hL.files,λb hb=>h.closed.lt hb,?_⟩;.let hc:=λo=>C8 (a:=⟨a9,o,J⟩) (hk a9 (hL.sub a9 hL.R2)).2;let⟨a,b,c,d⟩:=hL.reg i hi;grind
 .have:=h.closed.lt (hk _ (hL.sub _ (hL.Gp.Ca (CX-1) Ac))).1;omega
 exact(C8 (hk 0 (hL.sub 0 (hL.Gp.Ca 0 Ac))).2).trans hL.Ca
def results30{T:zw}{a:Option An}{n c:Nat}(h6:T.getD 6 AN=B2 (Z ⟨B,0,J⟩))(h7:T.getD 7 AN=x)(hB:w.heap[B]?=Z (A7 #[A0 a n c,s] 59)):(D5 Tryz.f30 T).run A6 w=.ok (Aj #[AH #[A0 a n c,s],x]) w:=by simp[D5,Ai h6,Ai h7,asAddr,aG' w B 59 59 _ _ _ hB Tryz.underlying59 rfl (rfl)]
def aHj(A:List BI)(v:A3)(w1:A1):Prop:=∃a n c s,v=Aj #[AH #[A0 a n c,A4 s],CN]/\EL w1 (A0 a n c) (Go.Proofs.YtcfhleenecfghaaGreatDoor.names (Cc A A))
section
variable{ρ:BP->A3}{w:A1}{o:B8}{x y:BP}{b t br:Nat}{p:Nat×Nat}{Hn:Option An}{HE Bm:Nat}{s:zz}
def qA(ho:o.op=Vv 59):(AM ρ o).run A6 w=.ok (BB (AT w)) (w.alloc (A7 #[A0 J 0 0,A4 ⟨#[]⟩] 59)):=by unfold AM;rw[ho];kernel_rfl
def zQ(ho:o.op=La 59 x y)(hx:ρ x=AT b)(hy:ρ y=AH #[A0 Hn HE Bm,s])(h:w.heap[b]?=Z (A7 #[A0 J 0 0,A4 ⟨#[]⟩] 59)):(AM ρ o).run A6 w=.ok JN ((w.setCell ⟨b,0,J⟩ (A0 Hn HE Bm)).setCell ⟨b,1,J⟩ s):=by
 unfold AM;rw[ho];simp only[hx,hy];let c0:w.cell? ⟨b,0,J⟩=Z (A0 J 0 0):=by simp[Cr,h]
 let c1:w.cell? ⟨b,1,J⟩=Z (A4 ⟨#[]⟩):=by simp[Cr,h]
 simp[go_sem,c0,c1,C' h 0,C' h 1]
theorem z_{p q p' q':A3}(h:w.heap[b]?=Z (A7 #[p,q] 59)):((w.setCell ⟨b,0,J⟩ p').setCell ⟨b,1,J⟩ q').heap.size=w/\(∀c,c≠b->((w.setCell ⟨b,0,J⟩ p').setCell ⟨b,1,J⟩ q').heap[c]?=w.heap[c]?)/\((w.setCell ⟨b,0,J⟩ p').setCell ⟨b,1,J⟩ q').heap[b]?=Z (A7 #[p',q'] 59):=⟨AD,λc hc=>by grind[DC],CO _ b 1 _ _ q' (CO w b 0 _ _ p' h)⟩
def XZ{d e i j}(ho:o.op=ED 128 (Aa t))(h2:ρ (Aa t)=AT br)(h:w.heap[br]?=Z (A7 #[d,e,i,j] 128 p)):(AM ρ o).run A6 w=.ok (BB (AH #[d,e,i,j])) w:=by
 unfold AM;rw[ho];simp only[h2];let c0:w.cell? ⟨br,0,J⟩=d:=by simp[Cr,h]
 let c1:w.cell? ⟨br,1,J⟩=e:=by simp[Cr,h]
 let c2:w.cell? ⟨br,2,J⟩=i:=by simp[Cr,h]
 let c3:w.cell? ⟨br,3,J⟩=j:=by simp[Cr,h]
 simp[go_sem,c0,c1,c2,c3]
def zN{d e i a n c}(ho:o.op=ED 124 (Aa t))(h2:ρ (Aa t)=B2 (Z ⟨br,1,J⟩))(h:w.heap[br]?=Z (A7 #[d,A0 a n c,e,i] 128 p)):(AM ρ o).run A6 w=.ok (BB (A0 a n c)) w:=by
 unfold AM;rw[ho];simp only[h2];let c1:w.cell? ⟨br,1,J⟩=Z (A0 a n c):=by simp[Cr,h]
 simp[go_sem,c1]
def pz(ho:o.op=OP 128 (Aa t) 1)(h2:ρ (Aa t)=AT br):(AM ρ o).run A6 w=.ok (BB (B2 (Z ⟨br,1,J⟩))) w:=by unfold AM;rw[ho];simp only[h2];simp[go_sem]
def aWV(ho:o.op=Vv 128):(AM ρ o).run A6 w=.ok (BB (AT w)) (w.alloc (A7 (Cm ⟨#[]⟩ (A0 J 0 0)) 128)):=by unfold AM;rw[ho];kernel_rfl
def aXK(ho:o.op=La 128 x y)(hx:ρ x=AT b)(hy:ρ y=AH (Cm s (A0 Hn HE Bm)))(h:w.heap[b]?=Z (A7 (Cm ⟨#[]⟩ (A0 J 0 0)) 128)):∃I,(AM ρ o).run A6 w=.ok JN I/\I.heap.size=w/\(∀z,z≠b->I.heap[z]?=w.heap[z]?)/\I.heap[b]?=Z (A7 (Cm s (A0 Hn HE Bm)) 128):=by
 refine⟨(((w.setCell ⟨b,0,J⟩ s).setCell ⟨b,1,J⟩ (A0 Hn HE Bm)).setCell ⟨b,2,J⟩ (A0 J 0 0)).setCell ⟨b,3,J⟩ (A0 J 0 0),?_,AD,λz hz=>by simp[DC,hz],CO _ b 3 _ _ _ (CO _ b 2 _ _ _ (CO _ b 1 _ _ _ (CO w b 0 _ _ _ h)))⟩;let c:∀j,w.cell? ⟨b,j,J⟩=(Cm ⟨#[]⟩ (A0 J 0 0))[j]?:=λj=>by simp[Cr,h]
 unfold AM;rw[ho];simp only[hx,hy,Cm]at c⊢;simp[go_sem,c,C' h]
def aWi{b c:BP}(ho:o.op=.build 59 #[(0,b),(1,c)])(hb:ρ b=A0 Hn HE Bm)(hc:ρ c=s):(AM ρ o).run A6 w=.ok (BB (AH #[A0 Hn HE Bm,s])) w:=by unfold AM;rw[ho];simp[go_sem,hb,hc]
end
theorem aSS{c:Nat}{R:List Rel}(hp:R.Perm (Hs A))(hown:w.ownsRow B 217 3 (A0 (Z ⟨g,0,J⟩) R c) R (L3 (Nu f R)))(hL:A.length<=400000)(hs:∀x∈A,x.rel.v.size<=40)(hne:(Hs A).Pairwise λa b=>F6 a.name b.name≠0)(hm:w.cell? ⟨0,0,J⟩=Z (AB AJ m)):Ab A6 63 #[A0 J 0 0,A0 (Z ⟨g,0,J⟩) R c] w λe w'=>∃v E,e=AV (Aj #[v,CN])/\E.Perm (Nu f (Hs A))/\RQ w' v E/\AO w w w':=by
 let hl:(Nu f R).length=R:=by simp[Nu]
 let h:=aSR g c m (Nu f R) w (a4j hown) (by grind[hp.length_eq,Hs]) (λx hx=>by obtain⟨r,hr,rfl⟩:=Bt.1 hx;obtain⟨y,hy,rfl⟩:=Bt.1 (hp.mem_iff.1 hr);exact hs y hy) (by unfold Nu;rw[I8];exact(hp.pairwise_iff λ{a b}h=>pK h).2 hne) hm;rw[hl]at h;exact h.mono λe w'⟨v,E,h1,h2,_,h4,h5⟩=>⟨v,E,h1,h2.trans (hp.map _),h4,h5⟩
def aKf:Nat->List Nat|2=>[1]|3=>[0,2]|5=>[4]|_=>[]
def Xu(own:zz)(v:A3)(a9 cap h:Nat)(d9:List Rel):Nat->A3->zy->A1->Prop|0,u,_,_=>u=AH (Cm own v)|1,u,_,_=>u=A0 (Z ⟨a9,0,J⟩) d9 cap|2,u,R,w=>∃bi,u=AH #[A0 (Z ⟨a9,0,J⟩) d9 cap,AL (Z bi)]/\w.heap[bi]?=Z (B4 (Ba (places d9)) d9)/\R bi|3,u,R,w=>∃r1 r2 bi,u=JD own r1 r2 a9 d9 cap bi/\(w.heap[r1]?=Z (B4 #[] 0)/\R r1)/\(w.heap[r2]?=Z (B4 #[] 0)/\R r2)/\w.heap[bi]?=Z (B4 (Ba (places d9)) d9)/\R bi|4,u,_,_=>u=B2 (Z ⟨h,1,J⟩)|5,u,_,_=>u=v|_,_,_,_=>False
theorem Xu.on{own}(i)(u)(R)(w)(R')(w')(h:Xu own v a9 cap hH d9 i u R w)(hk:∀b,R b->R' b/\w'.heap[b]?=w.heap[b]?):Xu own v a9 cap hH d9 i u R' w':=by unfold Xu at h⊢;grind
noncomputable def ug(k:Nat):DK:=Nat.rec (J1 30) (λ_ c=>sndC c) k
def aRC[Bg]{Wb Ek:zy}{root own:zz}{rt:List AW}(hL:Rn w R Ek root own rt a9 d9 m f)(m2:CC Wb R w)(Et:Ey R #[root,A0 (Z ⟨a9,0,J⟩) d9 cap,A4 ⟨#[]⟩]):HJ 30 #[root,A0 (Z ⟨a9,0,J⟩) d9 cap,A4 ⟨#[]⟩] Wb R w λv w'=>∃A,aHj A v w'/\He A/\(∀x∈A,x.rel∈d9)/\(Go.Proofs.YtcfhleenecfghaaGreatDoor.names A).Nodup/\∀x,x∈Go.Proofs.YtcfhleenecfghaaGreatDoor.names A↔N.Reach (Ej d9) rt x:=by
 intro x c' cs';let a7X:=hL.whole.roots;let hJ:=hL.sub 0 (hL.Gp.Ca 0 Ac);let aMc:=hL.sub 5 (hL.Gp.Ca 5 Ac);refine Be.enter 65 A8 ?_;let S0:Ap 65 [] w R Wb R (w.at x) (Ep 30 #[root,BG a9 0 d9 cap,A4 ⟨#[]⟩]).1:=⟨m2.at x,Cb.Ep Et,λb hb=>⟨hb,rfl⟩⟩;refine S0.alloc (A7 #[A0 J 0 0,A4 ⟨#[]⟩] 59) (e:=6) A8 (λ_ _ h=>qA h) λip I t0 Er Ez Dc HP=>?_;refine t0.VE (e:=17) (Q:=λu w2=>∃M Bm,u=Aj #[BG M 0 (rt+1) Bm,CN]/\∀j u,(Gr own rt)[j]?=Z u->Cf w2 M j u) A8 A8 (λT x=>(aBV root own rt m (on (I.at x) T) hL.GL hL.lines hL.size ((C8 (t0.S 0 hJ).2).trans hL.Ca)).mono λe w'⟨M,Bm,a,b,c⟩=>⟨_,a,⟨M,Bm,rfl,b⟩,c⟩) λLi Fg u w2' w2 v9 MR e2⟨M,Bm,hu,hl⟩hb2=>?_;subst hu;refine v9.VE (e:=26) (Q:=λu _=>u=Aj #[A0 J 0 0,CN]) A8 A8 (λT x=>(aQm _).mono λe w'⟨a,b⟩=>⟨_,a,rfl,As b (Az _ _)⟩) λUW Dp u w3' w3 Bu K0 e3 hu m5=>?_;subst hu;refine Bu.VE (e:=34) (Q:=λu w4=>∃na nc,u=AH (Cm own (A0 na rt nc))/\EL w4 (A0 na rt nc) rt) A8 A8 (λT x=>(ng M Bm own rt (on (w3.at x) T) A' λj u hj=>?_).mono λe w'⟨BF,a,b,c⟩=>?_) λTD IA u w4' w4 Cj Lm e4⟨na,nc,hu,hmd⟩Cz=>?_;.let h:Cf w2 M j u:=(C8 (by rw[e2])).trans (hl j u hj);exact(C8 (m5.block M (Cn (h:=h)))).trans h
 .obtain⟨na,nc,rfl⟩:=EA b;exact⟨_,a,⟨na,nc,rfl,VG b⟩,c⟩
 subst hu;refine Cj.alloc (A7 (Cm ⟨#[]⟩ (A0 J 0 0)) 128) (e:=11) A8 (λ_ _ h=>aWV h) λHd Bd E_ Ln np dE TY=>?_;refine E_.store w4 (A7 (Cm own (A0 na rt nc)) 128) (λh=>absurd (Cj.H.closed.lt (Cj.S _ h).1) A') A8 (λx T0 o h=>aXK (x:=Aa 11) (y:=Aa 34) h A8 A8 np) λJs EC d On hs6 a7G aMj=>?_;let ns:=d.jC (b:=w) 6 rfl A8;let hB:EC.heap[w.heap.size]?=Z (A7 #[A0 J 0 0,A4 ⟨#[]⟩] 59):=by let U:w.heap.size<I:=TF Ez;let h4:=(hb2.trans m5).trans Cz;rw[a7G _ (by have:=h4.size;show w.heap.size≠w4;exact UN (Hw U h4.size)),TY _ (Hw U h4.size)];exact(h4.block _ U).trans Ez
 let cy:AK CK (C7 Js) (AH (Cm own (A0 na rt nc))) (AH (Cm own (A0 na rt nc))):=d.val 34 rfl A8;let m9:=hL.at8 d.S d.H aMj (d.jC 11 rfl A8) (SI hmd λg hg=>?_) (by cases cy with|agg h=>exact λg hg=>AK.QC (Al.nth 1 h rfl) hg);rotate_left;.let h:AK CK (C7 IA) (AH (Cm own (A0 na rt nc))) (AH (Cm own (A0 na rt nc))):=Cj.val 34 rfl A8;cases h with|agg h=>let hg:=Cj.H.closed.lt (AK.QC (Al.nth 1 h rfl) hg);rw[a7G g A',TY g hg,e4]
 let Fi:Ap 65 [] EC Js TD Js EC _:=⟨d.H,d.V,λb hb=>⟨hb,rfl⟩⟩;refine Fi.cA (id:=8) (IL (fstC (ug 6))) [Aw (ug 7)] A8 aKf [0,1,2,3,4,5] [[6,7]] (·+35) A8 rfl rfl (Xu own (A0 na rt nc) a9 cap w4 d9) Xu.on ?_ ?_
 .intro i hi bo Jt Y v rest S hr hf k0;let aAs:v 11=AT w4:=(hr 11 Ac).trans A8;let C:=m9.over S.S λb hb=>S.H.closed.lt hb;let k:∀{R':zy}{u:A3}{w':A1},Ap 65 [] EC Js bo R' w' (BQ v (i+35) u)->(∀b,Jt b->R' b)->w'.heap=Y.heap->Xu own (A0 na rt nc) a9 cap w4 d9 i u R' w'->_:=λS' hR e=>k0 _ _ _ _ S' λb hb=>⟨hR b hb,by rw[e]⟩;simp only[DO,IX,or_false]at hi;rcases hi with rfl|rfl|rfl|rfl|rfl|rfl;.exact S.IM (AH (Cm own (A0 na rt nc))) A8 A8 (λx T0 o h=>⟨_,XZ (t:=11) h aAs C.parts,rfl⟩) λR' w' S' hR e=>k S' hR e rfl
  .exact S.kR A8 λm S'=>k S' (λ_ h=>h) rfl ((hr 1 Ac).trans A8)
  .let y1:v 36=A0 (Z ⟨a9,0,J⟩) d9 cap:=hf 1 Ac;refine S.kQ (e:=37) (Q:=λu I=>∃bi,u=AH #[A0 (Z ⟨a9,0,J⟩) d9 cap,AL (Z bi)]/\I.heap[bi]?=Z (B4 (Ba (places d9)) d9)) A8 (by rw[<-y1];kernel_rfl) A8 (λT x=>(uj a9 cap d9 m (on (Y.at x) T) m9.whole.ok C.reg m9.check C.Ca m9.zc).mono λe I⟨bi,U,_,h2,h3⟩=>⟨_,U,⟨bi,rfl,h2⟩,h3.block⟩) ?_;rintro WV KV u HG D hk⟨qd,JW,bi,rfl,z⟩;rw[<-JW]at z;let h:=D.val 37 rfl rfl;cases h with|agg hv=>exact k0 _ _ _ _ D hk ⟨bi,rfl,z,AK.Q6 (Al.nth 1 hv rfl)⟩
  .let KE:v 35=AH (Cm own (A0 na rt nc)):=hf 0 Ac;obtain⟨bi,y2,z2,QA⟩:∃bi,v 37=AH #[A0 (Z ⟨a9,0,J⟩) d9 cap,AL (Z bi)]/\Y.heap[bi]?=Z (B4 (Ba (places d9)) d9)/\Jt bi:=hf 2 Ac;refine S.kQ (e:=38) (az:=#[AH (Cm own (A0 na rt nc)),AH #[A0 (Z ⟨a9,0,J⟩) d9 cap,AL (Z bi)]]) (Q:=λu I=>∃r1 r2,u=JD own r1 r2 a9 d9 cap bi/\I.heap[r1]?=Z (B4 #[] 0)/\I.heap[r2]?=Z (B4 #[] 0)) A8 (by rw[<-KE,<-y2];kernel_rfl) A8 (λT x=>(zB own na rt nc a9 d9 cap bi (on (Y.at x) T)).mono λe I⟨r1,r2,U,_,_,h2,h3,h4⟩=>⟨_,U,⟨r1,r2,rfl,h2,h3⟩,h4.block⟩) ?_;rintro WV KV u HG D hk⟨qd,JW,r1,r2,rfl,EY,z1⟩;rw[<-JW]at EY z1;let h:=D.val (u:=JD own r1 r2 a9 d9 cap bi) 38 rfl rfl;cases h with|agg hv=>exact k0 _ _ _ _ D hk ⟨r1,r2,bi,rfl,⟨EY,AK.Q6 (Al.nth 1 hv rfl)⟩,⟨z1,AK.Q6 (Al.nth 2 hv rfl)⟩,(hk bi QA).2.trans z2,(hk bi QA).1⟩
  .exact S.IM (B2 (Z ⟨w4,1,J⟩)) A8 A8 (λx T0 o h=>⟨_,pz (t:=11) h aAs,rfl⟩) λR' w' S' hR e=>k S' hR e rfl
  exact S.IM (A0 na rt nc) A8 A8 (λx T0 o h=>⟨_,zN (w:=on (Y.at x) T0) (t:=39) h (hf 4 Ac) C.parts,rfl⟩) λR' w' S' hR e=>k S' hR e rfl
 intro bo Jt Y v rest Mb S hr hf;obtain rfl:rest=[6,7]:=Ai Mb;obtain⟨r1,r2,bi,y3,⟨z1,m1⟩,⟨z2,QA⟩,z3,y8⟩:=hf 3 Ac;let PF:=hf 5 Ac;let C:=m9.over S.S λb hb=>S.H.closed.lt hb;let hnd:=yQ C.whole (zo C (λb hb=>⟨hb,rfl⟩) (λb hb=>S.H.closed.lt hb) z1 z2 z3 m1 QA y8) S.H (.cons (S.val 38 rfl y3) (.cons (S.val 40 rfl PF) .nil)) C.Bs C.Xe;let q6:v 6=AT w:=(hr 6 Ac).trans A8;let aUV:v 10=A0 J 0 0:=(hr 10 Ac).trans A8;refine Ap.fix [(6,AT w),(10,A0 J 0 0),(38,JD own r1 r2 a9 d9 cap bi),(40,A0 na rt nc)] (by simp[q6,aUV];exact⟨y3,PF⟩) S λS=>?_;let D:Ap 65 [] w R bo Jt Y _:=⟨S.H,S.V,λb hb=>⟨(S.S b (d.S b hb).1).1,(S.S b (d.S b hb).1).2.trans (d.S b hb).2⟩⟩;refine D.call (e:=41) A8 A8 hnd λWV KV u HG D wZ⟨A,R',hq⟩=>?_;let Om:A.length<=d9:=by
  let U:=N.Tn hq.nodup λx hx=>by let⟨r,hr,e⟩:=hL.whole.reach ((hq.reach x).1 hx);exact Bt.2 ⟨r,hr,e⟩
  simpa[Go.Proofs.YtcfhleenecfghaaGreatDoor.names]using U
 let ZF:=hL.whole.Rz;let hne:(Hs A).Pairwise λa b=>F6 a.name b.name≠0:=by let U:((Hs A).map Rel.name).Nodup:=As (show(Hs A).map Rel.name=Go.Proofs.YtcfhleenecfghaaGreatDoor.names A by simp[Hs,Go.Proofs.YtcfhleenecfghaaGreatDoor.names]) hq.nodup;rw[Lc,I8]at U;refine U.imp_of_mem λ{a b}ha hb hab h0=>hab ?_;obtain⟨x,hx,rfl⟩:=Bt.1 ha;obtain⟨y,hy,rfl⟩:=Bt.1 hb;exact hL.sep _ (hq.LL x hx).1 _ (hq.LL y hy).1 h0
 let hver:∀x∈A,x.rel.v.size<=40:=λx hx=>hL.whole.AI _ (hq.LL x hx).1;let vq:=(wZ _ (S.S _ ns).1).2.trans ((S.S _ ns).2.trans hB);refine D.VE (e:=43) (Q:=λu _=>u=CN) A8 A8 (λT x=>(vW u A (on (HG.at x) T) (aE hq.sl rfl) A').mono λe w'⟨a,b⟩=>⟨_,a,rfl,b⟩) λuM Ob aCn af3 Gt JU iD KX hu Wr=>?_;subst hu;let abb:∀{R w'}{v:Nat->A3}{b o:Nat}{c:A3},Ap 65 [] w R uM R w' v->R b->Cf w b o c->Cf w' b o c:=λS hb h=>(C8 (S.S _ hb).2).trans h;refine JU.VE (e:=51) (Q:=λu I=>∃g c,∃E:List Rel,u=A0 (Z ⟨g,0,J⟩) E c/\E.Perm (Hs A)/\I.ownsRow Gt 217 3 (A0 (Z ⟨g,0,J⟩) E c) E (L3 (Nu f E))) A8 A8 (λT x=>(aLG u A m f (on (Gt.at x) T) (aE (hq.sl.below Wr) rfl) A' hver hne ((C8 (JU.S 0 hJ).2).trans hL.Ca) ((C8 (JU.S 5 aMc).2).trans hL.a5M) λx hx=>aCO (hL.aCP _ (hq.LL x hx).1) λa ha=>(JU.S _ (hL.sub _ (hL.files _ (hq.LL x hx).1 a ha))).2).mono λe w'⟨g,c,E,a,b,_,h,i⟩=>⟨_,a,⟨g,c,E,rfl,b,h⟩,i⟩) λa3G u3 adX a_C QM Iy aN4 TJ⟨g,c,E0,hu,hp,hown⟩aNj=>?_;subst hu;refine Iy.VE (e:=52) (Q:=λu I=>∃v E,u=Aj #[v,CN]/\E.Perm (Nu f (Hs A))/\RQ I v E) A8 A8 (λT x=>(aSS (w:=on (QM.at x) T) hp (QD hown λ_ _=>by show QM.heap[_]?=_;rw[TJ]) A' hver hne ((C8 (Iy.S 0 hJ).2).trans hL.Ca)).mono λe w'⟨v,E,a,b,h,i⟩=>⟨_,a,⟨v,E,rfl,b,h⟩,i⟩) λuL Yb adY aCy Xg Hg abm gw⟨CY,E,hu,hEp,hE⟩aNk=>?_;subst hu;let hb:=(Wr.trans aNj).trans aNk;refine Hg.VE (e:=60) (Q:=λtv I=>I.ownsRow Xg 234 8 tv (Cc A A.length) (HF (Cc A A))) A8 A8 (λT x=>(zp u A (on (Xg.at x) T) (aE (hq.sl.below hb) rfl) A').mono λe w'⟨tv,a,b,c⟩=>⟨tv,a,b,c⟩) λa3H mo tv aeu Xh Ye abn aKo aOx a68=>?_;let hb:=hb.trans a68;let aNl:=hb;let hsub:=VV A A;refine Ye.VE (e:=61) (Q:=λZl I=>I.ownsRow Xh 85 2 Zl (Cc A A.length) (Bb (Go.Proofs.YtcfhleenecfghaaGreatDoor.names (Cc A A)))) A8 A8 (λT x=>(aR5 tv _ (on (Xh.at x) T) (zA (QD aOx λ_ _=>by show Xh.heap[_]?=_;rw[aKo]) λx hx=>a9Y ((pB (hq.LL x (hsub x hx)).2).below hb) rfl) (Dn (kF A A) A') λx hx=>⟨BO (hL.pb _ (hq.LL x (hsub x hx)).1),BO (hver x (hsub x hx))⟩).mono λe w'⟨Zl,a,b,c⟩=>⟨Zl,a,b,c⟩) λaId a2r Zl aev aP WN Z1 cB a7K cX=>?_;obtain⟨Hn,Bm,rfl⟩:=EA a7K;refine WN.VE (e:=63) (Q:=λu _=>u=A4 ⟨(N5 E).toArray⟩) A8 A8 (λT x=>(aZ9 CY E (on (aP.at x) T) ?_ (by rw[hEp.length_eq];simp[Nu,Hs];omega) λx hx=>?_).mono λe w'⟨a,b⟩=>⟨_,a,rfl,b⟩) λa3I a2s adZ aew qa Rq abo a4S hu a69=>?_;.let h:=a68.trans cX;exact hE.below (w':={aCy with heap:=aP.heap}) ⟨rfl,rfl,rfl,As gw.symm h.size,λb hb=>by rw[<-gw]at hb⊢;exact h.block b hb⟩
 .obtain⟨r,hr,rfl⟩:=Bt.1 (hEp.mem_iff.1 hx);obtain⟨y,hy,rfl⟩:=Bt.1 hr;exact⟨hL.pb _ (hq.LL y hy).1,by have:=hver y hy;show y.rel.v.size<=1000;omega,hL.aCQ _ (hq.LL y hy).1⟩
 subst hu;refine Rq.calm (AH #[A0 Hn (Cc A A.length) Bm,A4 ⟨(N5 E).toArray⟩]) (e:=64) A8 (λ_ _ _ h=>⟨_,aWi (b:=Aa 61) (c:=Aa 63) h A8 A8,rfl⟩) λa2t eF gS aN5 a4T=>?_;let hb:=(hb.trans cX).trans a69;let hU:eF.heap[w.heap.size]?=Z (A7 #[A0 J 0 0,A4 ⟨#[]⟩] 59):=As a4T ((hb.block _ (TF vq)).trans vq);refine gS.store w (A7 #[A0 Hn (Cc A A.length) Bm,A4 ⟨(N5 E).toArray⟩] 59) (λh=>absurd (m2.closed.lt h) (WK _)) A8 (λx T0 o h=>⟨_,zQ (w:=on (eF.at x) T0) (x:=Aa 6) (y:=Aa 64) h A8 A8 hU,z_ hU⟩) λmq LW Od aN6 aPH x9 nn=>?_;refine Od.tail 2 (λv I=>v=Aj #[AH #[A0 Hn (Cc A A.length) Bm,A4 ⟨(N5 E).toArray⟩],CN]/\I.heap=LW.heap) Tryz.func30 (c:=.ret) A8 A8 (λx T0=>wp_ret ⟨rfl,_,results30 (w:=on (LW.at x) T0) A8 A8 nn,_,rfl,rfl,rfl⟩) λbg v qb bad⟨hv,e17⟩Oi Me Z2 aMs=>?_;subst hv;let Oi:=Oi.trans e17;refine .here ⟨bg,_,rfl,Me,λb hb=>Z2 b (Od.S b hb).1,aMs,λb hb=>As Oi ((Od.S b hb).2),A,⟨_,_,_,_,rfl,?_⟩,hq.order,λx hx=>(hq.LL x hx).1,hq.nodup,hq.reach⟩;refine SI (VG (Ar aT7)) λg hg=>?_;let U:=a7K.lt g hg;let h2:=TF vq;let h3:=aNl.size;rw[Oi,x9 g (by have:HG.heap.size<=Xh:=h3;omega),a4T,<-cB];exact a69.block g (As cB U.2)
end
end Go.Proofs.YtcfhleenecfghaaGreatDoor.Twin
