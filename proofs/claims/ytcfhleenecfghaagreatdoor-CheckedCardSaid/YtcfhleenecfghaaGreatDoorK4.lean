import Derived.Deep.Cut
import Derived.Deep.RegionHeld2
import Derived.Lib.SmallJoins
import Derived.Laws.Concat
import Derived.Laws.AppendOwnNone
import Derived.Shelf.SlSortCmp.WholeK
import Derived.Lib.QuietBelow
import Derived.Maps.AppendAt
import Derived.Shelf.SlSortCmp.NoneTotal
import Derived.Laws.StructEq
import Derived.Laws.IdiomCopy
import Derived.Test.YtcfhleenecfghaaGreatDoorK3
set_option linter.all false
set_option maxHeartbeats 4000000
set_option maxRecDepth 100000
open Array renaming ext_getElem?->kZ,extract_size->fJ,getD->zk,getElem?_append_left->kh,getElem?_eq_getElem->EP,getElem?_eq_none->Np,getElem?_modify->fL,getElem?_setIfInBounds->HM,getElem?_setIfInBounds_ne->Gp,getElem?_setIfInBounds_self_of_lt->SE,getElem_toList->fM,size_append->fO,size_setIfInBounds->Pk
open Bool renaming false->A9,true->A3
open ByteArray renaming data_append->qq,ext->aZh,mk->Ha,size_append->a'0
open Decidable renaming decide->Bz
open Go renaming Addr->Ak,Calls->Ai,Obj->Df,Operand->C',Program->Ap,TypeId->Aj,Value->A1,World->A0,below_drewN->IK,below_regrown->lh,binOp->KL,bodyPost_ret->Md,callFunc->Me,cell_regrown->H6,execOp->Ab,heap_alloc_new->Pz,heap_setCell_same->F2,info_parts->Ko,isAgg->VS,maxLen->BH,redrawn->a1c,results->D_,results_cell_row->XE,rounds_succ->LL,run_equalIn_agg->aFZ,run_make_own->a1d,run_slice_string->aF_,run_string_add_sum->a1e,run_underlying->Q',sizeOf->Q0,size_zeroCells->aFb,undef->A',wpList_append_own->NB,wpList_append_own_none->aFc,wpQuiet_nil->mC,wp_loop_rounds->U1,wp_region_quiet_below->mD,yielded->I6
open Go.Addr renaming add->Qy
open Go.BinOp renaming and->aD4,eql->Tp
open Go.Builtin renaming clear_->kk,zeroCells->Nv
open Go.ByteArray renaming mk_append_mk->aD5,toList_eq->a'D
open Go.Calls renaming quiet_of->aD6,quiet_of_same->fa
open Go.Departure renaming mixedOrders->fq
open Go.Ending renaming returned->AZ
open Go.Exit renaming inBlock->ZE
open Go.Fn renaming func->Ek
open Go.Instr renaming buildSlice->cI,entryStore->fu,lookup->Ix,makeMap->cJ,mapEntry->ZJ,slice->l7
open Go.IntKind renaming i64->A8,u64->EK,u8->F1,wrap_i64->VK,wrap_u64->a'q
open Go.Lib renaming BuilderAt->cM,IsBuilder->SH,alloc_old->lA,byteCells->Ps,cell_of_heap->Ao,compareBytes->IJ,countB->VM,cut->Gr,frozen_of_heap->E6,index->M_,strCells->ZM,toList_data->VO
open Go.MapKept renaming run_getObj_map->SJ,run_setObj_map->lE
open Go.Next renaming enter->VQ
open Go.Obj renaming cells->AF,map->DM
open Go.Op renaming equal->SL,equalIn->Ov,maxDepth->gC,stringOp->cP
open Go.Oper renaming wp->rr
open Go.Program renaming arrayLen->aEA,elem->a_0,fieldsOf->aEB
open Go.Proofs renaming CmpLays->a0A,enters_of->a14,intOf->BJ,ltOf->ZR,sortWorldK->O0
open Go.Proofs.AnyQ renaming slices_SortFunc->a09
open Go.Proofs.SlLaysF0 renaming n6->lP
open Go.Proofs.Tryz renaming prog->A6,underlying119->VR,underlying130->aEu,underlying131->ZQ,underlying217->aEv,underlying47->a0p,underlying513->aEz,underlying57->lS,underlying85->X6,underlying9->LI
open Go.Region renaming wanted->Gt
open Go.Result renaming andThen->Ly,andThen_ok->aFA,ok->Ac
open Go.RowKit renaming Below->AX,Hid->AL,intOf->Mc
open Go.RowKit.Below renaming alloc->aFC,heap_setCell->HP,refl->BF
open Go.Sem renaming run_bind->aFG,run_pure->aFH
open Go.Sort renaming HoldsK->gI,ahead->aFI,get_flatK->a1D,holdsK_ahead->a1E,holdsK_grow->a1F,holdsK_putRowK->a1G,size_flatK->sM,size_putRowK->cb
open Go.TypeDesc renaming struct->gK
open Go.Value renaming agg->A_,bool->Af,cells->cc,func->FU,iface->EL,int->A7,map->Ah,nilIface->DS,ownBlock->Tx,pointer->Ad,slice->A4,string->J,tuple->Ay
open Go.World renaming block_lt_of_cell?->FA,cell?->FB,cell?_of_block->FG,cell?_setCell_other->Kn,cell?_setCell_same->la,cell?_setCells_out->a1L,frozen?->cf,ownsRow_nil->XA
open Int renaming eq_ofNat_of_zero_le->a2I,tmod_eq_emod_of_nonneg->a2K,toNat_natCast->cu
open List renaming append_assoc->SV,append_cancel_left->aGk,cons_append->Kq,count_append->a2Q,count_cons_self->aGo,eq_nil_of_length_eq_zero->tO,ext_getElem?->mX,flatMap_append->XT,flatMap_cons->tP,getElem?_append_left->cx,getElem?_append_right->SX,getElem?_eq_getElem->K1,getElem?_eq_none->ma,getElem?_modify->aGu,getElem_cons_succ->gn,getElem_inj->aGx,getElem_map->gp,getElem_mem->DU,getElem_take->aGz,isPrefixOf->gq,length->XV,length_append->H7,length_cons->Kr,length_nil->tR,map_append->U7,map_cons->Gd,map_map->SY,map_nil->Kt,map_pmap->a2Z,map_toArray->M',mem_cons->JG,mem_cons_of_mem->Jd,mem_cons_self->Je,mem_of_mem_take->aH4,nil_append->U9,not_mem_nil->He,pairwise_cons->tS,pairwise_iff_getElem->a2_,pairwise_map->Q6,replicate->mb,singleton_append->a2b,size_toArray->I7,take->a2c,take_append_drop->d',take_append_of_le_length->aHB,take_left->tT,take_length->O3,take_of_length_le->XX,toList_toArray->XY
open List.Pairwise renaming imp_of_mem->a_J,nil->aGg
open List.Perm renaming append_right->a_K,cons->a_L,swap->a_M
open List.cons renaming injEq->a_N
open Nat renaming add_assoc->me,div_add_mod->aHL,div_lt_iff_lt_mul->a2h,le_refl->Ae,le_trans->G3,lt_of_lt_of_le->Ku,lt_or_ge->J2,lt_succ_of_lt->aHN,mod_lt->gu,mod_two_eq_zero_or_one->a2k,mul_comm->aHP,not_lt_zero->gv,pow_succ->aHQ,zero_add->LO,zero_le->Jf
open Ne renaming symm->Gu
open Option renaming none->Z,some->Y
open Option.some renaming inj->CH
open Or renaming inl->AD,inr->AJ
open Prod renaming ext->Q7,fst->h'
open UInt8 renaming ofNat->Vf
namespace Go.Proofs.YtcfhleenecfghaaGreatDoor
section
open Go.RowKit
variable{w w' w1:A0}{AM C1 fk g0 g2 v:A1}{e t:Aj}{C:zw}{DZ:zz}{p:Int}{l:List (Nat×Nat)}{xs:List A1}{B a2 b i j k n:Nat}{T:zy}
def results_cell_tmp{P:Ap}{fn:Func}{p q:Tmp}{ty:Aj}(h:fn.results=#[.cell p ty,.tmp q])(b:zw)(w:A0)(g:Nat)(t:Aj)(cs:zw)(fr:Nat×Nat)(d:TypeDesc)(z:b.getD p A'=Ad (Y ⟨g,0,Z⟩))(y:w.heap[g]?=Y (AF cs t fr))(hu:P.underlying ty=Y d)(s:(match d with|gK _|.array _ _=>A3|_=>A9)=A3)(hi:(P.info? ty).map (·.size)=Y cs.size):(D_ fn b).run P w=Ac (Ay #[A_ cs,b.getD q A']) w:=by
 have H:b[p]?.getD A'=Ad (Y ⟨g,0,Z⟩):=by simpa using z
 simp[D_,h,H,asAddr,run_loadVar_row w g t ty cs fr d y hu s hi]
structure Rel where
 p:zz
 v:zz
 m:zz
 BP:Option Ak
 B0:Nat
 BN:Nat
 D':List Az
def Rel.name(r:Rel):Az:=(r.p,r.v)
def Ih(w:A0)(a2:Nat)(G:List Rel):Prop:=∀i(h:i<G.length),w.cell? ⟨a2,i*4,Z⟩=Y (J G[i].p)/\w.cell? ⟨a2,i*4+1,Z⟩=Y (J G[i].v)/\w.cell? ⟨a2,i*4+2,Z⟩=Y (J G[i].m)/\w.cell? ⟨a2,i*4+3,Z⟩=Y (A4 G[i].BP G[i].B0 G[i].BN)
def Ih.below{G:List Rel}(h:Ih w a2 G)(b:AX w.heap.size w w'):Ih w' a2 G:=λi hi=>⟨Am b (h i hi).1,Am b (h i hi).2.1,Am b (h i hi).2.2.1,Am b (h i hi).2.2.2⟩
def places(G:List Rel):List (Az×Nat):=G.zipIdx.map λx=>(x.1.name,x.2)
def px{G:List Rel}{x:Az×Nat}(h:x∈places G):∃hi:x.2<G.length,G[x.2].name=x.1:=by obtain⟨y,hy,rfl⟩:=List.mem_map.1 h;have:=List.mem_zipIdx_iff_getElem?.1 hy;obtain⟨b,h2⟩:=List.getElem?_eq_some_iff.1 this;exact⟨b,by simp only;rw[h2]⟩
def aUI{G:List Rel}(i:Nat)(hi:i<G.length):(G[i].name,i)∈places G:=List.mem_map.2 ⟨(G[i],i),by rw[List.mem_zipIdx_iff_getElem?];exact K1 hi,rfl⟩
structure Mh(G:List Rel):Prop where
 nodup:(G.map Rel.name).Nodup
 short:∀r∈G,Ft r.name
 len:G.length<=1000000
def Mh.inj{G:List Rel}(h:Mh G)(hi:i<G.length)(s:j<G.length)(e:G[i].name=G[j].name):i=j:=by
 have b:i<(G.map Rel.name).length:=by simpa using hi
 have h2:j<(G.map Rel.name).length:=by simpa using s
 exact(aGx (h₀:=b) (h₁:=h2) h.nodup).1 (by simpa using e)
def Mh.keys{G:List Rel}(h:Mh G):∀x∈places G,Ft x.1:=λx hx=>by obtain⟨hi,e⟩:=px hx;rw[<-e];exact h.short _ (DU hi)
def aL8(a2 cap s c:Nat)(G:List Rel)(i:Nat)(hi:i<G.length)(b:Mh G)(w:A0)(H:w.heap[s]?=Y (DM (EY (places G)) c))(hs:Ih w a2 G):Ai A6 218 #[A_ #[A4 (Y ⟨a2,0,Z⟩) G.length cap,Ah (Y s)],A_ #[J G[i].p,J G[i].v]] w λe w'=>e=AZ (Ay #[A_ #[J G[i].p,J G[i].v,J G[i].m,A4 G[i].BP G[i].B0 G[i].BN],Af A3])/\AX w.heap.size w w':=by
 have K:=A5 H;have hlt:=(Array.getElem?_eq_some_iff.1 H).1;obtain⟨c0,c1,c2,c3⟩:=hs i hi;have a:a2<w.heap.size:=FA (h:=c0);have I:∀x y z,(Ix 131 (Ah (Y s)) (A_ #[J G[i].p,J G[i].v]) A3).run A6 (((w.alloc x).alloc y).alloc z)=Ac (Ay #[A7 A8 (i:Int),Af A3]) (((w.alloc x).alloc y).alloc z):=by
  intro x y z;rcases a8r s c (places G) G[i].name (((w.alloc x).alloc y).alloc z) (b.short _ (DU hi)) b.keys (by rw[EO _ _ _ (by simp only[Fo];omega),EO _ _ _ (by simp only[Fo];omega),EO _ _ _ hlt];exact K.out)with⟨_,h⟩|⟨x,hx,he,h⟩;·exact absurd rfl (h _ (aUI i hi))
  obtain⟨N,e2⟩:=px hx;have:x.2=i:=b.inj N hi (e2.trans he);rw[this]at h;exact h
 have U:i<1000000:=by have:=b.len;omega
 have M:(i:Int)<(G.length:Int):=by omega
 generalize Q:G[i]=r at c0 c1 c2 c3 I⊢;obtain⟨p,v,m,BP,B0,BN,g5⟩:=r;simp only at c0 c1 c2 c3 I;have d:=λx y z=>BL (BL (BL c0 x) y) z;have k1:=λx y z=>BL (BL (BL c1 x) y) z;have f:=λx y z=>BL (BL (BL c2 x) y) z;have o:=λx y z=>BL (BL (BL c3 x) y) z;clear Q H hlt b hs c0 c1 c2 c3;go_enter Tryz.func218,Tryz.ntmps218;go_wp2;(try simp only[ZE,Exit.then]);refine Md (results_cell_tmp rfl _ _ (w.heap.size+1+1) 75 #[J p,J v,J m,A4 BP B0 BN] (0,0) _ rfl (F7 _ _ _ (by simp only[Fo])) Tryz.underlying75 rfl (by kernel_rfl)) rfl ?_;exact⟨rfl,eL _ _ _ _⟩
def a8Z(w:A0)(a b c:Df):(((w.alloc a).alloc b).alloc c).heap[w.heap.size]?=Y a:=by rw[EO _ _ _ (by simp only[Fo];omega),EO _ _ _ (by simp only[Fo];omega)];exact F7 _ _ _ rfl
def x_(w:A0)(a b c:Df):(((w.alloc a).alloc b).alloc c).heap[w.heap.size+1]?=Y b:=by rw[EO _ _ _ (by simp only[Fo];omega)];exact F7 _ _ _ (by simp only[Fo])
def xa(w:A0)(a b c:Df):(((w.alloc a).alloc b).alloc c).heap[w.heap.size+1+1]?=Y c:=F7 _ _ _ (by simp only[Fo])
def a8_(w:A0)(a b c:Df):(((w.alloc a).alloc b).alloc c).heap.size=w.heap.size+1+1+1:=by simp only[Fo]
def a3d{wa a:A0}{c:Df}(h:AX n (wa.alloc c) a)(hn:wa.heap.size<n):a.heap[wa.heap.size]?=Y c:=(h.block _ hn).trans (F7 wa _ _ rfl)
def tw(h:w.heap[b]?=Y (AF #[g2,AM,fk,g0] t)):w.cell? ⟨b,0,Z⟩=Y g2/\w.cell? ⟨b,1,Z⟩=Y AM/\w.cell? ⟨b,2,Z⟩=Y fk/\w.cell? ⟨b,3,Z⟩=Y g0/\w.frozen? ⟨b,0,Z⟩=A9/\w.frozen? ⟨b,1,Z⟩=A9/\w.frozen? ⟨b,2,Z⟩=A9/\w.frozen? ⟨b,3,Z⟩=A9/\AL (w.heap[b]?=Y (AF #[g2,AM,fk,g0] t)):=⟨by rw[Ao h];rfl,by rw[Ao h];rfl,by rw[Ao h];rfl,by rw[Ao h];rfl,E6 h 0,E6 h 1,E6 h 2,E6 h 3,A5 h⟩
def hJ{W:A0}(h:AX B W w)(s:B<=b):AX B W ((((w.setCell ⟨b,0,Z⟩ g2).setCell ⟨b,1,Z⟩ AM).setCell ⟨b,2,Z⟩ fk).setCell ⟨b,3,Z⟩ g0):=(((h.setCell (p:=⟨b,0,Z⟩) s _).setCell (p:=⟨b,1,Z⟩) s _).setCell (p:=⟨b,2,Z⟩) s _).setCell (p:=⟨b,3,Z⟩) s _
def aNC{z0 Ew z2 z3:A1}(h:w.heap[b]?=Y (AF #[z0,Ew,z2,z3] t))(g2 AM fk g0:A1):((((w.setCell ⟨b,0,Z⟩ g2).setCell ⟨b,1,Z⟩ AM).setCell ⟨b,2,Z⟩ fk).setCell ⟨b,3,Z⟩ g0).heap[b]?=Y (AF #[g2,AM,fk,g0] t):=F2 _ b 3 _ _ g0 (F2 _ b 2 _ _ fk (F2 _ b 1 _ _ AM (F2 w b 0 _ _ g2 h)))
def aIF{W:A0}(h:AX B W w)(s:B<=b){a c d f:A1}:AX B W ((((((((w.setCell ⟨b,0,Z⟩ g2).setCell ⟨b,1,Z⟩ AM).setCell ⟨b,2,Z⟩ fk).setCell ⟨b,3,Z⟩ g0).setCell ⟨b,4,Z⟩ a).setCell ⟨b,5,Z⟩ c).setCell ⟨b,6,Z⟩ d).setCell ⟨b,7,Z⟩ f):=((((hJ h s).setCell (p:=⟨b,4,Z⟩) s _).setCell (p:=⟨b,5,Z⟩) s _).setCell (p:=⟨b,6,Z⟩) s _).setCell (p:=⟨b,7,Z⟩) s _
def aND{z0 Ew z2 z3 z4 z5 Wk Tl:A1}(h:w.heap[b]?=Y (AF #[z0,Ew,z2,z3,z4,z5,Wk,Tl] t))(g2 AM fk g0 a c d f:A1):((((((((w.setCell ⟨b,0,Z⟩ g2).setCell ⟨b,1,Z⟩ AM).setCell ⟨b,2,Z⟩ fk).setCell ⟨b,3,Z⟩ g0).setCell ⟨b,4,Z⟩ a).setCell ⟨b,5,Z⟩ c).setCell ⟨b,6,Z⟩ d).setCell ⟨b,7,Z⟩ f).heap[b]?=Y (AF #[g2,AM,fk,g0,a,c,d,f] t):=by
 have K:(w.setCell ⟨b,0,Z⟩ g2).heap[b]?=Y (AF #[g2,Ew,z2,z3,z4,z5,Wk,Tl] t):=by rw[F2 w b 0 _ _ g2 h];rfl
 generalize w.setCell ⟨b,0,Z⟩ g2=w0 at K⊢;have M:(w0.setCell ⟨b,1,Z⟩ AM).heap[b]?=Y (AF #[g2,AM,z2,z3,z4,z5,Wk,Tl] t):=by rw[F2 w0 b 1 _ _ AM K];rfl
 generalize w0.setCell ⟨b,1,Z⟩ AM=s at M⊢;have h2:(s.setCell ⟨b,2,Z⟩ fk).heap[b]?=Y (AF #[g2,AM,fk,z3,z4,z5,Wk,Tl] t):=by rw[F2 s b 2 _ _ fk M];rfl
 generalize s.setCell ⟨b,2,Z⟩ fk=y at h2⊢;have h3:(y.setCell ⟨b,3,Z⟩ g0).heap[b]?=Y (AF #[g2,AM,fk,g0,z4,z5,Wk,Tl] t):=by rw[F2 y b 3 _ _ g0 h2];rfl
 generalize y.setCell ⟨b,3,Z⟩ g0=z at h3⊢;have h4:(z.setCell ⟨b,4,Z⟩ a).heap[b]?=Y (AF #[g2,AM,fk,g0,a,z5,Wk,Tl] t):=by rw[F2 z b 4 _ _ a h3];rfl
 generalize z.setCell ⟨b,4,Z⟩ a=H at h4⊢;have N:(H.setCell ⟨b,5,Z⟩ c).heap[b]?=Y (AF #[g2,AM,fk,g0,a,c,Wk,Tl] t):=by rw[F2 H b 5 _ _ c h4];rfl
 generalize H.setCell ⟨b,5,Z⟩ c=I at N⊢;have Q:(I.setCell ⟨b,6,Z⟩ d).heap[b]?=Y (AF #[g2,AM,fk,g0,a,c,d,Tl] t):=by rw[F2 I b 6 _ _ d N];rfl
 generalize I.setCell ⟨b,6,Z⟩ d=U at Q⊢;rw[F2 U b 7 _ _ f Q];rfl
def yv{g:Nat}(h:g≠b)(g2 AM fk g0 a c d f:A1):((((((((w.setCell ⟨b,0,Z⟩ g2).setCell ⟨b,1,Z⟩ AM).setCell ⟨b,2,Z⟩ fk).setCell ⟨b,3,Z⟩ g0).setCell ⟨b,4,Z⟩ a).setCell ⟨b,5,Z⟩ c).setCell ⟨b,6,Z⟩ d).setCell ⟨b,7,Z⟩ f).heap[g]?=w.heap[g]?:=by rw[HP _ _ _ _ (show g≠b from h),HP _ _ _ _ (show g≠b from h),HP _ _ _ _ (show g≠b from h),HP _ _ _ _ (show g≠b from h),HP _ _ _ _ (show g≠b from h),HP _ _ _ _ (show g≠b from h),HP _ _ _ _ (show g≠b from h),HP _ _ _ _ (show g≠b from h)]
def UJ{g o:Nat}(h:g≠b)(g2 AM fk g0 a c d f:A1):((((((((w.setCell ⟨b,0,Z⟩ g2).setCell ⟨b,1,Z⟩ AM).setCell ⟨b,2,Z⟩ fk).setCell ⟨b,3,Z⟩ g0).setCell ⟨b,4,Z⟩ a).setCell ⟨b,5,Z⟩ c).setCell ⟨b,6,Z⟩ d).setCell ⟨b,7,Z⟩ f).cell? ⟨g,o,Z⟩=w.cell? ⟨g,o,Z⟩:=FG (yv h _ _ _ _ _ _ _ _)
def aIS{a c d f:A1}(h:w.heap[b]?=Y (AF #[g2,AM,fk,g0,a,c,d,f] t)):(w.cell? ⟨b,0,Z⟩=Y g2/\w.cell? ⟨b,1,Z⟩=Y AM/\w.cell? ⟨b,2,Z⟩=Y fk/\w.cell? ⟨b,3,Z⟩=Y g0/\w.cell? ⟨b,4,Z⟩=Y a/\w.cell? ⟨b,5,Z⟩=Y c/\w.cell? ⟨b,6,Z⟩=Y d/\w.cell? ⟨b,7,Z⟩=Y f)/\w.frozen? ⟨b,0,Z⟩=A9/\w.frozen? ⟨b,1,Z⟩=A9/\w.frozen? ⟨b,2,Z⟩=A9/\w.frozen? ⟨b,3,Z⟩=A9/\w.frozen? ⟨b,4,Z⟩=A9/\w.frozen? ⟨b,5,Z⟩=A9/\w.frozen? ⟨b,6,Z⟩=A9/\w.frozen? ⟨b,7,Z⟩=A9:=⟨⟨by rw[Ao h];rfl,by rw[Ao h];rfl,by rw[Ao h];rfl,by rw[Ao h];rfl,by rw[Ao h];rfl,by rw[Ao h];rfl,by rw[Ao h];rfl,by rw[Ao h];rfl⟩,E6 h 0,E6 h 1,E6 h 2,E6 h 3,E6 h 4,E6 h 5,E6 h 6,E6 h 7⟩
structure h6(own:zz)(r:Rel):Prop where
 Hy:V.Hy r.m
 lines:Lo (V.parse r.m).1=MP r.p r.D'
 size:r.m.size<=1000000000
 D':∀m∈r.D',m.1≠own/\Ft m
 len:r.D'.length<=1000000
structure Reads(w:A0)(own:zz)(r1 r2 a2 up:Nat)(G:List Rel):Prop where
 EX:∃m,w.cell? ⟨0,0,Z⟩=Y (A7 A8 m)
 ex:∃c,w.heap[r1]?=Y (DM #[] c)
 aVg:∃c,w.heap[r2]?=Y (DM #[] c)
 pl:∃c,w.heap[up]?=Y (DM (EY (places G)) c)
 reg:Ih w a2 G
def Reads.below{w w':A0}{own:zz}{r1 r2 a2 a:Nat}{G:List Rel}(h:Reads w own r1 r2 a2 a G)(b:AX w.heap.size w w'):Reads w' own r1 r2 a2 a G:=by obtain⟨⟨m,s⟩,⟨c2,h2⟩,⟨c3,h3⟩,⟨c4,h4⟩,y⟩:=h;exact⟨⟨m,Am b s⟩,⟨c2,H2 b h2⟩,⟨c3,H2 b h3⟩,⟨c4,H2 b h4⟩,y.below b⟩
abbrev IZ(own:zz)(r1 r2 a2 n cap up:Nat):A1:=A_ #[J own,Ah (Y r1),Ah (Y r2),A4 (Y ⟨a2,0,Z⟩) n cap,Ah (Y up)]
abbrev Ya(r:Rel)(B4:A1):A1:=A_ #[J r.p,J r.v,J r.p,J r.v,J r.m,A4 r.BP r.B0 r.BN,A7 A8 0,B4]
def aVi(own:zz)(r1 r2 a2 cap H:Nat)(G:List Rel)(i:Nat)(hi:i<G.length)(B3:Mh G)(FJ:h6 own G[i])(w:A0)(A2:Reads w own r1 r2 a2 H G):Ai A6 200 #[IZ own r1 r2 a2 G.length cap H,A_ #[J G[i].p,J G[i].v]] w λe w'=>∃Q,e=AZ (Ya G[i] Q)/\w'.ownsRow w.heap.size 85 2 Q G[i].D'.length (F8 G[i].D')/\Gv isStr w' 2 Q G[i].D'.length/\AX w.heap.size w w':=by
 have C2:=A5 A2;have VU:=A5 (B3.short _ (DU hi));have FV:=A5 λ(wx:A0)(c:Nat)hp hs=>aL8 a2 cap H c G i hi B3 wx hp hs;have a:=A5 FJ;clear B3 FJ A2;generalize AI:G[i]=r at VU FV a⊢;obtain⟨p,v,m,BP,B0,BN,g5⟩:=r;simp only[IZ,Ya,Rel.name]at*;clear AI;go_enter Tryz.func200,Tryz.ntmps200;go_wp2_with fail;have Vx:=eL w (AF #[J own,Ah (Y r1),Ah (Y r2),A4 (Y ⟨a2,0,Z⟩) G.length cap,Ah (Y H)] 138) (AF #[J p,J v] 85) (AF #[J ⟨#[]⟩,J ⟨#[]⟩,J ⟨#[]⟩,J ⟨#[]⟩,J ⟨#[]⟩,A4 Z 0 0,A7 A8 0,A4 Z 0 0] 234);have g2:=a8Z w (AF #[J own,Ah (Y r1),Ah (Y r2),A4 (Y ⟨a2,0,Z⟩) G.length cap,Ah (Y H)] 138) (AF #[J p,J v] 85) (AF #[J ⟨#[]⟩,J ⟨#[]⟩,J ⟨#[]⟩,J ⟨#[]⟩,J ⟨#[]⟩,A4 Z 0 0,A7 A8 0,A4 Z 0 0] 234);have AM:=x_ w (AF #[J own,Ah (Y r1),Ah (Y r2),A4 (Y ⟨a2,0,Z⟩) G.length cap,Ah (Y H)] 138) (AF #[J p,J v] 85) (AF #[J ⟨#[]⟩,J ⟨#[]⟩,J ⟨#[]⟩,J ⟨#[]⟩,J ⟨#[]⟩,A4 Z 0 0,A7 A8 0,A4 Z 0 0] 234);have fk:=xa w (AF #[J own,Ah (Y r1),Ah (Y r2),A4 (Y ⟨a2,0,Z⟩) G.length cap,Ah (Y H)] 138) (AF #[J p,J v] 85) (AF #[J ⟨#[]⟩,J ⟨#[]⟩,J ⟨#[]⟩,J ⟨#[]⟩,J ⟨#[]⟩,A4 Z 0 0,A7 A8 0,A4 Z 0 0] 234);have el:=a8_ w (AF #[J own,Ah (Y r1),Ah (Y r2),A4 (Y ⟨a2,0,Z⟩) G.length cap,Ah (Y H)] 138) (AF #[J p,J v] 85) (AF #[J ⟨#[]⟩,J ⟨#[]⟩,J ⟨#[]⟩,J ⟨#[]⟩,J ⟨#[]⟩,A4 Z 0 0,A7 A8 0,A4 Z 0 0] 234);generalize((w.alloc (AF #[J own,Ah (Y r1),Ah (Y r2),A4 (Y ⟨a2,0,Z⟩) G.length cap,Ah (Y H)] 138)).alloc (AF #[J p,J v] 85)).alloc (AF #[J ⟨#[]⟩,J ⟨#[]⟩,J ⟨#[]⟩,J ⟨#[]⟩,J ⟨#[]⟩,A4 Z 0 0,A7 A8 0,A4 Z 0 0] 234)=W at Vx g2 AM fk el⊢;have X:=A5 Vx;have J1:=A5 el;have VV:=A5 g2;have Gc:=A5 AM;have IL:=A5 fk;clear Vx el g2 AM fk;have o:AL (∀wx,AX W.heap.size W wx->wx.cell? ⟨w.heap.size,0,Z⟩=Y (J own)/\wx.cell? ⟨w.heap.size,1,Z⟩=Y (Ah (Y r1))/\wx.cell? ⟨w.heap.size,2,Z⟩=Y (Ah (Y r2))/\wx.cell? ⟨w.heap.size,3,Z⟩=Y (A4 (Y ⟨a2,0,Z⟩) G.length cap)/\wx.cell? ⟨w.heap.size,4,Z⟩=Y (Ah (Y H))/\wx.cell? ⟨w.heap.size+1,0,Z⟩=Y (J p)/\wx.cell? ⟨w.heap.size+1,1,Z⟩=Y (J v)):=by refine A5 λwx y=>?_;have AV:=H2 y VV.out;have h1:=H2 y Gc.out;exact⟨by rw[Ao AV];rfl,by rw[Ao AV];rfl,by rw[Ao AV];rfl,by rw[Ao AV];rfl,by rw[Ao AV];rfl,by rw[Ao h1];rfl,by rw[Ao h1];rfl⟩
 have A:AL (∀wx,AX W.heap.size W wx->Reads wx own r1 r2 a2 H G):=A5 λwx y=>C2.out.below (X.out.trans (y.mono X.out.size));have aFk:AL (∀wx,AX W.heap.size W wx->Ai A6 289 #[A_ #[J own,Ah (Y r1),Ah (Y r2)],A_ #[J p,J v]] wx λe w'=>e=AZ (A_ #[J p,J v])/\AX wx.heap.size wx w'):=by refine A5 λwx y=>?_;obtain⟨c,hc⟩:=(A.out wx y).aVg;exact aQ' own r1 r2 c (p,v) wx hc VU.out
 have aFj:AL (∀wx,AX W.heap.size W wx->Ai A6 218 #[A_ #[A4 (Y ⟨a2,0,Z⟩) G.length cap,Ah (Y H)],A_ #[J p,J v]] wx λe w'=>e=AZ (Ay #[A_ #[J p,J v,J m,A4 BP B0 BN],Af A3])/\AX wx.heap.size wx w'):=by refine A5 λwx y=>?_;obtain⟨c,hc⟩:=(A.out wx y).pl;exact FV.out wx c hc (A.out wx y).reg
 have D:AX W.heap.size W W.drew:=⟨rfl,rfl,rfl,Ae _,λ_ _=>rfl⟩;obtain⟨a0,a1,FY,a3,a4,a5,KP⟩:=o.out W (BF _ _);have K_:w.heap.size<W.heap.size:=by have:=J1.out;omega
 have GL:w.heap.size+1<W.heap.size:=by have:=J1.out;omega
 have bJ:w.heap.size≠W.heap.size:=by omega
 have m1:w.heap.size+1≠W.heap.size:=by omega
 go_cut[5,6]from 10fun b f wx=>∃s,b=Ad (Y ⟨s,0,Z⟩)/\f=Af A3/\AL (W.heap.size<=s/\wx.heap[s]?=Y (AF #[J p,J v,J m,A4 BP B0 BN] 75)/\AX W.heap.size W wx);case first=>
  as_aux_lemma=>
   go_region_held2 λwx=>wx.cell? ⟨w.heap.size,0,Z⟩=Y (J own)/\wx.cell? ⟨w.heap.size,1,Z⟩=Y (Ah (Y r1))/\wx.cell? ⟨w.heap.size,2,Z⟩=Y (Ah (Y r2))/\wx.cell? ⟨w.heap.size,3,Z⟩=Y (A4 (Y ⟨a2,0,Z⟩) G.length cap)/\wx.cell? ⟨w.heap.size,4,Z⟩=Y (Ah (Y H))/\wx.cell? ⟨w.heap.size+1,0,Z⟩=Y (J p)/\wx.cell? ⟨w.heap.size+1,1,Z⟩=Y (J v)(first|go_keep|exact o.out _ (hJ U.out I.out.size)|exact o.out _ (hJ U.out (Ae _)))(first|(go_at_call 289;refine(aFk.out _ ?_).mono ?_;(first|exact D|exact D.alloc (Ae _) _);rintro e wa⟨rfl,Lb⟩;(first|(have q:AX W.heap.size W wa:=D.trans Lb)|(have q:AX W.heap.size W wa:=(D.alloc (Ae _) _).trans (Lb.mono (by simp))));(obtain⟨F3,e1,e2,Co,Dy,J6,LX⟩:=o.out wa q);have I:=A5 q;(have I2:w.heap.size≠wa.heap.size:=by have:=q.size;omega);(have Fy:w.heap.size+1≠wa.heap.size:=by have:=q.size;omega);(first|(have gU:AL (wa.heap[W.heap.size]?=Y (AF #[J ⟨#[]⟩,J ⟨#[]⟩,J ⟨#[]⟩,A4 Z 0 0] 75)):=A5 (a3d (wa:=W.drew) Lb (by simp)))|(have gU:=A5 trivial));clear q Lb)|(go_at_call 218;refine(aFj.out _ ?_).mono ?_;(first|exact I.out|exact I.out.alloc I.out.size _);rintro e d⟨rfl,F⟩;(first|(have x:AX W.heap.size W d:=I.out.trans (F.mono I.out.size))|(have x:AX W.heap.size W d:=(I.out.alloc I.out.size _).trans (F.mono (by have:=I.out.size;simp;omega))));have U:=A5 x;(obtain⟨Gy,g1,Cx,g3,g4,PF,Vs⟩:=o.out d x);(have JA:w.heap.size≠d.heap.size:=by have:=x.size;omega);(have abA:w.heap.size+1≠d.heap.size:=by have:=x.size;omega);(first|(have P:=a3d F (by simp);obtain⟨z0,Ew,z2,z3,N6,DI,GF,IH,R⟩:=tw P;clear P)|(have P:d.heap[W.heap.size]?=Y (AF #[J ⟨#[]⟩,J ⟨#[]⟩,J ⟨#[]⟩,A4 Z 0 0] 75):=H2 F gU.out;obtain⟨z0,Ew,z2,z3,N6,DI,GF,IH,R⟩:=tw P;clear P)|skip);clear F x));all_goals
    go_wp2_with fail;go_meet;case rel=>
     refine⟨_,rfl,rfl,A5 ⟨?_,?_,?_⟩⟩;·first|with_reducible exact Ae _|with_reducible exact U.out.size|exact I.out.size
     ·first|with_reducible exact aNC R.out _ _ _ _|exact F7 d _ _ rfl
     first|with_reducible exact U.out.alloc U.out.size _|with_reducible exact hJ U.out I.out.size|exact hJ U.out (Ae _)
 case rest=>
  obtain⟨s,rfl,rfl,Eu⟩:=hcut;have FK:wc.cell? ⟨s,0,Z⟩=Y (J p):=by rw[Ao Eu.out.2.1];rfl
  have C8:wc.cell? ⟨s,2,Z⟩=Y (J m):=by rw[Ao Eu.out.2.1];rfl
  obtain⟨Hp,j4⟩:=(A.out wc Eu.out.2.2).EX;clear a0 a1 FY a3 a4 a5 KP D;go_wp2_with fail;refine(yh m Hp _ (by have:=a.out.size;simp only at this;omega) j4).mono ?_;rintro e w1⟨eC,Au⟩;have B_:=A5 (Eu.out.2.2.trans (Au.mono Eu.out.2.2.size));have XK:=A5 (H2 Au Eu.out.2.1);obtain⟨F0,Cv,rfl,Ig⟩:∃F0 Cv,e=AZ (Ay #[A4 (Y ⟨F0,0,Z⟩) (g5.length+1) Cv,DS])/\AL (∀j u,(MP p g5)[j]?=Y u->w1.cell? ⟨F0,j,Z⟩=Y u):=by
   rcases eC with⟨_,v,h1,h2⟩|⟨h,_⟩
   ·have ax:=a.out.lines;simp only at ax;rw[ax]at h2;have Bv:(V.parse m).1.length=g5.length+1:=by have:=congrArg XV ax;simpa[Lo,MP]using this
    rw[Bv]at h2;obtain⟨g,c,rfl,_,_⟩:=p8 h2 (by omega);exact⟨g,c,h1,A5 λj u H1=>Rb h2 j u H1⟩
   exact absurd a.out.Hy h
  clear eC Au FK C8 j4;go_wp2_with fail;refine(a5O F0 Cv p g5 _ (by have:=a.out.len;simp only at this;omega) Ig.out).mono ?_;rintro e K⟨Q,rfl,Aa,kc⟩;have C6:=A5 (B_.out.trans (kc.mono B_.out.size));have sg:=A5 (H2 kc XK.out);have aGG:=A5 (xv Aa);obtain⟨Bc,Ba,rfl⟩:=Ln Aa;have FK:K.cell? ⟨s,0,Z⟩=Y (J p):=by rw[Ao sg.out];rfl
  have La:s<K.heap.size:=(Array.getElem?_eq_some_iff.1 sg.out).1;have aaB:W.heap.size<=K.heap.size:=C6.out.size;clear Aa kc;go_wp2_with fail;have S:=A5 (xd K (AF #[J p,A4 Bc g5.length Ba,A4 Z 0 0,A4 Z 0 0] 128));have mM:=A5 (F7 K (AF #[J p,A4 Bc g5.length Ba,A4 Z 0 0,A4 Z 0 0] 128) _ rfl);generalize K.alloc (AF #[J p,A4 Bc g5.length Ba,A4 Z 0 0,A4 Z 0 0] 128)=z at S mM⊢;have N:=A5 (C6.out.trans (S.out.mono C6.out.size));have tE:AL (∀wx,AX z.heap.size z wx->wx.cell? ⟨w.heap.size,0,Z⟩=Y (J own)/\wx.cell? ⟨w.heap.size,1,Z⟩=Y (Ah (Y r1))/\wx.cell? ⟨w.heap.size,2,Z⟩=Y (Ah (Y r2))/\wx.cell? ⟨w.heap.size+1,0,Z⟩=Y (J p)/\wx.cell? ⟨w.heap.size+1,1,Z⟩=Y (J v)/\wx.cell? ⟨s,0,Z⟩=Y (J p)/\wx.cell? ⟨s,1,Z⟩=Y (J v)/\wx.cell? ⟨s,2,Z⟩=Y (J m)/\wx.cell? ⟨s,3,Z⟩=Y (A4 BP B0 BN)/\wx.cell? ⟨K.heap.size,1,Z⟩=Y (A4 Bc g5.length Ba)):=by refine A5 λwx y=>?_;have Gz:=N.out.trans (y.mono N.out.size);obtain⟨a0,a1,FY,a3,a4,a5,KP⟩:=o.out wx Gz;have hx:=H2 y (H2 S.out sg.out);obtain⟨z0,Ew,z2,z3,_⟩:=tw hx;have hp:=H2 y mM.out;exact⟨a0,a1,FY,a5,KP,z0,Ew,z2,z3,by rw[Ao hp];rfl⟩
  have zt:AX z.heap.size z z.drew:=⟨rfl,rfl,rfl,Ae _,λ_ _=>rfl⟩;have s_:AL (∀wx,AX z.heap.size z wx->Ai A6 125 #[A_ #[J own,Ah (Y r1),Ah (Y r2)],A4 Bc g5.length Ba] wx λe w'=>∃Q,e=AZ Q/\w'.ownsRow wx.heap.size 85 2 Q g5.length (F8 g5)/\Gv isStr w' 2 Q g5.length/\AX wx.heap.size wx w'):=by refine A5 λwx y=>?_;have Gz:=N.out.trans (y.mono N.out.size);obtain⟨c,hc⟩:=(A.out wx Gz).ex;exact a9t own r1 r2 c _ g5 wx hc (aGG.out.below (S.out.trans (y.mono S.out.size))) (by have:=a.out.len;simp only at this;omega) a.out.D'
  have ga:AL (∀wx,AX z.heap.size z wx->wx.heap[w.heap.size+1+1]?=Y (AF #[J ⟨#[]⟩,J ⟨#[]⟩,J ⟨#[]⟩,J ⟨#[]⟩,J ⟨#[]⟩,A4 Z 0 0,A7 A8 0,A4 Z 0 0] 234)):=A5 λwx y=>H2 (N.out.trans (y.mono N.out.size)) IL.out;obtain⟨N1,JX,Rt,qA,yn,abI,abJ,abK,aB_,abL⟩:=tE.out z (BF _ _);have Gl:w.heap.size≠w.heap.size+1+1:=by omega
  have k1:w.heap.size+1≠w.heap.size+1+1:=by omega
  have Cu:s≠w.heap.size+1+1:=by have:=Eu.out.1;have:=J1.out;omega
  have IC:K.heap.size≠w.heap.size+1+1:=by have:=J1.out;omega
  have aGQ:AL (∀wx,AX z.heap.size z wx->∀g2 AM fk g0 g7 hw ip s1:A1,(λM:A0=>M.cell? ⟨w.heap.size,0,Z⟩=Y (J own)/\M.cell? ⟨w.heap.size,1,Z⟩=Y (Ah (Y r1))/\M.cell? ⟨w.heap.size,2,Z⟩=Y (Ah (Y r2))/\M.cell? ⟨w.heap.size+1,0,Z⟩=Y (J p)/\M.cell? ⟨w.heap.size+1,1,Z⟩=Y (J v)/\M.cell? ⟨s,0,Z⟩=Y (J p)/\M.cell? ⟨s,1,Z⟩=Y (J v)/\M.cell? ⟨s,2,Z⟩=Y (J m)/\M.cell? ⟨s,3,Z⟩=Y (A4 BP B0 BN)/\M.cell? ⟨K.heap.size,1,Z⟩=Y (A4 Bc g5.length Ba)) ((((((((wx.setCell ⟨w.heap.size+1+1,0,Z⟩ g2).setCell ⟨w.heap.size+1+1,1,Z⟩ AM).setCell ⟨w.heap.size+1+1,2,Z⟩ fk).setCell ⟨w.heap.size+1+1,3,Z⟩ g0).setCell ⟨w.heap.size+1+1,4,Z⟩ g7).setCell ⟨w.heap.size+1+1,5,Z⟩ hw).setCell ⟨w.heap.size+1+1,6,Z⟩ ip).setCell ⟨w.heap.size+1+1,7,Z⟩ s1)):=by refine A5 λwx y g2 AM fk g0 g7 hw ip s1=>?_;obtain⟨F3,e1,e2,Co,Dy,J6,LX,nD,Vn,Vo⟩:=tE.out wx y;exact⟨(UJ Gl _ _ _ _ _ _ _ _).trans F3,(UJ Gl _ _ _ _ _ _ _ _).trans e1,(UJ Gl _ _ _ _ _ _ _ _).trans e2,(UJ k1 _ _ _ _ _ _ _ _).trans Co,(UJ k1 _ _ _ _ _ _ _ _).trans Dy,(UJ Cu _ _ _ _ _ _ _ _).trans J6,(UJ Cu _ _ _ _ _ _ _ _).trans LX,(UJ Cu _ _ _ _ _ _ _ _).trans nD,(UJ Cu _ _ _ _ _ _ _ _).trans Vn,(UJ IC _ _ _ _ _ _ _ _).trans Vo⟩
  clear FK;go_region_held2 λwx=>wx.cell? ⟨w.heap.size,0,Z⟩=Y (J own)/\wx.cell? ⟨w.heap.size,1,Z⟩=Y (Ah (Y r1))/\wx.cell? ⟨w.heap.size,2,Z⟩=Y (Ah (Y r2))/\wx.cell? ⟨w.heap.size+1,0,Z⟩=Y (J p)/\wx.cell? ⟨w.heap.size+1,1,Z⟩=Y (J v)/\wx.cell? ⟨s,0,Z⟩=Y (J p)/\wx.cell? ⟨s,1,Z⟩=Y (J v)/\wx.cell? ⟨s,2,Z⟩=Y (J m)/\wx.cell? ⟨s,3,Z⟩=Y (A4 BP B0 BN)/\wx.cell? ⟨K.heap.size,1,Z⟩=Y (A4 Bc g5.length Ba)(first|(go_keep;done)|exact aGQ.out _ GP.out _ _ _ _ _ _ _ _)(first|(go_at_call 125;refine(s_.out _ zt).mono ?_;rintro e wd⟨Q,rfl,Aa,Fx,L0⟩;have Dd:=zt.trans L0;(obtain⟨F3,e1,e2,Co,Dy,J6,LX,nD,Vn,Vo⟩:=tE.out wd Dd);(obtain⟨⟨g2,AM,fk,g0,g7,hw,ip,s1⟩,N6,DI,GF,IH,Ob,Oc,S6,Od⟩:=aIS (ga.out wd Dd));(obtain⟨L9,Ia,rfl⟩:=Ln Aa);have GP:=A5 Dd;have Ev:=A5 Aa;have mQ:=A5 Fx;clear Dd Aa L0 Fx));all_goals
   go_wp2_with fail;refine Md (XE rfl _ _ (w.heap.size+1+1) 234 _ (0,0) _ rfl (aND (ga.out wd GP.out) _ _ _ _ _ _ _ _) Tryz.underlying234 rfl (by kernel_rfl)) rfl ?_;have aMF:AX w.heap.size w wd:=X.out.trans ((N.out.trans (GP.out.mono N.out.size)).mono X.out.size);have hn:=Ev.out;have HT:=N.out.size;have HU:=J1.out;refine⟨_,rfl,⟨hn.1,?_⟩,mQ.out.same λg Hh hv=>yv ?_ _ _ _ _ _ _ _ _,aIF aMF (by omega)⟩
   ·rcases hn.2 with h|⟨g,Hh,g6,h1,h2,h3,h4⟩;·exact AD h
    have AI:z.heap.size<=g:=h2;refine AJ ⟨g,Hh,g6,h1,by omega,?_,h4⟩;rw[yv (by omega)];exact h3
   have AI:z.heap.size<=g:=(hn.lt g (by rw[hv];rfl)).1;omega
def a9k(p v m:zz)(b:Option Ak)(s h:Nat)(w:A0):Ai A6 122 #[A_ #[J p,J v,J m,A4 b s h]] w λe w'=>e=AZ (A_ #[J p,J v])/\AX w.heap.size w w':=by go_enter Tryz.func122,Tryz.ntmps122;go_wp2;(try simp only[ZE,Exit.then]);refine Md (XE rfl _ _ (w.heap.size+1) 85 #[J p,J v] (0,0) _ rfl (F7 _ _ _ (by simp only[Fo])) X6 rfl (by kernel_rfl)) rfl ?_;exact⟨rfl,NZ _ _ _⟩
def aS7(n:Nat)(w:A0):(cJ 131 (Y (A7 A8 (n:Int)))).run A6 w=Ac (Ah (Y w.heap.size)) (w.alloc (DM #[] 0)):=by have b:(asInt (A7 A8 (n:Int))).run A6 w=Ac (n:Int) w:=rfl;simp[cJ,Q' ZQ,b,Ly]
def aUJ(G:List Rel)(k:Nat)(h:k<G.length):places (G.take (k+1))=places (G.take k)++[(G[k].name,k)]:=by unfold places;rw[Um G k h,List.zipIdx_append,U7];simp;omega
def aIe(a2 cap:Nat)(G:List Rel)(m:Int)(w:A0)(B3:Mh G)(hs:Ih w a2 G)(F:∀r∈G,V.JN r.p r.v=Z)(hm:w.cell? ⟨0,0,Z⟩=Y (A7 A8 m))(a:∀r∈G,r.p.size<=1000000/\r.v.size<=1000000):Ai A6 60 #[A4 (Y ⟨a2,0,Z⟩) G.length cap] w λe w'=>∃c,e=AZ (A_ #[A4 (Y ⟨a2,0,Z⟩) G.length cap,Ah (Y c)])/\w.heap.size<=c/\w'.heap[c]?=Y (DM (EY (places G)) G.length)/\AX w.heap.size w w':=by
 have b1:=aS7 G.length;have d:=A5 B3;have C2:=A5 hs;have f:=A5 F;have Zf:=A5 a;have Bv:=B3.len;clear B3 hs F a;go_enter Tryz.func60,Tryz.ntmps60;go_wp2;go_loopw[14]λi wr=>∃k:Nat,k<=G.length/\i=A7 A8 k/\AL (wr.heap[w.heap.size+1]?=Y (DM (EY (places (G.take k))) k)/\wr.heap[w.heap.size]?=Y (AF #[A4 Z 0 0,Ah Z] 136)/\AX w.heap.size w wr)(λi _=>G.length-(BJ i).toNat);case atStart=>refine⟨0,by omega,rfl,A5 ⟨F7 _ _ _ (by simp only[Fo]),?_,NZ _ _ _⟩⟩;rw[EO _ _ _ (by simp only[Fo];omega)];exact F7 _ _ _ rfl
 case round=>
  obtain⟨k,hk,rfl,H⟩:=hrel;obtain⟨o,y,hb⟩:=H.out;have P:=A5 o;have XK:=A5 y;have I:=A5 hb;have a:w.heap.size+1<wr.heap.size:=(Array.getElem?_eq_some_iff.1 o).1;clear H o hb;by_cases hlt:k<G.length
  ·obtain⟨AV,h1,h2,h3⟩:=C2.out k hlt;have c0:=Am I.out AV;have c1:=Am I.out h1;have c2:=Am I.out h2;have c3:=Am I.out h3;have EU:a2<wr.heap.size:=FA (h:=c0);have q:=A5 (aUJ G k hlt);have Eu:=A5 (f.out _ (DU hlt));have J1:=A5 (Zf.out _ (DU hlt));have U:=A5 (d.out.short _ (DU hlt));have Q:AL (∀x∈places (G.take k),x.1≠G[k].name):=by
    refine A5 λx hx e=>?_;obtain⟨S,e2⟩:=px hx;have dz:x.2<k:=by simp at S;omega
    have Co:G[x.2].name=G[k].name:=by rw[<-e,<-e2];simp
    have:=d.out.inj (by omega) hlt Co;omega
   have W:AL (∀x∈places (G.take k),Ft x.1):=by refine A5 λx hx=>?_;obtain⟨S,e2⟩:=px hx;rw[<-e2];refine d.out.short _ ?_;rw[aGz];exact DU _
   clear AV h1 h2 h3;generalize G[k]=r at c0 c1 c2 c3 q Eu J1 U Q;obtain⟨p,v,Hp,BP,B0,BN,g5⟩:=r;simp only[Rel.name]at c0 c1 c2 c3 q Eu J1 U Q;clear y;go_wp2_with fail;refine(a9k p v Hp BP B0 BN _).mono ?_;rintro e s⟨rfl,N⟩;have X:AX w.heap.size w s:=(I.out.alloc (by omega) _).trans (N.mono (by simp;omega));have GV:wr.heap.size+1<=s.heap.size:=by have:=N.size;simpa using this
   have u:(s.alloc (AF #[J p,J v] 85)).heap[w.heap.size+1]?=Y (DM (EY (places (G.take k))) k):=by rw[EO _ _ _ (by omega),N.block _ (by simp;omega),EO _ _ _ a];exact P.out
   have K:(s.alloc (AF #[J p,J v] 85)).heap[w.heap.size]?=Y (AF #[A4 Z 0 0,Ah Z] 136):=by rw[EO _ _ _ (by omega),N.block _ (by simp;omega),EO _ _ _ (by omega)];exact XK.out
   have A:=A5 (X.alloc (by omega) (AF #[J p,J v] 85));have OG:(Ix 131 (Ah (Y (w.heap.size+1))) (A_ #[J p,J v]) A3).run A6 (s.alloc (AF #[J p,J v] 85))=Ac (Ay #[A7 A8 0,Af A9]) (s.alloc (AF #[J p,J v] 85)):=by
    rcases a8r (w.heap.size+1) k (places (G.take k)) (p,v) _ U.out W.out u with⟨h,_⟩|⟨x,hx,PN,_⟩;·exact h
    exact absurd PN (Q.out x hx)
   have sx:=A5 u;have IL:=A5 K;clear N X u K c0 c1 c2 c3;go_wp2_with fail;refine(xt p v m _ (by have:=J1.out.1;omega) (by have:=J1.out.2;omega) (Am A.out hm)).mono ?_;rintro e b⟨r,rfl,A2,z⟩;rw[Eu.out]at A2;obtain rfl:r=Ad Z:=A2;have K5:s.heap.size+1<=b.heap.size:=by have:=z.size;simpa using this
   have nb:b.heap[w.heap.size+1]?=Y (DM (EY (places (G.take k))) (places (G.take k)).length):=by rw[z.block _ (by simp;omega),sx.out];simp[places];omega
   have M:b.heap[w.heap.size]?=Y (AF #[A4 Z 0 0,Ah Z] 136):=by rw[z.block _ (by simp;omega)];exact IL.out
   have BC:b.cell? ⟨s.heap.size,0,Z⟩=Y (J p):=Am z (by simp);have d1:b.cell? ⟨s.heap.size,1,Z⟩=Y (J v):=Am z (by simp);have jR:=aUR (w.heap.size+1) (places (G.take k)) (p,v) k b U.out W.out Q.out nb;have R:AL (({b with heap:=b.heap.setIfInBounds (w.heap.size+1) (DM (EY (places (G.take k)++[((p,v),k)])) ((places (G.take k)).length+1))}:A0).heap[w.heap.size+1]?=Y (DM (EY (places (G.take (k+1)))) (k+1))/\({b with heap:=b.heap.setIfInBounds (w.heap.size+1) (DM (EY (places (G.take k)++[((p,v),k)])) ((places (G.take k)).length+1))}:A0).heap[w.heap.size]?=Y (AF #[A4 Z 0 0,Ah Z] 136)/\AX w.heap.size w {b with heap:=b.heap.setIfInBounds (w.heap.size+1) (DM (EY (places (G.take k)++[((p,v),k)])) ((places (G.take k)).length+1))}):=by
    refine A5 ⟨?_,?_,a3Z (A.out.trans (z.mono A.out.size)) (by omega) _⟩;·show(b.heap.setIfInBounds (w.heap.size+1) _)[w.heap.size+1]?=_;rw[HM,if_pos rfl,if_pos (by omega),q.out];simp[places];omega
    show(b.heap.setIfInBounds (w.heap.size+1) _)[w.heap.size]?=_;rw[HM,if_neg (by omega)];exact M
   simp only[HH]at jR;clear z nb M OG;go_wp2;first
   |exact⟨⟨k+1,by omega,by go_num,R⟩,by simp[BJ];omega⟩
   |
    (
     go_roundw;case rel=>exact⟨k+1,by omega,by go_num,R⟩
     case measure=>simp[BJ];omega)
  have Gi:k=G.length:=by omega
  subst Gi;have b0:wr.cell? ⟨w.heap.size,0,Z⟩=Y (A4 Z 0 0):=by rw[Ao y];rfl
  have Cc:wr.cell? ⟨w.heap.size,1,Z⟩=Y (Ah Z):=by rw[Ao y];rfl
  have f0:wr.frozen? ⟨w.heap.size,0,Z⟩=A9:=E6 y 0;have Ep:wr.frozen? ⟨w.heap.size,1,Z⟩=A9:=E6 y 1;have D:=F2 _ w.heap.size 1 _ _ (Ah (Y (w.heap.size+1))) (F2 wr w.heap.size 0 _ _ (A4 (Y ⟨a2,0,Z⟩) G.length cap) y);clear y;go_wp2;(try simp only[ZE,Exit.then]);refine Md (XE rfl _ _ w.heap.size 136 #[A4 (Y ⟨a2,0,Z⟩) G.length cap,Ah (Y (w.heap.size+1))] (0,0) _ rfl D Tryz.underlying136 rfl (by kernel_rfl)) rfl ?_;refine⟨_,rfl,by omega,?_,(I.out.setCell (p:=⟨w.heap.size,0,Z⟩) (Ae _) _).setCell (p:=⟨w.heap.size,1,Z⟩) (Ae _) _⟩;have h:=P.out;rw[O3]at h;rw[HP _ _ _ _ (by show w.heap.size+1≠w.heap.size;omega),HP _ _ _ _ (by show w.heap.size+1≠w.heap.size;omega)];exact h
def V.bM(h b:Int):Int:=EK.wrap (bits BinOp.xor EK h (EK.wrap b)*1099511628211)
def V.Ut(h:Int):zx->Int|[]=>h|b::r=>V.Ut (V.bM h (b.toNat:Int)) r
def V.a9b(a b:zx):∀h,V.Ut h (a++b)=V.Ut (V.Ut h a) b:=by induction a with|nil=>intro h;rfl|cons x r s=>intro h;exact s _
def V.Kc(h:Int)(s:zx):Int:=V.Ut h (s++[0])
def V.a9c(h:Int)(s:zx):V.Kc h s=V.bM (V.Ut h s) 0:=by unfold V.Kc;rw[V.a9b];rfl
def aCS(h b:Int)(w:A0):Ai A6 210 #[A7 EK h,A7 F1 b] w λe w'=>e=AZ (A7 EK (V.bM h b))/\w'=w:=by go_enter Tryz.func210,Tryz.ntmps210;go_wp2;go_ret;exact⟨rfl,rfl⟩
def aCT(h:Int)(s:zz)(w:A0)(hs:s.size<=BH):Ai A6 137 #[A7 EK h,J s] w λe w'=>e=AZ (A7 EK (V.Kc h s.data.toList))/\w'=w:=by
 unfold BH at hs;go_enter Tryz.func137,Tryz.ntmps137;go_wp2;go_loop[0,5,8]λv _ i=>∃k:Nat,k<=s.size/\i=A7 A8 k/\v=A7 EK (V.Ut h (s.data.toList.take k))(λ_ _ i=>s.size-(Mc i).toNat);case atStart=>exact⟨0,Jf _,rfl,rfl⟩
 case round=>
  obtain⟨k,b,rfl,rfl⟩:=hrel;by_cases hlt:k<s.size
  ·have H:AL (V.Ut h (s.data.toList.take (k+1))=V.bM (V.Ut h (s.data.toList.take k)) ((s[k].toNat:Nat):Int)):=A5 (by rw[kN s k hlt,V.a9b];rfl);obtain⟨x,hx⟩:∃x,x=V.Ut h (s.data.toList.take k):=⟨_,rfl⟩;rw[<-hx]at H⊢;clear hx;go_wp2_with(go_at_call 210;refine(aCS _ _ _).mono ?_;rintro e w'⟨rfl,rfl⟩);go_round;case rel=>exact⟨k+1,by omega,by go_num,by rw[H.out]⟩
   case measure=>simp[Mc];omega
  have e:s.data.toList.take k=s.data.toList:=XX (by simp;omega);rw[e];clear e;go_wp2_with(go_at_call 210;refine(aCS _ _ _).mono ?_;rintro e w'⟨rfl,rfl⟩);go_ret;exact⟨by rw[V.a9c];rfl,rfl⟩
def JL(x y:zz)(h:x.size+y.size<=1000000)(w:A0):(cP .add x y).run A6 w=Ac (J (x++y)) w:=a1e (P:=A6) w x y (by omega)
def GY(x y:zz):(x++y).size=x.size+y.size:=by simp
def aK(x y:zz):(x++y).data.toList=x.data.toList++y.data.toList:=by simp
def aLx(w:A0)(a b c d e:Df):(((((w.alloc a).alloc b).alloc c).alloc d).alloc e).heap[w.heap.size+1]?=Y b:=by rw[EO _ _ _ (by simp only[Fo];omega),EO _ _ _ (by simp only[Fo];omega)];exact x_ _ _ _ _
def aLy(w:A0)(a b c d e:Df):(((((w.alloc a).alloc b).alloc c).alloc d).alloc e).heap[w.heap.size+1+1]?=Y c:=by rw[EO _ _ _ (by simp only[Fo];omega),EO _ _ _ (by simp only[Fo];omega)];exact xa _ _ _ _
def aLz(w:A0)(a b c d e:Df):(((((w.alloc a).alloc b).alloc c).alloc d).alloc e).heap[w.heap.size+1+1+1]?=Y d:=by rw[EO _ _ _ (by simp only[Fo];omega)];exact F7 _ _ _ (by simp only[Fo])
def aI3(w:A0)(a b c d e:Df):AX w.heap.size w (((((w.alloc a).alloc b).alloc c).alloc d).alloc e):=((eL w a b c).alloc (by simp only[Fo];omega) _).alloc (by simp only[Fo];omega) _
def aBh{g:Nat}(h:g≠b)(g2 AM fk g0 a:A1):(((((w.setCell ⟨b,0,Z⟩ g2).setCell ⟨b,1,Z⟩ AM).setCell ⟨b,2,Z⟩ fk).setCell ⟨b,3,Z⟩ g0).setCell ⟨b,4,Z⟩ a).heap[g]?=w.heap[g]?:=by rw[HP _ _ _ _ (show g≠b from h),HP _ _ _ _ (show g≠b from h),HP _ _ _ _ (show g≠b from h),HP _ _ _ _ (show g≠b from h),HP _ _ _ _ (show g≠b from h)]
def aSe(w:A0):(cJ 131 Z).run A6 w=Ac (Ah (Y w.heap.size)) (w.alloc (DM #[] 0)):=by kernel_rfl
def aSg(w:A0):(cJ 132 Z).run A6 w=Ac (Ah (Y w.heap.size)) (w.alloc (DM #[] 0)):=by kernel_rfl
def aYs(x:zz)(b:Option Ak)(n h:Nat)(w:A0):Ai A6 121 #[A_ #[J x,A4 b n h,A4 Z 0 0,A4 Z 0 0]] w λe w'=>∃s y,e=AZ (A_ #[J x,Ah (Y s),Ah (Y y)])/\w.heap.size<=s/\w.heap.size<=y/\w'.heap[s]?=Y (DM #[] 0)/\w'.heap[y]?=Y (DM #[] 0)/\AX w.heap.size w w':=by
 have z:=aSe;have H:=aSg;go_enter Tryz.func121,Tryz.ntmps121;go_wp2;go_loopw[17]λi wr=>i=A7 A8 0/\wr=((((w.alloc (AF #[J x,A4 b n h,A4 Z 0 0,A4 Z 0 0] 128)).alloc (AF #[J ⟨#[]⟩,Ah Z,Ah Z] 134)).alloc (DM #[] 0)).alloc (DM #[] 0)).alloc (AF #[J x,Ah (Y (w.heap.size+1+1)),Ah (Y (w.heap.size+1+1+1))] 134)(λ_ _=>0);case atStart=>exact⟨rfl,rfl⟩
 case round=>
  obtain⟨rfl,rfl⟩:=hrel;go_wp2;go_loopw[32]λi wr=>i=A7 A8 0/\wr=((((w.alloc (AF #[J x,A4 b n h,A4 Z 0 0,A4 Z 0 0] 128)).alloc (AF #[J ⟨#[]⟩,Ah Z,Ah Z] 134)).alloc (DM #[] 0)).alloc (DM #[] 0)).alloc (AF #[J x,Ah (Y (w.heap.size+1+1)),Ah (Y (w.heap.size+1+1+1))] 134)(λ_ _=>0);case atStart=>exact⟨rfl,rfl⟩
  case round=>obtain⟨rfl,rfl⟩:=hrel;go_wp2;(try simp only[ZE,Exit.then]);refine Md (XE rfl _ _ (w.heap.size+1) 134 #[J x,Ah (Y (w.heap.size+1+1)),Ah (Y (w.heap.size+1+1+1))] (0,0) _ rfl (aLx _ _ _ _ _ _) Tryz.underlying134 rfl (by kernel_rfl)) rfl ?_;exact⟨_,_,rfl,by omega,by omega,aLy _ _ _ _ _ _,aLz _ _ _ _ _ _,aI3 _ _ _ _ _ _⟩
def aVl(x:zz)(z:Option Ak)(n H a2 h cap s:Nat)(w:A0):Ai A6 59 #[A_ #[J x,A4 z n H,A4 Z 0 0,A4 Z 0 0],A_ #[A4 (Y ⟨a2,0,Z⟩) h cap,Ah (Y s)]] w λe w'=>∃I K,e=AZ (IZ x I K a2 h cap s)/\w.heap.size<=I/\w.heap.size<=K/\w'.heap[I]?=Y (DM #[] 0)/\w'.heap[K]?=Y (DM #[] 0)/\AX w.heap.size w w':=by
 simp only[IZ];have a:=A5 (eL w (AF #[J x,A4 z n H,A4 Z 0 0,A4 Z 0 0] 128) (AF #[A4 (Y ⟨a2,0,Z⟩) h cap,Ah (Y s)] 136) (AF #[J ⟨#[]⟩,Ah Z,Ah Z,A4 Z 0 0,Ah Z] 138));have M:=a8Z w (AF #[J x,A4 z n H,A4 Z 0 0,A4 Z 0 0] 128) (AF #[A4 (Y ⟨a2,0,Z⟩) h cap,Ah (Y s)] 136) (AF #[J ⟨#[]⟩,Ah Z,Ah Z,A4 Z 0 0,Ah Z] 138);have Q:=x_ w (AF #[J x,A4 z n H,A4 Z 0 0,A4 Z 0 0] 128) (AF #[A4 (Y ⟨a2,0,Z⟩) h cap,Ah (Y s)] 136) (AF #[J ⟨#[]⟩,Ah Z,Ah Z,A4 Z 0 0,Ah Z] 138);have c:=xa w (AF #[J x,A4 z n H,A4 Z 0 0,A4 Z 0 0] 128) (AF #[A4 (Y ⟨a2,0,Z⟩) h cap,Ah (Y s)] 136) (AF #[J ⟨#[]⟩,Ah Z,Ah Z,A4 Z 0 0,Ah Z] 138);have d:=a8_ w (AF #[J x,A4 z n H,A4 Z 0 0,A4 Z 0 0] 128) (AF #[A4 (Y ⟨a2,0,Z⟩) h cap,Ah (Y s)] 136) (AF #[J ⟨#[]⟩,Ah Z,Ah Z,A4 Z 0 0,Ah Z] 138);go_enter Tryz.func59,Tryz.ntmps59;go_wp2_with fail;generalize((w.alloc (AF #[J x,A4 z n H,A4 Z 0 0,A4 Z 0 0] 128)).alloc (AF #[A4 (Y ⟨a2,0,Z⟩) h cap,Ah (Y s)] 136)).alloc (AF #[J ⟨#[]⟩,Ah Z,Ah Z,A4 Z 0 0,Ah Z] 138)=W at a M Q c d⊢;have CY:AL (∀b,AX W.heap.size W b->b.cell? ⟨w.heap.size+1,0,Z⟩=Y (A4 (Y ⟨a2,0,Z⟩) h cap)/\b.cell? ⟨w.heap.size+1,1,Z⟩=Y (Ah (Y s))/\b.heap[w.heap.size+1+1]?=Y (AF #[J ⟨#[]⟩,Ah Z,Ah Z,A4 Z 0 0,Ah Z] 138)/\b.cell? ⟨w.heap.size+1+1,0,Z⟩=Y (J ⟨#[]⟩)/\b.cell? ⟨w.heap.size+1+1,1,Z⟩=Y (Ah Z)/\b.cell? ⟨w.heap.size+1+1,2,Z⟩=Y (Ah Z)/\b.cell? ⟨w.heap.size+1+1,3,Z⟩=Y (A4 Z 0 0)/\b.cell? ⟨w.heap.size+1+1,4,Z⟩=Y (Ah Z)/\b.frozen? ⟨w.heap.size+1+1,0,Z⟩=A9/\b.frozen? ⟨w.heap.size+1+1,1,Z⟩=A9/\b.frozen? ⟨w.heap.size+1+1,2,Z⟩=A9/\b.frozen? ⟨w.heap.size+1+1,3,Z⟩=A9/\b.frozen? ⟨w.heap.size+1+1,4,Z⟩=A9):=by refine A5 λb hb=>?_;have Cc:=H2 hb Q;have y:=H2 hb c;exact⟨by rw[Ao Cc];rfl,by rw[Ao Cc];rfl,y,by rw[Ao y];rfl,by rw[Ao y];rfl,by rw[Ao y];rfl,by rw[Ao y];rfl,by rw[Ao y];rfl,E6 y _,E6 y _,E6 y _,E6 y _,E6 y _⟩
 have c0:W.cell? ⟨w.heap.size,0,Z⟩=Y (J x):=by rw[Ao M];rfl
 have c1:W.cell? ⟨w.heap.size,1,Z⟩=Y (A4 z n H):=by rw[Ao M];rfl
 have c2:W.cell? ⟨w.heap.size,2,Z⟩=Y (A4 Z 0 0):=by rw[Ao M];rfl
 have c3:W.cell? ⟨w.heap.size,3,Z⟩=Y (A4 Z 0 0):=by rw[Ao M];rfl
 have c4:W.cell? ⟨w.heap.size+1,0,Z⟩=Y (A4 (Y ⟨a2,0,Z⟩) h cap):=by rw[Ao Q];rfl
 have c5:W.cell? ⟨w.heap.size+1,1,Z⟩=Y (Ah (Y s)):=by rw[Ao Q];rfl
 have J1:=A5 d;clear M Q c d;go_region_with(go_at_call 121;refine(aYs x z n H _).mono ?_;rintro e b⟨I,K,rfl,o,q,u,A,N⟩;have f:AX W.heap.size W b:=⟨N.os,N.tape,N.output,N.size,N.block⟩;obtain⟨BC,d1,d2,d3,d4,d5,d6,d7,D,uC,hV,F,P⟩:=CY.out b f;have m:=A5 d2;have R:=A5 f;have S:AL (W.heap.size<=I):=A5 o;have X:AL (W.heap.size<=K):=A5 q;have sw:=A5 u;have sx:=A5 A;clear d2 N f o q u A);all_goals
  go_wp2;(try simp only[ZE,Exit.then]);have qu:=F2 _ _ 4 _ _ (Ah (Y s)) (F2 _ _ 3 _ _ (A4 (Y ⟨a2,0,Z⟩) h cap) (F2 _ _ 2 _ _ (Ah (Y K)) (F2 _ _ 1 _ _ (Ah (Y I)) (F2 _ _ 0 _ _ (J x) m.out))));refine Md (XE rfl _ _ (w.heap.size+1+1) 138 #[J x,Ah (Y I),Ah (Y K),A4 (Y ⟨a2,0,Z⟩) h cap,Ah (Y s)] (0,0) _ rfl qu Tryz.underlying138 rfl (by kernel_rfl)) rfl ?_;have z0:=J1.out;have Ew:=S.out;have z2:=X.out;have U:=((((a.out.trans (R.out.mono a.out.size)).setCell (p:=⟨w.heap.size+1+1,0,Z⟩) (by show _<=w.heap.size+1+1;omega) (J x)).setCell (p:=⟨w.heap.size+1+1,1,Z⟩) (by show _<=w.heap.size+1+1;omega) (Ah (Y I))).setCell (p:=⟨w.heap.size+1+1,2,Z⟩) (by show _<=w.heap.size+1+1;omega) (Ah (Y K))).setCell (p:=⟨w.heap.size+1+1,3,Z⟩) (by show _<=w.heap.size+1+1;omega) (A4 (Y ⟨a2,0,Z⟩) h cap)|>.setCell (p:=⟨w.heap.size+1+1,4,Z⟩) (by show _<=w.heap.size+1+1;omega) (Ah (Y s));refine⟨I,K,rfl,by omega,by omega,?_,?_,⟨U.os,U.tape,U.output,U.size,U.block⟩⟩;·exact(aBh (by omega) _ _ _ _ _).trans sw.out
  exact(aBh (by omega) _ _ _ _ _).trans sx.out
def Vk(f n:Nat):zz:=⟨(V.Vl f n).toArray⟩
def bd{a b:zz}(h:a=b):AZ (J a)=AZ (J b):=by rw[h]
def uD(n:Nat)(h:n<10):(Ha #[48,49,50,51,52,53,54,55,56,57]).extract n (n+1)=⟨#[V.KT n]⟩:=by
 have:∀n:Fin 10,(Ha #[48,49,50,51,52,53,54,55,56,57]).extract n.val (n.val+1)=⟨#[V.KT n.val]⟩:=by decide
 exact this ⟨n,h⟩
def aK3(f:Nat)(I:f<=1000):∀(x:Int)(w:A0),0<=x->x<10^(f+1)->x<=1000000->Ai A6 16 #[A7 A8 x] w λe w'=>e=AZ (J (Vk f x.toNat))/\∃q,w'=w.drewN q:=by
 induction f with
 |zero=>
  intro x w z b _;have y:x<10:=by simpa using b
  obtain⟨n,rfl⟩:=a2I z;have hn:n<10:=by omega
  clear b;go_enter Tryz.func16,Tryz.ntmps16;go_wp2_with fail;go_ret;refine⟨bd ?_,0,rfl⟩;rw[uD n hn];rfl
 |succ f N=>
  intro x w z b CN;obtain⟨n,rfl⟩:=a2I z;have U:=A5 (N (by omega));have Q:=A5 I;clear N I;by_cases y:n<10
  ·have hx:(n:Int)<10:=by omega
   clear b;go_enter Tryz.func16,Tryz.ntmps16;go_wp2_with fail;go_ret;refine⟨bd ?_,0,rfl⟩;rw[uD n y,cu,Vk,V.Vl,if_pos y]
  have hx:¬(n:Int)<10:=by omega
  have K:(n:Int)/10<10^(f+1):=by rw[Int.ediv_lt_iff_lt_mul (by omega)];rw[Int.pow_succ]at b;exact b
  have a:=A5 K;clear b K;have c:A8.wrap ((n:Int)/10)=(n:Int)/10:=by rw[VK];omega
  obtain⟨r,M,H⟩:∃r:Nat,n%10=r/\r<10:=⟨n%10,rfl,by omega⟩;have C2:=A5 M;have AP:(n:Int).tmod 10=(r:Int):=by rw[a2K (by omega)];omega
  have d:A8.wrap ((r:Int)+1)=(r:Int)+1:=by rw[VK];omega
  have m:∀wx:A0,(l7 9 (J ⟨#[48,49,50,51,52,53,54,55,56,57]⟩) (Y (A7 A8 (r:Int))) (Y (A7 A8 ((r:Int)+1))) Z).run A6 wx=Ac (J ⟨#[V.KT r]⟩) wx:=by intro wx;have h:=aF_ (P:=A6) wx 9 ⟨#[48,49,50,51,52,53,54,55,56,57]⟩ A8 A8 (r:Int) ((r:Int)+1) LI (by omega) (by omega) (by show _<=(10:Int);omega);rw[show((r:Int)+1).toNat=r+1 from by omega,cu,uD r H]at h;exact h
  clear M;have s:(Vk f ((n:Int)/10).toNat).size+1<=9223372036854775807:=by have:=(V.a4T f ((n:Int)/10).toNat).2;have e:(Vk f ((n:Int)/10).toNat).size=(V.Vl f ((n:Int)/10).toNat).length:=rfl;have o:=Q.out;omega
  have u:∀wx:A0,(cP .add (Vk f ((n:Int)/10).toNat) ⟨#[V.KT r]⟩).run A6 wx=Ac (J (Vk f ((n:Int)/10).toNat++⟨#[V.KT r]⟩)) wx:=by intro wx;exact a1e (P:=A6) wx (Vk f ((n:Int)/10).toNat) ⟨#[V.KT r]⟩ s
  clear s;go_enter Tryz.func16,Tryz.ntmps16;go_wp2_with fail;go_quiet((go_at_call 16;exact aD6 (U.out _ _ (by omega) a.out (by omega))));go_wp2_with fail;go_ret;refine⟨bd ?_,_,rfl⟩;rw[cu,Vk,Vk,V.Vl,if_neg y,C2.out];exact aD5 _ _
structure Kept(T:zy)(w w':A0):Prop where
 os:w'.os=w.os
 tape:w'.tape=w.tape
 output:w'.output=w.output
 size:w.heap.size<=w'.heap.size
 block:∀k,k<w.heap.size->¬T k->w'.heap[k]?=w.heap[k]?
def Kept.refl(T:zy)(w:A0):Kept T w w:=⟨rfl,rfl,rfl,Ae _,λ_ _ _=>rfl⟩
def Kept.trans{T:zy}{a b c:A0}(h:Kept T a b)(k:Kept T b c):Kept T a c:=⟨k.os.trans h.os,k.tape.trans h.tape,k.output.trans h.output,G3 h.size k.size,λi s h2=>(k.block i (Ku s h.size) h2).trans (h.block i s h2)⟩
def Kept.below{a b:A0}(h:Kept T a b)(z:B<=a.heap.size)(y:∀k,k<B->¬T k):AX B a b:=⟨h.os,h.tape,h.output,h.size,λi s=>h.block i (by omega) (y i s)⟩
def Kept.cell{T:zy}{a b:A0}(h:Kept T a b){k o:Nat}{v:A1}(s:¬T k)(hc:a.cell? ⟨k,o,Z⟩=Y v):b.cell? ⟨k,o,Z⟩=Y v:=by rw[<-hc];exact FG (w:=a) (h.block k (FA (h:=hc)) s)
def NG(w:A0)(a2:Nat)(C1:A1)(n:Nat)(j:Int):Prop:=w.heap[a2]?=Y (AF #[C1,A7 A8 j] 110 (0,0))/\0<=j/\j<=n
def P8(w:A0)(a2:Nat)(C1:A1)(n:Nat):Prop:=∃s c,C1=A4 s n c/\(n=0∨∃h b,s=Y ⟨h,b,Z⟩/\h≠a2/\∀j,j<n->∃x,w.cell? ⟨h,b+j,Z⟩=Y (A7 A8 x)/\-9223372036854775808<=x/\x<=9223372036854775807)
def P8.kept(h:P8 w a2 C1 n)(z:Kept (λk=>k=a2) w w'):P8 w' a2 C1 n:=by
 obtain⟨I,c,rfl,h⟩:=h;refine⟨I,c,rfl,?_⟩;rcases h with h|⟨K,b,s,h2,h3⟩;·exact AD h
 refine AJ ⟨K,b,s,h2,λj y=>?_⟩;obtain⟨x,hx,H⟩:=h3 j y;exact⟨x,z.cell h2 hx,H⟩
def bW(x:Int):Int:=if x<0 then-(x+1)%3 else x%3
def aU1(x:Int):∃r:Nat,bW x=(r:Int)/\r<3:=by refine⟨(bW x).toNat,?_⟩;unfold bW;split<;>omega
def aU'(x:Int)(w:A0)(b:-9223372036854775808<=x)(h2:x<=9223372036854775807):Ai A6 15 #[A7 A8 x,A7 A8 3] w λe w'=>e=AZ (A7 A8 (bW x))/\w'=w:=by
 by_cases h:x<0;·go_enter Tryz.func15,Tryz.ntmps15;go_wp2;go_ret;exact⟨Js (by unfold bW;rw[if_pos h,<-Int.neg_tmod,a2K (by omega)]),rfl⟩
 go_enter Tryz.func15,Tryz.ntmps15;go_wp2;go_ret;exact⟨Js (by unfold bW;rw[if_neg (by omega)]),rfl⟩
def aT0(a2 n:Nat)(h:Option Ak)(c:Nat)(w:A0)(s:n<=4611686018427387904)(b:w.heap[a2]?=Y (AF #[A4 h n c,A7 A8 (n:Int)] 110 (0,0))):Ai A6 49 #[Ad (Y ⟨a2,0,Z⟩),A7 A8 3] w λe w'=>e=AZ (A7 A8 0)/\∃q,w'=w.drewN q:=by
 have c0:w.cell? ⟨a2,0,Z⟩=Y (A4 h n c):=by rw[Ao b];rfl
 have c1:w.cell? ⟨a2,1,Z⟩=Y (A7 A8 (n:Int)):=by rw[Ao b];rfl
 clear b;go_enter Tryz.func49,Tryz.ntmps49;go_wp2_with fail;go_quiet(fail);go_wp2_with fail;go_ret;exact⟨rfl,_,rfl⟩
def aT1(a2 n b off c k:Nat)(x:Int)(w:A0)(hn:n<=4611686018427387904)(hk:k<n)(d:b≠a2)(s:w.heap[a2]?=Y (AF #[A4 (Y ⟨b,off,Z⟩) n c,A7 A8 (k:Int)] 110 (0,0)))(hx:w.cell? ⟨b,off+k,Z⟩=Y (A7 A8 x))(N:-9223372036854775808<=x)(Q:x<=9223372036854775807):Ai A6 49 #[Ad (Y ⟨a2,0,Z⟩),A7 A8 3] w λe w'=>e=AZ (A7 A8 (bW x))/\∃q U,w'=((w.drewN q).setCell ⟨a2,1,Z⟩ (A7 A8 ((k:Int)+1))).drewN U:=by
 have c0:w.cell? ⟨a2,0,Z⟩=Y (A4 (Y ⟨b,off,Z⟩) n c):=by rw[Ao s];rfl
 have c1:w.cell? ⟨a2,1,Z⟩=Y (A7 A8 (k:Int)):=by rw[Ao s];rfl
 have K:w.frozen? ⟨a2,1,Z⟩=A9:=E6 s 1;clear s;have f:¬(n:Int)<=(k:Int):=by omega
 have M:=aU' x;go_enter Tryz.func49,Tryz.ntmps49;go_wp2_with fail;go_quiet(fail);go_wp2_with fail;have a:((w.drewN nq).setCell ⟨a2,1,Z⟩ (A7 A8 ((k:Int)+1))).cell? ⟨a2,0,Z⟩=Y (A4 (Y ⟨b,off,Z⟩) n c):=by rw[Kn (h:=λe=>by injection e;omega)];exact c0
 have H:((w.drewN nq).setCell ⟨a2,1,Z⟩ (A7 A8 ((k:Int)+1))).cell? ⟨a2,1,Z⟩=Y (A7 A8 ((k:Int)+1)):=la _ _ _ (u:=A7 A8 (k:Int)) c1;have I:((w.drewN nq).setCell ⟨a2,1,Z⟩ (A7 A8 ((k:Int)+1))).cell? ⟨b,off+k,Z⟩=Y (A7 A8 x):=by rw[Kn (h:=λe=>by injection e;omega)];exact hx
 generalize y:(w.drewN nq).setCell ⟨a2,1,Z⟩ (A7 A8 ((k:Int)+1))=W at a H I⊢;have z:=A5 y;clear y c0 c1 K hx;go_quiet((go_at_call 15;exact fa (M _ N Q)));go_wp2_with fail;go_ret;exact⟨rfl,_,nq,by rw[<-z.out]⟩
def yE(a2 n:Nat)(C1:A1)(j:Int)(w:A0)(hn:n<=4611686018427387904)(M:NG w a2 C1 n j)(N:P8 w a2 C1 n):Ai A6 49 #[Ad (Y ⟨a2,0,Z⟩),A7 A8 3] w λe w'=>∃r:Nat,e=AZ (A7 A8 (r:Int))/\r<3/\(∃j',NG w' a2 C1 n j')/\Kept (λk=>k=a2) w w'/\w'.heap.size=w.heap.size:=by
 obtain⟨b,Q,o⟩:=M;obtain⟨k,rfl⟩:=a2I Q;obtain⟨a,c,rfl,z⟩:=N;have hlt:a2<w.heap.size:=by
  rcases J2 a2 w.heap.size with h|h;·exact h
  rw[Np h]at b;cases b
 by_cases U:k=n;·subst U;refine(aT0 a2 k a c w hn b).mono ?_;rintro e w'⟨rfl,q,rfl⟩;exact⟨0,rfl,by omega,⟨_,b,by omega,by omega⟩,⟨rfl,rfl,rfl,Ae _,λ_ _ _=>rfl⟩,rfl⟩
 rcases z with h|⟨K,s,rfl,d,hx⟩;·omega
 obtain⟨x,hc,f,m⟩:=hx k (by omega);refine(aT1 a2 n K s c k x w hn (by omega) d b hc f m).mono ?_;rintro e w'⟨rfl,q,u,rfl⟩;obtain⟨r,z,H⟩:=aU1 x;have hs:((w.drewN q).setCell ⟨a2,1,Z⟩ (A7 A8 ((k:Int)+1))).heap[a2]?=Y (AF #[A4 (Y ⟨K,s,Z⟩) n c,A7 A8 ((k:Int)+1)] 110 (0,0)):=by rw[F2 (w.drewN q) _ _ _ _ _ b];rfl
 have I:((w.drewN q).setCell ⟨a2,1,Z⟩ (A7 A8 ((k:Int)+1))).heap.size=w.heap.size:=by rw[World.size_setCell];rfl
 have y:=(BF 0 (w.drewN q)).setCell (p:=⟨a2,1,Z⟩) (Jf _) (A7 A8 ((k:Int)+1));exact⟨r,by rw[z],H,⟨(k:Int)+1,hs,by omega,by omega⟩,⟨y.os,y.tape,y.output,Nat.le_of_eq I.symm,λi _ hi=>HP (w.drewN q) _ _ _ hi⟩,I⟩
def Kept.grown(h:Kept (λk=>k=a2) w w'):w.grownBy w' (Y a2):=⟨h.os,h.tape,h.output,h.size,λk b s=>h.block k b λe=>s (by rw[e])⟩
def aTk{base:Nat}{s:Nat}(h:w.ownsRow base e s v n xs)(z:Kept (λk=>k=a2) w w')(H:a2<base):w'.ownsRow base e s v n xs:=h.kept z.grown (by cases hv:v.ownBlock with|none=>exact AD rfl|some b=>refine AJ λy=>?_;have:=(h.lt b hv).1;injection y with y;omega)
def Qm(l:List (Nat×Nat)):List A1:=l.flatMap λx=>[A7 A8 (x.1:Int),A7 A8 (x.2:Int)]
def aSv(l:List (Nat×Nat))(x:Nat×Nat):Qm (l++[x])=Qm l++[A7 A8 (x.1:Int),A7 A8 (x.2:Int)]:=by unfold Qm;rw[XT];rfl
def tI(v:A1):Prop:=∃k n,v=A7 k n
def LR(w:A0)(B:Nat)(v:A1)(l:List (Nat×Nat)):Prop:=w.ownsRow B 45 2 v l.length (Qm l)/\Gv tI w 2 v l.length
def LR.of(h:LR w B v l)(k:w'.ownsRow B 45 2 v l.length (Qm l))(e:∀g,B<=g->g<w.heap.size->w'.heap[g]?=w.heap[g]?):LR w' B v l:=by
 refine⟨k,h.2.same λg cap hv=>?_⟩;rcases h.1.2 with⟨b,_⟩|⟨s,c,a,b,h2,h3,_⟩;·rw[b]at hv;cases hv
 rw[b]at hv;injection hv with hv _ _;injection hv with hv;injection hv with hv _ _;subst hv;exact e s h2 (Array.getElem?_eq_some_iff.1 h3).1
def aAP{base:Nat}(h:LR w base v l)(b:Kept (λk=>k=a2) w w')(s:a2<base):LR w' base v l:=h.of (aTk h.1 b s) λg y h2=>b.block g h2 (by omega)
structure UG(C:zw):Prop where
 size:C.size=31
 AY:∀q k,q<5->k<3->∃v:Nat,C[q*3+k]?=Y (A7 A8 (v:Int))/\1<=v/\v<=9
 Tb:∀q k(a b:Int),q<5->k<2->C[q*3+k]?=Y (A7 A8 a)->C[q*3+(k+1)]?=Y (A7 A8 b)->a<b
def Pn(C:zw)(p:Int)(l:List (Nat×Nat)):Prop:=(∀x∈l,x.1<5/\(x.1:Int)≠p/\x.2<=9/\∃k,k<3/\C[x.1*3+k]?=Y (A7 A8 (x.2:Int)))/\l.Pairwise λx y=>x.1<y.1
def tj(C:zw)(p:Int)(a2 n:Nat)(C1:A1)(w:A0)(k:Nat)(v:A1)(wr:A0):Prop:=∃l,Pn C p l/\(∀x∈l,x.1<k)/\l.length<=k/\LR wr w.heap.size v l/\(∃j,NG wr a2 C1 n j)/\Kept (λk=>k=a2) w wr
def aQ4:(A6.info? 45).map (λi=>(i.zero,i.size,i.bytes))=Y (Y (A_ #[A7 A8 0,A7 A8 0]),2,16):=by kernel_rfl
def aBr(c a2 n:Nat)(C1:A1)(p:Int)(C:zw)(w:A0)(hn:n<=4611686018427387904)(hC:UG C)(hm:w.heap[c]?=Y (AF C 43 (0,0)))(i6:c≠a2)(A2:∃j,NG w a2 C1 n j)(A:P8 w a2 C1 n):Ai A6 50 #[Ad (Y ⟨c,0,Z⟩),Ad (Y ⟨a2,0,Z⟩),A7 A8 p] w λe w'=>∃v l,e=AZ v/\Pn C p l/\LR w' w.heap.size v l/\(∃j,NG w' a2 C1 n j)/\Kept (λk=>k=a2) w w':=by
 obtain⟨i0,hi,EF,DF,CO⟩:=Ko aQ4;have D:=A5 hm;have C2:=A5 A2;have F:=A5 A;have Eu:=A5 hC;have d:a2<w.heap.size:=by
  obtain⟨j,h,_⟩:=A2;rcases J2 a2 w.heap.size with z|z;·exact z
  rw[Np z]at h;cases h
 clear hm A2 A hC;go_enter Tryz.func50,Tryz.ntmps50;go_wp2;go_loopw[7,8]λv i wr=>∃k:Nat,k<=5/\i=A7 A8 k/\AL (tj C p a2 n C1 w k v wr)(λ_ i _=>5-(BJ i).toNat);case atStart=>exact⟨0,by omega,rfl,A5 ⟨[],⟨λx hx=>absurd hx (He),aGg⟩,λx hx=>absurd hx (He),Ae _,⟨XA _ _ _ _,Gv.nil _ _ _⟩,C2.out,Kept.refl _ _⟩⟩
 case round=>
  obtain⟨k,hk,rfl,H⟩:=hrel;obtain⟨l,BG,P,H0,Aa,S,W⟩:=H.out;have FV:=A5 BG;have f:=A5 P;have CQ:=A5 Aa;have X:=A5 S;have FW:=A5 W;clear H BG P Aa S W;by_cases hlt:k<5
  ·obtain⟨Uk,Y8⟩:=X.out;go_wp2_with fail;refine(yE a2 n C1 Uk _ hn Y8 (F.out.kept FW.out)).mono ?_;rintro e w1⟨r1,rfl,FP,⟨oh,ao⟩,m,-⟩;have N:=A5 (FW.out.trans m);have J':=A5 (aAP CQ.out m d);clear m;go_wp2_with fail;refine(yE a2 n C1 oh _ hn ao (F.out.kept N.out)).mono ?_;rintro e s⟨r2,rfl,Fe,dz,q,-⟩;have y:=A5 (N.out.trans q);have LN:=A5 (aAP J'.out q d);have M:=A5 dz;have U:AL (tj C p a2 n C1 w (k+1) u7 s):=A5 ⟨l,FV.out,λx hx=>aHN (f.out x hx),by omega,LN.out,M.out,y.out⟩;clear q dz Y8 ao;cases AV:(r1:Int)==0
   ·cases hp:(k:Int)==p
    ·obtain⟨v,hv,Lk,Jn⟩:=Eu.out.AY k r2 hlt Fe;have J8:s.heap[c]?=Y (AF C 43 (0,0)):=by
      rw[y.out.block c (by
       rcases J2 c w.heap.size with z|z;·exact z
       have:=D.out;rw[Np z]at this;cases this) i6];exact D.out
     have a_l:s.cell? ⟨c,k*3+r2,Z⟩=Y (A7 A8 (v:Int)):=by rw[Ao J8];exact hv
     have DD:=A5 hv;clear J8 hv;have rg:w.heap.size<=s.heap.size:=y.out.size;have Q:∀{o:Df},AL (Gv tI (s.alloc o) 2 u7 l.length):=λ{o}=>A5 (LN.out.of (LN.out.1.alloc o) λg _ h2=>lA s o g h2).2;go_wp2_with(at_builtin;refine aCZ _ tI rfl _ _ 39 rfl w.heap.size 45 i0 (A_ #[A7 A8 0,A7 A8 0]) 2 16 Tryz.underlying39 hi EF DF CO rfl (by decide) (λu hu=>by simp[cc]at hu;exact⟨_,_,hu⟩) _ _ _ rfl (LN.out.1.alloc _) Q.out ⟨s.heap.size,0,Z⟩ 1 1 [A7 A8 (k:Int),A7 A8 (v:Int)] rfl rfl ?c1 ?c2 (by omega) ?c3 ?c4 ?c5 ?_);case c1=>intro j u I;match j,I with|0,I=>simp at I;subst I;simp[Qy]|1,I=>simp at I;subst I;simp[Qy]
     case c2=>intro u hu;simp at hu;rcases hu with rfl|rfl<;>rfl
     case c3=>unfold BH;omega
     case c4=>omega
     case c5=>simp;omega
     intro v' w3 Cz K bE;have R:AL (tj C p a2 n C1 w (k+1) v' w3):=by
      have D7:∀i,i<w.heap.size->w3.heap[i]?=s.heap[i]?:=by intro i h1;rw[K.block i (by simp;omega) λe=>by have:=(LN.out.1.lt i e.symm).1;omega,lA s _ i (by omega)]
      have RR:Kept (λk=>k=a2) w w3:=⟨K.os.trans y.out.os,K.tape.trans y.out.tape,K.output.trans y.out.output,by have:=K.size;simp at this;omega,λi h1 h2=>(D7 i h1).trans (y.out.block i h1 h2)⟩;obtain⟨ON,dz⟩:=M.out;refine A5 ⟨l++[(k,v)],⟨?_,?_⟩,?_,?_,?_,?_,RR⟩
      ·intro x hx;rcases List.mem_append.1 hx with hx|hx;·exact FV.out.1 x hx
       rw[List.mem_singleton.1 hx];exact⟨hlt,beq_eq_false_iff_ne.1 hp,Jn,r2,Fe,DD.out⟩
      ·rw[List.pairwise_append];refine⟨FV.out.2,List.pairwise_singleton _ _,λa AB b hb=>?_⟩;rw[List.mem_singleton.1 hb];exact f.out a AB
      ·intro x hx;rcases List.mem_append.1 hx with hx|hx;·exact aHN (f.out x hx)
       rw[List.mem_singleton.1 hx];exact Nat.lt_succ_self k
      ·simp;omega
      ·exact⟨by rw[aSv,H7];exact Cz,by rw[H7];exact bE⟩
      exact⟨ON,(D7 a2 d).trans dz.1,dz.2⟩
     clear K Cz bE Q;go_wp2;first
     |exact⟨⟨k+1,by omega,by go_num,R⟩,by simp[BJ];omega⟩
     |
      (
       go_roundw;case rel=>exact⟨k+1,by omega,by go_num,R⟩
       case measure=>simp[BJ];omega)
    go_wp2;first
    |exact⟨⟨k+1,by omega,by go_num,U⟩,by simp[BJ];omega⟩
    |
     (
      go_roundw;case rel=>exact⟨k+1,by omega,by go_num,U⟩
      case measure=>simp[BJ];omega)
   go_wp2;first
   |exact⟨⟨k+1,by omega,by go_num,U⟩,by simp[BJ];omega⟩
   |
    (
     go_roundw;case rel=>exact⟨k+1,by omega,by go_num,U⟩
     case measure=>simp[BJ];omega)
  go_wp2;go_ret;exact⟨_,l,rfl,FV.out,CQ.out,X.out,FW.out⟩
def aTj{base:Nat}{s:Nat}(h:w.ownsRow base e s v n xs)(H:Kept T w w')(z:∀k,base<=k->¬T k):w'.ownsRow base e s v n xs:=by
 refine⟨h.1,?_⟩;rcases h.2 with b|⟨g,cap,a,y,h2,h3,h4⟩;·exact AD b
 have hlt:g<w.heap.size:=by
  rcases J2 g w.heap.size with b|b;·exact b
  rw[Np b]at h3;cases h3
 exact AJ ⟨g,cap,a,y,h2,by rw[H.block g hlt (z g h2)];exact h3,h4⟩
def aTl{base base':Nat}{s:Nat}(h:w.ownsRow base e s v n xs)(z:base'<=base):w.ownsRow base' e s v n xs:=by
 refine⟨h.1,?_⟩;rcases h.2 with b|⟨g,cap,a,y,h2,h3⟩;·exact AD b
 exact AJ ⟨g,cap,a,y,G3 z h2,h3⟩
def c7(C:zw)(k j:Nat):Prop:=C.size=31/\(∀i,15<=i->i<31->C[i]?=Y (A4 Z 0 0))/\(∀i,i<15->∃v:Int,C[i]?=Y (A7 A8 v))/\(∀q r,q<5->r<3->q<k∨q=k/\r<j->∃v:Nat,C[q*3+r]?=Y (A7 A8 (v:Int))/\1<=v/\v<=9)/\∀q r(a b:Int),q<5->r<2->q<k∨q=k/\r+1<j->C[q*3+r]?=Y (A7 A8 a)->C[q*3+(r+1)]?=Y (A7 A8 b)->a<b
def Mg(a2 n:Nat)(C1:A1)(w:A0)(k j:Nat)(wr:A0):Prop:=∃C,wr.heap[a2+1]?=Y (AF C 43 (0,0))/\c7 C k j/\(∃i,NG wr a2 C1 n i)/\AX w.heap.size w wr
def pr{base:Nat}(h:LR w base v l)(s:Kept T w w')(b:∀k,base<=k->¬T k):LR w' base v l:=h.of (aTj h.1 s b) λg y h2=>s.block g h2 (b g y)
def aAQ{base base':Nat}(h:LR w base v l)(b:base'<=base):LR w base' v l:=⟨aTl h.1 b,h.2⟩
def P8.later(h:P8 w a2 C1 n)(y:AX w.heap.size w w'):P8 w' a2 C1 n:=by
 obtain⟨I,c,rfl,h⟩:=h;refine⟨I,c,rfl,?_⟩;rcases h with h|⟨K,b,s,h2,h3⟩;·exact AD h
 refine AJ ⟨K,b,s,h2,λj z=>?_⟩;obtain⟨x,hx,H⟩:=h3 j z;exact⟨x,Am y hx,H⟩
def qC(w:A0)(b o:Nat)(v:A1):Kept (λk=>k=b) w (w.setCell ⟨b,o,Z⟩ v):=by have h:=(BF 0 w).setCell (p:=⟨b,o,Z⟩) (Jf _) v;exact⟨h.os,h.tape,h.output,h.size,λi _ hi=>HP w _ _ _ hi⟩
def aL5{v:Nat}(h:c7 C k j)(hk:k<5)(f:j<3)(c:1<=v)(d:v<=9)(Q:0<j->∀a:Int,C[k*3+(j-1)]?=Y (A7 A8 a)->a<(v:Int)):c7 (C.setIfInBounds (k*3+j) (A7 A8 (v:Int))) k (j+1):=by
 obtain⟨I,h2,h3,h4,K⟩:=h;refine⟨by simpa using I,λi M N=>?_,λi hi=>?_,λq r z H U=>?_,λq r a b z H U y s=>?_⟩;·rw[Gp (by omega)];exact h2 i M N
 ·by_cases e:k*3+j=i;·subst e;rw[SE (by omega)];exact⟨_,rfl⟩
  rw[Gp e];exact h3 i hi
 ·by_cases e:k*3+j=q*3+r;·rw[e,SE (by omega)];exact⟨v,rfl,c,d⟩
  rw[Gp e];exact h4 q r z H (by omega)
 rw[Gp (by omega)]at y;by_cases e:k*3+j=q*3+(r+1)
 ·rw[e,SE (by omega)]at s;injection s with s;injection s with _ s;rw[<-s];have e2:q*3+r=k*3+(j-1):=by omega
  rw[e2]at y;exact Q (by omega) a y
 rw[Gp e]at s;exact K q r a b z H (by omega) y s
def aL6(h:c7 C k 3):c7 C (k+1) 0:=⟨h.1,h.2.1,h.2.2.1,λq r s y z=>h.2.2.2.1 q r s y (by omega),λq r a b s y z=>h.2.2.2.2 q r a b s y (by omega)⟩
def aL7(h:c7 C 5 0):UG C:=⟨h.1,λq k y s=>h.2.2.2.1 q k y s (by omega),λq k a b y s=>h.2.2.2.2 q k a b y s (by omega)⟩
def mT(wr:A0)(a k j v:Nat):Prop:=0<j->wr.cell? ⟨a,k*3+(j-1),Z⟩=Y (A7 A8 (v:Int))
def aS9{v v0:Nat}{wr:A0}(h:Mg a2 n C1 w k j wr)(d:a2=w.heap.size)(K:k<5)(I:j<3)(U:1<=v)(c:v<=9)(N:mT wr (a2+1) k j v0)(f:v0<v):Mg a2 n C1 w k (j+1) (wr.setCell ⟨a2+1,k*3+j,Z⟩ (A7 A8 (v:Int))):=by
 obtain⟨C,b,h2,⟨i,h3,z⟩,h4⟩:=h;have M:=qC wr (a2+1) (k*3+j) (A7 A8 (v:Int));have hlt:a2+1<wr.heap.size:=by
  rcases J2 (a2+1) wr.heap.size with s|s;·exact s
  rw[Np s]at b;cases b
 have Q:0<j->∀a:Int,C[k*3+(j-1)]?=Y (A7 A8 a)->a<(v:Int):=λy a H=>by have:=N y;rw[Ao b,H]at this;injection this with this;injection this with _ this;omega
 refine⟨_,F2 wr _ _ _ _ _ b,aL5 h2 K I U c Q,⟨i,?_,z⟩,h4.setCell (p:=⟨a2+1,k*3+j,Z⟩) (by show w.heap.size<=a2+1;omega) _⟩;rw[M.block a2 (by omega) (by omega)];exact h3
def Mg.raw{wr:A0}(h:Mg a2 n C1 w k j wr):∃i,NG wr a2 C1 n i:=h.elim λ_ x=>x.2.2.1
def Mg.below{wr:A0}(h:Mg a2 n C1 w k j wr):AX w.heap.size w wr:=h.elim λ_ x=>x.2.2.2
def Mg.store{wr:A0}(h:Mg a2 n C1 w k j wr)(hi:i<15):(∃x:Int,wr.cell? ⟨a2+1,i,Z⟩=Y (A7 A8 x))/\wr.frozen? ⟨a2+1,i,Z⟩=A9:=by obtain⟨C,b,h2,_,_⟩:=h;obtain⟨x,hx⟩:=h2.2.2.1 i hi;exact⟨⟨x,by rw[Ao b];exact hx⟩,E6 b i⟩
def aSA{wr:A0}(h:Mg a2 n C1 w k j wr)(H:a2=w.heap.size)(y:Kept (λi=>i=a2) wr w1)(z:∃i,NG w1 a2 C1 n i):Mg a2 n C1 w k j w1:=by
 obtain⟨C,s,h2,_,h4⟩:=h;have hlt:a2+1<wr.heap.size:=by
  rcases J2 (a2+1) wr.heap.size with b|b;·exact b
  rw[Np b]at s;cases s
 refine⟨C,by rw[y.block (a2+1) hlt (by omega)];exact s,h2,z,h4.trans (y.below (by omega) λi hi=>by omega)⟩
def aSB{wr:A0}(h:Mg a2 n C1 w k 3 wr):Mg a2 n C1 w (k+1) 0 wr:=by obtain⟨C,b,h2,h3,h4⟩:=h;exact⟨C,b,aL6 h2,h3,h4⟩
def aC0:∀i:Fin 31,(i.val<15->(#[A7 A8 0,A7 A8 0,A7 A8 0,A7 A8 0,A7 A8 0,A7 A8 0,A7 A8 0,A7 A8 0,A7 A8 0,A7 A8 0,A7 A8 0,A7 A8 0,A7 A8 0,A7 A8 0,A7 A8 0,A4 Z 0 0,A4 Z 0 0,A4 Z 0 0,A4 Z 0 0,A4 Z 0 0,A4 Z 0 0,A4 Z 0 0,A4 Z 0 0,A4 Z 0 0,A4 Z 0 0,A4 Z 0 0,A4 Z 0 0,A4 Z 0 0,A4 Z 0 0,A4 Z 0 0,A4 Z 0 0]:zw)[i.val]?=Y (A7 A8 0))/\(15<=i.val->(#[A7 A8 0,A7 A8 0,A7 A8 0,A7 A8 0,A7 A8 0,A7 A8 0,A7 A8 0,A7 A8 0,A7 A8 0,A7 A8 0,A7 A8 0,A7 A8 0,A7 A8 0,A7 A8 0,A7 A8 0,A4 Z 0 0,A4 Z 0 0,A4 Z 0 0,A4 Z 0 0,A4 Z 0 0,A4 Z 0 0,A4 Z 0 0,A4 Z 0 0,A4 Z 0 0,A4 Z 0 0,A4 Z 0 0,A4 Z 0 0,A4 Z 0 0,A4 Z 0 0,A4 Z 0 0,A4 Z 0 0]:zw)[i.val]?=Y (A4 Z 0 0)):=by
 intro⟨i,hi⟩;refine⟨λh=>?_,λh=>?_⟩;·simp only at h⊢;match i,h with|0,_=>rfl|1,_=>rfl|2,_=>rfl|3,_=>rfl|4,_=>rfl|5,_=>rfl|6,_=>rfl|7,_=>rfl|8,_=>rfl|9,_=>rfl|10,_=>rfl|11,_=>rfl|12,_=>rfl|13,_=>rfl|14,_=>rfl|n+15,h=>omega
 simp only at h hi⊢;match i,h,hi with|15,_,_=>rfl|16,_,_=>rfl|17,_,_=>rfl|18,_,_=>rfl|19,_,_=>rfl|20,_,_=>rfl|21,_,_=>rfl|22,_,_=>rfl|23,_,_=>rfl|24,_,_=>rfl|25,_,_=>rfl|26,_,_=>rfl|27,_,_=>rfl|28,_,_=>rfl|29,_,_=>rfl|30,_,_=>rfl|n+31,_,h=>omega|0,h,_=>omega|1,h,_=>omega|2,h,_=>omega|3,h,_=>omega|4,h,_=>omega|5,h,_=>omega|6,h,_=>omega|7,h,_=>omega|8,h,_=>omega|9,h,_=>omega|10,h,_=>omega|11,h,_=>omega|12,h,_=>omega|13,h,_=>omega|14,h,_=>omega
def aSC(w:A0)(C1:A1)(n:Nat):Mg w.heap.size n C1 w 0 0 ((w.alloc (AF #[C1,A7 A8 0] 110)).alloc (AF #[A7 A8 0,A7 A8 0,A7 A8 0,A7 A8 0,A7 A8 0,A7 A8 0,A7 A8 0,A7 A8 0,A7 A8 0,A7 A8 0,A7 A8 0,A7 A8 0,A7 A8 0,A7 A8 0,A7 A8 0,A4 Z 0 0,A4 Z 0 0,A4 Z 0 0,A4 Z 0 0,A4 Z 0 0,A4 Z 0 0,A4 Z 0 0,A4 Z 0 0,A4 Z 0 0,A4 Z 0 0,A4 Z 0 0,A4 Z 0 0,A4 Z 0 0,A4 Z 0 0,A4 Z 0 0,A4 Z 0 0] 43)):=by
 have e:(w.alloc (AF #[C1,A7 A8 0] 110)).heap.size=w.heap.size+1:=by simp
 refine⟨_,?_,⟨rfl,λi s h2=>(aC0 ⟨i,h2⟩).2 s,λi s=>⟨0,(aC0 ⟨i,by omega⟩).1 s⟩,λq r _ _ h=>by omega,λq r a b _ _ h=>by omega⟩,⟨0,?_,by omega,by omega⟩,((BF _ w).alloc (Ae _) _).alloc (by simp) _⟩;·rw[<-e];exact Pz _ _
 rw[lA _ _ _ (by simp)];exact Pz w _
def dC(B:Nat)(w:A0)(C:zw)(q r:Nat):Prop:=∃v l,C[15+q*3+r]?=Y v/\Pn C (q:Int) l/\LR w B v l
def XQ(a2 n:Nat)(C1:A1)(w:A0)(k j:Nat)(wr:A0):Prop:=∃C,wr.heap[a2+1]?=Y (AF C 43 (0,0))/\UG C/\(∀i,15<=i->i<31->∃a m c,C[i]?=Y (A4 a m c))/\(∀q r,q<5->r<3->q<k∨q=k/\r<j->dC (a2+2) wr C q r)/\(∃i,NG wr a2 C1 n i)/\AX w.heap.size w wr
def aMo{wr:A0}(h:Mg a2 n C1 w 5 0 wr):XQ a2 n C1 w 0 0 wr:=by obtain⟨C,b,h2,h3,h4⟩:=h;exact⟨C,b,aL7 h2,λi s y=>⟨_,_,_,h2.2.1 i s y⟩,λq r _ _ h=>by omega,h3,h4⟩
def aMn{wr:A0}(h:XQ a2 n C1 w k 3 wr):XQ a2 n C1 w (k+1) 0 wr:=by obtain⟨C,b,h2,h3,h4,s⟩:=h;exact⟨C,b,h2,h3,λq r y z H=>h4 q r y z (by omega),s⟩
def uj(h:Pn C p l)(hi:15<=i)(v:A1):Pn (C.setIfInBounds i v) p l:=by refine⟨λx hx=>?_,h.2⟩;obtain⟨b,h2,h3,k,h4,s⟩:=h.1 x hx;exact⟨b,h2,h3,k,h4,by rw[Gp (by omega)];exact s⟩
def aYo(h:UG C)(hi:15<=i)(v:A1):UG (C.setIfInBounds i v):=⟨by simpa using h.size,λq k y s=>by obtain⟨x,I,h2⟩:=h.AY q k y s;exact⟨x,by rw[Gp (by omega)];exact I,h2⟩,λq k a b y s z H=>by rw[Gp (by omega)]at z H;exact h.Tb q k a b y s z H⟩
def a6L{wr:A0}(D:a2=w.heap.size)(y:wr.heap[a2+1]?=Y (AF C 43 (0,0)))(h2:UG C)(h3:∀i,15<=i->i<31->∃a m c,C[i]?=Y (A4 a m c))(h4:∀q r,q<5->r<3->q<k∨q=k/\r<j->dC (a2+2) wr C q r)(d:AX w.heap.size w wr)(h:Kept (λi=>i=a2) wr w1)(A2:∃i,NG w1 a2 C1 n i)(a:Option Ak)(m c:Nat)(H:15<=i)(Q:i<31)(z:∀q r,q<5->r<3->q<k∨q=k/\r<j->15+q*3+r≠i):(w1.setCell ⟨a2+1,i,Z⟩ (A4 a m c)).heap[a2+1]?=Y (AF (C.setIfInBounds i (A4 a m c)) 43 (0,0))/\UG (C.setIfInBounds i (A4 a m c))/\(∀b,15<=b->b<31->∃U f c',(C.setIfInBounds i (A4 a m c))[b]?=Y (A4 U f c'))/\(∀q r,q<5->r<3->q<k∨q=k/\r<j->dC (a2+2) (w1.setCell ⟨a2+1,i,Z⟩ (A4 a m c)) (C.setIfInBounds i (A4 a m c)) q r)/\(∃b,NG (w1.setCell ⟨a2+1,i,Z⟩ (A4 a m c)) a2 C1 n b)/\AX w.heap.size w (w1.setCell ⟨a2+1,i,Z⟩ (A4 a m c)):=by
 have hlt:a2+1<wr.heap.size:=by
  rcases J2 (a2+1) wr.heap.size with s|s;·exact s
  rw[Np s]at y;cases y
 have F:=h.size;have e1:w1.heap[a2+1]?=Y (AF C 43 (0,0)):=by rw[h.block (a2+1) hlt (by omega)];exact y
 have I:=qC w1 (a2+1) i (A4 a m c);refine⟨F2 w1 _ _ _ _ _ e1,aYo h2 H _,λb o u=>?_,λq r K N M=>?_,?_,?_⟩
 ·by_cases e:i=b;·subst e;exact⟨a,m,c,SE (by rw[h2.size];omega)⟩
  rw[Gp e];exact h3 b o u
 ·obtain⟨v,l,g1,A,g3⟩:=h4 q r K N M;refine⟨v,l,by rw[Gp λe=>z q r K N M e.symm];exact g1,uj A H _,?_⟩;exact pr (pr g3 h λx hx=>by omega) I λx hx=>by omega
 ·obtain⟨b,r1,r2⟩:=A2;exact⟨b,by rw[I.block a2 (by omega) (by omega)];exact r1,r2⟩
 exact(d.trans (h.below (by omega) λx hx=>by omega)).setCell (p:=⟨a2+1,i,Z⟩) (by show w.heap.size<=a2+1;omega) _
def a6M{a2 n:Nat}{C1:A1}{w wr w1:A0}{k j:Nat}{C:zw}{v:A1}{l:List (Nat×Nat)}(d:a2=w.heap.size)(D:k<5)(F:j<3)(b:wr.heap[a2+1]?=Y (AF C 43 (0,0)))(h2:UG C)(h3:∀i,15<=i->i<31->∃a m c,C[i]?=Y (A4 a m c))(h4:∀q r,q<5->r<3->q<k∨q=k/\r<j->dC (a2+2) wr C q r)(f:AX w.heap.size w wr)(BG:Pn C (k:Int) l)(Aa:LR w1 wr.heap.size v l)(A2:∃i,NG w1 a2 C1 n i)(y:Kept (λi=>i=a2) wr w1):(∃a m c,v=A4 a m c)/\(∃a m c,w1.cell? ⟨a2+1,15+k*3+j,Z⟩=Y (A4 a m c))/\w1.frozen? ⟨a2+1,15+k*3+j,Z⟩=A9/\XQ a2 n C1 w k (j+1) (w1.setCell ⟨a2+1,15+k*3+j,Z⟩ v):=by
 have hlt:a2+1<wr.heap.size:=by
  rcases J2 (a2+1) wr.heap.size with s|s;·exact s
  rw[Np s]at b;cases b
 have e1:w1.heap[a2+1]?=Y (AF C 43 (0,0)):=by rw[y.block (a2+1) hlt (by omega)];exact b
 have hv:∃a m c,v=A4 a m c:=by
  rcases Aa.1.2 with⟨h,_⟩|⟨g,P,R,h,_⟩;·exact⟨_,_,_,h⟩
  exact⟨_,_,_,h⟩
 obtain⟨I,o,c0,hc⟩:=h3 (15+k*3+j) (by omega) (by omega);refine⟨hv,⟨I,o,c0,by rw[Ao e1];exact hc⟩,E6 e1 _,?_⟩;obtain⟨a,m,c,rfl⟩:=hv;obtain⟨K,M,N,Q,U,u⟩:=a6L (i:=15+k*3+j) d b h2 h3 h4 f y A2 a m c (by omega) (by omega) (λq r z H A=>by omega);refine⟨_,K,M,N,λq r z H A=>?_,U,u⟩;by_cases e:q=k/\r=j;·obtain⟨rfl,rfl⟩:=e;refine⟨_,l,SE (by rw[h2.size];omega),uj BG (by omega) _,?_⟩;exact aAQ (pr Aa (qC w1 (a2+1) _ _) λx hx=>by omega) (by omega)
 exact Q q r z H (by omega)
def XZ(w:A0)(B c:Nat)(C:zw)(a:List (Nat×Nat)):Prop:=w.heap[c]?=Y (AF C 43 (0,0))/\UG C/\(∀q r,q<5->r<3->dC B w C q r)/\∃v,C[30]?=Y v/\Pn C (-1) a/\LR w B v a
def aMm{wr:A0}(d:a2=w.heap.size)(b:wr.heap[a2+1]?=Y (AF C 43 (0,0)))(h2:UG C)(h3:∀i,15<=i->i<31->∃a m c,C[i]?=Y (A4 a m c))(h4:∀q r,q<5->r<3->q<5∨q=5/\r<0->dC (a2+2) wr C q r)(f:AX w.heap.size w wr)(BG:Pn C (-1) l)(Aa:LR w1 wr.heap.size v l)(A2:∃i,NG w1 a2 C1 n i)(z:Kept (λi=>i=a2) wr w1):(∃a m c,v=A4 a m c)/\(∃a m c,w1.cell? ⟨a2+1,30,Z⟩=Y (A4 a m c))/\w1.frozen? ⟨a2+1,30,Z⟩=A9/\(∃I,XZ (w1.setCell ⟨a2+1,30,Z⟩ v) (a2+2) (a2+1) I l)/\AX w.heap.size w (w1.setCell ⟨a2+1,30,Z⟩ v):=by
 have hlt:a2+1<wr.heap.size:=by
  rcases J2 (a2+1) wr.heap.size with s|s;·exact s
  rw[Np s]at b;cases b
 have e1:w1.heap[a2+1]?=Y (AF C 43 (0,0)):=by rw[z.block (a2+1) hlt (by omega)];exact b
 have hv:∃a m c,v=A4 a m c:=by
  rcases Aa.1.2 with⟨h,_⟩|⟨g,u,A,h,_⟩;·exact⟨_,_,_,h⟩
  exact⟨_,_,_,h⟩
 obtain⟨K,o,c0,hc⟩:=h3 30 (by omega) (by omega);refine⟨hv,⟨K,o,c0,by rw[Ao e1];exact hc⟩,E6 e1 _,?_⟩;obtain⟨a,m,c,rfl⟩:=hv;obtain⟨M,N,g3,Q,D,U⟩:=a6L (i:=30) d b h2 h3 h4 f z A2 a m c (by omega) (by omega) (λq r y H F=>by omega);refine⟨⟨_,M,N,λq r y H=>Q q r y H (AD y),_,SE (by rw[h2.size];omega),uj BG (by omega) _,?_⟩,U⟩;exact aAQ (pr Aa (qC w1 (a2+1) _ _) λx hx=>by omega) (by omega)
def aS4(n c:Nat)(b:Option Ak)(w:A0)(hn:n<=4611686018427387904)(IX:P8 w w.heap.size (A4 b n c) n):Ai A6 19 #[A4 b n c] w λe w'=>∃C f2,e=AZ (Ad (Y ⟨w.heap.size+1,0,Z⟩))/\XZ w' (w.heap.size+2) (w.heap.size+1) C f2/\AX w.heap.size w w':=by
 have A:=A5 IX;clear IX;go_enter Tryz.func19,Tryz.ntmps19;go_wp2;go_loopw[5]λi wr=>∃k:Nat,k<=5/\i=A7 A8 k/\AL (Mg w.heap.size n (A4 b n c) w k 0 wr)(λi _=>5-(BJ i).toNat);case atStart=>exact⟨0,by omega,rfl,A5 (aSC w (A4 b n c) n)⟩
 case round=>
  obtain⟨k,hk,rfl,H⟩:=hrel;by_cases hlt:k<5
  ·go_wp2;rw[show Bz ((k:Int)<5)=A3 from decide_eq_true (by omega)];go_loopw[6,7]λa i o=>∃j:Nat,j<=3/\i=A7 A8 j/\∃v:Nat,a=A7 A8 v/\j<=v/\v<=3*j/\AL (Mg w.heap.size n (A4 b n c) w k j o/\mT o (w.heap.size+1) k j v)(λ_ i _=>3-(BJ i).toNat);case atStart=>exact⟨0,by omega,rfl,0,rfl,by omega,by omega,A5 ⟨H.out,λh=>absurd h (by omega)⟩⟩
   case round=>
    obtain⟨j,H1,rfl,v,rfl,Lk,Jn,sb⟩:=hrel;have y:=A5 sb.out.1;have D:=A5 sb.out.2;clear sb;by_cases F:j<3
    ·obtain⟨i0,MB⟩:=y.out.raw;go_wp2_with fail;refine(yE w.heap.size n _ i0 _ hn MB (A.out.later y.out.below)).mono ?_;rintro e w1⟨r,rfl,a7X,ao,P,-⟩;have Q:=A5 (aSA y.out rfl P ao);have mJ:AL (mT w1 (w.heap.size+1) k j v):=A5 λAV=>(FG (a:=⟨w.heap.size+1,k*3+(j-1),Z⟩) (P.block (w.heap.size+1) (FA (h:=D.out AV)) (by omega))).trans (D.out AV);clear P ao MB y D;have Bm:=Q.out.store (i:=k*3+j) (by omega);obtain⟨x,hc⟩:=Bm.1;have AK:=Bm.2;have R:AL (Mg w.heap.size n (A4 b n c) w k (j+1) (w1.setCell ⟨w.heap.size+1,k*3+j,Z⟩ (A7 A8 ((v:Int)+1+(r:Int))))/\mT (w1.setCell ⟨w.heap.size+1,k*3+j,Z⟩ (A7 A8 ((v:Int)+1+(r:Int)))) (w.heap.size+1) k (j+1) (v+1+r)):=by refine A5 ?_;rw[show(v:Int)+1+(r:Int)=((v+1+r:Nat):Int)from by omega];have hm:=aS9 (v:=v+1+r) Q.out rfl hlt F (by omega) (by omega) mJ.out (by omega);refine⟨hm,λ_=>?_⟩;obtain⟨C,N,h2,_⟩:=Q.out;have e1:=F2 w1 (w.heap.size+1) (k*3+j) _ _ (A7 A8 ((v+1+r:Nat):Int)) N;rw[show k*3+(j+1-1)=k*3+j by omega,Ao e1];exact SE (by rw[h2.1];omega)
     clear Bm Q;go_wp2;first
     |exact⟨⟨j+1,by omega,by go_num,v+1+r,by go_num,by omega,by omega,R⟩,by simp[BJ];omega⟩
     |
      (
       go_roundw;case rel=>exact⟨j+1,by omega,by go_num,v+1+r,by go_num,by omega,by omega,R⟩
       case measure=>simp[BJ];omega)
    have S:j=3:=by omega
    subst S;have R:=A5 (aSB y.out);go_wp2;first
    |exact⟨⟨k+1,by omega,by go_num,R⟩,by simp[BJ];omega⟩
    |
     (
      go_roundw;case rel=>exact⟨k+1,by omega,by go_num,R⟩
      case measure=>simp[BJ];omega)
  have d:k=5:=by omega
  have W:=A5 (aMo (d▸H.out));have aaO:¬(k:Int)<5:=by omega
  clear H d hk hlt;go_wp2;go_loopw[8]λi wr=>∃k:Nat,k<=5/\i=A7 A8 k/\AL (XQ w.heap.size n (A4 b n c) w k 0 wr)(λi _=>5-(BJ i).toNat);case atStart=>exact⟨0,by omega,rfl,W⟩
  case round=>
   obtain⟨k,hk,rfl,H⟩:=hrel;by_cases hlt:k<5
   ·go_wp2;rw[show Bz ((k:Int)<5)=A3 from decide_eq_true (by omega)];go_loopw[9]λi o=>∃j:Nat,j<=3/\i=A7 A8 j/\AL (XQ w.heap.size n (A4 b n c) w k j o)(λi _=>3-(BJ i).toNat);case atStart=>exact⟨0,by omega,rfl,H⟩
    case round=>
     obtain⟨j,H1,rfl,y⟩:=hrel;by_cases F:j<3
     ·obtain⟨C,N,h2,h3,h4,f,U⟩:=y.out;have q:=A5 N;have u:=A5 h2;have Q:=A5 h3;have sc:=A5 h4;have W:=A5 f;have M:=A5 U;clear y N h2 h3 h4 f U;go_wp2_with fail;have X:AL (wr.drew.heap[w.heap.size+1]?=Y (AF C 43 (0,0))):=q;have aCy:AL (∃i,NG wr.drew w.heap.size (A4 b n c) n i):=W;have aCz:AL (AX w.heap.size w wr.drew):=A5 ⟨M.out.os,M.out.tape,M.out.output,M.out.size,M.out.block⟩;have Cm:=@a6M w.heap.size n (A4 b n c) w wr;have tF:AL (∀(w1:A0)(v:A1)(l:List (Nat×Nat)),Pn C (k:Int) l->LR w1 wr.drew.heap.size v l->(∃i,NG w1 w.heap.size (A4 b n c) n i)->Kept (λi=>i=w.heap.size) wr.drew w1->(∃a m c,v=A4 a m c)/\(∃a m c,w1.cell? ⟨w.heap.size+1,15+k*3+j,Z⟩=Y (A4 a m c))/\w1.frozen? ⟨w.heap.size+1,15+k*3+j,Z⟩=A9/\XQ w.heap.size n (A4 b n c) w k (j+1) (w1.setCell ⟨w.heap.size+1,15+k*3+j,Z⟩ v)):=A5 λw1 v l z I K s=>a6M rfl hlt F q.out u.out Q.out sc.out M.out z I K ⟨s.os,s.tape,s.output,s.size,s.block⟩;clear Cm;go_region_with(go_at_call 50;refine(aBr (w.heap.size+1) w.heap.size n (A4 b n c) (k:Int) C wr.drew hn u.out X.out (by omega) aCy.out (A.out.later aCz.out)).mono ?_;rintro e w1⟨v,l,rfl,z,I,K,s⟩;obtain⟨⟨a,m,E8,rfl⟩,⟨a0,bJ,c0,hc⟩,AK,R⟩:=tF.out w1 v l z I K s;have R':=A5 R;clear R z I K s);go_wp2;first
      |exact⟨⟨j+1,by omega,by go_num,R'⟩,by simp[BJ];omega⟩
      |
       (
        go_roundw;case rel=>exact⟨j+1,by omega,by go_num,R'⟩
        case measure=>simp[BJ];omega)
     have S:j=3:=by omega
     have R:=A5 (aMn (S▸y.out));go_wp2;first
     |exact⟨⟨k+1,by omega,by go_num,R⟩,by simp[BJ];omega⟩
     |
      (
       go_roundw;case rel=>exact⟨k+1,by omega,by go_num,R⟩
       case measure=>simp[BJ];omega)
   have d:k=5:=by omega
   obtain⟨C,N,h2,h3,h4,f,U⟩:=(d▸H.out:XQ w.heap.size n (A4 b n c) w 5 0 wr);have tF:AL (∀(w1:A0)(v:A1)(l:List (Nat×Nat)),Pn C (-1) l->LR w1 wr.heap.size v l->(∃i,NG w1 w.heap.size (A4 b n c) n i)->Kept (λi=>i=w.heap.size) wr w1->(∃a m c,v=A4 a m c)/\(∃a m c,w1.cell? ⟨w.heap.size+1,30,Z⟩=Y (A4 a m c))/\w1.frozen? ⟨w.heap.size+1,30,Z⟩=A9/\(∃fS,XZ (w1.setCell ⟨w.heap.size+1,30,Z⟩ v) (w.heap.size+2) (w.heap.size+1) fS l)/\AX w.heap.size w (w1.setCell ⟨w.heap.size+1,30,Z⟩ v)):=A5 λw1 v l z I K s=>aMm rfl N h2 h3 h4 U z I K s;have q:=A5 N;have u:=A5 h2;have aFl:=A5 f;have M:=A5 U;clear H N h2 h3 h4 f U d;go_wp2_with fail;refine(aBr (w.heap.size+1) w.heap.size n (A4 b n c) (-1) C _ hn u.out q.out (by omega) aFl.out (A.out.later M.out)).mono ?_;rintro e w1⟨v,l,rfl,z,I,K,s⟩;obtain⟨⟨a,m,E8,rfl⟩,⟨a0,bJ,c0,hc⟩,AK,⟨fS,Al⟩,Ck⟩:=tF.out w1 v l z I K s;have Bs:=A5 Al;have sd:=A5 Ck;clear z I K s Al Ck;go_wp2;go_ret;exact⟨fS,l,rfl,Bs.out,sd.out⟩
def aQm(n:Nat)(h:n<5):(Ha #[97,98,99,100,101]).extract n (n+1)=⟨#[Vf (97+n)]⟩:=by
 have:∀n:Fin 5,(Ha #[97,98,99,100,101]).extract n.val (n.val+1)=⟨#[Vf (97+n.val)]⟩:=by decide
 exact this ⟨n,h⟩
def aAb(q:Nat)(h:q<5)(w:A0):Ai A6 21 #[A7 A8 (q:Int)] w λe w'=>e=AZ (J (V.mp q))/\w'=w:=by
 have H:A8.wrap ((q:Int)+1)=(q:Int)+1:=by rw[VK];omega
 have z:∀wx:A0,(l7 9 (J ⟨#[97,98,99,100,101]⟩) (Y (A7 A8 (q:Int))) (Y (A7 A8 ((q:Int)+1))) Z).run A6 wx=Ac (J ⟨#[Vf (97+q)]⟩) wx:=by intro wx;have s:=aF_ (P:=A6) wx 9 ⟨#[97,98,99,100,101]⟩ A8 A8 (q:Int) ((q:Int)+1) LI (by omega) (by omega) (by show _<=(5:Int);omega);rw[show((q:Int)+1).toNat=q+1 from by omega,cu,aQm q h]at s;exact s
 have y:=JL ⟨#[109,47]⟩ ⟨#[Vf (97+q)]⟩ (by show 2+1<=_;omega);have b:AL ((⟨#[109,47]⟩:zz)++⟨#[Vf (97+q)]⟩=V.mp q):=A5 (aD5 _ _);generalize Vf (97+q)=c at z y b;go_enter Tryz.func21,Tryz.ntmps21;go_wp2;go_ret;exact⟨bd b.out,rfl⟩
def n5(n:Nat)(h:n<10)(w:A0):Ai A6 16 #[A7 A8 (n:Int)] w λe w'=>e=AZ (J ⟨#[V.KT n]⟩)/\∃q,w'=w.drewN q:=by refine(aK3 0 (by omega) (n:Int) w (by omega) (by simp;omega) (by omega)).mono ?_;rintro e w'⟨rfl,b⟩;refine⟨?_,b⟩;rw[cu];rfl
def aCN(n:Nat)(h:n<30)(w:A0):Ai A6 22 #[A7 A8 (n:Int)] w λe w'=>e=AZ (J (V.E9 n))/\∃q,w'=w.drewN q:=by
 obtain⟨a,y⟩:∃a,n/3=a:=⟨_,rfl⟩;obtain⟨b,z⟩:∃b,n%3=b:=⟨_,rfl⟩;have AP:(n:Int).tmod 3=(b:Int):=by rw[a2K (by omega)];omega
 have AS:(n:Int).tdiv 3=(a:Int):=by rw[Int.tdiv_eq_ediv_of_nonneg (by omega)];omega
 have c:(n:Int)/3=(a:Int):=by omega
 have f:(n:Int)%3=(b:Int):=by omega
 have s:a<10:=by omega
 have m:wrap64 (a:Int)=(a:Int):=by unfold wrap64;omega
 have h1:=JL ⟨#[118,49,46]⟩ ⟨#[V.KT a]⟩ (by show 3+1<=_;omega);by_cases I:b=0
 ·have h2:=JL (⟨#[118,49,46]⟩++⟨#[V.KT a]⟩) ⟨#[46,48,45,114,99]⟩ (by rw[GY];show 3+1+5<=_;omega);have H:AL ((⟨#[118,49,46]⟩:zz)++⟨#[V.KT a]⟩++⟨#[46,48,45,114,99]⟩=V.E9 n):=by refine A5 ?_;unfold V.E9 V.K7;rw[z,I,y];rfl
  subst I;clear y z h;go_enter Tryz.func22,Tryz.ntmps22;go_wp2_with fail;refine(n5 a s _).mono ?_;rintro e w1⟨rfl,K,rfl⟩;go_wp2;go_ret;exact⟨bd H.out,K,rfl⟩
 obtain⟨d,M⟩:∃d,b=d+1:=⟨b-1,by omega⟩;have h2:=JL (⟨#[118,49,46]⟩++⟨#[V.KT a]⟩) ⟨#[46]⟩ (by rw[GY];show 3+1+1<=_;omega);have h3:=JL (⟨#[118,49,46]⟩++⟨#[V.KT a]⟩++⟨#[46]⟩) ⟨#[V.KT d]⟩ (by rw[GY,GY];show 3+1+1+1<=_;omega);have H:AL ((⟨#[118,49,46]⟩:zz)++⟨#[V.KT a]⟩++⟨#[46]⟩++⟨#[V.KT d]⟩=V.E9 n):=by refine A5 ?_;unfold V.E9 V.K7;rw[z,M,y];rfl
 have N:d<10:=by omega
 have U:((b:Int)==0)=A9:=by rw[beq_eq_false_iff_ne];omega
 have Q:(b:Int)-1=(d:Int):=by omega
 clear y z h M I;go_enter Tryz.func22,Tryz.ntmps22;go_wp2_with fail;refine(n5 a s _).mono ?_;rintro e w1⟨rfl,K,rfl⟩;go_wp2_with fail;first|refine(n5 d N _).mono ?_|(rw[Q];refine(n5 d N _).mono ?_)
 rintro e w2⟨rfl,o,rfl⟩;go_wp2;go_ret;exact⟨bd H.out,K+o,rfl⟩
def P2(w:A0)(v:A1)(l:List (Nat×Nat)):Prop:=v=A4 Z 0 0/\l=[]∨∃g c,v=A4 (Y ⟨g,0,Z⟩) l.length c/\∀j(h:j<l.length),w.cell? ⟨g,j*2,Z⟩=Y (A7 A8 (l[j].1:Int))/\w.cell? ⟨g,j*2+1,Z⟩=Y (A7 A8 (l[j].2:Int))
def aSu(l:List (Nat×Nat)):∀j(h:j<l.length),(Qm l)[j*2]?=Y (A7 A8 (l[j].1:Int))/\(Qm l)[j*2+1]?=Y (A7 A8 (l[j].2:Int)):=by
 induction l with
 |nil=>intro j b;simp at b
 |cons x s y=>
  intro j b;have e:Qm (x::s)=[A7 A8 (x.1:Int),A7 A8 (x.2:Int)]++Qm s:=rfl;match j with
  |0=>exact⟨rfl,rfl⟩
  |j+1=>
   have:=y j (by simp at b;omega);rw[e];refine⟨?_,?_⟩;·rw[SX (by simp;omega),gn,<-this.1];congr 1;simp;omega
   rw[SX (by simp;omega),gn,<-this.2];congr 1;simp;omega
def a9q(h:w.ownsRow B 45 2 v l.length (Qm l)):P2 w v l:=by
 have hc:=λg=>h.cells (g:=g);rcases h.2 with⟨b,h2⟩|⟨z,c,a,b,_⟩;·exact AD ⟨b,List.length_eq_zero_iff.1 h2⟩
 refine AJ ⟨z,c,b,λj H=>?_⟩;have h2:=hc z (by rw[b];rfl);have h3:=aSu l j H;have s:=h2 _ _ h3.1;have y:=h2 _ _ h3.2;rw[Gw]at s y;exact⟨s,y⟩
def P2.later(h:P2 w v l)(b:AX w.heap.size w w'):P2 w' v l:=by
 rcases h with h|⟨g,c,y,h2⟩;·exact AD h
 exact AJ ⟨g,c,y,λj s=>⟨Am b (h2 j s).1,Am b (h2 j s).2⟩⟩
def a5F(h:Pn C p l):V.dD l/\l.length<=5:=by
 refine⟨⟨λx hx=>⟨(h.1 x hx).1,by have:=(h.1 x hx).2.2.1;omega⟩,h.2⟩,?_⟩;have b:∀(l:List (Nat×Nat))(m:Nat),(∀x∈l,m<=x.1/\x.1<5)->l.Pairwise (λx y=>x.1<y.1)->l.length+m<=5∨l=[]:=by
  intro l;induction l with
  |nil=>intro m _ _;exact AJ rfl
  |cons x I H=>
   intro m z hp;rw[tS]at hp;have hx:=z x (Je ..);have:=H (x.1+1) (λy hy=>⟨hp.1 y hy,(z y (Jd _ hy)).2⟩) hp.2;rcases this with h|h;·exact AD (by simp;omega)
   exact AD (by rw[h];simp;omega)
 rcases b l 0 (λx hx=>⟨Jf _,(h.1 x hx).1⟩) h.2 with s|s;·omega
 rw[s];simp
def ee(x:Nat×Nat):zx:=[114,101,113,117,105,114,101,32]++V.It x.1++[32]++V.K7 x.2++[10]
def a9i(n:Nat):(V.K7 n).length<=9:=by unfold V.K7;split<;>simp
def aW1(x:Nat×Nat):(ee x).length<=22:=by have:=a9i x.2;unfold ee V.It;simp;omega
def a5B{bv:Type}(f:bv->zx)(M:Nat)(h:∀x,(f x).length<=M):∀l:List bv,(l.flatMap f).length<=l.length*M|[]=>by simp|x::xs=>by have:=a5B f M h xs;have:=h x;rw[tP,H7,Kr,Nat.succ_mul];omega
def Uu(q:Nat):(V.mp q).size=3:=rfl
def YR(n:Nat):(V.E9 n).size<=9:=by show(V.K7 n).toArray.size<=9;rw[I7];exact a9i n
def YQ(b:zz)(l:List (Nat×Nat)):List (Nat×List zz):=(123,[b])::l.map V.Nc
def a9d(Q:V.path DZ.data.toList=A3)(h:V.dD l):V.Whole (YQ DZ l):=by
 have s:V.Valid 123 [DZ]:=⟨AD ⟨rfl,_,rfl⟩,by show V.M4 DZ=Z;unfold V.M4;rw[Q];rfl⟩;refine⟨λx hx=>?_,?_,⟨DZ,_,rfl,λx hx=>?_⟩⟩
 ·rcases List.mem_cons.1 hx with rfl|hx;·exact s
  obtain⟨y,hy,rfl⟩:=List.mem_map.1 hx;exact V.aSx (h.1 y hy)
 ·unfold YQ;rw[Gd,List.nodup_cons];refine⟨?_,?_⟩;·intro H;rw[SY]at H;obtain⟨x,_,hx⟩:=List.mem_map.1 H;have:=congrArg h' hx;exact absurd (show(1:Int)=0 from this) (by decide)
  rw[SY];unfold List.Nodup;rw[Q6];refine a_J ?_ h.2;intro a b K N M e;have z:=V.aSw (h.1 a K).1 (h.1 b N).1 M;have I:V.place (V.Nc a).1 (V.Nc a).2=V.place (V.Nc b).1 (V.Nc b).2:=e;rw[I,V.aTb.refl]at z;cases z
 obtain⟨y,_,rfl⟩:=List.mem_map.1 hx;show 221≠123;decide
def EZ(x:Nat×Nat):Az:=(V.mp x.1,V.E9 x.2)
def Is(b:zz)(l:List (Nat×Nat)):zz:=⟨(V.K9 (YQ b l)).toArray⟩
def y0(s:V.path DZ.data.toList=A3)(h:V.dD l):V.Hy (Is DZ l)/\Lo (V.parse (Is DZ l)).1=MP DZ (l.map EZ):=by
 obtain⟨b,h2,h3⟩:=V.aZ4 (a9d s h);refine⟨⟨b,h2⟩,?_⟩;have e:Lo (V.parse (Is DZ l)).1=((V.parse (Is DZ l)).1.map (·.2)).map jd:=by unfold Lo;rw[SY];rfl
 rw[e];show((V.parse ⟨(V.K9 (YQ DZ l)).toArray⟩).1.map (·.2)).map jd=_;rw[h3];unfold YQ MP;rw[Gd,SY,SY];rfl
def PX(b:zz)(l:List (Nat×Nat))(k:Nat):zz:=⟨([109,111,100,117,108,101,32]++b.data.toList++[10]++(l.take k).flatMap ee).toArray⟩
def aAa(b:zz)(z:b.size<=60)(l:List (Nat×Nat))(k:Nat)(y:l.length<=5):(PX b l k).size<=182:=by
 have h:=a5B ee 22 aW1 (l.take k);have h2:(l.take k).length<=5:=by rw[List.length_take];omega
 show([109,111,100,117,108,101,32]++b.data.toList++[10]++(l.take k).flatMap ee).toArray.size<=182;rw[I7,H7,H7,H7];have h3:([109,111,100,117,108,101,32]:zx).length=7:=rfl;have h4:([10]:zx).length=1:=rfl;have s:b.data.toList.length=b.size:=by simp
 omega
def aTt(b:zz)(l:List (Nat×Nat))(k:Nat)(h:k<l.length):PX b l k++⟨#[114,101,113,117,105,114,101,32]⟩++V.mp l[k].1++⟨#[32]⟩++V.E9 l[k].2++⟨#[10]⟩=PX b l (k+1):=by apply V.bytes_inj;rw[aK,aK,aK,aK,aK,V.PT,V.WQ];unfold PX;rw[List.take_succ_eq_append_getElem h,XT];simp[ee]
def aA_(b:zz)(l:List (Nat×Nat)):PX b l l.length=Is b l:=by unfold PX Is;rw[O3];apply V.bytes_inj;show _=V.K9 (YQ b l);unfold V.K9 YQ;rw[tP,List.flatMap_map];congr 1
def a9N(b:zz)(HD:b.size<=60)(v:A1)(l:List (Nat×Nat))(w:A0)(AE:l.length<=5)(hn:∀x∈l,x.1<5/\x.2<30)(N:P2 w v l):Ai A6 51 #[J b,v] w λe w'=>e=AZ (J (Is b l))/\∃q,w'=w.drewN q:=by
 have g1:=JL ⟨#[109,111,100,117,108,101,32]⟩ b (by show 7+b.size<=_;omega);have R:=JL (⟨#[109,111,100,117,108,101,32]⟩++b) ⟨#[10]⟩ (by rw[GY];show 7+b.size+1<=_;omega);have d:AL ((⟨#[109,111,100,117,108,101,32]⟩:zz)++b++⟨#[10]⟩=PX b l 0):=A5 (by apply V.bytes_inj;rw[aK,aK];simp[PX]);have Ev:=A5 hn;have C2:=A5 N;obtain⟨a,c,rfl⟩:∃a c,v=A4 a l.length c:=by
  rcases N with⟨h,M⟩|⟨g,c,h,_⟩;·exact⟨Z,0,by rw[h,M];rfl⟩
  exact⟨_,_,h⟩
 clear N hn;go_enter Tryz.func51,Tryz.ntmps51;go_wp2;go_loopw[5,6]λs i wr=>∃k:Nat,k<=l.length/\i=A7 A8 k/\s=J (PX b l k)/\∃q,wr=w.drewN q(λ_ i _=>l.length-(BJ i).toNat);case atStart=>exact⟨0,by omega,rfl,by rw[<-d.out],0,rfl⟩
 case round=>
  obtain⟨k,hk,rfl,rfl,U⟩:=hrel;have z:=A5 U;clear U;by_cases hlt:k<l.length
  ·rcases C2.out with⟨h,M⟩|⟨g,c',h,hc⟩;·rw[M]at hlt;simp at hlt
   injection h with h1 _ h3;subst h1 h3;have c0:wr.cell? ⟨g,k*2,Z⟩=Y (A7 A8 (l[k].1:Int)):=by obtain⟨q,e⟩:=z.out;rw[e];exact(hc k hlt).1
   have c1:wr.cell? ⟨g,k*2+1,Z⟩=Y (A7 A8 (l[k].2:Int)):=by obtain⟨q,e⟩:=z.out;rw[e];exact(hc k hlt).2
   have Dv:=A5 (Ev.out l[k] (DU hlt));have I:=A5 (aTt b l k hlt);have f:=aAa b HD l k AE;generalize l[k]=x at c0 c1 Dv I;obtain⟨y,H⟩:=x;simp only at c0 c1 Dv I;have m:=Uu y;have o:=YR H;have t1:(Ha #[114,101,113,117,105,114,101,32]).size=8:=rfl;have t2:(Ha #[32]).size=1:=rfl;have t3:(Ha #[10]).size=1:=rfl;have k1:=JL (PX b l k) ⟨#[114,101,113,117,105,114,101,32]⟩ (by omega);have S:=JL (PX b l k++⟨#[114,101,113,117,105,114,101,32]⟩) (V.mp y) (by rw[GY];omega);have W:=JL (PX b l k++⟨#[114,101,113,117,105,114,101,32]⟩++V.mp y) ⟨#[32]⟩ (by rw[GY,GY];omega);have X:=JL (PX b l k++⟨#[114,101,113,117,105,114,101,32]⟩++V.mp y++⟨#[32]⟩) (V.E9 H) (by rw[GY,GY,GY];omega);have Mv:=JL (PX b l k++⟨#[114,101,113,117,105,114,101,32]⟩++V.mp y++⟨#[32]⟩++V.E9 H) ⟨#[10]⟩ (by rw[GY,GY,GY,GY];omega);clear f m o t1 t2 t3 hc;have u:=aAb y Dv.out.1;have A:=aCN H Dv.out.2;go_wp2_with fail;go_quiet(first|(go_at_call 21;exact fa (u _))|(go_at_call 22;exact aD6 (A _)));have Q:∃D,wr.drewN nq=w.drewN D:=by obtain⟨q,e⟩:=z.out;exact⟨q+nq,by rw[e,World.drewN_drewN]⟩
   have K:=A5 Q;clear Q;go_wp2_with fail;go_roundw;case rel=>exact⟨k+1,by omega,by go_num,by rw[I.out],K.out⟩
   case measure=>simp[BJ];omega
  have F:k=l.length:=by omega
  subst F;have P:=A5 (aA_ b l);go_wp2;go_ret;exact⟨bd P.out,z.out⟩
def aKe(a:Ak)(n c:Nat)(w:A0):(KL Tp 99 (A4 (Y a) n c) (A4 Z 0 0)).run A6 w=Ac (Af A9) w:=by kernel_rfl
def aIU(w:A0):(cI 99 0 #[]).run A6 w=Ac (A4 (Y ⟨w.heap.size,0,Z⟩) 0 0) (w.alloc (AF #[] 179)):=by kernel_rfl
def aJR(z M:Nat)(w:A0)(H:w.cell? ⟨z,0,Z⟩=Y (EL 123 (A_ #[J V3]))):Ai A6 96 #[A4 (Y ⟨z,0,Z⟩) 1 M] w λe w'=>∃b s,e=AZ (A4 (Y ⟨b,0,Z⟩) 1 s)/\w'.cell? ⟨b,0,Z⟩=Y (EL 123 (A_ #[J V3]))/\AX w.heap.size w w':=by
 obtain⟨i0,hi,a,c,d⟩:=Ko a8E;have hlt:z<w.heap.size:=FA (h:=H);have m:=aKe;have Aa:(w.alloc (AF #[] 179)).ownsRow w.heap.size 179 1 (A4 (Y ⟨w.heap.size,0,Z⟩) 0 0) 0 []:=⟨rfl,AJ ⟨w.heap.size,0,#[],rfl,Ae _,Pz w _,by omega,by unfold BH;omega,rfl,rfl⟩⟩;have o:=aIU;go_enter Tryz.func96,Tryz.ntmps96;go_wp2_with(at_builtin;refine NB _ rfl _ _ 99 rfl w.heap.size 179 i0 DS 1 16 Tryz.underlying99 hi a c d rfl (by decide) _ _ _ rfl Aa ⟨z,0,Z⟩ 1 M [EL 123 (A_ #[J V3])] rfl rfl ?c1 ?c2 ?c3 ?c4 ?c5 ?_);case c1=>intro j u y;match j,y with|0,y=>simp at y;subst y;exact BL H _
 case c2=>intro u hu;simp at hu;subst hu;rfl
 case c3=>unfold BH;omega
 case c4=>omega
 case c5=>simp
 intro v' Q Cz K _;have f:AX w.heap.size w Q:=((BF _ w).alloc (Ae _) _).grown K (by simp) (λk hk=>by simp[Tx]at hk;omega);obtain⟨b,s,hv⟩:∃b s,v'=A4 (Y ⟨b,0,Z⟩) 1 s:=by
  rcases Cz.2 with⟨_,H⟩|⟨b,s,q,hv,_⟩;·omega
  exact⟨b,s,hv⟩
 subst hv;have I:=Cz.cells (g:=b) rfl;have N:Q.cell? ⟨b,0,Z⟩=Y (EL 123 (A_ #[J V3])):=by simpa[Qy]using I 0 _ rfl
 have U:=A5 N;clear I Cz K N;go_wp2;go_ret;exact⟨b,s,rfl,U.out,f⟩
def aQ7(v f:A1)(w:A0):Ai A6 256 #[v,A7 A8 0,A7 A8 1,f] w λe w'=>e=AZ (Ay #[])/\w'=w:=by go_enter Tryz.func256,Tryz.ntmps256;go_wp2;refine U1 1 ?_;rw[LL];go_wp2;go_end0;exact⟨rfl,rfl⟩
def aTx(v f:A1)(n:Int)(w:A0):Ai A6 181 #[v,A7 A8 0,A7 A8 1,A7 A8 n,f] w λe w'=>e=AZ (Ay #[])/\w'=w:=by go_enter Tryz.func181,Tryz.ntmps181;go_wp2;refine U1 1 ?_;rw[LL];go_wp2_with fail;refine(aQ7 v f _).mono ?_;rintro e b⟨rfl,rfl⟩;go_wp2;exact Md (v:=Ay #[]) (by simp[D_,Tryz.results181,go_sem]) rfl ⟨rfl,rfl⟩
def aX9(h b:Nat)(f:A1)(w:A0):Ai A6 97 #[A4 (Y ⟨h,0,Z⟩) 1 b,f] w λe w'=>e=AZ (Ay #[])/\w'=w:=by go_enter Tryz.func97,Tryz.ntmps97;go_wp2_with fail;refine(Tryz.bits_Len 1 _ (by omega) (by omega)).mono ?_;rintro e s⟨rfl,rfl⟩;go_wp2_with fail;refine(aTx _ _ _ _).mono ?_;rintro e s⟨rfl,rfl⟩;go_wp2;go_end0;exact⟨rfl,rfl⟩
def eh:zz:=⟨#[109,111,100,117,108,101,32,97]⟩
def aY2(w:A0):Ai A6 472 #[A_ #[J V3]] w λe w'=>e=AZ (J eh)/\AX w.heap.size w w':=by
 have b:∀wx:A0,(cP .add ⟨#[109,111,100,117,108,101,32]⟩ V3).run A6 wx=Ac (J eh) wx:=by intro wx;exact a1e (P:=A6) wx ⟨#[109,111,100,117,108,101,32]⟩ V3 (by decide)
 go_enter Tryz.func472,Tryz.ntmps472;go_wp2;go_ret;exact⟨rfl,(BF _ _).alloc (Ae _) _⟩
def aTg:ZM eh++[A7 F1 10]=Ps [109,111,100,117,108,101,32,97,10]:=by kernel_rfl
def aSZ(s:zz)(w:A0):(method 654 123 (A_ #[J s]) "Text").run A6 w=Ac (472,A_ #[J s]) w:=by kernel_rfl
def aTE(M a:Nat)(w:A0)(AV:w.cell? ⟨M,0,Z⟩=Y (EL 123 (A_ #[J V3]))):Ai A6 46 #[A4 (Y ⟨M,0,Z⟩) 1 a] w λe w'=>e=AZ (J ⟨#[109,111,100,117,108,101,32,97,10]⟩)/\AX w.heap.size w w':=by
 have f:=aSZ;go_enter Tryz.func46,Tryz.ntmps46;go_wp2_with fail;refine(aJR M a _ AV).mono ?_;rintro e w1⟨m,o,rfl,t0,I⟩;have q:=A5 I;have u:=I.size;clear I;go_wp2_with fail;refine(aX9 m o _ _).mono ?_;rintro e b⟨rfl,rfl⟩;have c:SH 190 5 b.heap.size b.heap.size [] (b.alloc (AF #[Ad Z,A4 Z 0 0] 190)):=AD ⟨Ae _,A4 Z 0 0,Pz b _,⟨rfl,AD ⟨rfl,rfl⟩⟩,by simp[Tx]⟩;have S:=BL t0 (AF #[Ad Z,A4 Z 0 0] 190);have x:=A5 c;clear c;go_wp2;go_loopw[13]λi wr=>i=A7 A8 0/\wr=b.alloc (AF #[Ad Z,A4 Z 0 0] 190)∨i=A7 A8 1/\cM 190 5 b.heap.size b.heap.size (Ad (Y ⟨b.heap.size,0,Z⟩)) (ZM eh++[A7 F1 10]) wr/\AX b.heap.size b wr(λi _=>1-(BJ i).toNat);case atStart=>exact AD ⟨rfl,rfl⟩
 case round=>
  rcases hrel with⟨rfl,A⟩|⟨rfl,D,hb⟩
  ·subst A;go_wp2_with fail;refine(aY2 _).mono ?_;rintro e w3⟨rfl,K⟩;have z:SH 190 5 b.heap.size b.heap.size [] w3:=by refine AD ⟨Ae _,A4 Z 0 0,?_,⟨rfl,AD ⟨rfl,rfl⟩⟩,by simp[Tx]⟩;rw[K.block b.heap.size (by simp)];exact Pz b _
   have N:=A5 (((BF _ b).alloc (Ae _) _).trans (K.mono (by simp)));have F:=A5 z;clear K z;go_wp2_with fail;refine(aC_ b.heap.size b.heap.size [] eh _ F.out (by decide) N.out.size).mono ?_;rintro e w4⟨rfl,d,U⟩;have P:=A5 d;have Q:=A5 (N.out.trans U);clear d U;go_wp2_with fail;refine(aZI b.heap.size b.heap.size ([]++ZM eh) 10 _ (AJ P.out) (by decide) Q.out.size).mono ?_;rintro e R⟨rfl,y,s⟩;have h:=A5 y;have H:=A5 (Q.out.trans s);clear y s;go_wp2;first
   |exact⟨AJ ⟨rfl,h.out,H.out⟩,by simp[BJ]⟩
   |
    (
     go_roundw;case rel=>exact AJ ⟨rfl,h.out,H.out⟩
     case measure=>simp[BJ])
  go_wp2_with fail;refine(Tryz.Builder_String b.heap.size b.heap.size [109,111,100,117,108,101,32,97,10] _ (by rw[<-aTg];exact AJ D) (by simp)).mono ?_;rintro e R⟨rfl,s⟩;have H:=A5 (q.out.trans ((hb.trans s).mono u));clear s;go_wp2;go_ret;exact⟨rfl,H.out⟩
def aVk(m:Int)(w:A0)(I:w.cell? ⟨0,0,Z⟩=Y (A7 A8 m)):Ai A6 45 #[J qB] w λe w'=>∃b M,e=AZ (Ay #[A4 (Y ⟨b,0,Z⟩) 1 M,DS])/\w'.cell? ⟨b,0,Z⟩=Y (EL 123 (A_ #[J V3]))/\AX w.heap.size w w':=by
 have H:(V.parse qB).1=[(1,123,[V3])]:=by decide+kernel
 have z:V.Hy qB:=by unfold V.Hy;decide+kernel
 refine(yh qB m w (by decide) I).mono ?_;rintro e N⟨K,y⟩;rcases K with⟨_,v,s,h2⟩|⟨h,_⟩;·rw[H]at h2;obtain⟨g,c,rfl,_,_⟩:=p8 h2 (by decide);exact⟨g,c,s,Rb h2 0 _ rfl,y⟩
 exact absurd z h
def aUP(m:Int)(w:A0)(I:w.cell? ⟨0,0,Z⟩=Y (A7 A8 m)):Ai A6 17 #[J ⟨#[109,111,100,117,108,101,32,97]⟩] w λe w'=>e=AZ (Ay #[J ⟨#[109,111,100,117,108,101,32,97,10]⟩,DS])/\AX w.heap.size w w':=by go_enter Tryz.func17,Tryz.ntmps17;go_wp2_with fail;refine(aVk m _ I).mono ?_;rintro e N⟨M,K,rfl,y,h⟩;have b:=A5 h;have H:=A5 y;clear y h;go_wp2_with fail;refine(aTE M K _ H.out).mono ?_;rintro e Q⟨rfl,s⟩;have z:=A5 (b.out.trans (s.mono b.out.size));clear s;go_wp2;go_ret2;exact⟨rfl,z.out⟩
def aYw:V.AY (Ha #[118,49,46,48,46,48,45,114,99]).data.toList=A3:=by decide
def aYt:V.AY (Ha #[118,49,46,48,46,48]).data.toList=A3:=by decide
def aYx:V.order (Ha #[118,49,46,48,46,48,45,114,99]).data.toList (Ha #[118,49,46,48,46,48]).data.toList=-1:=by decide
def aIB(m:Int)(w:A0)(y:w.cell? ⟨0,0,Z⟩=Y (A7 A8 m)):Ai A6 13 #[] w λe w'=>e=AZ (Af A3)/\AX w.heap.size w w':=by go_enter Tryz.func13,Tryz.ntmps13;go_wp2_with fail;refine(aY1 (Ha #[118,49,46,48,46,48,45,114,99]) (Ha #[118,49,46,48,46,48]) m _ y aYw aYt).mono ?_;rintro e I⟨rfl,b⟩;rw[aYx];have h:=A5 b;have H:=Am b y;clear b;go_wp2_with fail;refine(aUP m _ H).mono ?_;rintro e K⟨rfl,s⟩;have z:=A5 (h.out.trans (s.mono h.out.size));clear s;go_wp2;go_ret;exact⟨rfl,z.out⟩
end
def V.nu:zx:=[48,49,50,51,52,53,54,55,56,57,97,98,99,100,101,102]
def V.Lc(n:Nat):UInt8:=V.nu[n%16]!
def V.T':Nat->Nat->zx->zx|0,_,s=>s|n+1,u,s=>V.T' n (u/16) (V.Lc u::s)
def V.N3:Nat->Nat->zx->zx|0,u,s=>V.Lc u::s|n+1,u,s=>if 16<=u then V.N3 n (u/16) (V.Lc u::s)else V.Lc u::s
def V.w9:∀(n u:Nat)(s:zx),(V.T' n u s).length=n+s.length|0,_,s=>by simp[V.T']|n+1,u,s=>by rw[V.T',V.w9 n];simp;omega
def V.a6k:∀(n:Nat)(s:zx),V.T' n 0 s=mb n 48++s|0,s=>rfl|n+1,s=>by rw[V.T',Nat.zero_div,V.a6k n,List.replicate_succ'];simp[V.Lc,V.nu]
def V.aBn:∀(n u:Nat)(s:zx),s.length+1<=(V.N3 n u s).length/\(V.N3 n u s).length<=s.length+1+n
 |0,_,s=>by simp[V.N3]
 |n+1,u,s=>by
  rw[V.N3];have:=V.aBn n (u/16) (V.Lc u::s);simp only[Kr]at this;split;·omega
  simp only[Kr];omega
def V.a6n:∀(n u:Nat)(s:zx),u<16^(n+1)->V.T' (n+1) u s=mb (n+1+s.length-(V.N3 n u s).length) 48++V.N3 n u s
 |0,u,s,h=>by simp[V.T',V.N3];omega
 |n+1,u,s,h=>by
  rw[V.T',V.N3];by_cases b:16<=u;·rw[if_pos b,V.a6n n (u/16) (V.Lc u::s) (by rw[a2h (by omega)];rw[aHQ]at h;exact h)];congr 2;simp only[Kr];omega
  rw[if_neg b,Nat.div_eq_of_lt (by omega),V.a6k];congr 2;simp only[Kr];omega
def V.ep(h:Int):zx:=V.T' 16 h.toNat []
namespace V
def aAX{a b:zz}(e:I_ a=I_ b):∀(L:List zz)(n:Nat)(st h:Int)(l:List (Nat×Nat×List zz)),GX n (L++[a]) st h l=GX n (L++[b]) st h l|[],n,st,h,l=>by simp only[U9,GX,e]|x::L,n,st,h,l=>by rw[Kq,Kq,GX,GX,aAX e L]
def aA3:∀(l:List (Nat×List zz)),(∀x∈l,Valid x.1 x.2)->pieces 10 (K9 l++[47,47])=l.map (λx=>PQ x.1 x.2)++[[47,47]]
 |[],_=>by decide
 |x::xs,h=>by
  have b:=aA3 xs λy hy=>h y (Jd _ hy);have e:K9 (x::xs)++[47,47]=PQ x.1 x.2++10::(K9 xs++[47,47]):=by unfold K9;rw[tP];simp
  rw[e,pv 10 _ _ (a8o (h x (Je ..))),b];rfl
def aTq{l:List (Nat×List zz)}(h:∀x∈l,Valid x.1 x.2):parse ⟨(K9 l++[47,47]).toArray⟩=parse ⟨(K9 l).toArray⟩:=by unfold parse lines;show GX 0 (texts (pieces 10 (K9 l++[47,47]).toArray.toList)) 0 0 []=GX 0 (texts (pieces 10 (K9 l).toArray.toList)) 0 0 [];rw[XY,XY,aA3 l h,zM l h];unfold texts;rw[U7,U7];exact aAX (by decide) _ _ _ _ _
end V
def TR:zz:=⟨#[47,47]⟩
def aT7{DZ:zz}(b:V.path DZ.data.toList=A3){l:List (Nat×Nat)}(h:V.dD l):V.Hy (Is DZ l++TR)/\Lo (V.parse (Is DZ l++TR)).1=MP DZ (l.map EZ):=by
 have e:Is DZ l++TR=⟨(V.K9 (YQ DZ l)++[47,47]).toArray⟩:=by unfold Is TR;apply aZh;simp[qq]
 have e2:=V.aTq (a9d b h).valid;rw[<-e]at e2;have h2:=y0 b h;unfold V.Hy at h2⊢;rw[e2];exact h2
section
open Go.RowKit
def aYU(w:A0)(b:w.cell? ⟨5,15,Z⟩=Y (A7 F1 4)):Ai A6 438 #[A7 EK 16] w λe w'=>e=AZ (A7 A8 4)/\w'=w:=by
 have e1:bits aD4 EK 16 (EK.wrap (-16))=16:=by kernel_rfl
 have e2:EK.wrap 4573923408821661840=4573923408821661840:=by kernel_rfl
 go_enter Tryz.func438,Tryz.ntmps438;go_wp2;go_ret;exact⟨rfl,rfl⟩
def aYV(w:A0)(b:w.cell? ⟨5,15,Z⟩=Y (A7 F1 4)):Ai A6 421 #[A7 EK 16] w λe w'=>e=AZ (A7 A8 4)/\w'=w:=by go_enter Tryz.func421,Tryz.ntmps421;go_wp2_with(go_at_call 438;refine(aYU _ b).mono ?_;rintro e w'⟨rfl,rfl⟩);go_ret;exact⟨rfl,rfl⟩
def aUN(w:A0):Ai A6 420 #[A7 A8 16] w λe w'=>e=AZ (Af A3)/\w'=w:=by go_enter Tryz.func420,Tryz.ntmps420;go_wp2;go_ret;exact⟨rfl,rfl⟩
def gi(b:Nat)(wr:A0)(s:zx):Prop:=s.length<=65/\(∀j,j<65->(∃x,wr.cell? ⟨b,j,Z⟩=Y x)/\wr.frozen? ⟨b,j,Z⟩=A9)/\∀j(h:j<s.length),wr.cell? ⟨b,65-s.length+j,Z⟩=Y (A7 F1 ((s[j].toNat:Nat):Int))
def gi.push{b:Nat}{wr:A0}{s:zx}(c:UInt8)(h:gi b wr s)(hs:s.length<65):gi b (wr.setCell ⟨b,64-s.length,Z⟩ (A7 F1 ((c.toNat:Nat):Int))) (c::s):=by
 obtain⟨_,h2,h3⟩:=h;refine⟨by simp;omega,λj y=>?_,λj y=>?_⟩
 ·refine⟨?_,?_⟩
  ·by_cases e:j=64-s.length;·subst e;obtain⟨x,hx⟩:=(h2 _ y).1;exact⟨_,la _ _ _ hx⟩
   rw[Kn (h:=λe2=>by injection e2;omega)];exact(h2 j y).1
  rw[World.frozen?_setCell];exact(h2 j y).2
 cases j with
 |zero=>obtain⟨x,hx⟩:=(h2 (64-s.length) (by omega)).1;rw[show 65-(c::s).length+0=64-s.length by simp];exact la _ _ _ hx
 |succ j=>
  have z:j<s.length:=by simpa using y
  rw[show 65-(c::s).length+(j+1)=65-s.length+j by simp;omega,Kn (h:=λe2=>by injection e2;omega)];exact h3 j z
def aHq(v:Nat)(h:v<18446744073709551616):bits aD4 EK (v:Int) 15=((v%16:Nat):Int):=by have b:=bits_and_u64_nat v 15 h (by decide);rw[show v&&&15=v%16 from Nat.and_two_pow_sub_one_eq_mod v 4]at b;exact b
def W2:zz:=⟨#[48,49,50,51,52,53,54,55,56,57,97,98,99,100,101,102,103,104,105,106,107,108,109,110,111,112,113,114,115,116,117,118,119,120,121,122]⟩
def a6l(v:Nat)(h:v%16<W2.size):W2[v%16]=V.Lc v:=by
 have hv:v%16<16:=gu _ (by decide);unfold V.Lc;generalize v%16=k at hv h⊢;have b:∀k:Fin 16,W2.data[k.1]?=Y (V.nu[k.1]!):=by decide
 have s:=b ⟨k,hv⟩;obtain⟨_,h2⟩:=Array.getElem?_eq_some_iff.1 s;exact h2
def a6m(v:Nat)(hv:v<16)(h:v<W2.size):W2[v]=V.Lc v:=by have e:v%16=v:=Nat.mod_eq_of_lt hv;have:=a6l v (by rw[e];exact h);simpa only[e]using this
def aZZ(j:Nat)(h:j<65):(Array.replicate 65 (A7 F1 0))[j]?=Y (A7 F1 0):=by rw[Array.getElem?_replicate,if_pos h]
def aLJ(u:Nat)(hu:u<18446744073709551616)(w:A0)(hm:w.cell? ⟨5,15,Z⟩=Y (A7 F1 4)):Ai A6 379 #[A4 Z 0 0,A7 EK u,A7 A8 16,Af A9,Af A9] w λe w'=>∃s:zz,e=AZ (Ay #[A4 Z 0 0,J s])/\s.data.toList=V.N3 15 u []/\AX w.heap.size w w':=by
 have a:=λo=>BL hm o;go_enter Tryz.func379,Tryz.ntmps379;go_wp2_with(first|(go_at_call 420;refine(aUN _).mono ?_;rintro e w'⟨rfl,rfl⟩)|(go_at_call 421;refine(aYV _ (a _)).mono ?_;rintro e w'⟨rfl,rfl⟩));go_loopw[1,13]λK I wr=>∃(v:Nat)(s:zx),K=A7 EK v/\I=A7 A8 (65-(s.length:Int))/\s.length<=15/\v<18446744073709551616/\AL (v<16^(16-s.length))/\AL (V.N3 (15-s.length) v s=V.N3 15 u [])/\AL (gi w.heap.size wr s)/\AX w.heap.size w wr(λK _ _=>(Mc K).toNat);case atStart=>refine⟨u,[],rfl,rfl,by simp,hu,hu,rfl,⟨by simp,λj z=>?_,λj z=>absurd z (gv _)⟩,(BF _ _).alloc (Ae _) _⟩;refine⟨⟨A7 F1 0,?_⟩,World.frozen?_alloc_new _ _ _ _⟩;rw[World.cell?_alloc_new];exact aZZ j z
 case round=>
  obtain⟨v,s,rfl,rfl,hs,hv,N,M,sn,U⟩:=hrel;have AB:=aHq v hv;have hc:=sn.out.2.1 (65-s.length-1) (by omega);obtain⟨⟨x,hc⟩,AK⟩:=hc;by_cases Q:16<=v
  ·go_wp2;go_round;case rel=>
    have hp:s.length+1<=15:=by
     by_cases e:s.length=15;·exfalso;have:=N.out;rw[e]at this;omega
     omega
    refine⟨v/16,V.Lc v::s,by go_num,by go_num,by simpa using hp,by omega,?_,?_,?_,U.setCell (p:=⟨_,_,Z⟩) (Ae _) _⟩;·refine A5 ?_;have b:=N.out;rw[show 16-s.length=16-(s.length+1)+1 by omega,aHQ]at b;simp only[Kr];omega
    ·refine A5 ?_;rw[<-M.out,show 15-s.length=15-(s.length+1)+1 by omega];simp only[Kr,V.N3,if_pos Q]
    refine A5 ?_;have AV:v%16<W2.size:=by have:v%16<16:=gu _ (by decide);exact Ku this (by decide)
    have b:gi w.heap.size (wr.setCell ⟨w.heap.size,65-s.length-1,Z⟩ (A7 F1 ((W2[v%16].toNat:Nat):Int))) (V.Lc v::s):=by rw[a6l v AV,show 65-s.length-1=64-s.length by omega];exact sn.out.push _ (by omega)
    exact b
   case measure=>simp[Mc];omega
  have c:∀W,(Instr.sliceAt 513 (Ad (Y ⟨w.heap.size,0,Z⟩)) (Y (A7 A8 (65-(s.length:Int)-1))) Z Z).run A6 W=Ac (A4 (Y ⟨w.heap.size,65-s.length-1,Z⟩) (s.length+1) (s.length+1)) W:=by
   intro W;have y:A6.arrayLen 513=65:=by simp[aEA,aEz]
   rw[run_sliceAt_array_l W 513 ⟨w.heap.size,0,Z⟩ (by simp[aEA,a_0,aEz]) A8 _ (by omega) (by rw[y];omega),y];go_simp;omega
  have H:=run_convert_bytes_back (P:=A6) (wr.setCell ⟨w.heap.size,64-s.length,Z⟩ (A7 F1 (((V.Lc v).toNat:Nat):Int))) 188 9 5 ⟨w.heap.size,64-s.length,Z⟩ (s.length+1) (V.Lc v::s) Tryz.underlying188 Tryz.underlying5 LI (λj z=>by
   have b:=(sn.out.push (V.Lc v) (by omega)).2.2 j z;rw[show(⟨w.heap.size,64-s.length,Z⟩:Ak).add j=⟨w.heap.size,65-(V.Lc v::s).length+j,Z⟩by
    unfold Qy;split;·subst_vars;simp
    simp];exact b);rw[<-a6m v (by omega) (Ku (by omega:v<16) (by decide)),Kr,show 64-s.length=65-s.length-1 by omega]at H;have Eu:AL _:=H;unfold W2 at H;go_wp2;go_ret2;refine⟨_,rfl,?_,U.setCell (p:=⟨_,_,Z⟩) (Ae _) _⟩;rw[<-M.out];have e:V.N3 (15-s.length) v s=V.Lc v::s:=by cases h:15-s.length with|zero=>rfl|succ n=>rw[V.N3,if_neg Q]
  rw[e];have e2:W2[v]'(Ku (by omega:v<16) (by decide))=V.Lc v:=a6m v (by omega) _;rw[<-e2];rfl
def aLK(u:Nat)(hu:u<18446744073709551616)(w:A0)(y:w.cell? ⟨5,15,Z⟩=Y (A7 F1 4)):Ai A6 216 #[A7 EK u,A7 A8 16] w λe w'=>∃s:zz,e=AZ (J s)/\s.data.toList=V.N3 15 u []/\AX w.heap.size w w':=by
 have b:Ai A6 313 #[A7 EK u,A7 A8 16] w λe w'=>∃s:zz,e=AZ (J s)/\s.data.toList=V.N3 15 u []/\AX w.heap.size w w':=by go_enter Tryz.func313,Tryz.ntmps313;go_wp2_with(go_at_call 379;refine(aLJ u hu _ y).mono ?_;rintro e w'⟨s,rfl,hs,h⟩);go_ret;exact⟨_,rfl,hs,h⟩
 go_enter Tryz.func216,Tryz.ntmps216;go_wp2_with(go_at_call 313;refine b.mono ?_;rintro e w'⟨s,rfl,hs,h⟩);go_ret;exact⟨_,rfl,hs,h⟩
def a3Y{c:Nat}(hc:c<16):c=0∨c=1∨c=2∨c=3∨c=4∨c=5∨c=6∨c=7∨c=8∨c=9∨c=10∨c=11∨c=12∨c=13∨c=14∨c=15:=by omega
def mul_one(c:Nat)(hc:c<16)(w:A0):Ai A6 314 #[A7 EK 1,A7 EK c] w λe w'=>e=AZ (Ay #[A7 EK 0,A7 EK c])/\w'=w:=by
 have b:Ai A6 381 #[A7 EK 1,A7 EK c] w λe w'=>e=AZ (Ay #[A7 EK 0,A7 EK c])/\w'=w:=by go_enter Tryz.func381,Tryz.ntmps381;go_wp2;go_ret2;refine⟨?_,rfl⟩;rcases a3Y hc with rfl|rfl|rfl|rfl|rfl|rfl|rfl|rfl|rfl|rfl|rfl|rfl|rfl|rfl|rfl|rfl<;>kernel_rfl
 go_enter Tryz.func314,Tryz.ntmps314;go_wp2_with(go_at_call 381;refine b.mono ?_;rintro e w'⟨rfl,rfl⟩);go_ret2;exact⟨rfl,rfl⟩
def jq(c:Nat):zz:=⟨(mb c 48).toArray⟩
def aW0(c:Nat)(hc:c<16)(w:A0):Ai A6 217 #[J ⟨#[48]⟩,A7 A8 c] w λe w'=>e=AZ (J (jq c))/\w'=w:=by
 by_cases b:c=0;·subst b;go_enter Tryz.func217,Tryz.ntmps217;go_wp2;go_ret;exact⟨rfl,rfl⟩
 by_cases h:c=1;·subst h;go_enter Tryz.func217,Tryz.ntmps217;go_wp2;go_ret;exact⟨rfl,rfl⟩
 go_enter Tryz.func217,Tryz.ntmps217;go_wp2_with(first|(go_at_call 314;refine(mul_one c hc _).mono ?_;rintro e w'⟨rfl,rfl⟩)|(go_at_call 168;refine(Tryz.strings_HasPrefix _ _ _).mono ?_;rintro e w'⟨rfl,rfl⟩));go_ret;refine⟨?_,rfl⟩;rcases a3Y hc with rfl|rfl|rfl|rfl|rfl|rfl|rfl|rfl|rfl|rfl|rfl|rfl|rfl|rfl|rfl|rfl;all_goals first|exact absurd rfl b|exact absurd rfl h|kernel_rfl
def aA4(c:Nat):(jq c).data.toList=mb c 48:=by simp[jq]
def aXe(u:Nat)(hu:u<18446744073709551616)(w:A0)(I:w.cell? ⟨5,15,Z⟩=Y (A7 F1 4)):Ai A6 139 #[A7 EK u] w λe w'=>∃t:zz,e=AZ (J t)/\t.data.toList=V.ep u/\AX w.heap.size w w':=by
 go_enter Tryz.func139,Tryz.ntmps139;go_wp2_with fail;go_at_call 216;refine(aLK u hu _ I).mono ?_;rintro e M⟨s,rfl,hs,H⟩;have b:=V.aBn 15 u [];rw[<-hs]at b;have K:1<=s.size/\s.size<=16:=by
  have e1:s.data.toList.length=s.size:=by simp
  rw[e1]at b;simpa using b
 have h:(16:Int)-(s.size:Int)=((16-s.size:Nat):Int):=by omega
 have y:=λw=>aW0 (16-s.size) (by omega) w;rw[<-h]at y;have hn:(jq (16-s.size)).size=16-s.size:=by have:=congrArg XV (aA4 (16-s.size));simpa using this
 have z:=A5 hs;clear hs b h;go_wp2_with(go_at_call 217;refine(y _).mono ?_;rintro e w'⟨rfl,rfl⟩);go_ret;refine⟨_,rfl,?_,H⟩;have e2:(jq (16-s.size)++s).data.toList=mb (16-s.size) 48++s.data.toList:=by rw[<-aA4];simp
 rw[e2];unfold V.ep;rw[cu,V.a6n 15 u [] hu,<-z.out];simp
def aKd(a:Ak)(n c:Nat)(w:A0):(KL Tp 73 (A4 (Y a) n c) (A4 Z 0 0)).run A6 w=Ac (Af A9) w:=by kernel_rfl
def aIT(w:A0):(cI 73 0 #[]).run A6 w=Ac (A4 (Y ⟨w.heap.size,0,Z⟩) 0 0) (w.alloc (AF #[] 77)):=by kernel_rfl
def aQ5:(A6.info? 77).map (λi=>(i.zero,i.size,i.bytes))=Y (Y (A_ #[J ⟨#[]⟩,J ⟨#[]⟩]),2,32):=by kernel_rfl
def aJS(a c:Nat)(x y:zz)(w:A0)(K:w.cell? ⟨a,0,Z⟩=Y (J x))(N:w.cell? ⟨a,1,Z⟩=Y (J y)):Ai A6 211 #[A4 (Y ⟨a,0,Z⟩) 1 c] w λe w'=>∃h b,e=AZ (A4 (Y ⟨h,0,Z⟩) 1 b)/\w'.ownsRow w.heap.size 77 2 (A4 (Y ⟨h,0,Z⟩) 1 b) 1 [J x,J y]/\AX w.heap.size w w':=by
 obtain⟨i0,hi,d,f,m⟩:=Ko aQ5;have q:=aKd;have M:(w.alloc (AF #[] 77)).ownsRow w.heap.size 77 2 (A4 (Y ⟨w.heap.size,0,Z⟩) 0 0) 0 []:=⟨rfl,AJ ⟨w.heap.size,0,#[],rfl,Ae _,F7 w _ _ rfl,by omega,by unfold BH;omega,rfl,rfl⟩⟩;have A:=aIT;have z:=A5 K;have o:=A5 N;clear K N;go_enter Tryz.func211,Tryz.ntmps211;go_wp2_with(at_builtin;refine NB _ rfl _ _ 73 rfl w.heap.size 77 i0 (A_ #[J ⟨#[]⟩,J ⟨#[]⟩]) 2 32 Tryz.underlying73 hi d f m rfl (by decide) _ _ _ rfl M ⟨a,0,Z⟩ 1 c [J x,J y] rfl ?c0 ?c1 ?c2 ?c3 ?c4 ?c5 ?_);case c0=>rfl
 case c1=>intro j u s;match j,s with|0,s=>simp at s;subst s;rw[Gw];exact BL z.out _|1,s=>simp at s;subst s;rw[Gw];exact BL o.out _
 case c2=>intro u hu;simp at hu;rcases hu with rfl|rfl<;>rfl
 case c3=>unfold BH;omega
 case c4=>omega
 case c5=>simp
 intro v' w2 Cz U _;have Q:AX w.heap.size w w2:=((BF _ w).alloc (Ae _) _).grown U (by simp) (λk hk=>by simp[Tx]at hk;omega);obtain⟨h,b,hv⟩:∃h b,v'=A4 (Y ⟨h,0,Z⟩) 1 b:=by
  rcases Cz.2 with⟨_,K⟩|⟨h,b,D,hv,_⟩;·omega
  exact⟨h,b,by simpa using hv⟩
 subst hv;have I:AL (w2.ownsRow w.heap.size 77 2 (A4 (Y ⟨h,0,Z⟩) 1 b) 1 [J x,J y]):=A5 (by simpa using Cz);have H:=A5 Q;clear Cz U Q;go_wp2;go_ret;exact⟨h,b,rfl,I.out,H.out⟩
def aQ8(p:Option Ak)(c:Nat)(f:A1)(w:A0):Ai A6 374 #[A4 p 1 c,A7 A8 0,A7 A8 1,f] w λe w'=>e=AZ (Ay #[])/\w'=w:=by
 go_enter Tryz.func374,Tryz.ntmps374;go_wp2_with fail;go_loopw[8]λi wr=>i=A7 A8 1/\wr=w(λ_ _=>0);case atStart=>exact⟨rfl,rfl⟩
 case round=>obtain⟨rfl,rfl⟩:=hrel;go_wp2;go_end0;exact⟨rfl,rfl⟩
def aXM(p:Option Ak)(c:Nat)(f:A1)(w:A0):Ai A6 312 #[A4 p 1 c,A7 A8 1,f] w λe w'=>e=AZ (Ay #[])/\w'=w:=by
 go_enter Tryz.func312,Tryz.ntmps312;go_wp2_with fail;go_loopw[7,8]λa b wr=>a=A7 A8 0/\b=A7 A8 20/\wr=w(λ_ _ _=>0);case atStart=>exact⟨rfl,rfl,rfl⟩
 case round=>
  obtain⟨rfl,rfl,rfl⟩:=hrel;go_wp2_with fail;refine(aQ8 p c f _).mono ?_;rintro e h⟨rfl,rfl⟩;go_wp2_with fail;go_loopw[6]λb wr=>b=A7 A8 20/\wr=h(λ_ _=>0);case atStart=>exact⟨rfl,rfl⟩
  case round=>obtain⟨rfl,rfl⟩:=hrel;go_wp2;go_end0;exact⟨rfl,rfl⟩
def aXA(p:Option Ak)(c:Nat)(f:A1)(w:A0):Ai A6 212 #[A4 p 1 c,f] w λe w'=>e=AZ (Ay #[])/\w'=w:=by go_enter Tryz.func212,Tryz.ntmps212;go_wp2_with fail;refine(aXM p c f _).mono ?_;rintro e b⟨rfl,rfl⟩;go_wp2;go_end0;exact⟨rfl,rfl⟩
def aJa(p:Option Ak)(c:Nat)(f:A1)(w:A0):Ai A6 214 #[A4 p 1 c,f] w λe w'=>e=AZ (A4 p 1 c)/\w'=w:=by go_enter Tryz.func214,Tryz.ntmps214;go_wp2;go_ret;exact⟨rfl,rfl⟩
def aPy(a K:Nat)(x y:zz)(w:A0)(s:w.cell? ⟨a,0,Z⟩=Y (J x))(z:w.cell? ⟨a,1,Z⟩=Y (J y)):Ai A6 138 #[A4 (Y ⟨a,0,Z⟩) 1 K] w λe w'=>∃h b,e=AZ (A4 (Y ⟨h,0,Z⟩) 1 b)/\w'.ownsRow w.heap.size 77 2 (A4 (Y ⟨h,0,Z⟩) 1 b) 1 [J x,J y]/\AX w.heap.size w w':=by go_enter Tryz.func138,Tryz.ntmps138;go_wp2_with fail;refine(aJS a K x y _ s z).mono ?_;rintro e Q⟨h,b,rfl,I,H⟩;have N:=A5 I;have M:=A5 H;clear I H s z;go_wp2_with fail;refine(aXA _ b _ _).mono ?_;rintro e U⟨rfl,rfl⟩;go_wp2_with fail;refine(aJa _ b _ _).mono ?_;rintro e w3⟨rfl,rfl⟩;go_wp2_with fail;go_ret;exact⟨h,b,rfl,N.out,M.out⟩
end
end Go.Proofs.YtcfhleenecfghaaGreatDoor
namespace Go.Proofs.YtcfhleenecfghaaGreatDoor.Twin
section
open Go.Proofs.YtcfhleenecfghaaGreatDoor
open Go.Conc Go.RowKit
open Go.ConcR(Payload)
variable{w w':A0}{b:Nat}{p:Nat×Nat}
structure a36(w:A0)(own:zz)(br r1 r2 a2 cap up:Nat)(G:List Rel)(rd:zy):Prop where
 Jo:O4 reads rd w
 a8C:rd br
 oZ:rd r1
 o_:rd r2
 oa:rd a2
 ob:rd up
 box:w.heap[br]?=Y (AF #[J own,Ah (Y r1),Ah (Y r2),A4 (Y ⟨a2,0,Z⟩) G.length cap,Ah (Y up)] 138)
 reads:Reads w own r1 r2 a2 up G
 files:∀r∈G,∀a,r.BP=Y a->rd a.block
 ok:Mh G
 rel:∀r∈G,h6 own r
def tg(G:List Rel)(p v:zz)(n:Nat)(x:A1)(w1:A0):Prop:=∃i,∃hi:i<G.length,G[i].name=(p,v)/\∃b,x=Ya G[i] b/\w1.ownsRow n 85 2 b G[i].D'.length (F8 G[i].D')/\Gv isStr w1 2 b G[i].D'.length
def Hd(w:A0)(M:zy)(b:A1)(l:List Az):Prop:=b=A4 Z 0 0/\l=[]∨∃g cap a q,b=A4 (Y ⟨g,0,Z⟩) l.length cap/\M g/\w.heap[g]?=Y (AF a 85 q)/\q.1=q.2/\a.toList.take (l.length*2)=F8 l
def Ve(G:List Rel)(ms:List (zz×zz))(j:Nat)(x:A1)(M:zy)(w:A0):Prop:=∃i,∃hi:i<G.length,ms[j]?=Y G[i].name/\∃b,x=Ya G[i] b/\Hd w M b G[i].D'
def Ve.aXK{G:List Rel}{ms:List (zz×zz)}{j:Nat}{x:A1}{M:zy}(h:∀b,M b->w'.heap[b]?=w.heap[b]?)(k:Ve G ms j x M w):Ve G ms j x M w':=by
 obtain⟨i,hi,s,y,h2,h3⟩:=k;refine⟨i,hi,s,y,h2,?_⟩;rcases h3 with h3|⟨g,cap,f,q,a,b,c,d⟩;·exact AD h3
 exact AJ ⟨g,cap,f,q,a,b,by rw[h g b];exact c,d⟩
def aPq{c:zw}{t:Aj}(h:w.heap[b]?=Y (AF c t p))(s:w'.heap[b]?=Y (Qa (AF c t p)))(o:Nat):w'.cell? ⟨b,o,Z⟩=w.cell? ⟨b,o,Z⟩:=by simp[FB,h,s,Qa]
def a3t{o:Nat}{v:A1}(h:w.cell? ⟨b,o,Z⟩=Y v):∃c t p,w.heap[b]?=Y (AF c t p):=by
 unfold FB at h;split at h;·exact⟨_,_,_,by assumption⟩
 cases h
def aVn{own:zz}{r1 r2 a2 f:Nat}{G:List Rel}{rd:zy}(h:Reads w own r1 r2 a2 f G)(H:rd 0)(I:rd r1)(h2:rd r2)(s:rd a2)(M:rd f)(hi:∀b o,rd b->w.heap[b]?=Y o->w'.heap[b]?=Y (Twin.Qa o)):Reads w' own r1 r2 a2 f G:=by
 have hc:∀b o v,rd b->w.cell? ⟨b,o,Z⟩=Y v->w'.cell? ⟨b,o,Z⟩=Y v:=λb o v s hv=>by obtain⟨c,t,p,e⟩:=a3t hv;rw[aPq e (hi b _ s e)];exact hv
 obtain⟨⟨m,g⟩,⟨c1,e1⟩,⟨c2,e2⟩,⟨c3,y⟩,z⟩:=h;refine⟨⟨m,hc _ _ _ H g⟩,⟨c1,hi _ _ I e1⟩,⟨c2,hi _ _ h2 e2⟩,⟨c3,hi _ _ M y⟩,λi K=>?_⟩;obtain⟨a,b,c,d⟩:=z i K;exact⟨hc _ _ _ s a,hc _ _ _ s b,hc _ _ _ s c,hc _ _ _ s d⟩
def aC2{F:zy}{E:AT}:∀{l a:List A1},Aq F E l a->(∀u∈l,isStr u)->a=l|_,_,.nil,_=>rfl|_,_,.cons (v:=v) (v':=v') h t,hs=>by obtain⟨s,rfl⟩:=hs v (by simp);cases h;rw[aC2 t λu hu=>hs u (by simp[hu])]
def aTH(x:zz):(J x).oneCell'=A3:=rfl
def aTG(a:Option Ak)(l c:Nat):(A4 a l c).oneCell'=A3:=rfl
def aTF(k:IntKind)(n:Int):(A7 k n).oneCell'=A3:=rfl
def aYy{F:zy}{E:AT}{N1 a c d f:zz}{v5 m:A1}{k:IntKind}{n:Int}{o:List A1}(h:Aq F E [J N1,J a,J c,J d,J f,v5,A7 k n,m] o):∃q u,o=[J N1,J a,J c,J d,J f,q,A7 k n,u]/\AN F E v5 q/\AN F E m u:=by cases h with|cons b h=>cases b;cases h with|cons s h=>cases s;cases h with|cons h2 h=>cases h2;cases h with|cons h3 h=>cases h3;cases h with|cons h4 h=>cases h4;cases h with|cons y h=>cases h with|cons z h=>cases z;cases h with|cons H h=>cases h with|nil=>exact⟨_,_,rfl,y,H⟩
def aC3{F:zy}{E:AT}:∀{l:List A1},(∀u∈l,isStr u)->Aq F E l l|[],_=>.nil|v::l,hs=>by obtain⟨s,rfl⟩:=hs v (by simp);exact .cons (.string s) (aC3 λu hu=>hs u (by simp[hu]))
section
def aRD{ρ:C'->A1}{br:Nat}{v0 a c v3 v4:A1}(h2:ρ (.tmp 2)=Av br)(h:w.heap[br]?=Y (AF #[v0,a,c,v3,v4] 138 p)):∃b,(Ab ρ (Iu 1)).runT A6 w #[]=(Ac (.value (A_ #[v0,a,c,v3,v4])) w,b):=by
 have s:(Iu 1).op=.load 138 (.tmp 2):=by kernel_rfl
 unfold Ab;rw[s];simp only[h2];have c0:w.cell? ⟨br,0,Z⟩=Y v0:=by simp[FB,h]
 have c1:w.cell? ⟨br,1,Z⟩=Y a:=by simp[FB,h]
 have c2:w.cell? ⟨br,2,Z⟩=Y c:=by simp[FB,h]
 have c3:w.cell? ⟨br,3,Z⟩=Y v3:=by simp[FB,h]
 have c4:w.cell? ⟨br,4,Z⟩=Y v4:=by simp[FB,h]
 exact⟨_,by simp[go_sem,c0,c1,c2,c3,c4];rfl⟩
def aWr{R:JJ}{rd:zy}{own:zz}{r1 r2 a2 cap A:Nat}{G:List Rel}(z:a36 R.w0 own R.br r1 r2 a2 cap A G rd)(QW:∀b,rd b->R.old b)(UW:R.old R.AW)(Fa:∃t p,R.w0.heap[R.AW]?=Y (AF #[.chan (Y R.X.Ch)] t p))(NS:R.X.ND=Zz rd (Ve G R.ms))(HW:∀(j:Nat)p v,R.ms[j]?=Y (p,v)->∃i,∃hi:i<G.length,G[i].name=(p,v)):h8 R rd (IZ own r1 r2 a2 G.length cap A) (tg G):=by
 refine⟨z.Jo,QW,z.a8C,UW,Fa,λw D ρ BI=>?_,λj p v F w D=>?_,?_⟩;·exact aRD BI (D _ _ z.a8C z.box)
 ·obtain⟨i,hi,hn⟩:=HW j p v F;have A2:=aVn z.reads (z.Jo.EX 0 (by decide)) z.oZ z.o_ z.oa z.ob D;have UX:=aVi own r1 r2 a2 cap A G i hi z.ok (z.rel _ (DU hi)) w A2;have e1:G[i].p=p:=congrArg h' hn;have e2:G[i].v=v:=congrArg Prod.snd hn;rw[e1,e2]at UX;refine UX.mono ?_;rintro e w1⟨B4,rfl,Aa,Q,H⟩;exact⟨_,rfl,⟨i,hi,hn,B4,rfl,Aa,Q⟩,H.block⟩
 intro j p v BA F e5 n E x x' w1 w' S W' WB d9 hx AH A2 hc aa9;obtain⟨i,hi,hn,B4,rfl,Aa,Q⟩:=AH;have K4:=DU hi;have d:=z.files _ K4;generalize AI:G[i]=r at hn Aa Q hx d;obtain⟨abE,C1,aBQ,N,B0,BN,g5⟩:=r;simp only[Ya]at hx Aa Q d;have Dz:∀a I,N=Y a->Cf E a I->I=a:=λa I AB M8=>by have h1:E.rel a.block a.block:=d9 _ _ ⟨rfl,AD (d a AB)⟩;have h2:=E.one _ _ _ M8.1 h1;obtain⟨b,o,s⟩:=a;obtain⟨b',o',C9⟩:=I;obtain⟨_,h3,h4⟩:=M8;simp only at h2 h3 h4;subst h2 h3 h4;rfl
 cases hx with
 |agg hv=>
  rename_i I;obtain⟨hH⟩:=I;obtain⟨hw,c,P,li,ED⟩:=aYy hv;have P:hH=_:=P;subst P;skip;have J6:hw=A4 N B0 BN:=by cases li with|HL=>rfl|slice _ _ M8=>rw[Dz _ _ rfl M8]
  subst J6;have W:∀M,AN CM (C_ (gy rd M)) (A4 N B0 BN) (A4 N B0 BN):=λM=>by cases N with|none=>exact .HL _ _|some a=>exact .slice _ _ ⟨⟨rfl,AD (d a rfl)⟩,rfl,rfl⟩
  rw[NS];have aOC:R.ms[j]?=Y (p,v):=F;have aOK:∃M:zy,(∀b,M b->S b/\b≠BA)/\AN CM (C_ (gy rd M)) c c/\c.oneCell'=A3/\(∀b,M b->∃o,w'.heap[b]?=Y o/\Ge CM (C_ (gy rd M)) o o)/\Hd w' M c g5:=by
   rcases Aa.2 with⟨e,F3⟩|⟨g,Hh,f,e,aai,Gh,_,_,Fb,bF⟩;·subst e;cases ED;exact⟨λ_=>False,λb H=>H.elim,.HL _ _,rfl,λb H=>H.elim,AD ⟨rfl,List.length_eq_zero_iff.1 F3⟩⟩
   subst e;cases ED with
   |slice _ _ M8=>
    rename_i Se;obtain⟨hrel,AA,hs⟩:=M8;obtain⟨K,o',C9⟩:=Se;simp only at hrel AA hs;subst AA hs;have aOQ:¬rd g:=λh=>by have:=WB g h;omega
    have aMZ:S K:=by
     rcases hc g K hrel with⟨h,_⟩|⟨_,h⟩;·exact absurd h aOQ
     exact h
    have aNS:K≠BA:=λh=>by subst h;have:=E.other _ _ _ hrel (d9 _ _ ⟨rfl,AJ rfl⟩);omega
    have U:∀u∈f.toList,isStr u:=by
     intro u hu;obtain⟨k,hk,rfl⟩:=List.mem_iff_getElem.1 hu;by_cases hlt:k<g5.length*2
     ·have h1:f.toList[k]∈F8 g5:=by rw[<-bF];exact List.mem_iff_getElem.2 ⟨k,by simp at hk⊢;omega,by simp⟩
      unfold F8 at h1;obtain⟨y,_,hy⟩:=List.mem_flatMap.1 h1;simp only[JG,He,or_false]at hy;rcases hy with hy|hy<;>exact⟨_,hy⟩
     refine Q g Hh f 85 (0,0) rfl Gh k _ (by omega) ?_;rw[<-Array.getElem?_toList];exact K1 hk
    obtain⟨T,F5⟩:=A2;obtain⟨o1,pV,m,dW,wy⟩:=F5.heap g K hrel;have m:w1.heap[g]?=Y o1:=m;rw[Gh]at m;obtain rfl:=CH m;cases wy with
    |cells _ Jn el=>
     rename_i c' q;have Y1:c'=f:=Array.toList_inj.1 (aC2 Jn U);subst Y1;have AH:q.1=q.2:=by
      rcases el with h|⟨_,_,h⟩;·exact h
      exact absurd rfl h
     refine⟨λb=>b=K,λb H=>by subst H;exact⟨aMZ,aNS⟩,.slice _ _ ⟨⟨rfl,AJ rfl⟩,rfl,rfl⟩,rfl,λb H=>?_,AJ ⟨K,Hh,c',q,rfl,rfl,dW,AH,bF⟩⟩;subst H;exact⟨_,dW,.cells _ (aC3 U) (Nt.refl _)⟩
  obtain⟨M,aMR,RI,nb,aMS,aMT⟩:=aOK;refine⟨M,aMR,⟨_,rfl,rfl,?_,?_⟩,aMS,⟨i,hi,?_,c,?_,?_⟩⟩;·simp[nb,aTH,aTG,aTF]
  ·exact .cons (.string _) (.cons (.string _) (.cons (.string _) (.cons (.string _) (.cons (.string _) (.cons (W M) (.cons (.int _ _) (.cons RI .nil)))))))
  ·rw[aOC,AI];exact congrArg Y hn.symm
  ·rw[AI]
  rw[AI];exact aMT
end
end
end Go.Proofs.YtcfhleenecfghaaGreatDoor.Twin
namespace Go.Proofs.YtcfhleenecfghaaGreatDoor.N
section
variable{bv:Type}[DecidableEq bv]
def fresh(K:List bv):List bv->List bv|[]=>[]|m::l=>if m∈K then fresh K l else m::fresh (K++[m]) l
def jh{K l:List bv}{x:bv}:x∈fresh K l↔x∈l/\x∉K:=by
 induction l generalizing K with
 |nil=>simp[fresh]
 |cons m l s=>
  unfold fresh;split
  ·rename_i h;rw[s,JG];constructor;·rintro⟨a,b⟩;exact⟨AJ a,b⟩
   rintro⟨rfl|a,b⟩;·exact absurd h b
   exact⟨a,b⟩
  rename_i h;rw[JG,s,JG,List.mem_append,List.mem_singleton];constructor
  ·rintro(rfl|⟨a,b⟩);·exact⟨AD rfl,h⟩
   exact⟨AJ a,λc=>b (AD c)⟩
  rintro⟨rfl|a,b⟩;·exact AD rfl
  by_cases e:x=m;·exact AD e
  exact AJ ⟨a,λc=>c.elim b e⟩
def aLQ{K l:List bv}:(fresh K l).length<=l.length:=by
 induction l generalizing K with
 |nil=>simp[fresh]
 |cons m l b=>
  unfold fresh;split;·have:=b (K:=K);simp only[Kr];omega
  have:=b (K:=K++[m]);simp only[Kr];omega
def yG{K l:List bv}(h:K.Nodup):(K++fresh K l).Nodup:=by
 induction l generalizing K with
 |nil=>simpa[fresh]using h
 |cons m l s=>
  unfold fresh;split;·exact s h
  rename_i H;have h2:(K++[m]).Nodup:=by rw[List.nodup_append];exact⟨h,by simp,λa y b z=>by rw[List.mem_singleton.1 z];intro e;exact H (e▸y)⟩
  have:=s h2;rwa[SV,a2b]at this
def aLS{K l:List bv}{m:bv}(h:m∈K++fresh K l):fresh K (l++[m])=fresh K l:=by
 induction l generalizing K with
 |nil=>
  have h:m∈K:=by simpa[fresh]using h
  simp[fresh,h]
 |cons x l b=>
  rw[Kq];unfold fresh at h⊢;split;·rename_i hx;rw[if_pos hx]at h;exact b h
  rename_i hx;rw[if_neg hx]at h;rw[b (by rwa[SV,a2b])]
def aLR{K l:List bv}{m:bv}(h:m∉K++fresh K l):fresh K (l++[m])=fresh K l++[m]:=by
 induction l generalizing K with
 |nil=>
  have h:m∉K:=by simpa[fresh]using h
  simp[fresh,h]
 |cons x l b=>
  rw[Kq];unfold fresh at h⊢;split;·rename_i hx;rw[if_pos hx]at h;exact b h
  rename_i hx;rw[if_neg hx]at h;rw[b (by rwa[SV,a2b]),Kq]
inductive Reach(N:bv->List bv)(R:List bv):bv->Prop|root{x:bv}:x∈R->Reach N R x|step{x y:bv}:Reach N R x->y∈N x->Reach N R y
structure Vd(N:bv->List bv)(R F A X:List bv):Prop where
 nodup:F.Nodup
 perm:(A++X).Perm F
 closed:∀m∈A,∀n∈N m,n∈F
 root:∀m∈R,m∈F
 reach:∀m∈F,Reach N R m
def Vd.start(N:bv->List bv)(R:List bv):Vd N R (fresh [] R) [] (fresh [] R):=by refine⟨by simpa using yG (K:=[]) (l:=R) List.nodup_nil,.refl _,λm b=>absurd b He,λm b=>jh.2 ⟨b,He⟩,λm b=>.root (jh.1 b).1⟩
def Vd.next{N:bv->List bv}{R F A X c:List bv}(h:Vd N R F A X)(hp:c.Perm X){L:List bv}(I:L=c.flatMap N):Vd N R (F++fresh F L) (A++c) (fresh F L):=by
 have z:∀m,m∈L↔∃x∈X,m∈N x:=λm=>by rw[I,List.mem_flatMap];exact⟨λ⟨x,a,b⟩=>⟨x,hp.mem_iff.1 a,b⟩,λ⟨x,a,b⟩=>⟨x,hp.mem_iff.2 a,b⟩⟩
 refine⟨yG h.nodup,a_K _ ((hp.append_left A).trans h.perm),λm s n hn=>?_,λm s=>List.mem_append.2 (AD (h.root m s)),λm s=>?_⟩
 ·rcases List.mem_append.1 s with s|s;·exact List.mem_append.2 (AD (h.closed m s n hn))
  by_cases e:n∈F;·exact List.mem_append.2 (AD e)
  exact List.mem_append.2 (AJ (jh.2 ⟨(z n).2 ⟨m,hp.mem_iff.1 s,hn⟩,e⟩))
 rcases List.mem_append.1 s with s|s;·exact h.reach m s
 obtain⟨H,_⟩:=jh.1 s;obtain⟨x,hx,y⟩:=(z m).1 H;exact .step (h.reach x (h.perm.mem_iff.1 (List.mem_append.2 (AJ hx)))) y
omit[DecidableEq bv]in theorem Vd.done{N:bv->List bv}{R F A:List bv}(h:Vd N R F A []):A.Nodup/\∀m,m∈A↔Reach N R m:=by
 have hp:A.Perm F:=by simpa using h.perm
 refine⟨hp.nodup_iff.2 h.nodup,λm=>⟨λhm=>h.reach m (hp.mem_iff.1 hm),λhm=>?_⟩⟩;induction hm with|root hx=>exact hp.mem_iff.2 (h.root _ hx)|step _ hy ih=>exact hp.mem_iff.2 (h.closed _ ih _ hy)
def pT{l U:List bv}(h:l.Nodup)(hs:∀x∈l,x∈U):l.length<=U.length:=by
 induction l generalizing U with
 |nil=>simp
 |cons x l b=>
  have hx:=hs x (by simp);have h2:=b (U:=U.erase x) (List.nodup_cons.1 h).2 λy hy=>by refine(List.mem_erase_of_ne ?_).2 (hs y (by simp[hy]));intro e;exact(List.nodup_cons.1 h).1 (e▸hy)
  have h3:=List.length_erase_of_mem hx;have h4:=List.length_pos_of_mem hx;simp only[Kr];omega
end
def TM{a:Type}(b:a->a->Bool):List a->List a|[]=>[]|[x]=>[x]|x::y::l=>if b x y then TM b (y::l)else x::TM b (y::l)
def Lex(a b:Nat×Nat):Prop:=a.1<b.1∨a.1=b.1/\a.2<b.2
def ei(a b:Nat×Nat):Bool:=a.1==b.1
end Go.Proofs.YtcfhleenecfghaaGreatDoor.N
namespace Go.Proofs.YtcfhleenecfghaaGreatDoor
section
open Go.RowKit
variable{w:A0}{v:A1}{B r:Nat}
def aBk{o:Df}(h:w.heap[r]?=Y o):({w with heap:=w.heap.setIfInBounds r o}:A0)=w:=by
 have:w.heap.setIfInBounds r o=w.heap:=by
  apply kZ;intro i;rw[HM];split;·rename_i e;subst e;rw[h];simp[(Array.getElem?_eq_some_iff.1 h).1]
  rfl
 rw[this]
def OU(l:List (Az×Nat))(j n:Nat):List (Az×Nat):=l.modify j λx=>(x.1,n)
def aSJ(l:List (Az×Nat))(j n:Nat):(EY l).modify j (λe=>{e with val:=A7 A8 (n:Int)})=EY (OU l j n):=by
 apply kZ;intro i;rw[fL];by_cases hi:i<l.length
 ·have b:i<(OU l j n).length:=by simpa[OU]using hi
  rw[bL i b,bL i hi];by_cases e:j=i;·subst e;simp[OU]
  simp[OU,e]
 rw[Np (by rw[jg];omega),Np (by rw[jg];simp[OU];omega)];split<;>rfl
def aVr(l:List (Az×Nat))(j n:Nat):(OU l j n).map (·.1)=l.map (·.1):=by apply mX;intro i;simp only[OU,List.getElem?_map,aGu];cases l[i]? with|none=>simp|some x=>by_cases e:j=i<;>simp[e]
def find_born(l:List (Az×Nat))(j:Nat)(b:j<l.length):(EY l).findIdx? λe=>(e.born:Int)==(j:Int)=Y j:=by
 rw[Array.findIdx?_eq_some_iff_getElem];have hs:j<(EY l).size:=by rw[jg];exact b
 refine⟨hs,?_,λk s=>?_⟩;·have:=bL (l:=l) j b;rw[EP hs]at this;rw[CH this];simp
 have h:k<l.length:=by omega
 have:=bL (l:=l) k h;rw[EP (by rw[jg];exact h)]at this;rw[CH this];simp;omega
def aK_(r:Nat)(l:List (Az×Nat))(p:Az)(j:Nat)(z:j<l.length)(H:l[j].1=p)(U:(l.map (·.1)).Nodup)(w:A0)(y:Ft p)(M:∀x∈l,Ft x.1)(h:w.heap[r]?=Y (DM (EY l) l.length)):(ZJ 131 (Ah (Y r)) (HH p)).run A6 w=Ac (Ay #[A7 A8 (l[j].2:Int),A7 A8 (j:Int)]) w:=by
 rcases db l p w y M with⟨_,h2⟩|⟨i,hi,s,I⟩;·exact absurd H (h2 _ (DU z))
 have K:i=j:=by
  have a:i<(l.map (·.1)).length:=by simpa using hi
  have b:j<(l.map (·.1)).length:=by simpa using z
  exact(aGx (h₀:=a) (h₁:=b) U).1 (by simp[s,H])
 subst K;obtain⟨d,N⟩:=om p y;have h3:=bL (l:=l) i hi;have Bm:=xe.stays w N;have Q:(EY l).modify i (λe=>{key:=HH p,val:=e.val,born:=e.born})=EY l:=by
  apply kZ;intro k;rw[fL];split;·rename_i e;subst e;rw[h3];simp[s]
  rfl
 have c:=aBk h;simp[ZJ,Q' ZQ,SJ h,Xj p y,I,h3,s,Bm,Q,lE _ h,Ly,goInt];exact c
def aKZ(r:Nat)(l:List (Az×Nat))(p:Az)(hn:∀x∈l,x.1≠p)(w:A0)(h:Ft p)(z:∀x∈l,Ft x.1)(b:w.heap[r]?=Y (DM (EY l) l.length)):(ZJ 131 (Ah (Y r)) (HH p)).run A6 w=Ac (Ay #[A7 A8 0,A7 A8 (l.length:Int)]) {w with heap:=w.heap.setIfInBounds r (DM (EY (l++[(p,0)])) (l.length+1))}:=by
 rcases db l p w h z with⟨s,_⟩|⟨i,hi,y,_⟩;·rw[a9S];simp[ZJ,Q' ZQ,SJ b,Xj p h,s,lE _ b,Ly,goInt]
 exact absurd y (hn _ (DU hi))
def a4m(r:Nat)(l:List (Az×Nat))(j n:Nat)(y:j<l.length)(w:A0)(b:w.heap[r]?=Y (DM (EY l) l.length)):(fu 131 (Ah (Y r)) (A7 A8 (j:Int)) (A7 A8 (n:Int))).run A6 w=Ac () {w with heap:=w.heap.setIfInBounds r (DM (EY (OU l j n)) l.length)}:=by have h:=find_born l j y;have h2:=aSJ l j n;have s:(asInt (A7 A8 (j:Int))).run A6 w=Ac (j:Int) w:=rfl;simp[fu,SJ b,s,h,lE _ b,Ly];exact congrArg (λx=>w.heap.setIfInBounds r (DM x l.length)) h2
def Found(w:A0)(r:Nat)(K:List Az)(N:Nat):Prop:=∃l:List (Az×Nat),w.heap[r]?=Y (DM (EY l) l.length)/\l.map (·.1)=K/\∀x∈l,0<x.2/\x.2<=N
structure Jw(r B:Nat)(w w':A0):Prop where
 os:w'.os=w.os
 tape:w'.tape=w.tape
 output:w'.output=w.output
 size:w.heap.size<=w'.heap.size
 block:∀k,k<B->k≠r->w'.heap[k]?=w.heap[k]?
def Jw.refl(r B:Nat)(w:A0):Jw r B w w:=⟨rfl,rfl,rfl,Ae _,λ_ _ _=>rfl⟩
def Jw.below{w1 w2:A0}(h:Jw r B w w1)(k:AX B w1 w2):Jw r B w w2:=⟨k.os.trans h.os,k.tape.trans h.tape,k.output.trans h.output,G3 h.size k.size,λb s y=>(k.block b s).trans (h.block b s y)⟩
def Jw.set{w1:A0}(h:Jw r B w w1)(o:Df):Jw r B w {w1 with heap:=w1.heap.setIfInBounds r o}:=⟨h.os,h.tape,h.output,by show _<=(w1.heap.setIfInBounds r o).size;rw[Pk];exact h.size,λb y s=>by show(w1.heap.setIfInBounds r o)[b]?=_;rw[HM,if_neg (Gu s)];exact h.block b y s⟩
def Jw.drew{r B:Nat}{w w1:A0}(h:Jw r B w w1):Jw r B w w1.drew:=⟨h.os,h.tape,h.output,h.size,h.block⟩
def aVs(l:List (Az×Nat))(p:Az)(n m:Nat):OU (l++[(p,n)]) l.length m=l++[(p,m)]:=by
 unfold OU;apply mX;intro i;rw[aGu];rcases Nat.lt_trichotomy i l.length with h|h|h
 ·rw[cx h,cx h];have:¬l.length=i:=by omega
  simp[this]
 ·subst h;simp
 rw[ma (by simp;omega),ma (by simp;omega)];simp
def a4K(r:Nat)(K:List Az)(N:Nat)(p:Az)(w:A0)(AK:Found w r K N)(f:K.Nodup)(q:∀m∈K,Ft m)(s:Ft p)(F:N<=1000000000):∃(c:Nat)(j:Nat)(z U:A0),(Ix 131 (Ah (Y r)) (HH p) A9).run A6 w=Ac (A7 A8 (c:Int)) w/\(ZJ 131 (Ah (Y r)) (HH p)).run A6 w=Ac (Ay #[A7 A8 (c:Int),A7 A8 (j:Int)]) z/\(Ix 131 (Ah (Y r)) (HH p) A9).run A6 z=Ac (A7 A8 (c:Int)) z/\(fu 131 (Ah (Y r)) (A7 A8 (j:Int)) (A7 A8 ((c:Int)+1))).run A6 z=Ac () U/\c<=N/\(c=0/\p∉K/\Found U r (K++[p]) (N+1)∨0<c/\p∈K/\Found U r K (N+1))/\(∃o,z={w with heap:=w.heap.setIfInBounds r o})/\∃o,U={w with heap:=w.heap.setIfInBounds r o}:=by
 obtain⟨l,b,rfl,hc⟩:=AK;have M:∀x∈l,Ft x.1:=λx hx=>q _ (List.mem_map.2 ⟨x,hx,rfl⟩);have hlt:=(Array.getElem?_eq_some_iff.1 b).1;rcases xi r l.length l p w s M b with⟨H,h2⟩|⟨x,hx,Q,H⟩
 ·have h3:=aKZ r l p h2 w s M b;have d:({w with heap:=w.heap.setIfInBounds r (DM (EY (l++[(p,0)])) (l.length+1))}:A0).heap[r]?=Y (DM (EY (l++[(p,0)])) (l++[(p,0)]).length):=by show(w.heap.setIfInBounds r _)[r]?=_;rw[HM,if_pos rfl,if_pos hlt];simp
  have h4:(Ix 131 (Ah (Y r)) (HH p) A9).run A6 {w with heap:=w.heap.setIfInBounds r (DM (EY (l++[(p,0)])) (l.length+1))}=Ac (A7 A8 0) {w with heap:=w.heap.setIfInBounds r (DM (EY (l++[(p,0)])) (l.length+1))}:=by
   have u:∀x∈l++[(p,0)],Ft x.1:=λx hx=>by
    rcases List.mem_append.1 hx with hx|hx;·exact M x hx
    rw[List.mem_singleton.1 hx];exact s
   rcases xi r _ (l++[(p,0)]) p _ s u d with⟨h,_⟩|⟨y,hy,A,h⟩;·exact h
   rcases List.mem_append.1 hy with hy|hy;·exact absurd A (h2 y hy)
   rw[List.mem_singleton.1 hy]at h;exact h
  have I:=a4m r (l++[(p,0)]) l.length 1 (by simp) _ d;rw[aVs]at I;refine⟨0,l.length,_,_,H,h3,h4,I,by omega,AD ⟨rfl,λhm=>?_,l++[(p,1)],?_,by simp,λx hx=>?_⟩,⟨_,rfl⟩,⟨DM (EY (l++[(p,1)])) (l++[(p,0)]).length,?_⟩⟩;·obtain⟨x,hx,Q⟩:=List.mem_map.1 hm;exact h2 x hx Q
  ·show((w.heap.setIfInBounds r _).setIfInBounds r _)[r]?=_;rw[HM,if_pos rfl,if_pos (by rw[Pk];exact hlt)];simp
  ·rcases List.mem_append.1 hx with hx|hx;·have:=hc x hx;omega
   rw[List.mem_singleton.1 hx];simp only;omega
  simp
 obtain⟨j,a,rfl⟩:=List.mem_iff_getElem.1 hx;have a6X:=hc _ (DU a);have h3:=aK_ r l p j a Q f w s M b;have I:=a4m r l j (l[j].2+1) a w b;refine⟨l[j].2,j,_,_,H,h3,H,by exact_mod_cast I,a6X.2,AJ ⟨a6X.1,List.mem_map.2 ⟨_,hx,Q⟩,OU l j (l[j].2+1),?_,aVr _ _ _,λx hx=>?_⟩,⟨_,(aBk b).symm⟩,⟨_,rfl⟩⟩;·show(w.heap.setIfInBounds r _)[r]?=_;rw[HM,if_pos rfl,if_pos hlt];simp[OU]
 obtain⟨i,hi,rfl⟩:=List.mem_iff_getElem.1 hx;have D:i<l.length:=by simpa[OU]using hi
 have:=hc _ (DU D);simp only[OU,List.getElem_modify];split;·simp only;omega
 omega
def Found.heap{w w':A0}{r:Nat}{K:List Az}{M:Nat}(h:Found w r K M)(e:w'.heap[r]?=w.heap[r]?):Found w' r K M:=by obtain⟨l,b,h2⟩:=h;exact⟨l,by rw[e];exact b,h2⟩
def Found.lt{K:List Az}{M:Nat}(h:Found w r K M):r<w.heap.size:=by obtain⟨l,b,_⟩:=h;exact(Array.getElem?_eq_some_iff.1 b).1
structure SC(K l:List Az)(M r:Nat)(w:A0)(k:Nat)(v:A1)(wr:A0):Prop where
 own:wr.ownsRow w.heap.size 85 2 v (N.fresh K (l.take k)).length (F8 (N.fresh K (l.take k)))
 found:Found wr r (K++N.fresh K (l.take k)) (M+k)
 but:Jw r w.heap.size w wr
def a3F(r:Nat)(K:List Az)(M:Nat)(v:A1)(l:List Az)(w:A0)(AK:Found w r K M)(GC:K.Nodup)(Lj:∀m∈K,Ft m)(hv:JH w v l)(JS:∀g c,v=A4 (Y ⟨g,0,Z⟩) l.length c->g≠r)(AE:∀m∈l,Ft m)(G7:M+l.length<=1000000000):Ai A6 124 #[Ah (Y r),v] w λe w'=>∃Dc,e=AZ Dc/\SC K l M r w l.length Dc w':=by
 obtain⟨i0,hi,EF,DF,CO⟩:=Ko od;have W:=A5 GC;have VU:=A5 Lj;have Ig:=A5 AE;have FV:=A5 AK;have IW:=AK.lt;obtain⟨a,c,rfl,DD⟩:∃a c,v=A4 a l.length c/\AL (∀k(h:k<l.length),∃g,a=Y ⟨g,0,Z⟩/\g≠r/\w.cell? ⟨g,k*2,Z⟩=Y (J l[k].1)/\w.cell? ⟨g,k*2+1,Z⟩=Y (J l[k].2)):=by
  rcases hv with⟨rfl,rfl⟩|⟨g,c,rfl,h⟩;·exact⟨Z,0,rfl,A5 λk h=>by cases h⟩
  exact⟨_,c,rfl,A5 λk hk=>⟨g,rfl,JS g c rfl,h k hk⟩⟩
 clear GC Lj AE AK hv JS;go_enter Tryz.func124,Tryz.ntmps124;go_wp2;go_loopw[5,10]λv i wr=>∃k:Nat,k<=l.length/\i=A7 A8 k/\AL (SC K l M r w k v wr)(λ_ i _=>l.length-(BJ i).toNat);case atStart=>exact⟨0,by omega,rfl,A5 ⟨XA _ _ _ _,by simpa[N.fresh]using FV.out,Jw.refl _ _ _⟩⟩
 case round=>
  obtain⟨k,hk,rfl,H⟩:=hrel;by_cases hlt:k<l.length
  ·obtain⟨g,rfl,L2,X,GA⟩:=DD.out k hlt;have EU:g<w.heap.size:=FA (h:=X);have Dz:=H.out.but.block g EU L2;have c0:wr.cell? ⟨g,k*2,Z⟩=Y (J l[k].1):=(FG (a:=⟨g,k*2,Z⟩) Dz).trans X;have c1:wr.cell? ⟨g,k*2+1,Z⟩=Y (J l[k].2):=(FG (a:=⟨g,k*2+1,Z⟩) Dz).trans GA;have F6:w.heap.size<=wr.heap.size:=H.out.but.size;have Cm:=A5 (Um l k hlt);have wW:Ft l[k]:=Ig.out _ (DU hlt);generalize l[k]=m at c0 c1 Cm wW;obtain⟨p,q⟩:=m;simp only at c0 c1;have Bs:=A5 wW;have a6v:g<wr.heap.size:=by omega
   have vV:(K++N.fresh K (l.take k)).Nodup:=N.yG W.out;have vW:∀m∈K++N.fresh K (l.take k),Ft m:=λm hm=>by
    rcases List.mem_append.1 hm with hm|hm;·exact VU.out m hm
    exact Ig.out m (aH4 (N.jh.1 hm).1)
   have d:M+k<=1000000000:=by omega
   obtain⟨n,xX,Qt,fF,OG,-,-,-,-,dq,-,-⟩:=a4K r _ (M+k) (p,q) (wr.alloc (AF #[J p,J q] 85)) (H.out.found.heap (EO _ _ _ H.out.found.lt)) vV vW Bs.out d;have f:=A5 λ(wx:A0)(hx:wx.heap[r]?=wr.heap[r]?)=>a4K r _ (M+k) (p,q) wx (H.out.found.heap hx) vV vW Bs.out d;clear X GA Dz wW vV vW xX;simp only[HH]at OG;have aaJ:(N.fresh K (l.take k)).length<=k:=G3 N.aLQ (by simp;omega);have XK:=A5 (F7 wr (AF #[J p,J q] 85) _ rfl);have eB:r<wr.heap.size:=by omega
   rcases dq with⟨rfl,Bw,-⟩|⟨i7,D7,-⟩
   ·have Zb:=A5 Bw;clear Bw Qt fF;go_wp2_with(at_builtin;refine NB _ rfl _ _ 57 rfl w.heap.size 85 i0 (A_ #[J ⟨#[]⟩,J ⟨#[]⟩]) 2 32 lS hi EF DF CO rfl (by decide) _ _ _ rfl ((H.out.own.alloc _).alloc _) ⟨wr.heap.size+1,0,Z⟩ 1 1 [J p,J q] rfl rfl ?c1 ?c2 ?c3 ?c4 ?c5 ?_);case c1=>intro j u U;have Jl:=F7 (wr.alloc (AF #[J p,J q] 85)) (AF #[J p,J q] 85) (wr.heap.size+1) (by simp);match j,U with|0,U=>simp at U;subst U;rw[Gw,Ao Jl];rfl|1,U=>simp at U;subst U;rw[Gw,Ao Jl];rfl
    case c2=>intro u hu;simp at hu;rcases hu with rfl|rfl<;>rfl
    case c3=>unfold BH;omega
    case c4=>omega
    case c5=>simp;omega
    intro v' s Cz CF _;obtain⟨A,D,rfl⟩:=Ln Cz;have GU:=H.out.own;have i6:∀b,b<w.heap.size->Y b≠Tx u5:=λb hb e=>by have:=(GU.lt b e.symm).1;omega
    have o:s.heap[r]?=wr.heap[r]?:=by rw[CF.block r (by simp;omega) (i6 r (by omega)),EO _ _ _ (by simp;omega),EO _ _ _ (by omega)]
    have I:s.heap[wr.heap.size]?=Y (AF #[J p,J q] 85):=by rw[CF.block _ (by simp;omega) λe=>by have:=(GU.lt _ e.symm).2;omega,EO _ _ _ (by simp)];exact XK.out
    have F_:Jw r w.heap.size w s:=H.out.but.below (((BF _ wr).alloc F6 _).alloc (by simp;omega) _|>.grown CF (by simp;omega) λk hk=>(GU.lt k hk).1);obtain⟨n,xX,w3,w4,F,P,S,f4,-,W0,⟨MK,y⟩,⟨PU,z⟩⟩:=f.out s.drew o;have Q:N.fresh K (l.take (k+1))=N.fresh K (l.take k)++[(p,q)]:=by rw[Cm.out];exact N.aLR Zb.out
    rcases W0 with⟨rfl,-,x⟩|⟨-,h,-⟩;case inr=>exact absurd h Zb.out
    have R:AL (SC K l M r w (k+1) (A4 A ((N.fresh K (l.take k)).length+1) D) w4):=by
     refine A5 ⟨?_,?_,?_⟩
     ·rw[Q,pK,H7];refine⟨Cz.1,?_⟩;rcases Cz.2 with h|⟨g',Hh,g6,h1,h2,h3,h4⟩;·exact AD h
      refine AJ ⟨g',Hh,g6,h1,h2,?_,h4⟩;rw[z];show(s.heap.setIfInBounds r PU)[g']?=_;rw[HM,if_neg (by omega)];exact h3
     ·rw[Q,<-SV,<-me];exact x
     rw[z];exact F_.drew.set PU
    have BC:s.cell? ⟨wr.heap.size,0,Z⟩=Y (J p):=by rw[Ao I];rfl
    have d1:s.cell? ⟨wr.heap.size,1,Z⟩=Y (J q):=by rw[Ao I];rfl
    have t0:w3.cell? ⟨wr.heap.size,0,Z⟩=Y (J p):=by rw[<-BC,y];exact FG (show(s.heap.setIfInBounds r MK)[wr.heap.size]?=s.heap[wr.heap.size]? by rw[HM,if_neg (by omega)])
    have t1:w3.cell? ⟨wr.heap.size,1,Z⟩=Y (J q):=by rw[<-d1,y];exact FG (show(s.heap.setIfInBounds r MK)[wr.heap.size]?=s.heap[wr.heap.size]? by rw[HM,if_neg (by omega)])
    simp only[HH]at F P S;simp only[Int.natCast_zero,Int.zero_add]at F P S f4;clear Cz CF i6 o I F_ Q x y z GU;have F5:A8.wrap 1=1:=by decide
    go_wp2_with fail;go_region_with fail;all_goals
     go_wp2;first
     |exact⟨⟨k+1,by omega,by go_num,R⟩,by simp[BJ];omega⟩
     |
      (
       go_roundw;case rel=>exact⟨k+1,by omega,by go_num,R⟩
       case measure=>simp[BJ];omega)
   have g_:=A5 D7;clear D7 Qt fF;have NT:((n:Int)==0)=A9:=by simp;omega
   have o:(wr.alloc (AF #[J p,J q] 85)).heap[r]?=wr.heap[r]?:=EO _ _ _ eB;obtain⟨JA,xX,w3,w4,F,P,S,f4,aab,W0,⟨MK,y⟩,⟨PU,z⟩⟩:=f.out (wr.alloc (AF #[J p,J q] 85)).drew o;have Q:N.fresh K (l.take (k+1))=N.fresh K (l.take k):=by rw[Cm.out];exact N.aLS g_.out
   rcases W0 with⟨-,h,-⟩|⟨-,-,x⟩;case inl=>exact absurd g_.out h
   obtain⟨A,D,rfl⟩:=Ln H.out.own;have I:=XK.out;have R:AL (SC K l M r w (k+1) (A4 A (N.fresh K (l.take k)).length D) w4):=by
    have GU:=H.out.own;refine A5 ⟨?_,?_,?_⟩
    ·rw[Q];refine⟨GU.1,?_⟩;rcases GU.2 with h|⟨g',Hh,g6,h1,h2,h3,h4⟩;·exact AD h
     refine AJ ⟨g',Hh,g6,h1,h2,?_,h4⟩;rw[z];show((wr.alloc (AF #[J p,J q] 85)).heap.setIfInBounds r PU)[g']?=_;rw[HM,if_neg (by omega),EO _ _ _ (Array.getElem?_eq_some_iff.1 h3).1];exact h3
    ·rw[Q,<-me];exact x
    rw[z];exact(H.out.but.below ((BF _ wr).alloc F6 _)).drew.set PU
   have t0:w3.cell? ⟨wr.heap.size,0,Z⟩=Y (J p):=by
    have h2:w3.heap[wr.heap.size]?=Y (AF #[J p,J q] 85):=by rw[y];show((wr.alloc (AF #[J p,J q] 85)).heap.setIfInBounds r MK)[wr.heap.size]?=_;rw[HM,if_neg (by omega)];exact I
    rw[Ao h2];rfl
   have t1:w3.cell? ⟨wr.heap.size,1,Z⟩=Y (J q):=by
    have h2:w3.heap[wr.heap.size]?=Y (AF #[J p,J q] 85):=by rw[y];show((wr.alloc (AF #[J p,J q] 85)).heap.setIfInBounds r MK)[wr.heap.size]?=_;rw[HM,if_neg (by omega)];exact I
    rw[Ao h2];rfl
   have F5:A8.wrap ((JA:Int)+1)=(JA:Int)+1:=by have:=VK ((JA:Int)+1);omega
   simp only[HH]at F P S;clear o Q x y z I;go_wp2_with fail;go_region_with fail;all_goals
    go_wp2;first
    |exact⟨⟨k+1,by omega,by go_num,R⟩,by simp[BJ];omega⟩
    |
     (
      go_roundw;case rel=>exact⟨k+1,by omega,by go_num,R⟩
      case measure=>simp[BJ];omega)
  have Gi:k=l.length:=by omega
  subst Gi;obtain⟨A,D,rfl⟩:=Ln H.out.own;go_wp2;go_ret;exact⟨_,rfl,H.out⟩
structure Bu where
 rel:Rel
 Bc:Option Ak
 Ba:Nat
variable{L:List Bu}
abbrev Bu.B4(x:Bu):A1:=A4 x.Bc x.rel.D'.length x.Ba
def I4(L:List Bu):List A1:=L.flatMap λx=>[J x.rel.p,J x.rel.v,J x.rel.p,J x.rel.v,J x.rel.m,A4 x.rel.BP x.rel.B0 x.rel.BN,A7 A8 0,x.B4]
def yg(x:Bu)(L:List Bu):I4 (x::L)=[J x.rel.p,J x.rel.v,J x.rel.p,J x.rel.v,J x.rel.m,A4 x.rel.BP x.rel.B0 x.rel.BN,A7 A8 0,x.B4]++I4 L:=rfl
def aVc(A B:List Bu):I4 (A++B)=I4 A++I4 B:=by simp[I4]
def aBF(L:List Bu):(I4 L).length=L.length*8:=by induction L with|nil=>rfl|cons x h b=>rw[yg,H7,b];simp;omega
structure O6(w:A0)(g j:Nat)(x:Bu):Prop where
 c0:w.cell? ⟨g,j*8,Z⟩=Y (J x.rel.p)
 c1:w.cell? ⟨g,j*8+1,Z⟩=Y (J x.rel.v)
 c2:w.cell? ⟨g,j*8+2,Z⟩=Y (J x.rel.p)
 c3:w.cell? ⟨g,j*8+3,Z⟩=Y (J x.rel.v)
 c4:w.cell? ⟨g,j*8+4,Z⟩=Y (J x.rel.m)
 c5:w.cell? ⟨g,j*8+5,Z⟩=Y (A4 x.rel.BP x.rel.B0 x.rel.BN)
 FN:w.cell? ⟨g,j*8+6,Z⟩=Y (A7 A8 0)
 IP:w.cell? ⟨g,j*8+7,Z⟩=Y x.B4
def q5(L:List Bu):∀j(h:j<L.length)(o:Nat)(u:A1),o<8->[J L[j].rel.p,J L[j].rel.v,J L[j].rel.p,J L[j].rel.v,J L[j].rel.m,A4 L[j].rel.BP L[j].rel.B0 L[j].rel.BN,A7 A8 0,L[j].B4][o]?=Y u->(I4 L)[j*8+o]?=Y u:=by induction L with|nil=>intro j b;simp at b|cons x z y=>intro j b o u s hu;rw[yg];match j with|0=>rw[cx (by simp;omega)];simpa using hu|j+1=>rw[SX (by simp;omega)];have:=y j (by simp at b;omega) o u s hu;rw[<-this];congr 1;simp;omega
def UC(w:A0)(g:Nat)(L:List Bu):Prop:=∀j(h:j<L.length),O6 w g j L[j]/\JH w L[j].B4 L[j].rel.D'
def O6.below{w':A0}{g j:Nat}{x:Bu}(h:O6 w g j x)(b:AX w.heap.size w w'):O6 w' g j x:=⟨Am b h.c0,Am b h.c1,Am b h.c2,Am b h.c3,Am b h.c4,Am b h.c5,Am b h.FN,Am b h.IP⟩
def UC.below{w w':A0}{g:Nat}{L:List Bu}(h:UC w g L)(b:AX w.heap.size w w'):UC w' g L:=λj s=>⟨(h j s).1.below b,(h j s).2.below b⟩
def KN(w:A0)(v:A1)(L:List Bu):Prop:=v=A4 Z 0 0/\L=[]∨∃g c,v=A4 (Y ⟨g,0,Z⟩) L.length c/\UC w g L
def KN.below{w w':A0}{v:A1}{L:List Bu}(h:KN w v L)(s:AX w.heap.size w w'):KN w' v L:=by
 rcases h with h|⟨g,c,b,h2⟩;·exact AD h
 exact AJ ⟨g,c,b,h2.below s⟩
def aVe(h:w.ownsRow B 234 8 v L.length (I4 L))(hn:∀x∈L,JH w x.B4 x.rel.D'):KN w v L:=by
 rcases h.2 with⟨b,h2⟩|⟨y,c,a,b,_⟩;·exact AD ⟨b,List.length_eq_zero_iff.1 h2⟩
 refine AJ ⟨y,c,b,λj s=>⟨?_,hn _ (DU s)⟩⟩;rw[b]at h;have k:=λo u z hu=>Rb h _ _ (q5 L j s o u z hu);exact⟨k 0 _ (by omega) rfl,k 1 _ (by omega) rfl,k 2 _ (by omega) rfl,k 3 _ (by omega) rfl,k 4 _ (by omega) rfl,k 5 _ (by omega) rfl,k 6 _ (by omega) rfl,k 7 _ (by omega) rfl⟩
def KN.open(h:KN w v L):∃a c,v=A4 a L.length c/\∀k(h:k<L.length),∃g,a=Y ⟨g,0,Z⟩/\O6 w g k L[k]/\JH w L[k].B4 L[k].rel.D':=by
 rcases h with⟨rfl,rfl⟩|⟨g,c,rfl,h⟩;·exact⟨Z,0,rfl,λk h=>by cases h⟩
 exact⟨_,c,rfl,λk b=>⟨g,rfl,(h k b).1,(h k b).2⟩⟩
def aSH(A B:List Az):F8 (A++B)=F8 A++F8 B:=by simp[F8]
def aSI(l:List Az):∀u∈F8 l,u.oneCell'=A3:=by intro u hu;unfold F8 at hu;obtain⟨x,_,hx⟩:=List.mem_flatMap.1 hu;simp at hx;rcases hx with rfl|rfl<;>rfl
def Eh(L:List Bu):List Az:=L.flatMap λx=>x.rel.D'
def a9s(L:List Bu)(k:Nat)(h:k<L.length):Eh (L.take (k+1))=Eh (L.take k)++L[k].rel.D':=by unfold Eh;rw[Um L k h,XT];simp
def aT'(v:A1)(L:List Bu)(w:A0)(hv:KN w v L)(Ar:L.length<=1000000)(hn:∀k,(Eh (L.take k)).length<=1000000000):Ai A6 127 #[v] w λe w'=>∃B4,e=AZ B4/\w'.ownsRow w.heap.size 85 2 B4 (Eh L).length (F8 (Eh L))/\AX w.heap.size w w':=by
 obtain⟨i0,hi,D,F,P⟩:=Ko od;have N:=A5 hn;obtain⟨a,c,rfl,f⟩:=hv.open;have S:=A5 f;clear hv f hn;go_enter Tryz.func127,Tryz.ntmps127;go_wp2;go_loopw[3,8]λv i wr=>∃k:Nat,k<=L.length/\i=A7 A8 k/\AL (wr.ownsRow w.heap.size 85 2 v (Eh (L.take k)).length (F8 (Eh (L.take k)))/\AX w.heap.size w wr)(λ_ i _=>L.length-(BJ i).toNat);case atStart=>exact⟨0,by omega,rfl,A5 ⟨XA _ _ _ _,BF _ _⟩⟩
 case round=>
  obtain⟨k,hk,rfl,H⟩:=hrel;obtain⟨U,hb⟩:=H.out;have y:=A5 U;have s:=A5 hb;obtain⟨W,X,rfl⟩:=Ln U;clear H U hb;by_cases hlt:k<L.length
  ·obtain⟨g,rfl,hc,o⟩:=S.out k hlt;obtain⟨c0,c1,c2,c3,c4,c5,FN,IP⟩:=hc.below s.out;have K:=A5 (o.below s.out);have z:=A5 (a9s L k hlt);have Q:=N.out (k+1);rw[a9s L k hlt,H7]at Q;have q:w.heap.size<=wr.heap.size:=s.out.size;have EU:g<wr.heap.size:=FA (h:=c0);clear hc o;generalize L[k]=x at c0 c1 c2 c3 c4 c5 FN IP K z Q;obtain⟨⟨p,v,m,BP,B0,BN,g5⟩,Bc,Ba⟩:=x;simp only[Bu.B4]at c0 c1 c2 c3 c4 c5 FN IP K z Q;rcases K.out with⟨b,h2⟩|⟨d,pQ,b,h2⟩
   ·subst h2;injection b with b _ h3;subst b h3;simp only[List.append_nil]at z;have R:AL ((wr.alloc (AF #[J p,J v,J p,J v,J m,A4 BP B0 BN,A7 A8 0,A4 Z 0 0] 234)).ownsRow w.heap.size 85 2 (A4 W (Eh (L.take k)).length X) (Eh (L.take (k+1))).length (F8 (Eh (L.take (k+1))))/\AX w.heap.size w (wr.alloc (AF #[J p,J v,J p,J v,J m,A4 BP B0 BN,A7 A8 0,A4 Z 0 0] 234))):=by refine A5 ⟨?_,s.out.alloc q _⟩;rw[z.out];exact y.out.alloc _
    go_wp2_with(at_builtin;refine aFc rfl _ _ 57 rfl w.heap.size 85 i0 2 lS hi _ _ _ rfl (y.out.alloc _) rfl ?_);first
    |exact⟨⟨k+1,by omega,by go_num,R⟩,by simp[BJ];omega⟩
    |
     (
      go_roundw;case rel=>exact⟨k+1,by omega,by go_num,R⟩
      case measure=>simp[BJ];omega)
   injection b with b _ h3;subst b h3;have M:=A5 h2;clear h2;go_wp2_with(at_builtin;refine NB _ rfl _ _ 57 rfl w.heap.size 85 i0 (A_ #[J ⟨#[]⟩,J ⟨#[]⟩]) 2 32 lS hi D F P rfl (by decide) _ _ _ rfl (y.out.alloc _) ⟨d,0,Z⟩ g5.length Ba (F8 g5) rfl (a9Q g5) ?c1 (aSI g5) ?c3 ?c4 ?c5 ?_);case c1=>
    intro j u I;(try rw[Gw]);(try rw[LO]);refine BL ?_ _;have ir:j<g5.length*2:=by rw[<-a9Q];exact(List.getElem?_eq_some_iff.1 I).1
    have hm:=M.out (j/2) (by omega);have AI:=xu g5 (j/2) (by omega);rcases a2k j with h|h
    ·have e:j=j/2*2:=by omega
     rw[<-e]at hm AI;rw[AI.1]at I;rw[<-I];exact hm.1
    have e:j=j/2*2+1:=by omega
    rw[<-e]at hm AI;rw[AI.2]at I;rw[<-I];exact hm.2
   case c3=>unfold BH;omega
   case c4=>omega
   case c5=>first|omega|(simp;omega)
   intro v' w2 Cz CF _;have A:AX w.heap.size w w2:=(s.out.alloc q _).grown CF (by simp;omega) λk hk=>(y.out.lt k hk).1;have R:AL (w2.ownsRow w.heap.size 85 2 v' (Eh (L.take (k+1))).length (F8 (Eh (L.take (k+1))))/\AX w.heap.size w w2):=by refine A5 ⟨?_,A⟩;rw[z.out,aSH,H7];exact Cz
   clear CF Cz A;go_wp2;first
   |exact⟨⟨k+1,by omega,by go_num,R⟩,by simp[BJ];omega⟩
   |
    (
     go_roundw;case rel=>exact⟨k+1,by omega,by go_num,R⟩
     case measure=>simp[BJ];omega)
  have Gi:k=L.length:=by omega
  subst Gi;go_wp2;go_ret;rw[O3]at y⊢;exact⟨_,rfl,y.out,s.out⟩
def aKn(v:A1)(L:List Bu)(w:A0)(hv:KN w v L)(Ar:L.length<=1000000):Ai A6 62 #[v] w λe w'=>e=AZ DS/\AX w.heap.size w w':=by
 obtain⟨a,c,rfl,z⟩:=hv.open;have H:=A5 z;clear hv z;go_enter Tryz.func62,Tryz.ntmps62;go_wp2;go_loopw[7]λi wr=>∃k:Nat,k<=L.length/\i=A7 A8 k/\AL (AX w.heap.size w wr)(λi _=>L.length-(BJ i).toNat);case atStart=>exact⟨0,by omega,rfl,A5 (BF _ _)⟩
 case round=>
  obtain⟨k,hk,rfl,b⟩:=hrel;by_cases hlt:k<L.length
  ·obtain⟨g,rfl,hc,-⟩:=H.out k hlt;obtain⟨c0,c1,c2,c3,c4,c5,s,y⟩:=hc.below b.out;have N:w.heap.size<=wr.heap.size:=b.out.size;have d:g<wr.heap.size:=FA (h:=c0);clear hc;generalize L[k]=x at c0 c1 c2 c3 c4 c5 s y;obtain⟨⟨p,v,m,I,M,K,g5⟩,Q,U⟩:=x;simp only[Bu.B4]at c0 c1 c2 c3 c4 c5 s y;have R:AL (AX w.heap.size w (wr.alloc (AF #[J p,J v,J p,J v,J m,A4 I M K,A7 A8 0,A4 Q g5.length U] 234))):=A5 (b.out.alloc N _);go_wp2;first
   |exact⟨⟨k+1,by omega,by go_num,R⟩,by simp[BJ];omega⟩
   |
    (
     go_roundw;case rel=>exact⟨k+1,by omega,by go_num,R⟩
     case measure=>simp[BJ];omega)
  go_wp2;go_ret;exact⟨rfl,b.out⟩
def oc:(A6.info? 234).map (λi=>(i.zero,i.size,i.bytes))=Y (Y (A_ #[J ⟨#[]⟩,J ⟨#[]⟩,J ⟨#[]⟩,J ⟨#[]⟩,J ⟨#[]⟩,A4 Z 0 0,A7 A8 0,A4 Z 0 0]),8,136):=by kernel_rfl
def aBG(L:List Bu)(x:Bu):I4 (L++[x])=I4 L++[J x.rel.p,J x.rel.v,J x.rel.p,J x.rel.v,J x.rel.m,A4 x.rel.BP x.rel.B0 x.rel.BN,A7 A8 0,x.B4]:=by simp[I4]
def aAN{base:Nat}{e:Aj}{s n:Nat}{xs:List A1}{a b:Df}(h:w.ownsRow base e s v n xs):((w.alloc a).drew.alloc b).ownsRow base e s v n xs:=(show(w.alloc a).drew.ownsRow base e s v n xs from h.alloc a).alloc b
def aID{W:A0}(h:AX B W w)(y:B<=w.heap.size)(a b:Df):AX B W ((w.alloc a).drew.alloc b):=by have s:=h.alloc y a;exact aFC (⟨s.os,s.tape,s.output,s.size,s.block⟩:AX B W (w.alloc a).drew) (by show B<=(w.alloc a).heap.size;simp;omega) b
def aIE{W:A0}(h:AX B W w)(y:B<=w.heap.size)(a b:Df)(n:Nat):AX B W (((w.alloc a).drewN n).alloc b):=by have s:=h.alloc y a;exact aFC (⟨s.os,s.tape,s.output,s.size,s.block⟩:AX B W ((w.alloc a).drewN n)) (by show B<=(w.alloc a).heap.size;simp;omega) b
def Un(L:List Bu)(k:Nat):Bool:=match L[k]?,L[k+1]? with|Y x,Y y=>Bz (x.rel.p.toList≠y.rel.p.toList)|_,_=>A3
def Ec(L:List Bu):Nat->List Bu|0=>[]|k+1=>match L[k]? with|Y x=>if Un L k then Ec L k++[x]else Ec L k|Z=>Ec L k
def zI(L:List Bu):∀k,(Ec L k).length<=k
 |0=>by simp[Ec]
 |k+1=>by
  have:=zI L k;unfold Ec;split
  ·split;·simp;omega
   omega
  omega
def aXx(v:A1)(L:List Bu)(w:A0)(hv:KN w v L)(Ar:L.length<=1000000):Ai A6 66 #[v] w λe w'=>∃Pa,e=AZ Pa/\w'.ownsRow w.heap.size 234 8 Pa (Ec L L.length).length (I4 (Ec L L.length))/\AX w.heap.size w w':=by
 obtain⟨i0,hi,EF,DF,CO⟩:=Ko oc;obtain⟨a,c,rfl,d0⟩:=hv.open;have DD:=A5 d0;clear hv d0;go_enter Tryz.func66,Tryz.ntmps66;go_wp2;go_loopw[3,8]λv i wr=>∃k:Nat,k<=L.length/\i=A7 A8 k/\AL (wr.ownsRow w.heap.size 234 8 v (Ec L k).length (I4 (Ec L k))/\AX w.heap.size w wr)(λ_ i _=>L.length-(BJ i).toNat);case atStart=>exact⟨0,by omega,rfl,A5 ⟨XA _ _ _ _,BF _ _⟩⟩
 case round=>
  obtain⟨k,hk,rfl,H⟩:=hrel;obtain⟨Aa,hb⟩:=H.out;have U:=A5 Aa;have N:=A5 hb;obtain⟨L9,Ia,rfl⟩:=Ln Aa;clear H Aa hb;by_cases hlt:k<L.length
  ·obtain⟨g,rfl,hc,-⟩:=DD.out k hlt;obtain⟨c0,c1,c2,c3,c4,c5,FN,IP⟩:=hc.below N.out;have D:w.heap.size<=wr.heap.size:=N.out.size;have EU:g<wr.heap.size:=FA (h:=c0);have IA:=zI L k;clear hc;have F5:A8.wrap ((k:Int)+1)=(k:Int)+1:=by have:=VK ((k:Int)+1);omega
   by_cases F:k+1<L.length
   ·obtain⟨g',f,I9,-⟩:=DD.out (k+1) F;injection f with f;injection f with f;subst f;have P:=(I9.below N.out).c0;have M:AL (Ec L (k+1)=if Bz (L[k].rel.p.toList≠L[k+1].rel.p.toList)then Ec L k++[L[k]]else Ec L k):=by refine A5 ?_;rw[Ec];simp[Un,K1 hlt,K1 F]
    generalize L[k+1]=y at P M;generalize L[k]=x at c0 c1 c2 c3 c4 c5 FN IP M;obtain⟨⟨p,v,m,b,z,s,g5⟩,I,K⟩:=x;obtain⟨⟨DL,_,_,_,_,_,_⟩,_,_⟩:=y;simp only[Bu.B4]at c0 c1 c2 c3 c4 c5 FN IP P M;have i6:((k:Int)+1==(L.length:Int))=A9:=by simp;omega
    have Mr:(k:Int)+1<(L.length:Int):=by omega
    have aLi:(0:Int)<=(k:Int)+1:=by omega
    have OL:((k:Int)+1).toNat=k+1:=by omega
    have a_m:wr.cell? ⟨g,(k+1)*8,Z⟩=Y (J DL):=P;clear I9;by_cases d:p.toList=DL.toList
    ·rw[if_neg (by simpa using d)]at M;have S:(DL.toList==p.toList)=A3:=by simp[d]
     have R:AL ((wr.alloc (AF #[J p,J v,J p,J v,J m,A4 b z s,A7 A8 0,A4 I g5.length K] 234)).drew.ownsRow w.heap.size 234 8 (A4 L9 (Ec L k).length Ia) (Ec L (k+1)).length (I4 (Ec L (k+1)))/\AX w.heap.size w (wr.alloc (AF #[J p,J v,J p,J v,J m,A4 b z s,A7 A8 0,A4 I g5.length K] 234)).drew):=by have o:=N.out.alloc D (AF #[J p,J v,J p,J v,J m,A4 b z s,A7 A8 0,A4 I g5.length K] 234);refine A5 ⟨?_,⟨o.os,o.tape,o.output,o.size,o.block⟩⟩;rw[M.out];exact U.out.alloc _
     clear d;go_wp2_with fail;go_region_held2 λwx=>wx.cell? ⟨g,(k+1)*8,Z⟩=Y (J DL)/\wx.cell? ⟨wr.heap.size,0,Z⟩=Y (J p)(go_keep)(fail);go_wp2;first
     |exact⟨⟨k+1,by omega,by go_num,R⟩,by simp[BJ];omega⟩
     |
      (
       go_roundw;case rel=>exact⟨k+1,by omega,by go_num,R⟩
       case measure=>simp[BJ];omega)
    rw[if_pos (by simpa using d)]at M;have S:(DL.toList==p.toList)=A9:=by simp;exact λh=>d h.symm
    clear d;go_wp2_with fail;go_region_held2 λwx=>wx.cell? ⟨g,(k+1)*8,Z⟩=Y (J DL)/\wx.cell? ⟨wr.heap.size,0,Z⟩=Y (J p)(go_keep)(fail);go_wp2_with(at_builtin;refine NB _ rfl _ _ 130 rfl w.heap.size 234 i0 (A_ #[J ⟨#[]⟩,J ⟨#[]⟩,J ⟨#[]⟩,J ⟨#[]⟩,J ⟨#[]⟩,A4 Z 0 0,A7 A8 0,A4 Z 0 0]) 8 136 aEu hi EF DF CO rfl (by decide) _ _ _ rfl (aAN U.out) ⟨wr.heap.size+1,0,Z⟩ 1 1 [J p,J v,J p,J v,J m,A4 b z s,A7 A8 0,A4 I g5.length K] rfl rfl ?c1 ?c2 ?c3 ?c4 ?c5 ?_);case c1=>intro j u W;have X:((wr.alloc (AF #[J p,J v,J p,J v,J m,A4 b z s,A7 A8 0,A4 I g5.length K] 234)).alloc (AF #[J p,J v,J p,J v,J m,A4 b z s,A7 A8 0,A4 I g5.length K] 234)).drew.heap[wr.heap.size+1]?=Y (AF #[J p,J v,J p,J v,J m,A4 b z s,A7 A8 0,A4 I g5.length K] 234):=F7 (wr.alloc _) _ _ (by simp);(try rw[Gw]);(try rw[LO]);refine(Ao X j).trans ?_;rw[<-W];simp
    case c2=>intro u hu;simp at hu;rcases hu with rfl|rfl|rfl|rfl|rfl|rfl|rfl|rfl<;>rfl
    case c3=>unfold BH;omega
    case c4=>omega
    case c5=>first|omega|(simp;omega)
    intro v' Q Cz CF _;have q:AX w.heap.size w Q:=(aID N.out D _ _).grown CF (by simp;omega) λk hk=>(U.out.lt k hk).1;have R:AL (Q.ownsRow w.heap.size 234 8 v' (Ec L (k+1)).length (I4 (Ec L (k+1)))/\AX w.heap.size w Q):=by refine A5 ⟨?_,q⟩;rw[M.out,aBG,H7];exact Cz
    clear CF Cz q;go_wp2;first
    |exact⟨⟨k+1,by omega,by go_num,R⟩,by simp[BJ];omega⟩
    |
     (
      go_roundw;case rel=>exact⟨k+1,by omega,by go_num,R⟩
      case measure=>simp[BJ];omega)
   have M:AL (Ec L (k+1)=Ec L k++[L[k]]):=by refine A5 ?_;rw[Ec];simp[Un,K1 hlt,ma (Nat.le_of_not_lt F)]
   have A:(L.length:Int)=(k:Int)+1:=by omega
   generalize L[k]=x at c0 c1 c2 c3 c4 c5 FN IP M;obtain⟨⟨p,v,m,b,z,s,g5⟩,I,K⟩:=x;simp only[Bu.B4]at c0 c1 c2 c3 c4 c5 FN IP M;go_wp2_with fail;go_quiet(fail);have aa5:=A5 A;clear A;go_wp2_with(at_builtin;refine NB _ rfl _ _ 130 rfl w.heap.size 234 i0 (A_ #[J ⟨#[]⟩,J ⟨#[]⟩,J ⟨#[]⟩,J ⟨#[]⟩,J ⟨#[]⟩,A4 Z 0 0,A7 A8 0,A4 Z 0 0]) 8 136 aEu hi EF DF CO rfl (by decide) _ _ _ rfl (aAN U.out) ⟨wr.heap.size+1,0,Z⟩ 1 1 [J p,J v,J p,J v,J m,A4 b z s,A7 A8 0,A4 I g5.length K] rfl rfl ?c1 ?c2 ?c3 ?c4 ?c5 ?_);case c1=>intro j u W;have X:((wr.alloc (AF #[J p,J v,J p,J v,J m,A4 b z s,A7 A8 0,A4 I g5.length K] 234)).alloc (AF #[J p,J v,J p,J v,J m,A4 b z s,A7 A8 0,A4 I g5.length K] 234)).drew.heap[wr.heap.size+1]?=Y (AF #[J p,J v,J p,J v,J m,A4 b z s,A7 A8 0,A4 I g5.length K] 234):=F7 (wr.alloc _) _ _ (by simp);(try rw[Gw]);(try rw[LO]);refine(Ao X j).trans ?_;rw[<-W];simp
   case c2=>intro u hu;simp at hu;rcases hu with rfl|rfl|rfl|rfl|rfl|rfl|rfl|rfl<;>rfl
   case c3=>unfold BH;omega
   case c4=>omega
   case c5=>first|omega|(simp;omega)
   intro v' Q Cz CF _;have q:AX w.heap.size w Q:=(aIE N.out D _ _ nq).grown CF (by simp;omega) λk hk=>(U.out.lt k hk).1;have R:AL (Q.ownsRow w.heap.size 234 8 v' (Ec L (k+1)).length (I4 (Ec L (k+1)))/\AX w.heap.size w Q):=by refine A5 ⟨?_,q⟩;rw[M.out,aBG,H7];exact Cz
   clear CF Cz q;go_wp2;first
   |exact⟨⟨k+1,by omega,by go_num,R⟩,by simp[BJ];omega⟩
   |
    (
     go_roundw;case rel=>exact⟨k+1,by omega,by go_num,R⟩
     case measure=>simp[BJ];omega)
  have Gi:k=L.length:=by omega
  subst Gi;go_wp2;go_ret;exact⟨_,rfl,U.out,N.out⟩
def DO(a b:Az):Int:=if IJ a.1.data.toList b.1.data.toList≠0 then IJ a.1.data.toList b.1.data.toList else V.order a.2.data.toList b.2.data.toList
def u6(a b:Az)(m:Int)(w:A0)(s:a.2.size<=40)(y:b.2.size<=40)(M:w.cell? ⟨0,0,Z⟩=Y (A7 A8 m)):Ai A6 203 #[A_ #[J a.1,J a.2],A_ #[J b.1,J b.2]] w λe w'=>e=AZ (A7 A8 (DO a b))/\AX w.heap.size w w'/\w.drawn<=w'.drawn:=by
 obtain⟨p,u⟩:=a;obtain⟨q,v⟩:=b;simp only at s y;go_enter Tryz.func203,Tryz.ntmps203;go_wp2_with fail;refine(Tryz.strings_Compare p q _).mono ?_;rintro e U⟨rfl,rfl⟩;have h:AL (DO (p,u) (q,v)=if IJ p.data.toList q.data.toList≠0 then IJ p.data.toList q.data.toList else V.order u.data.toList v.data.toList):=A5 rfl;generalize IJ p.data.toList q.data.toList=c at h⊢;by_cases hc:c=0;·subst hc;rw[if_neg (by simp)]at h;go_wp2_with fail;refine(aCK u v m _ s y (BL (BL M _) _)).mono ?_;rintro e N⟨rfl,z,H⟩;have I:=A5 ((NZ w _ _).trans (z.mono (NZ w _ _).size));have K:AL (w.drawn<=N.drawn):=A5 H;clear z H;go_wp2;go_ret;exact⟨by show AZ (A7 A8 _)=_;rw[h.out],I.out,K.out⟩
 rw[if_pos hc]at h;have Q:(c !=0)=A3:=by simpa using hc
 go_wp2;go_ret;exact⟨by show AZ (A7 A8 _)=_;rw[h.out],NZ _ _ _,Ae _⟩
def aJe(x y:Bu)(m:Int)(w:A0)(H:x.rel.v.size<=40)(I:y.rel.v.size<=40)(K:w.cell? ⟨0,0,Z⟩=Y (A7 A8 m)):Ai A6 129 #[Ya x.rel x.B4,Ya y.rel y.B4] w λe w'=>e=AZ (A7 A8 (DO x.rel.name y.rel.name))/\AX w.heap.size w w'/\w.drawn<=w'.drawn:=by obtain⟨⟨p,v,a,U,B0,BN,g5⟩,Bc,Ba⟩:=x;obtain⟨⟨M,N,c,d,f,o,q⟩,u,A⟩:=y;simp only[Ya,Bu.B4,Rel.name]at*;go_enter Tryz.func129,Tryz.ntmps129;go_wp2_with fail;refine(u6 (p,v) (M,N) m _ H I (BL (BL K _) _)).mono ?_;rintro e Q⟨rfl,b,h⟩;have s:=A5 ((NZ w _ _).trans (b.mono (NZ w _ _).size));have z:AL (w.drawn<=Q.drawn):=A5 h;clear b h;go_wp2;go_ret;exact⟨rfl,s.out,z.out⟩
def a4J(p v:zz)(w:A0)(hp:p.size<=1000000)(hv:v.size<=1000000):Ai A6 136 #[A_ #[J p,J v]] w λe w'=>e=AZ (A_ #[J p,J v])/\AX w.heap.size w w':=by
 have I:p.size<=281474976710656:=by omega
 have K:v.size<=281474976710656:=by omega
 clear hp hv;go_enter Tryz.func136,Tryz.ntmps136;go_wp2_with fail;have s:=A5 (NZ w (AF #[J p,J v] 85) (AF #[J ⟨#[]⟩,J ⟨#[]⟩] 85));have y:=A5 (F7 (w.alloc (AF #[J p,J v] 85)) (AF #[J ⟨#[]⟩,J ⟨#[]⟩] 85) (w.heap.size+1) (by simp));have Q:AL (((w.alloc (AF #[J p,J v] 85)).alloc (AF #[J ⟨#[]⟩,J ⟨#[]⟩] 85)).heap[w.heap.size]?=Y (AF #[J p,J v] 85)):=A5 (by rw[EO _ _ _ (by simp)];exact F7 _ _ _ rfl);generalize(w.alloc (AF #[J p,J v] 85)).alloc (AF #[J ⟨#[]⟩,J ⟨#[]⟩] 85)=W at s Q y⊢;have h:AL (∀wx,AX W.heap.size W wx->wx.cell? ⟨w.heap.size,0,Z⟩=Y (J p)/\wx.cell? ⟨w.heap.size,1,Z⟩=Y (J v)/\wx.cell? ⟨w.heap.size+1,0,Z⟩=Y (J ⟨#[]⟩)/\wx.cell? ⟨w.heap.size+1,1,Z⟩=Y (J ⟨#[]⟩)/\wx.frozen? ⟨w.heap.size+1,0,Z⟩=A9/\wx.frozen? ⟨w.heap.size+1,1,Z⟩=A9):=by refine A5 λwx hb=>?_;have U:=H2 hb Q.out;have b:=H2 hb y.out;exact⟨by rw[Ao U];rfl,by rw[Ao U];rfl,by rw[Ao b];rfl,by rw[Ao b];rfl,E6 b 0,E6 b 1⟩
 have f:AX W.heap.size W W.drew:=⟨rfl,rfl,rfl,Ae _,λ_ _=>rfl⟩;obtain⟨a0,a1,-,-,-,-⟩:=h.out W (BF _ _);have o:w.heap.size≠w.heap.size+1:=by omega
 go_region_held2 λwx=>wx.cell? ⟨w.heap.size,0,Z⟩=Y (J p)/\wx.cell? ⟨w.heap.size,1,Z⟩=Y (J v)(go_keep)(first|(go_at_call_of 86(J p);refine(n' p _ I).mono ?_;rintro e wa⟨rfl,a⟩;have z:=f.trans a;(obtain⟨q,e1,-,-,-,-⟩:=h.out wa z);have M:=A5 z;clear z a)|(go_at_call_of 86(J v);refine(n' v _ K).mono ?_;rintro e c⟨rfl,d⟩;have H:=M.out.trans (d.mono M.out.size);(obtain⟨u,g1,x,g3,g4,A⟩:=h.out c H);have N:=A5 H;clear H d));all_goals go_wp2_with fail;have D:=F2 _ (w.heap.size+1) 1 _ _ (J v) (F2 c (w.heap.size+1) 0 _ _ (J p) (H2 N.out y.out));refine Md (XE rfl _ _ (w.heap.size+1) 85 #[J p,J v] (0,0) _ rfl D X6 rfl (by kernel_rfl)) rfl ?_;have m:=s.out.trans (N.out.mono s.out.size);exact⟨rfl,(m.setCell (p:=⟨w.heap.size+1,0,Z⟩) (by show _<=w.heap.size+1;omega) _).setCell (p:=⟨w.heap.size+1,1,Z⟩) (by show _<=w.heap.size+1;omega) _⟩
def names(L:List Bu):List Az:=L.map λx=>x.rel.name
def aSs(L:List Bu)(k:Nat)(h:k<L.length):names (L.take (k+1))=names (L.take k)++[L[k].rel.name]:=by unfold names;rw[Um L k h,U7];rfl
def aQt(v:A1)(L:List Bu)(w:A0)(hv:KN w v L)(Ar:L.length<=1000000)(hs:∀x∈L,x.rel.p.size<=1000000/\x.rel.v.size<=1000000):Ai A6 65 #[v] w λe w'=>∃f,e=AZ f/\w'.ownsRow w.heap.size 85 2 f L.length (F8 (names L))/\AX w.heap.size w w':=by
 obtain⟨i0,hi,o,q,A⟩:=Ko od;obtain⟨a,c,rfl,D⟩:=hv.open;have X:=A5 D;have Zf:=A5 hs;obtain⟨w1,b1,GU,F⟩:=a1d (P:=A6) w w.heap.size 57 85 i0 (A_ #[J ⟨#[]⟩,J ⟨#[]⟩]) 2 lS hi o q A8 A8 L.length (by rw[A];omega) (by unfold BH;omega) (Ae _);have XO:=A5 GU;have B_:AL (AX w.heap.size w w1):=A5 ((BF _ w).grown F (Ae _) λk y=>by cases y);clear hv D hs GU F;go_enter Tryz.func65,Tryz.ntmps65;go_wp2;go_loopw[3,11]λv i wr=>∃k:Nat,k<=L.length/\i=A7 A8 k/\AL (wr.ownsRow w.heap.size 85 2 v k (F8 (names (L.take k)))/\AX w.heap.size w wr)(λ_ i _=>L.length-(BJ i).toNat);case atStart=>exact⟨0,by omega,rfl,A5 ⟨XO.out,B_.out⟩⟩
 case round=>
  obtain⟨k,y,rfl,H⟩:=hrel;obtain⟨N,hb⟩:=H.out;have z:=A5 N;have s:=A5 hb;obtain⟨L9,Ia,rfl⟩:=Ln N;clear H N hb;by_cases hlt:k<L.length
  ·obtain⟨g,rfl,hc,-⟩:=X.out k hlt;obtain⟨c0,c1,c2,c3,c4,c5,FN,IP⟩:=hc.below s.out;have F6:w.heap.size<=wr.heap.size:=s.out.size;have EU:g<wr.heap.size:=FA (h:=c0);obtain⟨Q,U⟩:=Zf.out L[k] (DU hlt);have I:=A5 (aSs L k hlt);clear hc;generalize L[k]=x at c0 c1 c2 c3 c4 c5 FN IP I Q U;obtain⟨⟨p,v,m,BP,B0,BN,g5⟩,Bc,Ba⟩:=x;simp only[Bu.B4,Rel.name]at c0 c1 c2 c3 c4 c5 FN IP I Q U;go_wp2_with fail;refine(a4J p v _ Q U).mono ?_;rintro e w2⟨rfl,K⟩;have M:=(s.out.alloc F6 (AF #[J p,J v,J p,J v,J m,A4 BP B0 BN,A7 A8 0,A4 Bc g5.length Ba] 234)).trans (K.mono (by simp;omega));have Fg:=A5 M;have d:w.heap.size<=w2.heap.size:=M.size;have LN:=A5 (p7 (z.out.alloc (AF #[J p,J v,J p,J v,J m,A4 BP B0 BN,A7 A8 0,A4 Bc g5.length Ba] 234)) K);clear K M;go_wp2_with(at_builtin;refine NB _ rfl _ _ 57 rfl w.heap.size 85 i0 (A_ #[J ⟨#[]⟩,J ⟨#[]⟩]) 2 32 lS hi o q A rfl (by decide) _ _ _ rfl (LN.out.alloc _) ⟨w2.heap.size,0,Z⟩ 1 1 [J p,J v] rfl rfl ?c1 ?c2 ?c3 ?c4 ?c5 ?_);case c1=>intro j u b;have S:=F7 w2 (AF #[J p,J v] 85) _ rfl;match j,b with|0,b=>simp at b;subst b;rw[Gw,Ao S];rfl|1,b=>simp at b;subst b;rw[Gw,Ao S];rfl
   case c2=>intro u hu;simp at hu;rcases hu with rfl|rfl<;>rfl
   case c3=>unfold BH;omega
   case c4=>omega
   case c5=>first|omega|(simp;omega)
   intro v' w3 Cz CF _;have W:AX w.heap.size w w3:=(Fg.out.alloc d _).grown CF (by simp;omega) λk y=>(LN.out.lt k y).1;have R:AL (w3.ownsRow w.heap.size 85 2 v' (k+1) (F8 (names (L.take (k+1))))/\AX w.heap.size w w3):=by refine A5 ⟨?_,W⟩;rw[I.out,pK];exact Cz
   clear CF Cz W;go_wp2;first
   |exact⟨⟨k+1,by omega,by go_num,R⟩,by simp[BJ];omega⟩
   |
    (
     go_roundw;case rel=>exact⟨k+1,by omega,by go_num,R⟩
     case measure=>simp[BJ];omega)
  have Gi:k=L.length:=by omega
  subst Gi;go_wp2;go_ret;rw[O3]at z;exact⟨_,rfl,z.out,s.out⟩
def a9f:∀{q r:Nat},q<5->r<5->V.mp q=V.mp r->q=r:=by
 intro q r y z h;have s:V.It q=V.It r:=by rw[<-V.PT,<-V.PT,h]
 have:∀a b:Fin 5,V.It a.val=V.It b.val->a.val=b.val:=by decide
 exact this ⟨q,y⟩ ⟨r,z⟩ s
def aSk:∀{a b:Nat},a<30->b<30->V.E9 a=V.E9 b->a=b:=by
 intro a b z H h;have s:V.K7 a=V.K7 b:=by rw[<-V.WQ,<-V.WQ,h]
 have:∀x y:Fin 30,V.K7 x.val=V.K7 y.val->x.val=y.val:=by decide+kernel
 exact this ⟨a,z⟩ ⟨b,H⟩ s
end
section
open Go.RowKit Go.Sort
variable{w:A0}
abbrev dF:Type:={x:Bu//x.rel.v.size<=40}
instance:Inhabited dF:=⟨⟨⟨⟨⟨#[]⟩,⟨#[]⟩,⟨#[]⟩,Z,0,0,[]⟩,Z,0⟩,by show(0:Nat)<=40;omega⟩⟩
def encR(x:dF):List A1:=[J x.1.rel.p,J x.1.rel.v,J x.1.rel.p,J x.1.rel.v,J x.1.rel.m,A4 x.1.rel.BP x.1.rel.B0 x.1.rel.BN,A7 A8 0,x.1.B4]
def mx(x y:dF):Int:=DO x.1.rel.name y.1.rel.name
def WN:V.IM DO:=by
 have s:V.IM λa b:Az=>IJ a.1.data.toList b.1.data.toList:=V.n1.1.back λa:Az=>a.1.data.toList;have h2:V.IM λa b:Az=>V.order a.2.data.toList b.2.data.toList:=⟨λa b=>V.aAL _ _,λa b=>V.aAM _ _,λa b c=>V.aAK _ _ _⟩;have e:DO=V.KA (λa b:Az=>IJ a.1.data.toList b.1.data.toList) λa b:Az=>V.order a.2.data.toList b.2.data.toList:=by
  funext a b;unfold DO V.KA;by_cases h:IJ a.1.data.toList b.1.data.toList=0;·simp[h]
  simp[h]
 rw[e];exact s.then h2
def zG{bv:Type}{f:bv->bv->Int}(h:V.IM f):SWO (ZR f)where
 irrefl x:=by unfold ZR;rw[h.refl];rfl
 trans x y z h1 h2:=by
  unfold ZR at*;rw[decide_eq_true_eq]at*;have t:=h.2.2 x y z (by omega) (by omega);have b:=h.2.1 x z;by_cases H:f x z=0;·have K:=h.2.2 z x y (by omega) (by omega);have s:=h.2.1 y z;omega
  omega
 ntrans x y z h1 h2:=by unfold ZR at*;rw[decide_eq_false_iff_not]at*;have b:=h.2.1 x y;have s:=h.2.1 y z;have I:=h.2.1 x z;have t:=h.2.2 z y x (by omega) (by omega);omega
def aXg:SWO (ZR mx):=zG (WN.back λx:dF=>x.1.rel.name)
def ux{w':A0}(h:Below w.heap.size w w')(b:w.drawn<=w'.drawn):∃q os,w'=grow (w.drewN q) os:=by
 obtain⟨p,s⟩:=regrown_of_below h;have y:w.drawn<=p.d:=by rw[s]at b;exact b
 refine⟨p.d-w.drawn,p.os,?_⟩;rw[s];unfold a1c World.drewN;rw[show w.drawn+(p.d-w.drawn)=p.d by omega]
def aBt{blk m b:Nat}{a:Array dF}{os:Array Df}(h:b≠blk)(s:b<w.heap.size):(O0 encR 8 w blk 0 m a os).heap[b]?=w.heap[b]?:=by unfold O0;show(_++os)[b]?=_;rw[kh (by rw[cb];exact s)];simp[putRowK,putRow,mapBlock,aFI,fL,Gu h]
def aJW(b size:Nat)(m:Int)(w:A0)(I:b≠0)(s:w.cell? ⟨0,0,Z⟩=Y (A7 A8 m)):a0A A6 129 #[] encR 8 mx b 0 size w:=by intro k Q z _ x y;have H:0<w.heap.size:=FA (h:=s);have N:(O0 encR 8 w b 0 k z Q).cell? ⟨0,0,Z⟩=Y (A7 A8 m):=(FG (a:=⟨0,0,Z⟩) (aBt (Gu I) H)).trans s;refine(aJe x.1 y.1 m _ x.2 y.2 N).mono ?_;rintro e w'⟨rfl,K,M⟩;exact⟨rfl,ux K M⟩
def aKS:∀b w,(Me 129 b).run A6 w=Ac (VQ 129 b) w:=by intro b w;exact a14 Tryz.func129 (by kernel_rfl) rfl b w
def aHl:∀w,(VS (Tryz.z8.t 24)).run A6 w=Ac A3 w:=by intro w;kernel_rfl
def qD:∀w,(Q0 (Tryz.z8.t 24)).run A6 w=Ac 8 w:=by intro w;kernel_rfl
def Rr(L:List Bu)(hv:∀x∈L,x.rel.v.size<=40):List dF:=L.pmap (λx h=>⟨x,h⟩) hv
def aVf(L:List Bu)(hv:∀x∈L,x.rel.v.size<=40):(Rr L hv).map (·.1)=L:=by unfold Rr;rw[a2Z];simp
def Sc(L:List Bu):Prop:=L.Pairwise λa b=>DO a.rel.name b.rel.name<=0
def aBv(g cap:Nat)(m:Int)(L:List Bu)(w:A0)(AE:L.length<=1000000)(hv:∀x∈L,x.rel.v.size<=40)(d:g≠0)(U:g<w.heap.size)(A2:∀j(h:j<L.length),O6 w g j L[j])(f:∀o,w.frozen? ⟨g,o,Z⟩=A9)(hm:w.cell? ⟨0,0,Z⟩=Y (A7 A8 m)):Ai A6 128 #[A4 (Y ⟨g,0,Z⟩) L.length cap,FU (Ek 129) #[] #[]] w λe w'=>e=AZ (Ay #[])/\∃R,R.Perm L/\Sc R/\(∀j(h:j<R.length),O6 w' g j R[j])/\w.heap.size<=w'.heap.size/\∀b,b<w.heap.size->b≠g->w'.heap[b]?=w.heap[b]?:=by
 have K:(Rr L hv).toArray.size=L.length:=by simp[Rr]
 have Q:gI encR 8 w g 0 (Rr L hv).toArray:=by
  intro t AP;rw[sM,K]at AP;refine⟨?_,f _⟩;have I:t/8<L.length:=by omega
  have hc:=A2 (t/8) I;have he:(Rr L hv).toArray[t/8]!.1=L[t/8]:=by rw[getElem!_pos _ _ (by rw[K];exact I)];simp[Rr]
  rw[id,a1D _ _ _ _ (by rw[K];exact AP)];have u:0+t=t/8*8+t%8:=by omega
  rw[u];have hlt:t%8<8:=gu _ (by omega);generalize((Rr L hv).toArray[t/8]!)=y at he;unfold encR;rw[he];generalize L[t/8]=z at hc;generalize t/8=q at hc⊢;generalize t%8=o at hlt⊢;match o,hlt with|0,_=>exact hc.c0|1,_=>exact hc.c1|2,_=>exact hc.c2|3,_=>exact hc.c3|4,_=>exact hc.c4|5,_=>exact hc.c5|6,_=>exact hc.FN|7,_=>exact hc.IP
 have h:=a09 Tryz.aBu 8 aHl qD encR (λx=>rfl) λx v hx=>by simp[encR]at hx;rcases hx with rfl|rfl|rfl|rfl|rfl|rfl|rfl|rfl<;>rfl mx aXg 129 #[] g 0 cap (Rr L hv).toArray w aKS (aJW g _ m w d hm) Q U (by rw[K];omega);rw[K]at h;refine h.mono ?_;rintro e w'⟨rfl,s,n,N,hp,hs,rfl⟩;have M:s.size=L.length:=by rw[hp.1,K]
 have A:s.toList.Perm (Rr L hv):=by have h3:=hp.2.2;rw[<-M,fJ]at h3;rw[show(Rr L hv).toArray.extract 0 s.size=(Rr L hv).toArray from by rw[hp.1];exact fJ]at h3;simpa using h3
 refine⟨rfl,s.toList.map (·.1),?_,?_,?_,?_,?_⟩;·have:=A.map (·.1);rwa[aVf]at this
 ·unfold Sc;rw[Q6,a2_];intro i j hi I D;have:=hs i j (Jf _) D (by rw[<-M];simpa using I);unfold ZR mx at this;rw[decide_eq_false_iff_not]at this;rw[getElem!_pos s i (by simpa using hi),getElem!_pos s j (by simpa using I)]at this;have t:=WN.2.1 (s[i]'(by simpa using hi)).1.rel.name (s[j]'(by simpa using I)).1.rel.name;simp only[fM];omega
 ·intro j I;have a:j<s.size:=by simpa using I
  have C7:gI encR 8 (O0 encR 8 w g 0 n s N) g 0 s:=by unfold O0;exact a1F _ _ _ _ _ _ _ (by rw[cb];exact U) (a1G _ _ _ _ _ _ _ (a1E _ _ _ _ _ _ _ Q) (by rw[M,K]))
  have H:=λc(hc:c<8)=>(C7.cell a hc).1;have he:s[j]! =s[j]:=getElem!_pos s j a;rw[he]at H;simp only[LO]at H;simp only[gp,fM];exact⟨H 0 (by omega),H 1 (by omega),H 2 (by omega),H 3 (by omega),H 4 (by omega),H 5 (by omega),H 6 (by omega),H 7 (by omega)⟩
 ·unfold O0;show _<=(_++N).size;rw[fO,cb];show w.heap.size<=w.heap.size+N.size;omega
 intro b hb F;exact aBt F hb
end
section
open Go.RowKit Go.Sort Go.Shelf
variable{w:A0}{os:Array Df}{k:Nat}
section
variable{bv:Type}[Inhabited bv]
omit[Inhabited bv]in theorem nR(l:List A1)(o:Nat)(h:o<l.length):l[o]?=Y l[o]!:=by rw[K1 h,getElem!_pos l o h]
def qE{enc:bv->List A1}{blk m b:Nat}{a:Array bv}(h:b≠blk)(s:b<w.heap.size):(O0 enc k w blk 0 m a os).heap[b]?=w.heap[b]?:=by unfold O0;show(_++os)[b]?=_;rw[kh (by rw[cb];exact s)];simp[putRowK,putRow,mapBlock,aFI,fL,Gu h]
def aBs{enc:bv->List A1}{blk m:Nat}{a:Array bv}:w.heap.size<=(O0 enc k w blk 0 m a os).heap.size:=by unfold O0;show _<=(_++os).size;rw[fO,cb];show w.heap.size<=w.heap.size+os.size;omega
def aBw{ρ:Ren}(Ar:lP A6 ρ)(k:Nat)(F:∀w,(VS (ρ.t 24)).run A6 w=Ac A3 w)(P:∀w,(Q0 (ρ.t 24)).run A6 w=Ac k w)(enc:bv->List A1)(U:∀x,(enc x).length=k)(d:0<k)(h1:∀x,∀v∈enc x,v.oneCell'=A3)(K:bv->bv->Int)(bA:V.IM K)(I:Nat)(S:∀z w,(Me I z).run A6 w=Ac (VQ I z) w)(g cap:Nat)(l:List bv)(w:A0)(AE:l.length<=1000000)(q:g<w.heap.size)(hc:∀j(h:j<l.length)o,o<k->w.cell? ⟨g,j*k+o,Z⟩=(enc l[j])[o]?)(W:∀o,w.frozen? ⟨g,o,Z⟩=A9)(X:∀wx,(∀b,b<w.heap.size->b≠g->wx.heap[b]?=w.heap[b]?)->∀x y,Ai A6 I #[A_ (enc x).toArray,A_ (enc y).toArray] wx λe w'=>e=AZ (A7 A8 (K x y))/\Below wx.heap.size wx w'/\wx.drawn<=w'.drawn):Ai A6 (ρ.f 6) #[A4 (Y ⟨g,0,Z⟩) l.length cap,FU (Ek I) #[] #[]] w λe w'=>e=AZ (Ay #[])/\∃R:List bv,R.Perm l/\(R.Pairwise λa b=>K a b<=0)/\(∀j(h:j<R.length)o,o<k->w'.cell? ⟨g,j*k+o,Z⟩=(enc R[j])[o]?)/\Jw g w.heap.size w w':=by
 have u:gI enc k w g 0 l.toArray:=by
  intro t AP;rw[sM,I7]at AP;refine⟨?_,W _⟩;have H:t/k<l.length:=(a2h d).2 AP;have Q:t%k<k:=gu _ d;have h2:=hc (t/k) H (t%k) Q;rw[id,a1D _ _ _ _ (by rw[I7];exact AP)];have Vn:0+t=t/k*k+t%k:=by rw[LO,aHP];exact(aHL t k).symm
  rw[Vn,h2];have Vo:l.toArray[t/k]! =l[t/k]:=by rw[getElem!_pos _ _ (by rw[I7];exact H)];simp
  rw[Vo];exact nR _ _ (by rw[U];exact Q)
 have wS:a0A A6 I #[] enc k K g 0 l.toArray.size w:=by intro m os Sl _ x y;refine(X (O0 enc k w g 0 m Sl os) (λb M c=>qE c M) x y).mono ?_;rintro e w'⟨rfl,M,N⟩;exact⟨rfl,ux M N⟩
 have h:=a09 Ar k F P enc U h1 K (zG bA) I #[] g 0 cap l.toArray w S wS u q (by rw[I7];omega);rw[I7]at h;refine h.mono ?_;rintro e w'⟨rfl,s,n,os,hp,hs,rfl⟩;have N:s.size=l.length:=by rw[hp.1,I7]
 have TC:s.toList.Perm l:=by have h3:=hp.2.2;rw[<-N,fJ]at h3;rw[show l.toArray.extract 0 s.size=l.toArray from by rw[hp.1];exact fJ]at h3;simpa using h3
 refine⟨rfl,s.toList,TC,?_,?_,⟨rfl,rfl,rfl,aBs,λb M c=>qE c M⟩⟩;·rw[a2_];intro i j hi H GS;have:=hs i j (Jf _) GS (by rw[<-N];simpa using H);unfold ZR at this;rw[decide_eq_false_iff_not]at this;rw[getElem!_pos s i (by simpa using hi),getElem!_pos s j (by simpa using H)]at this;have t:=bA.2.1 (s[i]'(by simpa using hi)) (s[j]'(by simpa using H));simp only[fM];omega
 intro j H o Q;have A:j<s.size:=by simpa using H
 have C7:gI enc k (O0 enc k w g 0 n s os) g 0 s:=by unfold O0;exact a1F _ _ _ _ _ _ _ (by rw[cb];exact q) (a1G _ _ _ _ _ _ _ (a1E _ _ _ _ _ _ _ u) (by rw[N,I7]))
 have D:=(C7.cell A Q).1;rw[getElem!_pos s j A,LO]at D;rw[D];simp only[fM];exact(nR _ _ (by rw[U];exact Q)).symm
end
end
section
open Go.RowKit
abbrev N'(r:Rel):A1:=A_ #[J r.p,J r.v,J r.m,A4 r.BP r.B0 r.BN]
def a9l(p v m:zz)(b:Option Ak)(s h:Nat)(w:A0):Ai A6 122 #[A_ #[J p,J v,J m,A4 b s h]] w λe w'=>e=AZ (A_ #[J p,J v])/\AX w.heap.size w w'/\w.drawn<=w'.drawn:=by go_enter Tryz.func122,Tryz.ntmps122;go_wp2;(try simp only[ZE,Exit.then]);refine Md (XE rfl _ _ (w.heap.size+1) 85 #[J p,J v] (0,0) _ rfl (F7 _ _ _ (by simp only[Fo])) X6 rfl (by kernel_rfl)) rfl ?_;exact⟨rfl,NZ _ _ _,Ae _⟩
def a4G(x y:Rel)(m:Int)(w:A0)(AB:x.v.size<=40)(hb:y.v.size<=40)(hm:w.cell? ⟨0,0,Z⟩=Y (A7 A8 m)):Ai A6 207 #[N' x,N' y] w λe w'=>e=AZ (A7 A8 (DO x.name y.name))/\AX w.heap.size w w'/\w.drawn<=w'.drawn:=by
 obtain⟨p,v,z,b,s,h,g5⟩:=x;obtain⟨H,I,Q,K,N,M,y9⟩:=y;simp only[N',Rel.name]at*;go_enter Tryz.func207,Tryz.ntmps207;go_wp2_with fail;have o:=A5 (NZ w (AF #[J p,J v,J z,A4 b s h] 75) (AF #[J H,J I,J Q,A4 K N M] 75));have Gc:=A5 (F7 (w.alloc (AF #[J p,J v,J z,A4 b s h] 75)) (AF #[J H,J I,J Q,A4 K N M] 75) (w.heap.size+1) (by simp));have P:AL (((w.alloc (AF #[J p,J v,J z,A4 b s h] 75)).alloc (AF #[J H,J I,J Q,A4 K N M] 75)).heap[w.heap.size]?=Y (AF #[J p,J v,J z,A4 b s h] 75)):=A5 (by rw[EO _ _ _ (by simp)];exact F7 _ _ _ rfl);have R:AL (((w.alloc (AF #[J p,J v,J z,A4 b s h] 75)).alloc (AF #[J H,J I,J Q,A4 K N M] 75)).cell? ⟨0,0,Z⟩=Y (A7 A8 m)):=A5 (BL (BL hm _) _);have U:AL (((w.alloc (AF #[J p,J v,J z,A4 b s h] 75)).alloc (AF #[J H,J I,J Q,A4 K N M] 75)).drawn=w.drawn):=A5 rfl;clear hm;generalize(w.alloc (AF #[J p,J v,J z,A4 b s h] 75)).alloc (AF #[J H,J I,J Q,A4 K N M] 75)=W at o P Gc R U⊢;have f:AL (∀wx,AX W.heap.size W wx->(wx.cell? ⟨w.heap.size,0,Z⟩=Y (J p)/\wx.cell? ⟨w.heap.size,1,Z⟩=Y (J v)/\wx.cell? ⟨w.heap.size,2,Z⟩=Y (J z)/\wx.cell? ⟨w.heap.size,3,Z⟩=Y (A4 b s h))/\wx.cell? ⟨w.heap.size+1,0,Z⟩=Y (J H)/\wx.cell? ⟨w.heap.size+1,1,Z⟩=Y (J I)/\wx.cell? ⟨w.heap.size+1,2,Z⟩=Y (J Q)/\wx.cell? ⟨w.heap.size+1,3,Z⟩=Y (A4 K N M)):=by refine A5 λwx hb=>?_;have AV:=H2 hb P.out;have h1:=H2 hb Gc.out;exact⟨⟨by rw[Ao AV];rfl,by rw[Ao AV];rfl,by rw[Ao AV];rfl,by rw[Ao AV];rfl⟩,by rw[Ao h1];rfl,by rw[Ao h1];rfl,by rw[Ao h1];rfl,by rw[Ao h1];rfl⟩
 have Nr:AX W.heap.size W W.drew:=⟨rfl,rfl,rfl,Ae _,λ_ _=>rfl⟩;obtain⟨⟨a0,a1,FY,a3⟩,a4,a5,KP,Se⟩:=f.out W (BF _ _);go_region_held2 λwx=>wx.cell? ⟨w.heap.size,0,Z⟩=Y (J p)/\wx.cell? ⟨w.heap.size,1,Z⟩=Y (J v)/\wx.cell? ⟨w.heap.size,2,Z⟩=Y (J z)/\wx.cell? ⟨w.heap.size,3,Z⟩=Y (A4 b s h)/\wx.cell? ⟨w.heap.size+1,0,Z⟩=Y (J H)/\wx.cell? ⟨w.heap.size+1,1,Z⟩=Y (J I)/\wx.cell? ⟨w.heap.size+1,2,Z⟩=Y (J Q)/\wx.cell? ⟨w.heap.size+1,3,Z⟩=Y (A4 K N M)(go_keep)(first|(go_at_call_of 122(A_ #[J p,J v,J z,A4 b s h]);refine(a9l p v z b s h _).mono ?_;rintro e wa⟨rfl,S,a⟩;have q:=Nr.trans S;have u:AL (W.drawn<=wa.drawn):=A5 (G3 (Nat.le_succ _) a);(obtain⟨⟨F3,e1,e2,Co⟩,Dy,J6,LX,nD⟩:=f.out wa q);have X:=A5 q;clear q S a)|(go_at_call_of 122(A_ #[J H,J I,J Q,A4 K N M]);refine(a9l H I Q K N M _).mono ?_;rintro e HZ⟨rfl,K3,c⟩;have A:=X.out.trans (K3.mono X.out.size);have XL:AL (W.drawn<=HZ.drawn):=A5 (G3 u.out c);(obtain⟨⟨Gy,g1,Cx,g3⟩,g4,PF,Vs,a5M⟩:=f.out HZ A);have D:=A5 A;clear A K3 c)|(go_at_call 203;refine(u6 (p,v) (H,I) m _ AB hb (Am D.out R.out)).mono ?_;rintro e wc⟨rfl,RM,d⟩;have hC:=D.out.trans (RM.mono D.out.size);have F:AL (W.drawn<=wc.drawn):=A5 (G3 XL.out d);(obtain⟨⟨Gl,k1,Cu,IC⟩,NY,Mv,Ul,a8T⟩:=f.out wc hC);have Eu:=A5 hC;clear hC RM d));all_goals go_wp2_with fail;go_ret;exact⟨rfl,o.out.trans (Eu.out.mono o.out.size),by rw[<-U.out];exact F.out⟩
def V.aSc(h b:Int):0<=V.bM h b/\V.bM h b<18446744073709551616:=by unfold V.bM;rw[a'q];omega
def V.aSd(h:Int)(s:zx):0<=V.Kc h s/\V.Kc h s<18446744073709551616:=by rw[V.a9c];exact V.aSc _ _
def V.Yh(p v m x y:zz):zx:=V.ep (V.Kc (V.Kc (V.Kc (V.Kc (V.Kc 14695981039346656037 p.data.toList) v.data.toList) m.data.toList) x.data.toList) y.data.toList)
def NI(w:A0)(r:Rel)(s:zz):Prop:=∃a x y,r.BP=Y ⟨a,0,Z⟩/\r.B0=1/\w.cell? ⟨a,0,Z⟩=Y (J x)/\w.cell? ⟨a,1,Z⟩=Y (J y)/\(r.p.size<=1000000000/\r.v.size<=1000000000/\r.m.size<=1000000000/\x.size<=1000000000/\y.size<=1000000000)/\s.data.toList=V.Yh r.p r.v r.m x y
def NI.below{w w':A0}{r:Rel}{s:zz}(h:NI w r s)(b:AX w.heap.size w w'):NI w' r s:=by obtain⟨a,x,y,z,h2,h3,h4,H⟩:=h;exact⟨a,x,y,z,h2,Am b h3,Am b h4,H⟩
def mw{a b:zz}(h:a.data.toList=b.data.toList):a=b:=by obtain⟨⟨l⟩⟩:=a;obtain⟨⟨s⟩⟩:=b;simp only at h;rw[h]
def aA7(r:Rel)(s:zz)(w:A0)(hs:NI w r s)(hm:w.cell? ⟨5,15,Z⟩=Y (A7 F1 4)):Ai A6 68 #[N' r] w λe w'=>e=AZ (J s)/\AX w.heap.size w w':=by
 obtain⟨a,x,y,h1,h2,h3,h4,⟨Ew,z2,z3,z4,z5⟩,H⟩:=hs;obtain⟨p,v,m,BP,B0,BN,g5⟩:=r;simp only at h1 h2 Ew z2 z3 H;subst h1 h2;simp only[N'];have hp:p.size<=BH:=by unfold BH;omega
 have hv:v.size<=BH:=by unfold BH;omega
 have D:m.size<=BH:=by unfold BH;omega
 have hx:x.size<=BH:=by unfold BH;omega
 have hy:y.size<=BH:=by unfold BH;omega
 have f:=A5 H;clear Ew z2 z3 z4 z5 H;go_enter Tryz.func68,Tryz.ntmps68;go_wp2_with fail;go_quiet((go_at_call 137;exact fa (aCT _ _ _ (by assumption))));go_wp2_with fail;go_at_call 138;have h:AX w.heap.size w ((w.alloc (AF #[J p,J v,J m,A4 (Y ⟨a,0,Z⟩) 1 BN] 75)).drewN nq):=IK ((BF _ w).alloc (Ae _) _) nq;have c:=Am h hm;refine(aPy a BN x y _ (Am h h3) (Am h h4)).mono ?_;rintro e b⟨U,F,rfl,N,K⟩;have I:AX w.heap.size w b:=h.trans (K.mono (by simp));have o:=Am K c;have P:b.cell? ⟨U,0,Z⟩=Y (J x):=Rb N 0 _ rfl;have R:b.cell? ⟨U,1,Z⟩=Y (J y):=Rb N 1 _ rfl;clear h K c N h3 h4 hm;have z:AL (V.Yh p v m x y=V.ep (V.Kc (V.Kc (V.Kc (V.Kc (V.Kc 14695981039346656037 p.data.toList) v.data.toList) m.data.toList) x.data.toList) y.data.toList)):=A5 rfl;generalize V.Kc (V.Kc (V.Kc 14695981039346656037 p.data.toList) v.data.toList) m.data.toList=AV at z⊢;have q:=V.aSd (V.Kc AV x.data.toList) y.data.toList;go_wp2;refine U1 2 ?_;rw[LL];go_wp2_with fail;go_quiet((go_at_call 137;exact fa (aCT _ _ _ (by assumption))));go_wp2;rw[LL];generalize V.Kc (V.Kc AV x.data.toList) y.data.toList=d at z q⊢;obtain⟨Q,rfl⟩:∃Q:Nat,d=Q:=⟨d.toNat,by omega⟩;have M:AX b.heap.size b ((b.alloc (AF #[J x,J y] 77)).drewN nq):=IK ((BF _ b).alloc (Ae _) _) _;have u:=Am M o;go_wp2_with(go_at_call 139;refine(aXe Q (by omega) _ (by first|exact u|assumption)).mono ?_;rintro e w2⟨t,rfl,AP,A⟩);go_ret;refine⟨?_,I.trans ((M.mono I.size).trans (A.mono (G3 I.size M.size)))⟩;have:t=s:=mw (by rw[AP,f.out,z.out]);rw[this];rfl
end
section
open Go.RowKit Go.Sort
variable{w:A0}{g:Nat}
abbrev h7:Type:={x:Rel//x.v.size<=40}
instance:Inhabited h7:=⟨⟨⟨⟨#[]⟩,⟨#[]⟩,⟨#[]⟩,Z,0,0,[]⟩,by show(0:Nat)<=40;omega⟩⟩
def uN(x:h7):List A1:=[J x.1.p,J x.1.v,J x.1.m,A4 x.1.BP x.1.B0 x.1.BN]
def aIq(x y:h7):Int:=DO x.1.name y.1.name
def aKT:∀b w,(Me 207 b).run A6 w=Ac (VQ 207 b) w:=by intro b w;exact a14 Tryz.func207 (by kernel_rfl) rfl b w
def aHm:∀w,(VS (Tryz.z1.t 24)).run A6 w=Ac A3 w:=by intro w;kernel_rfl
def aWy:∀w,(Q0 (Tryz.z1.t 24)).run A6 w=Ac 4 w:=by intro w;kernel_rfl
def bc(L:List Rel)(hv:∀x∈L,x.v.size<=40):List h7:=L.pmap (λx h=>⟨x,h⟩) hv
def aW'(L:List Rel)(hv:∀x∈L,x.v.size<=40):(bc L hv).map (·.1)=L:=by unfold bc;rw[a2Z];simp
def yi(L:List Rel)(hv:∀x∈L,x.v.size<=40):(bc L hv).length=L.length:=by simp[bc]
def Xd(L:List Rel):Prop:=L.Pairwise λa b=>DO a.name b.name<=0
def aX3(g cap:Nat)(m:Int)(L:List Rel)(w:A0)(Q:L.length<=1000000)(hv:∀x∈L,x.v.size<=40)(M:g≠0)(N:g<w.heap.size)(A2:Ih w g L)(K:∀o,w.frozen? ⟨g,o,Z⟩=A9)(H:w.cell? ⟨0,0,Z⟩=Y (A7 A8 m)):Ai A6 206 #[A4 (Y ⟨g,0,Z⟩) L.length cap,FU (Ek 207) #[] #[]] w λe w'=>e=AZ (Ay #[])/\∃R,R.Perm L/\Xd R/\Ih w' g R/\Jw g w.heap.size w w':=by
 have h:=aBw Tryz.aX2 4 aHm aWy uN (λx=>rfl) (by omega) λx v hx=>by simp[uN]at hx;rcases hx with rfl|rfl|rfl|rfl<;>rfl aIq (WN.back λx:h7=>x.1.name) 207 aKT g cap (bc L hv) w (by rw[yi];exact Q) N (λj b o z=>?_) K λwx c x y=>?_
 ·rw[yi]at h;refine h.mono ?_;rintro e w'⟨rfl,R,U,hs,hc,I⟩;refine⟨rfl,R.map (·.1),?_,?_,λj b=>?_,I⟩;·have:=U.map (·.1);rwa[aW']at this
  ·unfold Xd;rw[Q6];exact hs
  have s:j<R.length:=by simpa using b
  have k:=λo z=>hc j s o z;simp only[gp];exact⟨k 0 (by omega),k 1 (by omega),k 2 (by omega),k 3 (by omega)⟩
 ·have s:j<L.length:=by rw[yi]at b;exact b
  have he:(bc L hv)[j].1=L[j]:=by simp[bc]
  have hc:=A2 j s;unfold uN;rw[he];match o,z with|0,_=>exact hc.1|1,_=>exact hc.2.1|2,_=>exact hc.2.2.1|3,_=>exact hc.2.2.2
 exact a4G x.1 y.1 m wx x.2 y.2 ((FG (a:=⟨0,0,Z⟩) (c 0 (FA (h:=H)) (Gu M))).trans H)
def aKc(x y:Rel)(m:Int)(w:A0)(I:x.v.size<=40)(K:y.v.size<=40)(z:DO x.name y.name≠0)(M:w.cell? ⟨0,0,Z⟩=Y (A7 A8 m)):Ai A6 209 #[N' x,N' y] w λe w'=>e=AZ (Af A9)/\Below w.heap.size w w':=by
 have b:AL (∀wx,wx.cell? ⟨0,0,Z⟩=Y (A7 A8 m)->Ai A6 207 #[N' x,N' y] wx λe w'=>e=AZ (A7 A8 (DO x.name y.name))/\Below wx.heap.size wx w'/\wx.drawn<=w'.drawn):=A5 λwx h=>a4G x y m wx I K h;generalize DO x.name y.name=c at z b;obtain⟨p,v,a,N,B0,U,g5⟩:=x;obtain⟨DL,v',d,Q,f,o,q⟩:=y;simp only[N']at*;have hc:(c==0)=A9:=by simpa using z
 go_enter Tryz.func209,Tryz.ntmps209;go_wp2_with(go_at_call 207;refine(b.out _ (BL (BL M _) _)).mono ?_;rintro e w2⟨rfl,s,-⟩;have H:=A5 ((NZ w _ _).trans (s.mono (NZ w _ _).size));clear s);go_ret;exact⟨rfl,H.out⟩
def aJb(g c:Nat)(L:List Rel)(m:Int)(w:A0)(Q:Ih w g L)(Ar:L.length<=1000000)(hv:∀x∈L,x.v.size<=40)(N:∀k(h:k+1<L.length),DO L[k+1].name L[k].name≠0)(M:w.cell? ⟨0,0,Z⟩=Y (A7 A8 m)):Ai A6 208 #[A4 (Y ⟨g,0,Z⟩) L.length c,FU (Ek 209) #[] #[]] w λe w'=>e=AZ (A4 (Y ⟨g,0,Z⟩) L.length c)/\Below w.heap.size w w':=by
 by_cases h2:L.length<2
 ·have q:(L.length:Int)<2:=by omega
  clear Q hv N M;go_enter Tryz.func208,Tryz.ntmps208;go_wp2;go_ret;exact⟨rfl,BF _ _⟩
 have C2:=A5 Q;have a:=A5 hv;have u:=A5 N;have A:=A5 M;have q:¬(L.length:Int)<2:=by omega
 clear Q hv N M;go_enter Tryz.func208,Tryz.ntmps208;go_wp2_with fail;go_loopw[5]λi wr=>∃k:Nat,1<=k/\k<=L.length/\i=A7 A8 k/\AL (Below w.heap.size w wr)(λi _=>L.length-(BJ i).toNat);case atStart=>exact⟨1,by omega,by omega,rfl,A5 (BF _ _)⟩
 case round=>
  obtain⟨k,IA,D,rfl,b⟩:=hrel;by_cases hlt:k<L.length
  ·obtain⟨d,rfl⟩:∃d,k=d+1:=⟨k-1,by omega⟩;have AS:d<L.length:=by omega
   obtain⟨c0,c1,c2,c3⟩:=C2.out.below b.out (d+1) hlt;obtain⟨c4,c5,H,I⟩:=C2.out.below b.out d AS;have Fv:(0:Int)<(d:Int)+1:=by omega
   have F:(d:Int)+1<(L.length:Int):=by omega
   have iu:0<=(d:Int)+1/\(d:Int)+1<(L.length:Int):=⟨by omega,F⟩;have z:AL (∀wx,wx.cell? ⟨0,0,Z⟩=Y (A7 A8 m)->Ai A6 209 #[N' L[d+1],N' L[d]] wx λe w'=>e=AZ (Af A9)/\Below wx.heap.size wx w'):=A5 λwx h=>aKc _ _ m wx (a.out _ (DU hlt)) (a.out _ (DU AS)) (u.out d hlt) h;have e1:(d:Int)+1-1=(d:Int):=by omega
   have e2:(d:Int)<(L.length:Int):=by omega
   have f:=H6 (Am b.out A.out);generalize L[d+1]=x at c0 c1 c2 c3 z;generalize L[d]=y at c4 c5 H I z;obtain⟨p,v,P,BP,B0,BN,g5⟩:=x;obtain⟨DL,v',S,W,X,PD,y9⟩:=y;simp only[N']at*;have Gl:=H6 c0;have k1:=H6 c1;have Cu:=H6 c2;have IC:=H6 c3;have NY:=H6 c4;have Mv:=H6 c5;have Ul:=H6 H;have U:=H6 I;have s:∀K os,Ai A6 209 #[A_ #[J p,J v,J P,A4 BP B0 BN],A_ #[J DL,J v',J S,A4 W X PD]] (grow (a1c wr K) os) λe qQ=>e=AZ (Af A9)/\∃p:Regrown,qQ=grow (a1c wr p.d) p.os:=λK os=>Calls.regrown_of (z.out _ (f K os));have ay:A6.follows fq=A3:=by kernel_rfl
   clear z f;go_wp2_with fail;refine mD ay (by kernel_rfl) ?_;repeat(go_big_quiet_step((go_at_call 209;exact s _ _)))
   refine mC ?_;intro bm jT;obtain⟨⟨hX,k0⟩,o⟩:=jT;have R:AL (Below w.heap.size w bm):=A5 (by rw[o];exact b.out.trans ((lh wr hX k0).mono b.out.size));clear o s Gl k1 Cu IC NY Mv Ul U c0 c1 c2 c3 c4 c5 H I;go_wp2;first
   |exact⟨⟨d+1+1,by omega,by omega,by go_num,R⟩,by simp[BJ];omega⟩
   |
    (
     go_roundw;case rel=>exact⟨d+1+1,by omega,by omega,by go_num,R⟩
     case measure=>simp[BJ];omega)
  have he:k=L.length:=by omega
  subst he;go_wp2;go_ret;exact⟨rfl,b.out⟩
def a8F:(A6.info? 75).map (λi=>(i.zero,i.size,i.bytes))=Y (Y (A_ #[J ⟨#[]⟩,J ⟨#[]⟩,J ⟨#[]⟩,A4 Z 0 0]),4,72):=by kernel_rfl
def MO(L:List Rel):List A1:=L.flatMap λr=>[J r.p,J r.v,J r.m,A4 r.BP r.B0 r.BN]
def aVy(x:Rel)(L:List Rel):MO (x::L)=[J x.p,J x.v,J x.m,A4 x.BP x.B0 x.BN]++MO L:=rfl
def aBI(L:List Rel)(x:Rel):MO (L++[x])=MO L++[J x.p,J x.v,J x.m,A4 x.BP x.B0 x.BN]:=by simp[MO]
def kF(L:List Rel):∀j(h:j<L.length)(o:Nat)(u:A1),o<4->[J L[j].p,J L[j].v,J L[j].m,A4 L[j].BP L[j].B0 L[j].BN][o]?=Y u->(MO L)[j*4+o]?=Y u:=by induction L with|nil=>intro j b;simp at b|cons x z y=>intro j b o u s hu;rw[aVy];match j with|0=>rw[cx (by simp;omega)];simpa using hu|j+1=>rw[SX (by simp;omega)];have:=y j (by simp at b;omega) o u s hu;rw[<-this];congr 1;simp;omega
def aVv{B c:Nat}{L:List Rel}(h:w.ownsRow B 75 4 (A4 (Y ⟨g,0,Z⟩) L.length c) L.length (MO L)):Ih w g L:=λj b=>by have k:=λo u s hu=>Rb h _ _ (kF L j b o u s hu);exact⟨k 0 _ (by omega) rfl,k 1 _ (by omega) rfl,k 2 _ (by omega) rfl,k 3 _ (by omega) rfl⟩
def Es(L:List Bu):List Rel:=L.map (·.rel)
def aW8(L:List Bu)(k:Nat)(h:k<L.length):Es (L.take (k+1))=Es (L.take k)++[L[k].rel]:=by unfold Es;rw[Um L k h,U7];rfl
def pL{a b:Az}(h:DO a b≠0):DO b a≠0:=by have:=WN.2.1 a b;omega
def aVz(v:A1)(L:List Bu)(m:Int)(w:A0)(hv:KN w v L)(Ar:L.length<=1000000)(hs:∀x∈L,x.rel.v.size<=40)(i6:(Es L).Pairwise λa b=>DO a.name b.name≠0)(hm:w.cell? ⟨0,0,Z⟩=Y (A7 A8 m)):Ai A6 135 #[v] w λe w'=>∃g c R,e=AZ (A4 (Y ⟨g,0,Z⟩) R.length c)/\R.Perm (Es L)/\Xd R/\Ih w' g R/\w.heap.size<=g/\Below w.heap.size w w':=by
 obtain⟨i0,hi,EF,DF,CO⟩:=Ko a8F;obtain⟨a,c,rfl,d0⟩:=hv.open;have DD:=A5 d0;have Zf:=A5 hs;have mL:=A5 i6;have F:=A5 hm;obtain⟨w1,b1,GU,T2⟩:=a1d (P:=A6) w w.heap.size 47 75 i0 (A_ #[J ⟨#[]⟩,J ⟨#[]⟩,J ⟨#[]⟩,A4 Z 0 0]) 4 a0p hi EF DF A8 A8 L.length (by rw[CO];omega) (by unfold BH;omega) (Ae _);have XO:=A5 GU;have B_:AL (Below w.heap.size w w1):=A5 ((BF _ w).grown T2 (Ae _) λk N=>by cases N);clear hv d0 hs GU T2 i6 hm;go_enter Tryz.func135,Tryz.ntmps135;go_wp2;go_loopw[3,11]λv i wr=>∃k:Nat,k<=L.length/\i=A7 A8 k/\AL ((∃g c,v=A4 (Y ⟨g,0,Z⟩) k c)/\wr.ownsRow w.heap.size 75 4 v k (MO (Es (L.take k)))/\Below w.heap.size w wr)(λ_ i _=>L.length-(BJ i).toNat);case atStart=>exact⟨0,by omega,rfl,A5 ⟨⟨_,_,rfl⟩,XO.out,B_.out⟩⟩
 case round=>
  obtain⟨k,N,rfl,H⟩:=hrel;obtain⟨⟨I,A,rfl⟩,Aa,M⟩:=H.out;have CQ:=A5 Aa;have z:=A5 M;clear H Aa M;by_cases hlt:k<L.length
  ·obtain⟨g,rfl,hc,-⟩:=DD.out k hlt;obtain⟨c0,c1,c2,c3,c4,c5,FN,IP⟩:=hc.below z.out;have F6:w.heap.size<=wr.heap.size:=z.out.size;have EU:g<wr.heap.size:=FA (h:=c0);have S:=A5 (aW8 L k hlt);clear hc;generalize L[k]=x at c0 c1 c2 c3 c4 c5 FN IP S;obtain⟨⟨p,v,m,BP,B0,BN,g5⟩,Bc,Ba⟩:=x;simp only[Bu.B4]at c0 c1 c2 c3 c4 c5 FN IP S;go_wp2_with(at_builtin;refine NB _ rfl _ _ 47 rfl w.heap.size 75 i0 (A_ #[J ⟨#[]⟩,J ⟨#[]⟩,J ⟨#[]⟩,A4 Z 0 0]) 4 72 a0p hi EF DF CO rfl (by decide) _ _ _ rfl ((CQ.out.alloc _).alloc _) ⟨wr.heap.size+1,0,Z⟩ 1 1 [J p,J v,J m,A4 BP B0 BN] rfl rfl ?c1 ?c2 ?c3 ?c4 ?c5 ?_);case c1=>intro j u s;have D:=λW(o:Df)i(h:i=W.heap.size)=>F7 W o i h;match j,s with|0,s=>simp at s;subst s;rw[Gw,Ao (D _ _ _ (by simp))];rfl|1,s=>simp at s;subst s;rw[Gw,Ao (D _ _ _ (by simp))];rfl|2,s=>simp at s;subst s;rw[Gw,Ao (D _ _ _ (by simp))];rfl|3,s=>simp at s;subst s;rw[Gw,Ao (D _ _ _ (by simp))];rfl
   case c2=>intro u hu;simp at hu;rcases hu with rfl|rfl|rfl|rfl<;>rfl
   case c3=>unfold BH;omega
   case c4=>omega
   case c5=>first|omega|(simp;omega)
   intro v' w3 Cz CF _;have a7y:w.heap.size<=wr.heap.size+1:=by omega
   have EE:Below w.heap.size w w3:=((z.out.alloc F6 _).alloc (by simp;omega) _).grown CF (by simp;omega) λk N=>(CQ.out.lt k N).1;obtain⟨d,U,hv⟩:∃d U,v'=A4 (Y ⟨d,0,Z⟩) (k+1) U:=by
    rcases Cz.2 with⟨_,AV⟩|⟨d,U,f,hv,_⟩;·omega
    exact⟨d,U,hv⟩
   have R:AL ((∃g c,v'=A4 (Y ⟨g,0,Z⟩) (k+1) c)/\w3.ownsRow w.heap.size 75 4 v' (k+1) (MO (Es (L.take (k+1))))/\Below w.heap.size w w3):=by refine A5 ⟨⟨d,U,hv⟩,?_,EE⟩;rw[S.out,aBI];exact Cz
   clear CF Cz EE hv;go_wp2;first
   |exact⟨⟨k+1,by omega,by go_num,R⟩,by simp[BJ];omega⟩
   |
    (
     go_roundw;case rel=>exact⟨k+1,by omega,by go_num,R⟩
     case measure=>simp[BJ];omega)
  have Gi:k=L.length:=by omega
  subst Gi;rw[O3]at CQ;have X:(Es L).length=L.length:=by simp[Es]
  have q:∀x∈Es L,x.v.size<=40:=λx hx=>by obtain⟨y,hy,rfl⟩:=List.mem_map.1 hx;exact Zf.out y hy
  have IX:∃f,wr.heap[I]?=Y (AF f 75 (0,0))/\w.heap.size<=I:=by
   rcases CQ.out.2 with⟨e,_⟩|⟨g',c',f,e,M,h,_⟩;·cases e
   injection e with e;injection e with e;injection e with e;subst e;exact⟨f,h,M⟩
  obtain⟨f,Gh,aPT⟩:=IX;have Le:=Am z.out F.out;have aS:0<w.heap.size:=FA (h:=F.out);have Gk:Ih wr I (Es L):=aVv (by rw[X];exact CQ.out);have aGP:AL (Ai A6 206 #[A4 (Y ⟨I,0,Z⟩) L.length A,FU (Ek 207) #[] #[]] wr λe w'=>e=AZ (Ay #[])/\∃R,R.Perm (Es L)/\Xd R/\Ih w' I R/\Jw I wr.heap.size wr w'):=by have:=aX3 I A m (Es L) wr (by omega) q (by omega) (Array.getElem?_eq_some_iff.1 Gh).1 Gk (λo=>E6 Gh o) Le;rw[X]at this;exact A5 this
  clear Gk Gh Le;go_wp2_with(first|(go_at_call 206;refine aGP.out.mono ?_;rintro e Dq⟨rfl,R,hp,JR,x6,K⟩;(have NO:R.length=L.length:=by rw[hp.length_eq];exact X);(have vB:=aJb I A R m Dq x6 (by omega) (λx hx=>q x (hp.mem_iff.1 hx)) (λk N=>pL (List.pairwise_iff_getElem.1 ((hp.pairwise_iff λ{a b}h=>pL h).2 mL.out) k (k+1) (by omega) N (by omega))) ((FG (a:=⟨0,0,Z⟩) (K.block 0 (by have:=z.out.size;omega) (by omega))).trans (Am z.out F.out)));rw[NO]at vB;have aFi:=A5 vB;(have VT:AL (Below w.heap.size w Dq):=A5 ⟨K.os.trans z.out.os,K.tape.trans z.out.tape,K.output.trans z.out.output,G3 z.out.size K.size,λb M=>(K.block b (by have:=z.out.size;omega) (by omega)).trans (z.out.block b M)⟩);have EM:=A5 hp;have aGK:=A5 JR;have tD:=A5 x6;clear hp JR x6 K vB)|(go_at_call 208;refine aFi.out.mono ?_;rintro e Fp⟨rfl,UU⟩;have Q:=A5 UU;clear UU));go_ret;exact⟨I,A,R,by rw[NO];rfl,EM.out,aGK.out,tD.out.below Q.out,aPT,VT.out.trans (Q.out.mono VT.out.size)⟩
def step_append{P:Ap}{ops:Array Oper}{o:Oper}{a:Act}{K:Act->A0->Prop}{Q:Exit->Act->A0->Prop}{E:Prop}(d:o.guard=Z)(s x:C')(t:Aj)(AA:o.op=.call {callee:=.builtin .append,args:=#[s,x],argTypes:=#[t,t]})(base:Nat)(e:Aj)(i:TypeInfo)(z:A1)(size bytes:Nat)(AP:P.underlying t=Y (.slice e))(hi:P.info? e=Y i)(f:i.zero=Y z)(q:i.size=size)(U:i.bytes=bytes)(A:z.cells.size=size)(D:0<size)(v:A1)(n:Nat)(xs:List A1)(hs:a.eval s=v)(Aa:w.ownsRow base e size v n xs)(ad:Ak)(m c:Nat)(y:List A1)(hx:a.eval x=A4 (Y ad) m c)(AE:y.length=m*size)(F:∀j u,y[j]?=Y u->w.cell? (ad.add j)=Y u)(H:∀u∈y,u.oneCell'=A3)(M:n+m<=BH)(R:(n+m)*bytes<=140737488355328)(N:base<=w.heap.size)(h:∀b w',w'.ownsRow base e size b (n+m) (xs++y)->w.grownBy w' v.ownBlock->b.ownBlock=v.ownBlock∨b.ownBlock=Y w.heap.size->K (a.put o.dst b) w'):if Gt o (I6 ops a.tmps)=A3 then rr P o a w K Q else E:=by
 have S:Gt o (I6 ops a.tmps)=A3:=by simp[Gt,d]
 rw[if_pos S];obtain⟨b,w',A2,h2,h3,_,I⟩:=run_append_own_at (P:=P) w base t o.type e i z size bytes AP hi f q U A D v n xs Aa ad m c y AE F H M R N;unfold rr Ab;simp only[AA,resolve,invoke,builtin,aFG,aFH,aFA,M',Gd,Kt,hs,hx,A2];exact h b w' h2 h3 I
abbrev BO:=Az×zz
variable{E:List BO}
def j_:(A6.info? 217).map (λi=>(i.zero,i.size,i.bytes))=Y (Y (A_ #[J ⟨#[]⟩,J ⟨#[]⟩,J ⟨#[]⟩]),3,48):=by kernel_rfl
def G6(E:List BO):List A1:=E.flatMap λx=>[J x.1.1,J x.1.2,J x.2]
def a4f(x:BO)(E:List BO):G6 (x::E)=[J x.1.1,J x.1.2,J x.2]++G6 E:=rfl
def a4g(E:List BO)(x:BO):G6 (E++[x])=G6 E++[J x.1.1,J x.1.2,J x.2]:=by simp[G6]
def hZ(E:List BO):(G6 E).length=E.length*3:=by induction E with|nil=>rfl|cons x h b=>rw[a4f,H7,b];simp;omega
def uP(E:List BO):∀u∈G6 E,u.oneCell'=A3:=by intro u hu;unfold G6 at hu;obtain⟨x,_,hx⟩:=List.mem_flatMap.1 hu;simp at hx;rcases hx with rfl|rfl|rfl<;>rfl
def ET(f:Rel->zz)(R:List Rel):List BO:=R.map λr=>(r.name,f r)
def aKO(f:Rel->zz)(L:List Rel)(k:Nat)(h:k<L.length):ET f (L.take (k+1))=ET f (L.take k)++[(L[k].name,f L[k])]:=by unfold ET;rw[Um L k h,U7];rfl
def a4k(w:A0)(p v s:zz)(j:Nat)(u:A1)(b:[J p,J v,J s][j]?=Y u):(w.alloc (AF #[J p,J v,J s] 217)).cell? ((⟨w.heap.size,0,Z⟩:Ak).add j)=Y u:=by have h:=F7 w (AF #[J p,J v,J s] 217) _ rfl;match j,b with|0,b=>simp at b;subst b;rw[Gw,Ao h];rfl|1,b=>simp at b;subst b;rw[Gw,Ao h];rfl|2,b=>simp at b;subst b;rw[Gw,Ao h];rfl
def aKX(v:A1)(L:List Bu)(m:Int)(f:Rel->zz)(w:A0)(hv:KN w v L)(Ar:L.length<=1000000)(hs:∀x∈L,x.rel.v.size<=40)(i6:(Es L).Pairwise λa b=>DO a.name b.name≠0)(hm:w.cell? ⟨0,0,Z⟩=Y (A7 A8 m))(JQ:w.cell? ⟨5,15,Z⟩=Y (A7 F1 4))(K6:∀x∈L,NI w x.rel (f x.rel)):Ai A6 64 #[v] w λe w'=>∃g c R,e=AZ (A4 (Y ⟨g,0,Z⟩) R.length c)/\R.Perm (Es L)/\Xd R/\w'.ownsRow w.heap.size 217 3 (A4 (Y ⟨g,0,Z⟩) R.length c) R.length (G6 (ET f R))/\Below w.heap.size w w':=by
 obtain⟨i0,hi,EF,DF,CO⟩:=Ko j_;obtain⟨a,c,rfl,d0⟩:=hv.open;have DD:=A5 hv;have Zf:=A5 hs;have mL:=A5 i6;have Bs:=A5 hm;have aG8:=A5 JQ;have aGR:=A5 K6;obtain⟨w1,b1,GU,T2⟩:=a1d (P:=A6) w w.heap.size 119 217 i0 (A_ #[J ⟨#[]⟩,J ⟨#[]⟩,J ⟨#[]⟩]) 3 VR hi EF DF A8 A8 L.length (by rw[CO];omega) (by unfold BH;omega) (Ae _);have XO:=A5 GU;have Au:Below w.heap.size w w1:=(BF _ w).grown T2 (Ae _) (λk hk=>by cases hk);have B_:=A5 Au;have aFg:=A5 (aVz _ L m w1 (hv.below Au) Ar hs i6 (Am Au hm));clear hv d0 hs GU T2 i6 hm JQ K6 Au;go_enter Tryz.func64,Tryz.ntmps64;go_wp2_with(go_at_call 135;refine aFg.out.mono ?_;rintro e w2⟨Q,rc,R,rfl,hp,JR,Gk,aap,kc⟩;have EM:=A5 hp;have XN:=A5 JR;have tD:=A5 Gk;have C6:=A5 kc;clear hp JR Gk kc);have NO:R.length=L.length:=by rw[EM.out.length_eq];simp[Es]
 have iN:R.length<=1000000:=by omega
 clear NO;have LN:=A5 (p7 XO.out C6.out);have U2:AL (Below w.heap.size w w2):=A5 (B_.out.trans (C6.out.mono B_.out.size));have aOJ:w.heap.size≠Q:=by have:w.heap.size<w1.heap.size:=(XO.out.lt w.heap.size rfl).2;omega
 go_loopw[3,12]λv i wr=>∃k:Nat,k<=R.length/\i=A7 A8 k/\AL ((∃g c,v=A4 (Y ⟨g,0,Z⟩) k c/\g≠Q)/\wr.ownsRow w.heap.size 217 3 v k (G6 (ET f (R.take k)))/\Below w.heap.size w wr/\Ih wr Q R)(λ_ i _=>R.length-(BJ i).toNat);case atStart=>exact⟨0,by omega,rfl,A5 ⟨⟨_,_,rfl,aOJ⟩,LN.out,U2.out,tD.out⟩⟩
 case round=>
  obtain⟨k,hk,rfl,H⟩:=hrel;obtain⟨⟨q,Ia,rfl,JS⟩,Aa,hb,Gk⟩:=H.out;have CQ:=A5 Aa;have D:=A5 hb;have C2:=A5 Gk;clear H Aa hb Gk;by_cases hlt:k<R.length
  ·obtain⟨c0,c1,c2,c3⟩:=C2.out k hlt;have K4:∃x∈L,x.rel=R[k]:=by have:=EM.out.mem_iff.1 (DU hlt);obtain⟨x,hx,e⟩:=List.mem_map.1 this;exact⟨x,hx,e⟩
   have tG:AL (NI wr R[k] (f R[k])):=A5 (by obtain⟨x,hx,e⟩:=K4;rw[<-e];exact(aGR.out x hx).below D.out);have F6:w.heap.size<=wr.heap.size:=D.out.size;have EU:Q<wr.heap.size:=FA (h:=c0);have Cm:=A5 (aKO f R k hlt);have F:=Am D.out aG8.out;have aaz:q<wr.heap.size:=by obtain⟨_,h⟩:=CQ.out.lt q rfl;exact h
   clear K4;generalize aaq:R[k]=x at c0 c1 c2 c3 Cm tG;generalize f x=s at Cm tG;obtain⟨p,v,N,y,I,z,g5⟩:=x;simp only[Rel.name]at c0 c1 c2 c3 Cm;go_wp2_with fail;have Dv:=A5 (F7 wr (AF #[J p,J v,J N,A4 y I z] 75) wr.heap.size rfl);have A:=A5 ((BF _ wr).alloc (Ae _) (AF #[J p,J v,J N,A4 y I z] 75));have Zc:=A5 (CQ.out.alloc (AF #[J p,J v,J N,A4 y I z] 75));have dm:(wr.alloc (AF #[J p,J v,J N,A4 y I z] 75)).heap.size=wr.heap.size+1:=by simp
   generalize wr.alloc (AF #[J p,J v,J N,A4 y I z] 75)=W at Dv A Zc dm⊢;have Hu:AL (∀wx,Below W.heap.size W wx->wx.cell? ⟨wr.heap.size,0,Z⟩=Y (J p)/\wx.cell? ⟨wr.heap.size,1,Z⟩=Y (J v)/\wx.cell? ⟨wr.heap.size,2,Z⟩=Y (J N)/\wx.cell? ⟨wr.heap.size,3,Z⟩=Y (A4 y I z)):=by refine A5 λwx hb=>?_;have AV:=H2 hb Dv.out;exact⟨by rw[Ao AV];rfl,by rw[Ao AV];rfl,by rw[Ao AV];rfl,by rw[Ao AV];rfl⟩
   have Nr:Below W.heap.size W W.drew:=⟨rfl,rfl,rfl,Ae _,λ_ _=>rfl⟩;have aGV:AL (NI W ⟨p,v,N,y,I,z,g5⟩ s):=A5 (tG.out.below A.out);have aG9:AL (W.cell? ⟨5,15,Z⟩=Y (A7 F1 4)):=A5 (Am A.out F);obtain⟨a0,a1,FY,a3⟩:=Hu.out W (BF _ _);clear F c0 c1 c2 c3;go_region_held2 λwx=>wx.cell? ⟨wr.heap.size,0,Z⟩=Y (J p)/\wx.cell? ⟨wr.heap.size,1,Z⟩=Y (J v)/\wx.cell? ⟨wr.heap.size,2,Z⟩=Y (J N)/\wx.cell? ⟨wr.heap.size,3,Z⟩=Y (A4 y I z)(first|(go_keep;done)|exact⟨BL Gy _,BL g1 _,BL Cx _,BL g3 _⟩|exact⟨f0,Ep,F4,HS⟩)(first|(go_at_call 122;refine(a9k p v N y I z _).mono ?_;rintro e wa⟨rfl,Lb⟩;have v6:=Nr.trans Lb;(obtain⟨F3,e1,e2,Co⟩:=Hu.out wa v6);have FC:=A5 v6;clear v6 Lb)|(go_at_call 68;refine(aA7 ⟨p,v,N,y,I,z,g5⟩ s _ (aGV.out.below FC.out) (Am FC.out aG9.out)).mono ?_;rintro e d⟨rfl,S⟩;have Ck:=FC.out.trans (S.mono FC.out.size);(obtain⟨Gy,g1,Cx,g3⟩:=Hu.out d Ck);have X:=A5 Ck;clear Ck S)|(refine step_append rfl _ _ 119 rfl w.heap.size 217 i0 (A_ #[J ⟨#[]⟩,J ⟨#[]⟩,J ⟨#[]⟩]) 3 48 VR hi EF DF CO rfl (by decide) _ _ _ rfl ((p7 Zc.out X.out).alloc _) ⟨d.heap.size,0,Z⟩ 1 1 [J p,J v,J s] rfl rfl (a4k d p v s) (by intro u hu;simp at hu;rcases hu with rfl|rfl|rfl<;>rfl) (by unfold BH;omega) (by omega) (by have:=X.out.size;simp;omega) ?_;intro v' w3 Cz CF iV;(have M:∀o,Y (⟨wr.heap.size,o,Z⟩:Ak).block≠(A4 (Y ⟨q,0,Z⟩) k Ia).ownBlock:=λo h=>by simp[Tx]at h;omega);have f0:=CF.cell (BL Gy _) (M _);have Ep:=CF.cell (BL g1 _) (M _);have F4:=CF.cell (BL Cx _) (M _);have HS:=CF.cell (BL g3 _) (M _);have a2':=A5 Cz;have gW:=A5 CF;have aFu:=A5 iV;clear Cz CF iV M));all_goals
    have aau:wr.heap.size+1<=d.heap.size:=by have:=X.out.size;omega
    have S:Below w.heap.size w (d.alloc (AF #[J p,J v,J s] 217)):=(D.out.trans ((A.out.trans (X.out.mono A.out.size)).mono F6)).alloc (by omega) _;have EE:Below w.heap.size w w3:=S.grown gW.out (by simp;omega) λk hk=>(CQ.out.lt k hk).1;have a7_:Ih d Q R:=(C2.out.below A.out).below X.out;have a7Y:Ih w3 Q R:=λi hi=>by
     have M:∀o,Y (⟨Q,o,Z⟩:Ak).block≠(A4 (Y ⟨q,0,Z⟩) k Ia).ownBlock:=λo h=>by simp[Tx]at h;omega
     obtain⟨g2,AM,fk,g0⟩:=a7_ i hi;exact⟨gW.out.cell (BL g2 _) (M _),gW.out.cell (BL AM _) (M _),gW.out.cell (BL fk _) (M _),gW.out.cell (BL g0 _) (M _)⟩
    obtain⟨U,E8,hv,a6_⟩:∃U E8,v'=A4 (Y ⟨U,0,Z⟩) (k+1) E8/\U≠Q:=by
     rcases a2'.out.2 with⟨_,AV⟩|⟨U,E8,g6,hv,_⟩;·omega
     refine⟨U,E8,hv,?_⟩;have K:=aFu.out;rw[hv]at K;rcases K with K|K;·have K:U=q:=CH K;rw[K];exact JS
     have K:U=(d.alloc (AF #[J p,J v,J s] 217)).heap.size:=CH K;simp at K;omega
    have HR:AL ((∃g c,v'=A4 (Y ⟨g,0,Z⟩) (k+1) c/\g≠Q)/\w3.ownsRow w.heap.size 217 3 v' (k+1) (G6 (ET f (R.take (k+1))))/\Below w.heap.size w w3/\Ih w3 Q R):=by refine A5 ⟨⟨U,E8,hv,a6_⟩,?_,EE,a7Y⟩;rw[Cm.out,a4g];exact a2'.out
    clear EE S a7_ a7Y hv;go_wp2;first
    |exact⟨⟨k+1,by omega,by go_num,HR⟩,by simp[BJ];omega⟩
    |
     (
      go_roundw;case rel=>exact⟨k+1,by omega,by go_num,HR⟩
      case measure=>simp[BJ];omega)
  have Gi:k=R.length:=by omega
  subst Gi;rw[O3]at CQ;go_wp2;go_ret;exact⟨q,Ia,R,rfl,EM.out,XN.out,CQ.out,D.out⟩
def a5T(n:Nat)(w:A0)(hn:n<=1000000):Ai A6 204 #[A4 Z 0 0,A7 A8 n] w λe w'=>∃v,e=AZ v/\w'.ownsRow w.heap.size 217 3 v 0 []/\Below w.heap.size w w':=by
 obtain⟨H,hi,y,K,z⟩:=Ko j_;by_cases h:n=0;·subst h;refine(Any8.slices_Grow_room Tryz.a5R Z 0 0 0 w (by omega) (by omega) (by omega) (by omega)).mono ?_;rintro e w'⟨rfl,rfl⟩;exact⟨_,rfl,XA _ _ _ _,BF _ _⟩
 refine(Any8.slices_Grow_grow Tryz.a5R H _ hi y (by omega) Z 0 0 n [] w (by omega) (by omega) (by rw[z];omega) (by omega) (by simp) (λ_=>rfl) λa s=>by cases s).mono ?_;rintro e w'⟨rfl,rfl⟩;have I:=grownCap_ge w (0+n) 0 217;have h2:=grownCap_le_maxLen w (0+n) 0 217 (by unfold BH;omega);refine⟨_,rfl,World.ownsRow_made w.drew _ _ (Ae _) h2 ?_,?_⟩;·have h3:(A_ #[J ⟨#[]⟩,J ⟨#[]⟩,J ⟨#[]⟩]).cells.size=3:=rfl;have h4:grownCap w (0+n) 0 (Tryz.a5S.t 25)=grownCap w (0+n) 0 217:=rfl;rw[fO,fO,aFb,aFb,h3,h4];simp only[I7,tR];omega
 have b:Below w.heap.size w w.drew:=⟨rfl,rfl,rfl,Ae _,λ_ _=>rfl⟩;exact b.alloc (Ae _) _
def aJf(g c b:Nat)(E:List BO)(w:A0)(z:w.cell? ⟨b,0,Z⟩=Y (A4 Z 0 0))(H:w.cell? ⟨b,1,Z⟩=Y (A4 (Y ⟨g,0,Z⟩) E.length c))(hc:∀j u,(G6 E)[j]?=Y u->w.cell? ⟨g,j,Z⟩=Y u)(a:E.length<=1000000):Ai A6 131 #[A4 (Y ⟨b,0,Z⟩) 2 2] w λe w'=>∃v,e=AZ v/\w'.ownsRow w.heap.size 217 3 v E.length (G6 E)/\Below w.heap.size w w':=by
 obtain⟨i0,hi,d,f,m⟩:=Ko j_;have y:=A5 hc;have P1:=A5 (a5T E.length w a);have q:¬(E.length:Int)<0:=by omega
 clear hc;go_enter Tryz.func131,Tryz.ntmps131;go_wp2;refine U1 3 ?_;rw[LL];go_wp2;rw[LL];go_wp2;rw[LL];go_wp2_with(go_at_call 204;refine P1.out.mono ?_;rintro e w1⟨x,rfl,U,I⟩;have s:=A5 U;have h:=A5 I;clear U I);obtain⟨A,D,rfl⟩:=Ln s.out;have c0:=Am h.out z;have c1:=Am h.out H;clear z H;refine U1 3 ?_;rw[LL];go_wp2_with(at_builtin;refine aFc rfl _ _ 119 rfl w.heap.size 217 i0 3 VR hi _ _ _ rfl s.out rfl ?_);rw[LL];go_wp2_with(at_builtin;refine NB _ rfl _ _ 119 rfl w.heap.size 217 i0 (A_ #[J ⟨#[]⟩,J ⟨#[]⟩,J ⟨#[]⟩]) 3 48 VR hi d f m rfl (by decide) _ _ _ rfl s.out ⟨g,0,Z⟩ E.length c (G6 E) rfl (hZ E) λj u N=>by rw[Gw];first|exact Am h.out (y.out j u N)|(rw[LO];exact Am h.out (y.out j u N)) (uP E) (by unfold BH;omega) (by omega) h.out.size ?_);intro v' w2 Q M _;have K:Below w.heap.size w w2:=h.out.grown M h.out.size λk hk=>(s.out.lt k hk).1;have LN:=A5 Q;have o:=A5 K;clear Q M K;go_wp2;rw[LL];go_wp2;go_ret;exact⟨v',rfl,LN.out,o.out⟩
abbrev HB(x:BO):A1:=A_ #[J x.1.1,J x.1.2,J x.2]
def LA(w:A0)(g:Nat)(E:List BO):Prop:=∀i(h:i<E.length),w.cell? ⟨g,i*3,Z⟩=Y (J E[i].1.1)/\w.cell? ⟨g,i*3+1,Z⟩=Y (J E[i].1.2)/\w.cell? ⟨g,i*3+2,Z⟩=Y (J E[i].2)
def LA.below{w':A0}(h:LA w g E)(b:Below w.heap.size w w'):LA w' g E:=λi hi=>⟨Am b (h i hi).1,Am b (h i hi).2.1,Am b (h i hi).2.2⟩
def uO(L:List BO):∀j(h:j<L.length)(o:Nat)(u:A1),o<3->[J L[j].1.1,J L[j].1.2,J L[j].2][o]?=Y u->(G6 L)[j*3+o]?=Y u:=by induction L with|nil=>intro j b;simp at b|cons x z y=>intro j b o u s hu;rw[a4f];match j with|0=>rw[cx (by simp;omega)];simpa using hu|j+1=>rw[SX (by simp;omega)];have:=y j (by simp at b;omega) o u s hu;rw[<-this];congr 1;simp;omega
def nH{B c n:Nat}{L:List BO}(h:w.ownsRow B 217 3 (A4 (Y ⟨g,0,Z⟩) n c) n (G6 L)):LA w g L:=λj b=>by have k:=λo u s hu=>Rb h _ _ (uO L j b o u s hu);exact⟨k 0 _ (by omega) rfl,k 1 _ (by omega) rfl,k 2 _ (by omega) rfl⟩
def u4(x y:BO)(m:Int)(w:A0)(I:x.1.2.size<=40)(K:y.1.2.size<=40)(M:w.cell? ⟨0,0,Z⟩=Y (A7 A8 m)):Ai A6 133 #[HB x,HB y] w λe w'=>e=AZ (A7 A8 (DO x.1 y.1))/\Below w.heap.size w w'/\w.drawn<=w'.drawn:=by obtain⟨⟨p,v⟩,s⟩:=x;obtain⟨⟨N,Q⟩,a⟩:=y;simp only[HB]at*;go_enter Tryz.func133,Tryz.ntmps133;go_wp2_with fail;refine(u6 (p,v) (N,Q) m _ I K (BL (BL M _) _)).mono ?_;rintro e U⟨rfl,b,h⟩;have z:=A5 ((NZ w _ _).trans (b.mono (NZ w _ _).size));have H:AL (w.drawn<=U.drawn):=A5 h;clear b h;go_wp2;go_ret;exact⟨rfl,z.out,H.out⟩
abbrev bw:Type:={x:BO//x.1.2.size<=40}
instance:Inhabited bw:=⟨⟨((⟨#[]⟩,⟨#[]⟩),⟨#[]⟩),by show(0:Nat)<=40;omega⟩⟩
def dZ(x:bw):List A1:=[J x.1.1.1,J x.1.1.2,J x.1.2]
def a3x(x y:bw):Int:=DO x.1.1 y.1.1
def a4l:∀b w,(Me 133 b).run A6 w=Ac (VQ 133 b) w:=by intro b w;exact a14 Tryz.func133 (by kernel_rfl) rfl b w
def a3I:∀w,(VS (Tryz.z7.t 24)).run A6 w=Ac A3 w:=by intro w;kernel_rfl
def aBo:∀w,(Q0 (Tryz.z7.t 24)).run A6 w=Ac 3 w:=by intro w;kernel_rfl
def UL(L:List BO)(hv:∀x∈L,x.1.2.size<=40):List bw:=L.pmap (λx h=>⟨x,h⟩) hv
def a4n(L:List BO)(hv:∀x∈L,x.1.2.size<=40):(UL L hv).map (·.1)=L:=by unfold UL;rw[a2Z];simp
def d_(L:List BO)(hv:∀x∈L,x.1.2.size<=40):(UL L hv).length=L.length:=by simp[UL]
def Oj(L:List BO):Prop:=L.Pairwise λa b=>DO a.1 b.1<=0
def aX6(p:Option Ak)(c:Nat)(f:A1)(w:A0):Ai A6 132 #[A4 p 0 c,f] w λe w'=>e=AZ (Ay #[])/\w'=w:=AnyF.slices_SortFunc_none Tryz.z6 p c f w
def aX4(g cap:Nat)(m:Int)(L:List BO)(w:A0)(Q:L.length<=1000000)(hv:∀x∈L,x.1.2.size<=40)(M:g≠0)(N:g<w.heap.size)(A2:LA w g L)(K:∀o,w.frozen? ⟨g,o,Z⟩=A9)(H:w.cell? ⟨0,0,Z⟩=Y (A7 A8 m)):Ai A6 132 #[A4 (Y ⟨g,0,Z⟩) L.length cap,FU (Ek 133) #[] #[]] w λe w'=>e=AZ (Ay #[])/\∃R,R.Perm L/\Oj R/\LA w' g R/\Jw g w.heap.size w w':=by
 have h:=aBw Tryz.z6 3 a3I aBo dZ (λx=>rfl) (by omega) λx v hx=>by simp[dZ]at hx;rcases hx with rfl|rfl|rfl<;>rfl a3x (WN.back λx:bw=>x.1.1) 133 a4l g cap (UL L hv) w (by rw[d_];exact Q) N (λj b o z=>?_) K λwx c x y=>?_
 ·rw[d_]at h;refine h.mono ?_;rintro e w'⟨rfl,R,U,hs,hc,I⟩;refine⟨rfl,R.map (·.1),?_,?_,λj b=>?_,I⟩;·have:=U.map (·.1);rwa[a4n]at this
  ·unfold Oj;rw[Q6];exact hs
  have s:j<R.length:=by simpa using b
  have k:=λo z=>hc j s o z;simp only[gp];exact⟨k 0 (by omega),k 1 (by omega),k 2 (by omega)⟩
 ·have s:j<L.length:=by rw[d_]at b;exact b
  have he:(UL L hv)[j].1=L[j]:=by simp[UL]
  have hc:=A2 j s;unfold dZ;rw[he];match o,z with|0,_=>exact hc.1|1,_=>exact hc.2.1|2,_=>exact hc.2.2
 exact u4 x.1 y.1 m wx x.2 y.2 ((FG (a:=⟨0,0,Z⟩) (c 0 (FA (h:=H)) (Gu M))).trans H)
def dQ(x y:zz):x.toList=y.toList↔x=y:=by
 constructor;·intro h;rw[a'D,a'D]at h;exact mw h
 rintro rfl;rfl
def a4p(n:Nat)(a b c d:zz)(w:A0):(Ov (n+2) 85 (A_ #[J a,J b]) (A_ #[J c,J d])).run A6 w=Ac (Bz (((a,b):Az)=(c,d))) w:=by
 have y:=Tryz.underlying9;have z:=Tryz.isAgg9;have H:=Tryz.sizeOf9;have s:A6.underlying 85=Y (gK (A6.fieldsOf 85)):=by kernel_rfl
 rw[aFZ w (n+1) 85 _ _ s (by kernel_rfl)];simp only[aEB,X6];go_simp;simp only[dQ];by_cases h:a=c<;>by_cases h2:b=d<;>simp[h,h2]
def a4o(n:Nat)(x y:BO)(w:A0):(Ov (n+3) 217 (HB x) (HB y)).run A6 w=Ac (Bz (x=y)) w:=by
 obtain⟨⟨a,b⟩,s⟩:=x;obtain⟨⟨c,d⟩,t⟩:=y;have I:=Tryz.underlying9;have M:=Tryz.isAgg9;have Q:=Tryz.sizeOf9;have h:=Tryz.isAgg85;have K:=Tryz.sizeOf85;have N:=a4p n;have H:A6.underlying 217=Y (gK (A6.fieldsOf 217)):=by kernel_rfl
 simp only[HB];rw[aFZ w (n+2) 217 _ _ H (by kernel_rfl)];simp only[aEB,aEv];go_simp;simp only[dQ];by_cases z:a=c<;>by_cases h2:b=d<;>by_cases h3:s=t<;>simp[z,h2,h3]
def ha(a b c d:zz)(w:A0):(KL Tp 85 (A_ #[J a,J b]) (A_ #[J c,J d])).run A6 w=Ac (Af (Bz (((a,b):Az)=(c,d)))) w:=by have h:(Ov gC 85 (A_ #[J a,J b]) (A_ #[J c,J d])).run A6 w=Ac (Bz (((a,b):Az)=(c,d))) w:=a4p 9998 a b c d w;simp[KL,SL,h,Ly]
def a4q(x y:BO)(w:A0):(KL Tp 217 (HB x) (HB y)).run A6 w=Ac (Af (Bz (x=y))) w:=by have h:(Ov gC 217 (HB x) (HB y)).run A6 w=Ac (Bz (x=y)) w:=a4o 9997 x y w;simp only[HB]at h;simp[KL,SL,h,Ly]
def a4C(p:Option Ak)(n c:Nat)(w:A0)(h2:n<2):Ai A6 134 #[A4 p n c] w λe w'=>e=AZ (A4 p n c)/\w'=w:=by
 have b:(n:Int)<2:=by omega
 go_enter Tryz.func134,Tryz.ntmps134;go_wp2;go_ret;exact⟨rfl,rfl⟩
def aJZ(g c:Nat)(L:List BO)(w:A0)(M:LA w g L)(Ar:L.length<=1000000)(K:∀k(h:k+1<L.length),L[k+1]≠L[k]):Ai A6 134 #[A4 (Y ⟨g,0,Z⟩) L.length c] w λe w'=>e=AZ (A4 (Y ⟨g,0,Z⟩) L.length c)/\Below w.heap.size w w':=by
 by_cases h2:L.length<2;·refine(a4C _ _ c w h2).mono ?_;rintro e w'⟨rfl,rfl⟩;exact⟨rfl,BF _ _⟩
 have I:=A5 M;have Q:=A5 K;have X:¬(L.length:Int)<2:=by omega
 clear M K;go_enter Tryz.func134,Tryz.ntmps134;go_wp2_with fail;go_loopw[3]λi wr=>∃k:Nat,1<=k/\k<=L.length/\i=A7 A8 k/\AL (Below w.heap.size w wr)(λi _=>L.length-(BJ i).toNat);case atStart=>exact⟨1,by omega,by omega,rfl,A5 (BF _ _)⟩
 case round=>
  obtain⟨k,IA,a,rfl,b⟩:=hrel;by_cases hlt:k<L.length
  ·obtain⟨d,rfl⟩:∃d,k=d+1:=⟨k-1,by omega⟩;have AS:d<L.length:=by omega
   obtain⟨c0,c1,c2⟩:=I.out.below b.out (d+1) hlt;obtain⟨c4,c5,H⟩:=I.out.below b.out d AS;have Fv:(0:Int)<(d:Int)+1:=by omega
   have f:(d:Int)+1<(L.length:Int):=by omega
   have iu:0<=(d:Int)+1/\(d:Int)+1<(L.length:Int):=⟨by omega,f⟩;have z:AL (∀wx,(KL Tp 217 (HB L[d+1]) (HB L[d])).run A6 wx=Ac (Af A9) wx):=A5 λwx=>by rw[a4q,decide_eq_false (Q.out d hlt)]
   have e1:(d:Int)+1-1=(d:Int):=by omega
   have e2:(d:Int)<(L.length:Int):=by omega
   generalize L[d+1]=x at c0 c1 c2 z;generalize L[d]=y at c4 c5 H z;obtain⟨⟨p,v⟩,s⟩:=x;obtain⟨⟨DL,v'⟩,C9⟩:=y;simp only[HB]at*;have m:=H6 c0;have k1:=H6 c1;have o:=H6 c2;have q:=H6 c4;have u:=H6 c5;have A:=H6 H;have D:=z.out;have F:A6.follows fq=A3:=by kernel_rfl
   have U_:A6.eqGuardType A6.depth 217=A9:=by kernel_rfl
   clear z;go_wp2_with fail;refine mD F (by kernel_rfl) ?_;repeat(go_big_quiet_step(fail))
   refine mC ?_;intro P S;obtain⟨⟨U,W⟩,N⟩:=S;have R:AL (Below w.heap.size w P):=A5 (by rw[N];exact b.out.trans ((lh wr U W).mono b.out.size));clear N m k1 o q u A c0 c1 c2 c4 c5 H D;go_wp2;first
   |exact⟨⟨d+1+1,by omega,by omega,by go_num,R⟩,by simp[BJ];omega⟩
   |
    (
     go_roundw;case rel=>exact⟨d+1+1,by omega,by omega,by go_num,R⟩
     case measure=>simp[BJ];omega)
  have he:k=L.length:=by omega
  subst he;go_wp2;go_ret;exact⟨rfl,b.out⟩
def Iw(w:A0)(v:A1)(E:List BO):Prop:=v=A4 Z 0 0/\E=[]∨∃g c,v=A4 (Y ⟨g,0,Z⟩) E.length c/\LA w g E
def Iw.below{w w':A0}{v:A1}{E:List BO}(h:Iw w v E)(s:Below w.heap.size w w'):Iw w' v E:=by
 rcases h with h|⟨g,c,b,h2⟩;·exact AD h
 exact AJ ⟨g,c,b,h2.below s⟩
def Iw.open{v:A1}(h:Iw w v E):∃a c,v=A4 a E.length c/\∀k(h:k<E.length),∃g,a=Y ⟨g,0,Z⟩/\w.cell? ⟨g,k*3,Z⟩=Y (J E[k].1.1)/\w.cell? ⟨g,k*3+1,Z⟩=Y (J E[k].1.2)/\w.cell? ⟨g,k*3+2,Z⟩=Y (J E[k].2):=by
 rcases h with⟨rfl,rfl⟩|⟨g,c,rfl,h⟩;·exact⟨Z,0,rfl,λk h=>by cases h⟩
 exact⟨_,c,rfl,λk b=>⟨g,rfl,h k b⟩⟩
def aBx(B:Nat)(v:A1)(m:Int)(E:List BO)(w:A0)(Aa:w.ownsRow B 217 3 v E.length (G6 E))(Q:0<B)(z:E.length<=1000000)(hs:∀x∈E,x.1.2.size<=40)(M:w.cell? ⟨0,0,Z⟩=Y (A7 A8 m)):Ai A6 132 #[v,FU (Ek 133) #[] #[]] w λe w'=>e=AZ (Ay #[])/\∃R,R.Perm E/\Oj R/\Iw w' v R/\∃b,B<=b/\Jw b w.heap.size w w':=by
 rcases Aa.2 with⟨rfl,y⟩|⟨g,c,a,rfl,K,h,_⟩;·obtain rfl:=List.length_eq_zero_iff.1 y;refine(aX6 Z 0 _ w).mono ?_;rintro e w'⟨rfl,rfl⟩;exact⟨rfl,[],.refl _,aGg,AD ⟨rfl,rfl⟩,B,Ae _,Jw.refl _ _ _⟩
 refine(aX4 g c m E w z hs (by omega) (Array.getElem?_eq_some_iff.1 h).1 (nH Aa) (λo=>E6 h o) M).mono ?_;rintro e w'⟨rfl,R,s,N,H,I⟩;exact⟨rfl,R,s,N,AJ ⟨g,c,by rw[s.length_eq],H⟩,g,K,I⟩
def aJ_(v:A1)(R:List BO)(w:A0)(h:Iw w v R)(b:R.length<=1000000)(s:∀k(h:k+1<R.length),R[k+1]≠R[k]):Ai A6 134 #[v] w λe w'=>e=AZ v/\Below w.heap.size w w':=by
 rcases h with⟨rfl,rfl⟩|⟨g,c,rfl,h⟩;·refine(a4C Z 0 0 w (by omega)).mono ?_;rintro e w'⟨rfl,rfl⟩;exact⟨rfl,BF _ _⟩
 exact aJZ g c R w h b s
def xy(a:Az):DO a a=0:=WN.refl a
def aSU(g c:Nat)(m:Int)(E:List BO)(w:A0)(hc:LA w g E)(F:E.length<=1000000)(hs:∀x∈E,x.1.2.size<=40)(i6:E.Pairwise λa b=>DO a.1 b.1≠0)(hm:w.cell? ⟨0,0,Z⟩=Y (A7 A8 m)):Ai A6 63 #[A4 Z 0 0,A4 (Y ⟨g,0,Z⟩) E.length c] w λe w'=>∃v R,e=AZ (Ay #[v,DS])/\R.Perm E/\Oj R/\Iw w' v R/\Below w.heap.size w w':=by
 have Y1:∀j u,(G6 E)[j]?=Y u->w.cell? ⟨g,j,Z⟩=Y u:=λj u z=>by
  have ir:j<E.length*3:=by rw[<-hZ];exact(List.getElem?_eq_some_iff.1 z).1
  have AH:j/3<E.length:=by omega
  have Hm:=hc (j/3) AH;have AI:=λo u=>uO E (j/3) AH o u;have e:j=j/3*3+j%3:=by omega
  have AA:j%3<3:=by omega
  rw[e]at z⊢;generalize j%3=o at AA z;match o,AA,z with|0,_,z=>rw[AI 0 _ (by omega) rfl]at z;rw[<-z];exact Hm.1|1,_,z=>rw[AI 1 _ (by omega) rfl]at z;rw[<-z];exact Hm.2.1|2,_,z=>rw[AI 2 _ (by omega) rfl]at z;rw[<-z];exact Hm.2.2
 have Eu:=A5 Y1;have Cm:=A5 hs;have mL:=A5 i6;have Bs:=A5 hm;clear hc hs i6 hm Y1;have P:Below w.heap.size w (w.alloc (AF #[A4 Z 0 0,A4 (Y ⟨g,0,Z⟩) E.length c] 119)):=(BF _ w).alloc (Ae _) _;have LM:=A5 P;have S:=F7 w (AF #[A4 Z 0 0,A4 (Y ⟨g,0,Z⟩) E.length c] 119) _ rfl;have XF:=A5 (aJf g c w.heap.size E (w.alloc (AF #[A4 Z 0 0,A4 (Y ⟨g,0,Z⟩) E.length c] 119)) (by rw[Ao S];rfl) (by rw[Ao S];rfl) (λj u z=>Am P (Eu.out j u z)) F);clear P S;go_enter Tryz.func63,Tryz.ntmps63;go_wp2_with(go_at_call 131;refine XF.out.mono ?_;rintro e w1⟨GZ,rfl,GU,Au⟩;have J':=A5 GU;have K:AL (Below w.heap.size w w1):=A5 (LM.out.trans (Au.mono LM.out.size));(have a6U:=Au.size);clear GU Au);have aS:0<w.heap.size:=FA (h:=Bs.out);obtain⟨L9,Ia,rfl⟩:=Ln J'.out;have XG:=A5 (aBx _ _ m E w1 J'.out (by simp) F Cm.out (Am K.out Bs.out));go_wp2_with(go_at_call 132;refine XG.out.mono ?_;rintro e I⟨rfl,R,hp,JR,I0,b,hb,N⟩;have EM:=A5 hp;have XN:=A5 JR;have W:=A5 I0;(have C6:AL (Below w.heap.size w I):=A5 ⟨N.os.trans K.out.os,N.tape.trans K.out.tape,N.output.trans K.out.output,G3 K.out.size N.size,λk hk=>(N.block k (by have:=K.out.size;omega) (by simp at hb;omega)).trans (K.out.block k hk)⟩);clear hp JR I0 N hb);have Q:AL (∀k(h:k+1<R.length),R[k].1≠R[k+1].1):=A5 λk hk h=>by have:=List.pairwise_iff_getElem.1 ((EM.out.pairwise_iff λ{a b}h=>pL h).2 mL.out) k (k+1) (by omega) hk (by omega);rw[h]at this;exact this (xy _)
 have mO:AL (R.length=E.length):=A5 EM.out.length_eq;have DD:AL (∀k(h:k<R.length),∃M,L9=Y ⟨M,0,Z⟩/\I.cell? ⟨M,k*3,Z⟩=Y (J R[k].1.1)/\I.cell? ⟨M,k*3+1,Z⟩=Y (J R[k].1.2)/\I.cell? ⟨M,k*3+2,Z⟩=Y (J R[k].2)):=by obtain⟨a,c',e,d0⟩:=W.out.open;injection e with e;subst e;exact A5 d0
 clear J' XF XG;go_loopw[17]λi wr=>∃k:Nat,k<=E.length/\i=A7 A8 k/\AL (Below I.heap.size I wr)(λi _=>E.length-(BJ i).toNat);case atStart=>exact⟨0,by omega,rfl,A5 (BF _ _)⟩
 case round=>
  obtain⟨k,hk,rfl,H⟩:=hrel;by_cases hlt:k<E.length
  ·have X:k<R.length:=by rw[mO.out];exact hlt
   obtain⟨M,rfl,c0,c1,c2⟩:=DD.out k X;have c0:=Am H.out c0;have c1:=Am H.out c1;have c2:=Am H.out c2;have F6:I.heap.size<=wr.heap.size:=H.out.size;have EU:M<wr.heap.size:=FA (h:=c0);by_cases Fv:k=0
   ·subst Fv;have aaP:0<R.length:=X;generalize R[0]=x at c0 c1 c2;obtain⟨⟨p,v⟩,s⟩:=x;simp only at c0 c1 c2;go_wp2_with fail;go_quiet(fail);have f:AL (Below I.heap.size I ((wr.alloc (AF #[J p,J v,J s] 217)).drewN nq)):=A5 (IK (H.out.alloc F6 _) _);go_wp2;first
    |exact⟨⟨1,by omega,by go_num,f⟩,by simp[BJ];omega⟩
    |
     (
      go_roundw;case rel=>exact⟨1,by omega,by go_num,f⟩
      case measure=>simp[BJ];omega)
   obtain⟨d,rfl⟩:∃d,k=d+1:=⟨k-1,by omega⟩;have iY:d<R.length:=by omega
   obtain⟨aLW,q,A,d1,d2⟩:=DD.out d iY;injection q with q;injection q with q;subst q;have A:=Am H.out A;have d1:=Am H.out d1;have d2:=Am H.out d2;have U:AL (∀wx,(KL Tp 85 (A_ #[J R[d].1.1,J R[d].1.2]) (A_ #[J R[d+1].1.1,J R[d+1].1.2])).run A6 wx=Ac (Af A9) wx):=A5 λwx=>by rw[ha,decide_eq_false (Q.out d X)]
   have Fv:(0:Int)<(d:Int)+1:=by omega
   have T4:(d:Int)+1<(E.length:Int):=by omega
   have iu:0<=(d:Int)+1/\(d:Int)+1<(E.length:Int):=⟨by omega,T4⟩;have e1:(d:Int)+1-1=(d:Int):=by omega
   have e2:(d:Int)<(E.length:Int):=by omega
   generalize R[d+1]=x at c0 c1 c2 U;generalize R[d]=y at A d1 d2 U;obtain⟨⟨p,v⟩,s⟩:=x;obtain⟨⟨DL,v'⟩,C9⟩:=y;simp only at c0 c1 c2 A d1 d2 U;have GB:=U.out;have U_:A6.eqGuardType A6.depth 85=A9:=by kernel_rfl
   clear U;go_wp2_with fail;have f0:=BL A (AF #[J p,J v,J s] 217);have Ep:=BL d1 (AF #[J p,J v,J s] 217);have F4:=BL d2 (AF #[J p,J v,J s] 217);go_quiet(fail);have f:AL (Below I.heap.size I ((wr.alloc (AF #[J p,J v,J s] 217)).drewN nq)):=A5 (IK (H.out.alloc F6 _) _);go_wp2;first
   |exact⟨⟨d+1+1,by omega,by go_num,f⟩,by simp[BJ];omega⟩
   |
    (
     go_roundw;case rel=>exact⟨d+1+1,by omega,by go_num,f⟩
     case measure=>simp[BJ];omega)
  have Gi:k=E.length:=by omega
  subst Gi;have sa:=A5 (aJ_ _ R wr (W.out.below H.out) (by rw[mO.out];exact F) λk h e=>Q.out k h (by rw[e]));go_wp2_with(go_at_call 134;refine sa.out.mono ?_;rintro e w4⟨rfl,D⟩;have Hc:=A5 D;clear D);go_ret2;have D:=C6.out.trans ((H.out.trans (Hc.out.mono H.out.size)).mono C6.out.size);exact⟨_,R,rfl,EM.out,XN.out,(W.out.below H.out).below Hc.out,D⟩
def Gf(x:BO):zz:=x.1.1++⟨#[32]⟩++x.1.2++⟨#[32]⟩++x.2++⟨#[10]⟩
def Be(E:List BO):zx:=E.flatMap λx=>(Gf x).data.toList
def a4j(E:List BO)(k:Nat)(h:k<E.length):Be (E.take (k+1))=Be (E.take k)++(Gf E[k]).data.toList:=by unfold Be;rw[Um E k h,XT];simp
def aI9(s:zz):ZM s=Ps s.data.toList:=by obtain⟨⟨l⟩⟩:=s;simp[ZM,Ps]
def aI7(a b:zx):Ps a++Ps b=Ps (a++b):=by simp[Ps]
def aI8(a:zx):(Ps a).length=a.length:=by simp[Ps]
def aIV{T e B b:Nat}{AW:List A1}{w':A0}(h:SH T e B b AW w)(s:Below w.heap.size w w'):SH T e B b AW w':=by
 have y:∀p,cM T e B b p AW w->cM T e B b p AW w':=by rintro p⟨z,v,h2,h3,h4⟩;have hlt:b<w.heap.size:=(Array.getElem?_eq_some_iff.1 h2).1;refine⟨z,v,by rw[s.block b hlt];exact h2,?_,h4⟩;refine h3.kept (row:=Z) ⟨s.os,s.tape,s.output,s.size,λk H _=>s.block k H⟩ ?_;cases v.ownBlock with|none=>exact AD rfl|some x=>exact AJ (by simp)
 rcases h with h|h;·exact AD (y _ h)
 exact AJ (y _ h)
def uS(E:List BO)(hs:∀x∈E,x.1.1.size<=1000/\x.1.2.size<=1000/\x.2.size<=1000)(k:Nat)(s:k<=E.length):(Be (E.take k)).length<=k*4000:=by
 induction k with
 |zero=>simp[Be]
 |succ k y=>
  have b:k<E.length:=s;rw[a4j E k b,H7];have z:=y (by omega);obtain⟨h2,h3,h4⟩:=hs E[k] (DU b);have h:(Gf E[k]).data.toList.length=E[k].1.1.size+1+E[k].1.2.size+1+E[k].2.size+1:=by unfold Gf;simp;show E[k].1.1.size+(E[k].1.2.size+(E[k].2.size+1+1)+1)=_;omega
  rw[h];omega
def aY3(v:A1)(E:List BO)(w:A0)(hv:Iw w v E)(d9:E.length<=1000000)(hs:∀x∈E,x.1.1.size<=1000/\x.1.2.size<=1000/\x.2.size<=1000):Ai A6 67 #[v] w λe w'=>e=AZ (J ⟨(Be E).toArray⟩)/\Below w.heap.size w w':=by
 obtain⟨a,c,rfl,d⟩:=hv.open;have F:=A5 d;have J1:=A5 hs;have CY:=A5 (uS E hs);have f:SH 190 5 w.heap.size w.heap.size [] (w.alloc (AF #[Ad Z,A4 Z 0 0] 190)):=AD ⟨Ae _,A4 Z 0 0,Pz w _,⟨rfl,AD ⟨rfl,rfl⟩⟩,by simp[Tx]⟩;have I:=A5 f;clear f hv d hs;go_enter Tryz.func67,Tryz.ntmps67;go_wp2;go_loopw[8]λi wr=>∃k:Nat,k<=E.length/\i=A7 A8 k/\AL (SH 190 5 w.heap.size w.heap.size (Ps (Be (E.take k))) wr/\Below w.heap.size w wr)(λi _=>E.length-(BJ i).toNat);case atStart=>exact⟨0,by omega,rfl,A5 ⟨I.out,(BF _ _).alloc (Ae _) _⟩⟩
 case round=>
  obtain⟨k,hk,rfl,H⟩:=hrel;obtain⟨m,U⟩:=H.out;have K:=A5 m;have b:=A5 U;clear H m U;by_cases hlt:k<E.length
  ·obtain⟨g,rfl,c0,c1,c2⟩:=F.out k hlt;have c0:=Am b.out c0;have c1:=Am b.out c1;have c2:=Am b.out c2;have M:=A5 (a4j E k hlt);have P:w.heap.size<=wr.heap.size:=b.out.size;have EU:g<wr.heap.size:=FA (h:=c0);have o:(Ps (Be (E.take k))).length+(Gf E[k]).size<=140737488355328:=by
    rw[aI8];have z:=CY.out (k+1) (by omega);rw[M.out,H7]at z;have h2:(Gf E[k]).data.toList.length=(Gf E[k]).size:=by simp
    rw[h2]at z;omega
   have N:AL (∀wx,SH 190 5 w.heap.size w.heap.size (Ps (Be (E.take k))) wx->w.heap.size<=wx.heap.size->Ai A6 101 #[Ad (Y ⟨w.heap.size,0,Z⟩),J (Gf E[k])] wx λe w'=>e=AZ (Ay #[A7 A8 (Gf E[k]).size,DS])/\cM 190 5 w.heap.size w.heap.size (Ad (Y ⟨w.heap.size,0,Z⟩)) (Ps (Be (E.take k))++ZM (Gf E[k])) w'/\Below w.heap.size wx w'):=A5 λwx z h2=>aC_ _ _ _ _ wx z o h2;generalize hx:E[k]=x at c0 c1 c2 M N;obtain⟨⟨p,v⟩,s⟩:=x;have y:AL (Gf ((p,v),s)=p++⟨#[32]⟩++v++⟨#[32]⟩++s++⟨#[10]⟩):=A5 rfl;simp only at c0 c1 c2;obtain⟨Ew,z2,z3⟩:=J1.out E[k] (DU hlt);rw[hx]at Ew z2 z3;simp only at Ew z2 z3;have e1:(Ha #[32]).size=1:=rfl;have e2:(Ha #[10]).size=1:=rfl;have k1:=JL p ⟨#[32]⟩ (by omega);have R:=JL (p++⟨#[32]⟩) v (by rw[GY];omega);have S:=JL (p++⟨#[32]⟩++v) ⟨#[32]⟩ (by rw[GY,GY];omega);have W:=JL (p++⟨#[32]⟩++v++⟨#[32]⟩) s (by rw[GY,GY,GY];omega);have q:=JL (p++⟨#[32]⟩++v++⟨#[32]⟩++s) ⟨#[10]⟩ (by rw[GY,GY,GY,GY];omega);rw[<-y.out]at q;clear hx o e1 e2 y;go_wp2_with(go_at_call 101;refine(N.out _ (aIV K.out ((BF _ wr).alloc (Ae _) _)) (by simp;omega)).mono ?_;rintro e w4⟨rfl,u,A⟩;have X:=A5 u;have Hc:=A5 ((b.out.alloc P _).trans A);clear u A);have Q:AL (SH 190 5 w.heap.size w.heap.size (Ps (Be (E.take (k+1)))) w4/\Below w.heap.size w w4):=by refine A5 ⟨AJ ?_,Hc.out⟩;rw[M.out,<-aI7,<-aI9];exact X.out
   clear k1 R S W q;go_wp2;first
   |exact⟨⟨k+1,by omega,by go_num,Q⟩,by simp[BJ];omega⟩
   |
    (
     go_roundw;case rel=>exact⟨k+1,by omega,by go_num,Q⟩
     case measure=>simp[BJ];omega)
  have Gi:k=E.length:=by omega
  subst Gi;rw[O3]at K;go_wp2_with fail;refine(Any.Builder_String_any Tryz.a8e Tryz.a'' w.heap.size w.heap.size (Be E) _ K.out b.out.size).mono ?_;rintro e Dq⟨rfl,D⟩;have VT:=A5 (b.out.trans D);clear D;go_wp2;go_ret;exact⟨rfl,VT.out⟩
def aQl(w:A0):Ai A6 57 #[J ⟨#[]⟩] w λe w'=>e=AZ (Ay #[A4 Z 0 0,DS])/\w'=w:=by go_enter Tryz.func57,Tryz.ntmps57;go_wp2;refine U1 1 ?_;rw[LL];go_wp2;go_ret2;exact⟨rfl,rfl⟩
end
section
open Go.RowKit
variable{w:A0}{v:A1}{B:Nat}{g5:Nat->Nat->List (Nat×Nat)}{AY:Nat->Nat->Nat}
def NQ(b:UInt8):Bool:=Bz (48<=b.toNat)&&Bz (b.toNat<=57)||Bz (97<=b.toNat)&&Bz (b.toNat<=102)
def Qb(s:zz):Bool:=s.data.toList.all NQ&&s.size==16
def a8I(b:UInt8)(w:A0):Ai A6 274 #[A7 F1 (b.toNat:Int)] w λe w'=>e=AZ (Af (NQ b))/\w'=w:=by
 have h:AL (NQ b=(Bz (48<=(b.toNat:Int))&&Bz ((b.toNat:Int)<=57)||Bz (97<=(b.toNat:Int))&&Bz ((b.toNat:Int)<=102))):=by refine A5 ?_;unfold NQ;congr 2<;>rw[decide_eq_decide]<;>omega
 generalize(b.toNat:Int)=x at h⊢;by_cases h4:48<=x<;>by_cases s:x<=57<;>by_cases y:97<=x<;>by_cases z:x<=102;all_goals go_enter Tryz.func274,Tryz.ntmps274;go_wp2;go_ret;exact⟨Eb (by rw[h.out];simp[h4,s,y,z]),rfl⟩
def aQC(s:zz)(w:A0)(hs:s.size<=BH):Ai A6 195 #[J s] w λe w'=>e=AZ (Af (Qb s))/\w'=w:=by
 have N:=hs;unfold BH at N;have b:AL (Qb s=(s.data.toList.all NQ&&(s.size:Int)==16)):=by refine A5 ?_;unfold Qb;rw[show(16:Int)=((16:Nat):Int)from rfl,oe]
 go_enter Tryz.func195,Tryz.ntmps195;go_wp2;go_loop[6]λi=>∃k:Nat,k<=s.size/\i=A7 A8 k/\AL ((s.data.toList.take k).all NQ=A3)(λi=>s.size-(BJ i).toNat);case atStart=>exact⟨0,Jf _,rfl,A5 (by simp)⟩
 case round=>
  obtain⟨k,U,rfl,H⟩:=hrel;by_cases hlt:k<s.size
  ·have z:AL (NQ s[k]=A9->s.data.toList.all NQ=A9):=by intro M;rw[List.all_eq_false];exact⟨s[k],by rw[show s[k]=s.data.toList[k]'(by simpa using hlt)from rfl];exact DU _,by simp[M]⟩
   have I:AL (NQ s[k]=A3->(s.data.toList.take (k+1)).all NQ=A3):=by intro Q;rw[kN s k hlt,List.all_append,H.out];simp[Q]
   cases h:NQ s[k];·go_wp2_with(go_at_call 274;refine(a8I _ _).mono ?_;rintro e w'⟨rfl,rfl⟩);go_ret;exact⟨Eb (by rw[b.out,z.out h];rfl),rfl⟩
   go_wp2_with(go_at_call 274;refine(a8I _ _).mono ?_;rintro e w'⟨rfl,rfl⟩);go_round;case rel=>exact⟨k+1,by omega,by go_num,A5 (I.out h)⟩
   case measure=>simp[BJ];omega
  have y:AL (s.data.toList.all NQ=A3):=by refine A5 ?_;rw[<-XX (l:=s.data.toList) (i:=k) (by simp;omega)];exact H.out
  cases K:(s.size:Int)==16;all_goals go_wp2;go_ret;exact⟨Eb (by rw[b.out,y.out,K];rfl),rfl⟩
def Eo(x:BO):zz:=x.1.1++⟨#[32]⟩++x.1.2++⟨#[32]⟩++x.2
structure Ns(x:BO):Prop where
 ps:∀k:Nat,x.1.1.data.toList[k]?≠Y 32
 v32:∀k:Nat,x.1.2.data.toList[k]?≠Y 32
 aBZ:∀k:Nat,x.2.data.toList[k]?≠Y 32
 module:V.JN x.1.1 x.1.2=Z
 sum:Qb x.2=A3
 size:x.1.1.size<=1000/\x.1.2.size<=40/\x.2.size<=1000
def aKN{x:BO}(h:Ns x):V.pieces 32 (Eo x).data.toList=[x.1.1.data.toList,x.1.2.data.toList,x.2.data.toList]:=by
 have e:(Eo x).data.toList=x.1.1.data.toList++32::(x.1.2.data.toList++32::x.2.data.toList):=by unfold Eo;simp[qq]
 rw[e,V.pv 32 _ _ h.ps,V.pv 32 _ _ h.v32,V.pw 32 _ h.aBZ]
def a4e(x:BO)(h:Ns x):(Eo x).size<=3000:=by have:=h.size;unfold Eo;simp[a'0];have e:(⟨#[32]⟩:zz).size=1:=rfl;omega
def aXE(x:BO)(m:Int)(w:A0)(h:Ns x)(y:w.cell? ⟨0,0,Z⟩=Y (A7 A8 m)):Ai A6 174 #[J (Eo x),J ⟨#[32]⟩] w λe w'=>e=AZ (A4 (Y ⟨w.heap.size,0,Z⟩) 3 3)/\w'.heap[w.heap.size]?=Y (AF #[J x.1.1,J x.1.2,J x.2] 9)/\AX w.heap.size w w':=by
 have hs:=a4e x h;refine(Tryz.strings_Split (Eo x) ⟨#[32]⟩ m w (by omega) y (by decide)).mono ?_;rintro e w'⟨rfl,rfl⟩;have s:=V.qF (Eo x) ⟨#[32]⟩ 32 rfl;have b:=Lib.splitB_all ⟨#[32]⟩ (by decide) 0 _ (Eo x) rfl;rw[aKN h]at s;have z:Lib.splitB ⟨#[32]⟩ 0 (VM (Eo x) ⟨#[32]⟩) (Eo x)=[x.1.1,x.1.2,x.2]:=by rw[V.qK s];simp[V.texts]
 rw[z]at b⊢;have hc:VM (Eo x) ⟨#[32]⟩+1=3:=by simpa using b.symm
 rw[hc];exact⟨rfl,Pz w _,(BF _ _).alloc (Ae _) _⟩
def aKY(x:BO)(m:Int)(w:A0)(h:Ns x)(hm:w.cell? ⟨0,0,Z⟩=Y (A7 A8 m)):Ai A6 119 #[J (Eo x)] w λe w'=>e=AZ (Ay #[HB x,Af A3])/\AX w.heap.size w w':=by
 have R:AX w.heap.size w (w.alloc (AF #[J ⟨#[]⟩,J ⟨#[]⟩,J ⟨#[]⟩] 217)):=(BF _ w).alloc (Ae _) _;have I:=A5 (aXE x m (w.alloc (AF #[J ⟨#[]⟩,J ⟨#[]⟩,J ⟨#[]⟩] 217)) h (BL hm _));have S:=A5 R;have X:=A5 hm;have FW:=A5 h;clear R h hm;go_enter Tryz.func119,Tryz.ntmps119;go_wp2_with(go_at_call 174;refine I.out.mono ?_;rintro e b⟨rfl,MF,Au⟩;have Gc:=A5 MF;have c:=A5 Au;clear MF Au);obtain⟨⟨p,v⟩,s⟩:=x;have f3:AL (AX w.heap.size w b):=A5 (S.out.trans (c.out.mono S.out.size));have EF:(w.alloc (AF #[J ⟨#[]⟩,J ⟨#[]⟩,J ⟨#[]⟩] 217)).heap[w.heap.size]?=Y (AF #[J ⟨#[]⟩,J ⟨#[]⟩,J ⟨#[]⟩] 217):=F7 _ _ _ rfl;have J1:AL (b.heap[w.heap.size]?=Y (AF #[J ⟨#[]⟩,J ⟨#[]⟩,J ⟨#[]⟩] 217)):=A5 (H2 c.out EF);have es:(w.alloc (AF #[J ⟨#[]⟩,J ⟨#[]⟩,J ⟨#[]⟩] 217)).heap.size=w.heap.size+1:=by simp
 have hx:=Gc.out;rw[es]at hx;simp only at hx;have c0:b.cell? ⟨w.heap.size+1,0,Z⟩=Y (J p):=by rw[Ao hx];rfl
 have c1:b.cell? ⟨w.heap.size+1,1,Z⟩=Y (J v):=by rw[Ao hx];rfl
 have c2:b.cell? ⟨w.heap.size+1,2,Z⟩=Y (J s):=by rw[Ao hx];rfl
 have rg:w.heap.size+1<b.heap.size:=FA (h:=c0);have Dv:=A5 hx;clear I Gc EF hx c es;go_wp2_with fail;go_region_held2 λwx=>wx.cell? ⟨w.heap.size+1,0,Z⟩=Y (J p)/\wx.cell? ⟨w.heap.size+1,1,Z⟩=Y (J v)/\wx.cell? ⟨w.heap.size+1,2,Z⟩=Y (J s)(go_keep)(fail);have K:AL ((b.alloc (AF #[J p,J v,J s] 217)).drew.heap[b.heap.size]?=Y (AF #[J p,J v,J s] 217)):=A5 (F7 b _ _ rfl);have d:AL ((b.alloc (AF #[J p,J v,J s] 217)).drew.heap[w.heap.size]?=Y (AF #[J ⟨#[]⟩,J ⟨#[]⟩,J ⟨#[]⟩] 217)):=A5 ((EO b _ _ (by omega)).trans J1.out);have M:AL (AX w.heap.size w (b.alloc (AF #[J p,J v,J s] 217)).drew):=A5 (IK (f3.out.alloc (by omega) _) 1);have oR:(b.alloc (AF #[J p,J v,J s] 217)).drew.heap.size=b.heap.size+1:=by simp[World.drew]
 generalize(b.alloc (AF #[J p,J v,J s] 217)).drew=W at K d M oR⊢;have a0:W.cell? ⟨b.heap.size,0,Z⟩=Y (J p):=by rw[Ao K.out];rfl
 have a1:W.cell? ⟨b.heap.size,1,Z⟩=Y (J v):=by rw[Ao K.out];rfl
 have FY:W.cell? ⟨b.heap.size,2,Z⟩=Y (J s):=by rw[Ao K.out];rfl
 have Le:W.cell? ⟨0,0,Z⟩=Y (A7 A8 m):=Am M.out X.out;have N:0<w.heap.size:=FA (h:=X.out);have I2:b.heap.size≠w.heap.size:=by omega
 have Fy:w.heap.size≠0:=by omega
 clear c0 c1 c2 Dv J1;go_wp2_with fail;have hp:=FW.out.size.1;have hv:=FW.out.size.2.1;have hs:=FW.out.size.2.2;have f:=FW.out.module;have o:=FW.out.sum;simp only at hp hv hs f o;have Hu:AL (∀wx,AX W.heap.size W wx->wx.cell? ⟨b.heap.size,0,Z⟩=Y (J p)/\wx.cell? ⟨b.heap.size,1,Z⟩=Y (J v)/\wx.cell? ⟨b.heap.size,2,Z⟩=Y (J s)/\wx.cell? ⟨w.heap.size,0,Z⟩=Y (J ⟨#[]⟩)/\wx.cell? ⟨w.heap.size,1,Z⟩=Y (J ⟨#[]⟩)/\wx.cell? ⟨w.heap.size,2,Z⟩=Y (J ⟨#[]⟩)/\wx.frozen? ⟨w.heap.size,0,Z⟩=A9/\wx.frozen? ⟨w.heap.size,1,Z⟩=A9/\wx.frozen? ⟨w.heap.size,2,Z⟩=A9):=by refine A5 λwx Q=>?_;have N:=H2 Q K.out;have H:=H2 Q d.out;exact⟨by rw[Ao N];rfl,by rw[Ao N];rfl,by rw[Ao N];rfl,by rw[Ao H];rfl,by rw[Ao H];rfl,by rw[Ao H];rfl,E6 H 0,E6 H 1,E6 H 2⟩
 have Cm:AL (∀wx,AX W.heap.size W wx->∀x y z,(((wx.setCell ⟨w.heap.size,0,Z⟩ x).setCell ⟨w.heap.size,1,Z⟩ y).setCell ⟨w.heap.size,2,Z⟩ z).cell? ⟨b.heap.size,0,Z⟩=Y (J p)/\(((wx.setCell ⟨w.heap.size,0,Z⟩ x).setCell ⟨w.heap.size,1,Z⟩ y).setCell ⟨w.heap.size,2,Z⟩ z).cell? ⟨b.heap.size,1,Z⟩=Y (J v)/\(((wx.setCell ⟨w.heap.size,0,Z⟩ x).setCell ⟨w.heap.size,1,Z⟩ y).setCell ⟨w.heap.size,2,Z⟩ z).cell? ⟨b.heap.size,2,Z⟩=Y (J s)):=by
  refine A5 λwx Q x y z=>?_;obtain⟨FK,Bp,C8,-⟩:=Hu.out wx Q;have a:∀i j:Nat,(⟨w.heap.size,i,Z⟩:Ak)≠⟨b.heap.size,j,Z⟩:=λi j h=>I2 (congrArg Addr.block h).symm;refine⟨?_,?_,?_⟩;·rw[Kn (h:=a _ _),Kn (h:=a _ _),Kn (h:=a _ _)];exact FK
  ·rw[Kn (h:=a _ _),Kn (h:=a _ _),Kn (h:=a _ _)];exact Bp
  rw[Kn (h:=a _ _),Kn (h:=a _ _),Kn (h:=a _ _)];exact C8
 have Nr:AX W.heap.size W W.drew:=⟨rfl,rfl,rfl,Ae _,λ_ _=>rfl⟩;have U:=A5 (xt p v m W.drew (by omega) (by omega) Le);have u:=A5 o;have A:=A5 f;clear f o Le;go_region_held2 λwx=>wx.cell? ⟨b.heap.size,0,Z⟩=Y (J p)/\wx.cell? ⟨b.heap.size,1,Z⟩=Y (J v)/\wx.cell? ⟨b.heap.size,2,Z⟩=Y (J s)(first|(go_keep;done)|exact Cm.out _ F.out _ _ _)(first|(go_at_call 123;refine U.out.mono ?_;rintro e wa⟨r,rfl,A2,Lb⟩;rw[A.out]at A2;(obtain rfl:r=Ad Z:=A2);have P:=Nr.trans Lb;(obtain⟨F3,e1,e2,Co,Dy,J6,LX,nD,Vn⟩:=Hu.out wa P);have F:=A5 P;clear P Lb)|(go_at_call 195;refine(aQC s _ (by unfold BH;omega)).mono ?_;rintro e HZ⟨rfl,rfl⟩;rw[u.out]));go_wp2_with fail;(try simp only[Exit.then]);have D:=F2 _ w.heap.size 2 _ _ (J s) (F2 _ w.heap.size 1 _ _ (J v) (F2 HZ w.heap.size 0 _ _ (J p) (H2 F.out d.out)));refine Md (results_cell_tmp (p:=2) (q:=3) (ty:=217) rfl _ _ w.heap.size 217 _ _ _ rfl D aEv rfl (by kernel_rfl)) rfl ?_;have bi:=M.out.trans (F.out.mono M.out.size);exact⟨rfl,((bi.setCell (p:=⟨w.heap.size,0,Z⟩) (Ae _) _).setCell (p:=⟨w.heap.size,1,Z⟩) (Ae _) _).setCell (p:=⟨w.heap.size,2,Z⟩) (Ae _) _⟩
def aSG(v:A1)(E:List BO)(x:BO)(m:Int)(w:A0)(hv:Iw w v E)(d9:E.length<=1000000)(hs:∀y∈E,y.1.2.size<=40)(hx:x.1.2.size<=40)(hlt:∀y,E.getLast?=Y y->DO y.1 x.1<0)(M:w.cell? ⟨0,0,Z⟩=Y (A7 A8 m)):Ai A6 120 #[v,HB x] w λe w'=>e=AZ (Af A3)/\AX w.heap.size w w':=by
 obtain⟨a,c,rfl,d⟩:=hv.open;obtain⟨⟨p,b⟩,s⟩:=x;have H:AL (AX w.heap.size w (w.alloc (AF #[J p,J b,J s] 217))):=A5 ((BF _ w).alloc (Ae _) _);have Bs:=A5 M;by_cases U:E.length=0;·have u:E=[]:=tO U;subst u;clear hv d M hlt hs U;simp only[HB,tR];go_enter Tryz.func120,Tryz.ntmps120;go_wp2_with fail;go_quiet(fail);go_wp2;go_ret;exact⟨rfl,IK H.out _⟩
 have I:E.length-1<E.length:=by omega
 obtain⟨g,rfl,c0,c1,c2⟩:=d (E.length-1) I;have K:DO E[E.length-1].1 (p,b)<0:=hlt _ (by rw[List.getLast?_eq_getElem?,K1 I]);have f:E[E.length-1].1.2.size<=40:=hs _ (DU I);generalize E[E.length-1]=y at c0 c1 c2 K f;obtain⟨⟨DL,v'⟩,o⟩:=y;simp only at c0 c1 c2 K f;have EU:g<w.heap.size:=FA (h:=c0);clear hv d hlt hs;generalize E.length=N at*;obtain⟨n,hn⟩:∃n,n=N-1:=⟨_,rfl⟩;rw[<-hn]at c0 c1 c2;have i6:((N:Int)==0)=A9:=by simp;omega
 have Mr:(N:Int)-1<(N:Int):=by omega
 have P:(0:Int)<=(N:Int)-1:=by omega
 have OL:((N:Int)-1).toNat=n:=by omega
 have R:(1:Int)<=(N:Int):=by omega
 have F5:A8.wrap ((N:Int)-1)=(N:Int)-1:=by rw[VK];omega
 clear hn I U;simp only[HB];go_enter Tryz.func120,Tryz.ntmps120;go_wp2_with fail;have Q:(w.alloc (AF #[J p,J b,J s] 217)).heap[w.heap.size]?=Y (AF #[J p,J b,J s] 217):=F7 _ _ _ rfl;have A:(w.alloc (AF #[J p,J b,J s] 217)).cell? ⟨w.heap.size,0,Z⟩=Y (J p):=by rw[Ao Q];rfl
 have d1:(w.alloc (AF #[J p,J b,J s] 217)).cell? ⟨w.heap.size,1,Z⟩=Y (J b):=by rw[Ao Q];rfl
 have d2:(w.alloc (AF #[J p,J b,J s] 217)).cell? ⟨w.heap.size,2,Z⟩=Y (J s):=by rw[Ao Q];rfl
 have c0:=BL c0 (AF #[J p,J b,J s] 217);have c1:=BL c1 (AF #[J p,J b,J s] 217);have c2:=BL c2 (AF #[J p,J b,J s] 217);have D:=BL M (AF #[J p,J b,J s] 217);have S:=A5 K;clear Q M K;generalize w.alloc (AF #[J p,J b,J s] 217)=W at H A d1 d2 c0 c1 c2 D⊢;have Eu:=A5 (u4 ((DL,v'),o) ((p,b),s) m W.drew f hx D);have X:AL (∀wx,AX W.heap.size W wx->wx.cell? ⟨g,n*3,Z⟩=Y (J DL)/\wx.cell? ⟨g,n*3+1,Z⟩=Y (J v')/\wx.cell? ⟨g,n*3+2,Z⟩=Y (J o)/\wx.cell? ⟨w.heap.size,0,Z⟩=Y (J p)/\wx.cell? ⟨w.heap.size,1,Z⟩=Y (J b)/\wx.cell? ⟨w.heap.size,2,Z⟩=Y (J s)):=A5 λwx z=>⟨Am z c0,Am z c1,Am z c2,Am z A,Am z d1,Am z d2⟩;have Nr:AX W.heap.size W W.drew:=⟨rfl,rfl,rfl,Ae _,λ_ _=>rfl⟩;go_region_held2 λwx=>wx.cell? ⟨g,n*3,Z⟩=Y (J DL)/\wx.cell? ⟨g,n*3+1,Z⟩=Y (J v')/\wx.cell? ⟨g,n*3+2,Z⟩=Y (J o)/\wx.cell? ⟨w.heap.size,0,Z⟩=Y (J p)/\wx.cell? ⟨w.heap.size,1,Z⟩=Y (J b)/\wx.cell? ⟨w.heap.size,2,Z⟩=Y (J s)(go_keep)(first|(go_at_call 133;refine Eu.out.mono ?_;rintro e wa⟨rfl,F,-⟩;have q:=Nr.trans F;(obtain⟨u,e1,e2,Co,Dy,J6⟩:=X.out wa q);have FC:=A5 q;clear q F));go_wp2;go_ret;exact⟨Eb (decide_eq_true S.out),H.out.trans (FC.out.mono H.out.size)⟩
def a4h(x:BO):(Gf x).data.toList=(Eo x).data.toList++[10]:=by unfold Gf Eo;simp[qq]
def nI(x:BO)(K:List BO):Be (x::K)=(Eo x).data.toList++10::Be K:=by unfold Be;rw[tP,a4h];simp
def a8D:∀(l r:zx),10∉l->M_ (l++10::r) [10]=(l.length:Int)
 |[],r,_=>by simp[M_]
 |b::l,r,h=>by
  have s:b≠10:=λe=>h (by simp[e]);have y:=a8D l r λe=>h (by simp[e]);simp only[Kq,M_];have h2:gq [10] (b::(l++10::r))=A9:=by simp[gq,Gu s]
  have h3:((l.length:Int)==-1)=A9:=by simp
  simp[h2,y,h3]
def aJs(l r:zx)(h:10∉l):Gr (l++10::r) [10]=(l,r,A3):=by unfold Gr;rw[a8D l r h,if_pos (by omega),cu,tT];simp
def aJn(x:BO)(K:List BO)(m:Int)(w:A0)(h:10∉(Eo x).data.toList)(hs:(Be (x::K)).length<4294967281)(b:w.cell? ⟨0,0,Z⟩=Y (A7 A8 m)):Ai A6 118 #[J ⟨(Be (x::K)).toArray⟩,J ⟨#[10]⟩] w λe w'=>e=AZ (Ay #[J (Eo x),J ⟨(Be K).toArray⟩,Af A3])/\∃n,w'=w.drewN n:=by
 refine(Tryz.strings_Cut _ _ m w (by show(Be (x::K)).toArray.size<_;rw[I7];exact hs) b).mono ?_;rintro e w'⟨rfl,h2⟩;refine⟨?_,h2⟩;have e1:Gr (Ha (Be (x::K)).toArray).data.toList (Ha #[10]).data.toList=((Eo x).data.toList,Be K,A3):=by show Gr (Be (x::K)) [10]=_;rw[nI];exact aJs _ _ h
 rw[e1]
structure Wn(K:List BO):Prop where
 each:∀x∈K,Ns x
 line:∀x∈K,10∉(Eo x).data.toList
 Tb:K.Pairwise λa b=>DO a.1 b.1<0
 hh:K.length<=1000000
 size:(Be K).length<4294967281
def zN:A1->Nat|J s=>s.size|_=>0
def uR(K:List BO)(k:Nat)(h:k<K.length):Be (K.drop k)=Be (K[k]::K.drop (k+1)):=by rw[<-List.drop_eq_getElem_cons h]
def aKP(K:List BO)(k:Nat):(Be (K.drop k)).length<=(Be K).length:=by
 have e:Be K=Be (K.take k)++Be (K.drop k):=by unfold Be;rw[<-XT,d']
 rw[e];simp
def a4i{E:List BO}(h:w.ownsRow B 217 3 v E.length (G6 E)):Iw w v E:=by
 rcases h.2 with⟨b,h2⟩|⟨g,c,a,hv,_⟩;·exact AD ⟨b,tO h2⟩
 subst hv;exact AJ ⟨g,c,rfl,nH h⟩
def aQO(K:List BO)(h:K.Pairwise λa b=>DO a.1 b.1<0)(k:Nat)(z:k<K.length):∀y,(K.take k).getLast?=Y y->DO y.1 K[k].1<0:=by intro y hy;have H:y∈K.take k:=List.mem_of_getLast? hy;obtain⟨j,s,rfl⟩:=List.mem_iff_getElem.1 H;rw[aGz];simp at s;exact List.pairwise_iff_getElem.1 h j k (by omega) z (by omega)
def aQj(K:List BO)(m:Int)(w:A0)(h:Wn K)(hm:w.cell? ⟨0,0,Z⟩=Y (A7 A8 m)):Ai A6 57 #[J ⟨(Be K).toArray⟩] w λe w'=>∃v,e=AZ (Ay #[v,DS])/\Iw w' v K/\w'.ownsRow w.heap.size 217 3 v K.length (G6 K)/\AX w.heap.size w w':=by
 obtain⟨i0,hi,EF,DF,CO⟩:=Ko j_;have U:=A5 h;have q:=A5 hm;have wB:=h.hh;clear h hm;go_enter Tryz.func57,Tryz.ntmps57;go_wp2;go_loopw[0,4]λt v wr=>∃k:Nat,k<=K.length/\t=J ⟨(Be (K.drop k)).toArray⟩/\AL (wr.ownsRow w.heap.size 217 3 v k (G6 (K.take k))/\AX w.heap.size w wr)(λt _ _=>zN t);case atStart=>exact⟨0,by omega,rfl,A5 ⟨⟨by simp[G6],AD ⟨rfl,rfl⟩⟩,BF _ _⟩⟩
 case round=>
  obtain⟨k,hk,rfl,H⟩:=hrel;obtain⟨Aa,hb⟩:=H.out;have z:=A5 Aa;have I:=A5 hb;clear H Aa hb;by_cases hlt:k<K.length
  ·have A:K[k]∈K:=DU hlt;have Dv:=A5 (U.out.each _ A);have c:=U.out.line _ A;have X:(Be (K[k]::K.drop (k+1))).length<4294967281:=by rw[<-uR K k hlt];exact Nat.lt_of_le_of_lt (aKP K k) U.out.size
   have hcut:=aJn K[k] (K.drop (k+1)) m wr c X (Am I.out q.out);rw[<-uR K k hlt]at hcut;have f:=A5 hcut;have D:=A5 (aQO K U.out.Tb k hlt);have g_:AL (∀y∈K.take k,y.1.2.size<=40):=A5 λy hy=>(U.out.each y (aH4 hy)).size.2.1;have o:(Be (K.drop (k+1))).length<(Be (K.drop k)).length:=by rw[uR K k hlt,nI];simp;omega
   have i6:((Ha (Be (K.drop k)).toArray).toList==[])=A9:=by
    have AE:(Ha (Be (K.drop k)).toArray).toList=Be (K.drop k):=by rw[VO]
    rw[AE];cases he:Be (K.drop k)with|nil=>rw[he]at o;simp at o|cons a l=>rfl
   have Cm:AL (G6 (K.take (k+1))=G6 (K.take k)++[J K[k].1.1,J K[k].1.2,J K[k].2]):=A5 (by rw[Um K k hlt,a4g]);have GP:AL (zN (J ⟨(Be (K.drop (k+1))).toArray⟩)<zN (J ⟨(Be (K.drop k)).toArray⟩)):=A5 (by show(Be (K.drop (k+1))).toArray.size<(Be (K.drop k)).toArray.size;rw[I7,I7];exact o);clear hcut c X o A;generalize K[k]=x at Dv f D Cm;obtain⟨⟨p,v⟩,s⟩:=x;obtain⟨L9,Ia,rfl⟩:=Ln z.out;generalize Ha (Be (K.drop k)).toArray=S at f i6 GP⊢;have F6:w.heap.size<=wr.heap.size:=I.out.size;go_wp2_with(first|(go_at_call 118;refine f.out.mono ?_;rintro e wc⟨rfl,nq,rfl⟩;have F:=A5 (IK (BF wr.heap.size wr) nq))|(go_at_call 119;refine(aKY ((p,v),s) m _ Dv.out (Am F.out (Am I.out q.out))).mono ?_;rintro e M⟨rfl,L0⟩;have P:=A5 (F.out.trans L0);clear L0));have oS:(K.take k).length=k:=by simp;omega
   have d:AL (wr.ownsRow w.heap.size 217 3 (A4 L9 k Ia) (K.take k).length (G6 (K.take k))):=A5 (by rw[oS];exact z.out);have N:AL (AX wr.heap.size wr (M.alloc (AF #[J p,J v,J s] 217))):=A5 (P.out.alloc P.out.size _);have Q:=A5 (F7 M (AF #[J p,J v,J s] 217) _ rfl);refine(aSG _ (K.take k) ((p,v),s) m _ ((a4i d.out).below N.out) (by omega) g_.out Dv.out.size.2.1 D.out (Am N.out (Am I.out q.out))).mono ?_;rintro e b⟨rfl,R⟩;have W:AL (AX wr.heap.size wr b):=A5 (N.out.trans (R.mono N.out.size));have hx:=H2 R Q.out;have f0:b.cell? ⟨M.heap.size,0,Z⟩=Y (J p):=by rw[Ao hx];rfl
   have Ep:b.cell? ⟨M.heap.size,1,Z⟩=Y (J v):=by rw[Ao hx];rfl
   have F4:b.cell? ⟨M.heap.size,2,Z⟩=Y (J s):=by rw[Ao hx];rfl
   have aaF:M.heap.size<b.heap.size:=FA (h:=f0);have ab0:wr.heap.size<=b.heap.size:=W.out.size;have aaR:k+1<=1000000:=by omega
   clear hx R Q N P F f Dv D g_ d oS i6;go_wp2_with(at_builtin;refine NB _ rfl _ _ 119 rfl w.heap.size 217 i0 (A_ #[J ⟨#[]⟩,J ⟨#[]⟩,J ⟨#[]⟩]) 3 48 VR hi EF DF CO rfl (by decide) _ _ _ rfl ((p7 z.out W.out).alloc _) ⟨b.heap.size,0,Z⟩ 1 1 [J p,J v,J s] rfl rfl ?c1 ?c2 ?c3 ?c4 ?c5 ?_);case c1=>exact a4k b p v s
   case c2=>intro u hu;simp at hu;rcases hu with rfl|rfl|rfl<;>rfl
   case c3=>unfold BH;omega
   case c4=>omega
   case c5=>simp;omega
   intro v' w3 Cz CF _;have EE:AX w.heap.size w w3:=((I.out.trans (W.out.mono F6)).alloc (by omega) _).grown CF (by simp;omega) λj H1=>(z.out.lt j H1).1;have HR:AL (w3.ownsRow w.heap.size 217 3 v' (k+1) (G6 (K.take (k+1)))/\AX w.heap.size w w3):=A5 ⟨by rw[Cm.out];exact Cz,EE⟩;clear EE Cz CF;go_wp2;exact⟨⟨k+1,by omega,rfl,HR⟩,GP.out⟩
  have Gi:k=K.length:=by omega
  subst Gi;rw[O3]at z;have j8:((Ha (Be (K.drop K.length)).toArray).toList==[])=A3:=by rw[List.drop_length,VO];rfl
  generalize Ha (Be (K.drop K.length)).toArray=S at j8⊢;go_wp2;go_ret2;exact⟨_,rfl,a4i z.out,z.out,I.out⟩
def aXU{P:Ap}{ops:Array Oper}{o:Oper}{a:Act}{K:Act->A0->Prop}{Q:Exit->Act->A0->Prop}{E:Prop}(H:A1->Prop)(d:o.guard=Z)(s x:C')(t:Aj)(AA:o.op=.call {callee:=.builtin .append,args:=#[s,x],argTypes:=#[t,t]})(base:Nat)(e:Aj)(i:TypeInfo)(z:A1)(size bytes:Nat)(AP:P.underlying t=Y (.slice e))(hi:P.info? e=Y i)(f:i.zero=Y z)(q:i.size=size)(A:i.bytes=bytes)(D:z.cells.size=size)(F:0<size)(N:∀u∈z.cells.toList,H u)(v:A1)(n:Nat)(xs:List A1)(hs:a.eval s=v)(Aa:w.ownsRow base e size v n xs)(R:Gv H w size v n)(ad:Ak)(m c:Nat)(b:List A1)(hx:a.eval x=A4 (Y ad) m c)(AE:b.length=m*size)(S:∀j u,b[j]?=Y u->w.cell? (ad.add j)=Y u)(I:∀u∈b,u.oneCell'=A3)(W:0<m)(M:n+m<=BH)(X:(n+m)*bytes<=140737488355328)(U:base<=w.heap.size)(h:∀y w',w'.ownsRow base e size y (n+m) (xs++b)->w.grownBy w' v.ownBlock->Gv H w' size y (n+m)->K (a.put o.dst y) w'):if Gt o (I6 ops a.tmps)=A3 then rr P o a w K Q else E:=by
 have bi:Gt o (I6 ops a.tmps)=A3:=by simp[Gt,d]
 rw[if_pos bi];obtain⟨y,w',A2,h2,h3,h4⟩:=aBV (P:=P) w H base t o.type e i z size bytes AP hi f q A D F N v n xs Aa R ad m c b AE S I W M X U;unfold rr Ab;simp only[AA,resolve,invoke,builtin,aFG,aFH,aFA,M',Gd,Kt,hs,hx,A2];exact h y w' h2 h3 h4
def NL:zz:=⟨#[97,46,116,108]⟩
structure h5(AY:Nat->Nat->Nat)(g5:Nat->Nat->List (Nat×Nat))(B:Nat)(w:A0)(q k:Nat)(r:Rel):Prop where
 path:r.p=V.mp q
 version:r.v=V.E9 (AY q k)
 pJ:r.m=Is (V.mp q) (g5 q k)
 D':r.D'=(g5 q k).map EZ
 file:∃b,r.BP=Y ⟨b,0,Z⟩/\r.B0=1/\B<=b/\w.heap[b]?=Y (AF #[J NL,J r.v] 77)
def h5.same{w':A0}{q k:Nat}{r:Rel}(h:h5 AY g5 B w q k r)(e:∀(b:Nat)(c:zw)(q:Nat×Nat),w.heap[b]?=Y (AF c 77 q)->w'.heap[b]?=w.heap[b]?):h5 AY g5 B w' q k r:=by obtain⟨y,h2,h3,h4,b,z,H,I,s⟩:=h;exact⟨y,h2,h3,h4,b,z,H,I,(e b _ _ s).trans s⟩
def Yg(v:A1):Prop:=isStr v∨v=A4 Z 0 0
structure Mi(AY:Nat->Nat->Nat)(g5:Nat->Nat->List (Nat×Nat))(w:A0)(n:Nat)(v:A1)(wr:A0)(L:List Rel):Prop where
 len:L.length=n
 rel:∀j(h:j<L.length),h5 AY g5 w.heap.size wr (j/3) (j%3) L[j]
 own:wr.ownsRow w.heap.size 75 4 v n (MO L)
 spare:Gv Yg wr 4 v n
 below:AX w.heap.size w wr
def Mi.start(AY:Nat->Nat->Nat)(g5:Nat->Nat->List (Nat×Nat))(w:A0):Mi AY g5 w 0 (A4 Z 0 0) w []:=⟨rfl,λj h=>absurd h (gv j),XA _ _ _ _,Gv.nil _ _ _,BF _ _⟩
def Mi.drewN{AY:Nat->Nat->Nat}{g5:Nat->Nat->List (Nat×Nat)}{w:A0}{n:Nat}{v:A1}{wr:A0}{L:List Rel}(h:Mi AY g5 w n v wr L)(m:Nat):Mi AY g5 w n v (wr.drewN m) L:=⟨h.len,λj b=>(h.rel j b).same λ_ _ _ _=>rfl,h.own,h.spare,⟨h.below.os,h.below.tape,h.below.output,h.below.size,h.below.block⟩⟩
def Mi.next{n:Nat}{v':A1}{wr w3:A0}{L:List Rel}{b:Nat}(h:Mi AY g5 w n v wr L)(Q:b=wr.heap.size)(o1 o2:Df)(M:o1=AF #[J NL,J (V.E9 (AY (n/3) (n%3)))] 77)(H:((wr.alloc o1).alloc o2).grownBy w3 v.ownBlock)(r:Rel)(A2:r=⟨V.mp (n/3),V.E9 (AY (n/3) (n%3)),Is (V.mp (n/3)) (g5 (n/3) (n%3)),Y ⟨b,0,Z⟩,1,1,(g5 (n/3) (n%3)).map EZ⟩)(Aa:w3.ownsRow w.heap.size 75 4 v' (n+1) (MO L++[J r.p,J r.v,J r.m,A4 r.BP r.B0 r.BN]))(d:Gv Yg w3 4 v' (n+1)):Mi AY g5 w (n+1) v' w3 (L++[r]):=by
 have f:=h.below.size;have N:∀k o,((wr.alloc o1).alloc o2).heap[k]?=Y o->(∀a,o≠AF a 75 (0,0))->w3.heap[k]?=((wr.alloc o1).alloc o2).heap[k]?:=λk o s u=>by
  refine H.block k (Array.getElem?_eq_some_iff.1 s).1 λe=>?_;rcases h.own.2 with⟨rfl,_⟩|⟨g,cap,a,rfl,_,h3,_⟩;·cases e
  have e:k=g:=CH e;subst e;have:((wr.alloc o1).alloc o2).heap[k]?=Y (AF a 75 (0,0)):=by have y:=(Array.getElem?_eq_some_iff.1 h3).1;rw[EO _ _ _ (by simp;omega),EO _ _ _ (by omega)];exact h3
  rw[s]at this;exact u a (CH this)
 have x:∀k,k<wr.heap.size->((wr.alloc o1).alloc o2).heap[k]?=wr.heap[k]?:=λk s=>by rw[EO _ _ _ (by simp;omega),EO _ _ _ (by omega)]
 refine⟨by rw[H7,h.len];rfl,λj I=>?_,?_,d,?_⟩
 ·by_cases K:j<L.length;·rw[List.getElem_append_left K];refine(h.rel j K).same λk c q s=>?_;have y:=x k (Array.getElem?_eq_some_iff.1 s).1;rw[N k _ (y.trans s) λ_=>by simp];exact y
  have U:j=n:=by rw[H7,h.len]at I;simp at I;have:=h.len;omega
  subst U;have e:(L++[r])[j]=r:=by rw[List.getElem_append_right (by rw[h.len];exact Ae _)];simp[h.len]
  rw[e,A2];refine⟨rfl,rfl,rfl,rfl,b,rfl,rfl,by omega,?_⟩;have z:((wr.alloc o1).alloc o2).heap[b]?=Y o1:=by rw[EO _ _ _ (by simp;omega)];exact F7 _ _ _ Q
  rw[N b _ z λ_=>by rw[M];simp,z,M]
 ·rw[aBI];exact Aa
 exact((h.below.alloc f o1).alloc (by simp;omega) o2).grown H (by simp;omega) λk s=>(h.own.lt k s).1
def aXD:∀u∈(A_ #[J ⟨#[]⟩,J ⟨#[]⟩,J ⟨#[]⟩,A4 Z 0 0]).cells.toList,Yg u:=by
 intro u hu;have hu:u∈[J ⟨#[]⟩,J ⟨#[]⟩,J ⟨#[]⟩,A4 Z 0 0]:=hu;simp at hu;rcases hu with rfl|rfl;·exact AD ⟨_,rfl⟩
 exact AJ rfl
structure Pl(W wx:A0)(o1 o2:Df):Prop where
 heap:wx.heap=((W.alloc o1).alloc o2).heap
 os:wx.os=W.os
 tape:wx.tape=W.tape
 output:wx.output=W.output
def Pl.old{W wx:A0}{o1 o2:Df}(h:Pl W wx o1 o2)(b:Nat)(s:b<W.heap.size):wx.heap[b]?=W.heap[b]?:=by rw[h.heap,EO _ _ _ (by simp;omega),EO _ _ _ (by omega)]
def Pl.own{AY:Nat->Nat->Nat}{g5:Nat->Nat->List (Nat×Nat)}{w:A0}{n:Nat}{v:A1}{W wx:A0}{L:List Rel}{o1 o2:Df}(h:Pl W wx o1 o2)(b:Mi AY g5 w n v W L):wx.ownsRow w.heap.size 75 4 v n (MO L)/\Gv Yg wx 4 v n:=by
 obtain⟨a,y⟩:=b.own;refine⟨⟨a,y.imp (λz=>z) ?_⟩,b.spare.same λg cap hv=>?_⟩;·rintro⟨g,cap,c,s,h2,h3,h4⟩;exact⟨g,cap,c,s,h2,(h.old g (Array.getElem?_eq_some_iff.1 h3).1).trans h3,h4⟩
 subst hv;exact h.old g (b.own.lt g rfl).2
def Pl.src{W wx:A0}{o1:Df}{g2 AM fk g0:A1}(h:Pl W wx o1 (AF #[g2,AM,fk,g0] 75))(j:Nat)(u:A1)(b:[g2,AM,fk,g0][j]?=Y u):wx.cell? ((⟨W.heap.size+1,0,Z⟩:Ak).add j)=Y u:=by
 have s:wx.heap[W.heap.size+1]?=Y (AF #[g2,AM,fk,g0] 75):=by rw[h.heap];exact F7 _ _ _ (by simp)
 match j,b with|0,b=>simp at b;subst b;rw[Gw,Ao s];rfl|1,b=>simp at b;subst b;rw[Gw,Ao s];rfl|2,b=>simp at b;subst b;rw[Gw,Ao s];rfl|3,b=>simp at b;subst b;rw[Gw,Ao s];rfl
def Pl.next{AY:Nat->Nat->Nat}{g5:Nat->Nat->List (Nat×Nat)}{w:A0}{n q k:Nat}{v v':A1}{W wx w3:A0}{L:List Rel}{o2:Df}(s:wx.grownBy w3 v.ownBlock)(h:Pl W wx (AF #[J NL,J (V.E9 (AY q k))] 77) o2)(H:Mi AY g5 w n v W L)(N:n/3=q)(I:n%3=k)(M:w3.ownsRow w.heap.size 75 4 v' (n+1) (MO L++[J (V.mp q),J (V.E9 (AY q k)),J (Is (V.mp q) (g5 q k)),A4 (Y ⟨W.heap.size,0,Z⟩) 1 1]))(Q:Gv Yg w3 4 v' (n+1)):∃y,Mi AY g5 w (n+1) v' w3 y:=by subst N I;refine⟨_,H.next (b:=W.heap.size) rfl _ o2 rfl ⟨s.os.trans h.os,s.tape.trans h.tape,s.output.trans h.output,by rw[<-h.heap];exact s.size,λb z K=>?_⟩ _ rfl M Q⟩;rw[<-h.heap]at z⊢;exact s.block b z K
def aVx(AY:Nat->Nat->Nat)(g5:Nat->Nat->List (Nat×Nat))(d:Nat)(w:A0)(NX:∀q k,q<5->k<3->w.cell? ⟨d,q*3+k,Z⟩=Y (A7 A8 (AY q k:Int))/\AY q k<30)(GC:∀q k,q<5->k<3->∃a n c,w.cell? ⟨d,15+q*3+k,Z⟩=Y (A4 a n c)/\P2 w (A4 a n c) (g5 q k)/\(g5 q k).length<=5/\∀x∈g5 q k,x.1<5/\x.2<30):Ai A6 27 #[Ad (Y ⟨d,0,Z⟩)] w λe w'=>∃v L,e=AZ v/\Mi AY g5 w 15 v w' L:=by
 obtain⟨i0,hi,EF,DF,CO⟩:=Ko a8F;have DD:=A5 NX;have Ev:=A5 GC;clear NX GC;go_enter Tryz.func27,Tryz.ntmps27;go_wp2;go_loopw[3,4]λv p wr=>∃q:Nat,q<=5/\p=A7 A8 q/\AL (∃L,Mi AY g5 w (q*3) v wr L)(λ_ p _=>5-(BJ p).toNat);case atStart=>exact⟨0,by omega,rfl,A5 ⟨[],Mi.start AY g5 w⟩⟩
 case round=>
  obtain⟨q,AH,rfl,H⟩:=hrel;by_cases hlt:q<5
  ·go_wp2;rw[show Bz ((q:Int)<5)=A3 from decide_eq_true (by omega)];go_loopw[3,5]λv p wr=>∃k:Nat,k<=3/\p=A7 A8 k/\AL (∃L,Mi AY g5 w (q*3+k) v wr L)(λ_ p _=>3-(BJ p).toNat);case atStart=>exact⟨0,by omega,rfl,H⟩
   case round=>
    clear H;obtain⟨k,hk,rfl,H⟩:=hrel;by_cases f:k<3
    ·obtain⟨L,y⟩:=H.out;have C2:=A5 y;have s:=y.below;obtain⟨c0,m⟩:=DD.out q k hlt f;have c0:=Am s c0;obtain⟨N,U,Q,c1,IX,ix,A⟩:=Ev.out q k hlt f;have c1:=Am s c1;have SR:=A5 (IX.later s);have F6:w.heap.size<=wr.heap.size:=s.size;obtain⟨L9,Ia,rfl⟩:=Ln y.own;clear s IX y H;have jF:(q*3+k)/3=q:=by omega
     have D:(q*3+k)%3=k:=by omega
     go_wp2_with(go_at_call 22;refine(aCN (AY q k) m _).mono ?_;rintro e w1⟨rfl,K,rfl⟩);have aaX:d<w.heap.size:=FA (h:=(DD.out q k hlt f).1);have F:d≠wr.heap.size:=by omega
     have P:d≠wr.heap.size+1:=by omega
     have I:=A5 (C2.out.drewN K);have c1:(wr.drewN K).cell? ⟨d,15+q*3+k,Z⟩=Y (A4 N U Q):=c1;have S:(wr.drewN K).heap.size=wr.heap.size:=rfl;have z:AL (P2 (wr.drewN K) (A4 N U Q) (g5 q k)):=SR;clear c0 C2 SR;generalize wr.drewN K=W at I c1 S z⊢;rw[<-S]at F6 F P;clear S;have X:AL (∀wx:A0,wx.heap=W.heap∨(∃o,wx.heap=W.heap.push o)->P2 wx (A4 N U Q) (g5 q k)):=A5 λwx hx=>by
      have s:∀b,b<W.heap.size->wx.heap[b]?=W.heap[b]?:=λb s=>by
       rcases hx with e|⟨o,e⟩;·rw[e]
       rw[e,Array.getElem?_push_lt s,<-EP]
      rcases z.out with h|⟨g,c,h,hc⟩;·exact AD h
      exact AJ ⟨g,c,h,λj M=>⟨(FG (a:=⟨g,j*2,Z⟩) (s g (FA (h:=(hc j M).1)))).trans (hc j M).1,(FG (a:=⟨g,j*2+1,Z⟩) (s g (FA (h:=(hc j M).1)))).trans (hc j M).2⟩⟩
     have aOB:(V.mp q).size<=60:=by rw[Uu];omega
     go_region_held2 λwx=>wx.cell? ⟨d,15+q*3+k,Z⟩=Y (A4 N U Q)(first|(go_keep;done)|exact c1|exact BL c1 _|exact BL (BL c1 _) _|exact f0)(first|(go_at_call 21;refine(aAb q hlt _).mono ?_;rintro e wx⟨rfl,rfl⟩)|(go_at_call 51;refine(a9N (V.mp q) aOB _ (g5 q k) _ ix A (X.out _ (by first|exact AD rfl|exact AJ ⟨_,rfl⟩))).mono ?_;rintro e wx⟨rfl,JA,rfl⟩)|(refine aXU Yg rfl _ _ 47 rfl w.heap.size 75 i0 (A_ #[J ⟨#[]⟩,J ⟨#[]⟩,J ⟨#[]⟩,A4 Z 0 0]) 4 72 a0p hi EF DF CO rfl (by decide) aXD (A4 L9 (q*3+k) Ia) (q*3+k) (MO L) rfl (Pl.own (W:=W) (o1:=AF #[J NL,J (V.E9 (AY q k))] 77) (o2:=AF #[J (V.mp q),J (V.E9 (AY q k)),J (Is (V.mp q) (g5 q k)),A4 (Y ⟨W.heap.size,0,Z⟩) 1 1] 75) ⟨rfl,rfl,rfl,rfl⟩ I.out).1 (Pl.own (W:=W) (o1:=AF #[J NL,J (V.E9 (AY q k))] 77) (o2:=AF #[J (V.mp q),J (V.E9 (AY q k)),J (Is (V.mp q) (g5 q k)),A4 (Y ⟨W.heap.size,0,Z⟩) 1 1] 75) ⟨rfl,rfl,rfl,rfl⟩ I.out).2 ⟨W.heap.size+1,0,Z⟩ 1 1 [J (V.mp q),J (V.E9 (AY q k)),J (Is (V.mp q) (g5 q k)),A4 (Y ⟨W.heap.size,0,Z⟩) 1 1] rfl rfl (Pl.src (W:=W) (o1:=AF #[J NL,J (V.E9 (AY q k))] 77) ⟨rfl,rfl,rfl,rfl⟩) (by intro u hu;simp at hu;rcases hu with rfl|rfl|rfl|rfl<;>rfl) (by decide) (by unfold BH;omega) (by omega) (by simp;omega) ?_;intro v' w3 Cz CF Fx;have f0:=CF.cell ((FG (a:=⟨d,15+q*3+k,Z⟩) (Pl.old (W:=W) (o1:=AF #[J NL,J (V.E9 (AY q k))] 77) (o2:=AF #[J (V.mp q),J (V.E9 (AY q k)),J (Is (V.mp q) (g5 q k)),A4 (Y ⟨W.heap.size,0,Z⟩) 1 1] 75) ⟨rfl,rfl,rfl,rfl⟩ d (by omega))).trans c1) (λh=>by have:=(I.out.own.lt d h.symm).1;omega);have Sa:=A5 (Pl.next (W:=W) (o2:=AF #[J (V.mp q),J (V.E9 (AY q k)),J (Is (V.mp q) (g5 q k)),A4 (Y ⟨W.heap.size,0,Z⟩) 1 1] 75) CF ⟨rfl,rfl,rfl,rfl⟩ I.out jF D Cz Fx);clear Cz CF Fx));all_goals
      go_wp2;first
      |exact⟨⟨k+1,by omega,by go_num,Sa⟩,by simp[BJ];omega⟩
      |
       (
        go_roundw;case rel=>exact⟨k+1,by omega,by go_num,Sa⟩
        case measure=>simp[BJ];omega)
    have D:k=3:=by omega
    subst D;have R:=H;rw[show q*3+3=(q+1)*3 by omega]at R;go_wp2;first
    |exact⟨⟨q+1,by omega,by go_num,R⟩,by simp[BJ];omega⟩
    |
     (
      go_roundw;case rel=>exact⟨q+1,by omega,by go_num,R⟩
      case measure=>simp[BJ];omega)
  have aOg:q=5:=by omega
  subst aOg;go_wp2;go_ret;obtain⟨L,y⟩:=H.out;exact⟨_,L,rfl,y⟩
end
def qG{c:UInt8}:∀{s t a b:zx},c∉s->c∉t->s++c::a=t++c::b->s=t/\a=b|[],[],a,b,_,_,h=>by simpa using h|[],y::t,a,b,_,AP,h=>by injection h with h1 _;exact absurd (by rw[h1];simp) AP|x::s,[],a,b,hs,_,h=>by injection h with h1 _;exact absurd (by rw[<-h1];simp) hs|x::s,y::t,a,b,hs,AP,h=>by injection h with h1 h2;obtain⟨h3,h4⟩:=qG (λe=>hs (by simp[e])) (λe=>AP (by simp[e])) h2;exact⟨by rw[h1,h3],h4⟩
def YT{c:UInt8}{l:zx}(h:∀k:Nat,l[k]?≠Y c):c∉l:=λs=>by obtain⟨k,b⟩:=List.mem_iff_getElem?.1 s;exact h k b
def mv(x:BO):(Eo x).data.toList=x.1.1.data.toList++32::(x.1.2.data.toList++32::x.2.data.toList):=by unfold Eo;simp[qq]
def aWq{x y:BO}(hx:Ns x)(hy:Ns y)(s:x.1.1.data.toList.length=y.1.1.data.toList.length){pre:zx}(h:(Eo y).data.toList=pre++(Eo x).data.toList):x=y:=by
 have hc:∀z:BO,Ns z->(Eo z).data.toList.count 32=2:=λz s=>by rw[mv,a2Q,aGo,a2Q,aGo,List.count_eq_zero.2 (YT s.ps),List.count_eq_zero.2 (YT s.v32),List.count_eq_zero.2 (YT s.aBZ)]
 have I:pre.count 32=0:=by have:=congrArg (List.count 32) h;rw[a2Q,hc x hx,hc y hy]at this;omega
 rw[mv,mv,<-SV]at h;have hn:(32:UInt8)∉pre++x.1.1.data.toList:=λe=>by
  rcases List.mem_append.1 e with e|e;·exact List.count_eq_zero.1 I e
  exact YT hx.ps e
 obtain⟨H,h2⟩:=qG (YT hy.ps) hn h;obtain⟨h3,h4⟩:=qG (YT hy.v32) (YT hx.v32) h2;have K:pre=[]:=by have:=congrArg XV H;rw[H7]at this;exact List.length_eq_zero_iff.1 (by omega)
 rw[K,U9]at H;have e:∀{a b:zz},a.data.toList=b.data.toList->a=b:=mw;exact Q7 (Q7 (e H.symm) (e h3.symm)) (e h4.symm)
def a8n(x:BO)(hx:Ns x)(N:10∉(Eo x).data.toList):∀(K:List BO),(∀y∈K,Ns y/\10∉(Eo y).data.toList/\y.1.1.data.toList.length=x.1.1.data.toList.length)->∀b s:zx,Be K=b++((Eo x).data.toList++10::s)->x∈K
 |[],_,b,s,h=>by have:=congrArg XV h;simp[Be]at this
 |y::K,a,b,s,h=>by
  obtain⟨hy,I,M⟩:=a y (Je ..);rw[nI]at h;by_cases Q:(Eo y).data.toList.length<b.length
  ·have H:b=(Eo y).data.toList++10::b.drop ((Eo y).data.toList.length+1):=by
    have h2:=congrArg (a2c ((Eo y).data.toList.length+1)) h;rw[aHB (l₁:=b) (by omega),List.take_append,XX (by omega),Nat.add_sub_cancel_left]at h2;have h3:a2c 1 (10::Be K)=[10]:=by simp
    rw[h3]at h2;have h4:=(d' ((Eo y).data.toList.length+1) b).symm;rw[<-h2]at h4;simpa using h4
   rw[H,SV]at h;have h2:=aGk h;injection h2 with _ h2;exact Jd _ (a8n x hx N K (λz M=>a z (Jd _ M)) _ s h2)
  have H:(Eo y).data.toList=b++(Eo y).data.toList.drop b.length:=by have h2:=congrArg (a2c b.length) h;rw[tT,aHB (by omega)]at h2;have h3:=(d' b.length (Eo y).data.toList).symm;rw[h2]at h3;exact h3
  rw[H,SV]at h;have h2:=aGk h;have h3:(10:UInt8)∉(Eo y).data.toList.drop b.length:=λe=>I (List.mem_of_mem_drop e);obtain⟨h4,_⟩:=qG h3 N h2;rw[h4]at H;rw[aWq hx hy M.symm H];exact Je ..
def aQJ(x:BO){K:List BO}(h:x∈K):∃y s:zx,Be K=y++((Eo x).data.toList++10::s):=by obtain⟨a,b,rfl⟩:=List.append_of_mem h;refine⟨Be a,Be b,?_⟩;rw[<-nI];unfold Be;rw[XT]
section
open Go.RowKit Go.Sort
def a4H(a c0 g c b:Nat)(K E:List BO)(w:A0)(AV:w.cell? ⟨b,0,Z⟩=Y (A4 (Y ⟨a,0,Z⟩) K.length c0))(h1:w.cell? ⟨b,1,Z⟩=Y (A4 (Y ⟨g,0,Z⟩) E.length c))(y:∀j u,(G6 K)[j]?=Y u->w.cell? ⟨a,j,Z⟩=Y u)(hc:∀j u,(G6 E)[j]?=Y u->w.cell? ⟨g,j,Z⟩=Y u)(x:K.length+E.length<=1000000):Ai A6 131 #[A4 (Y ⟨b,0,Z⟩) 2 2] w λe w'=>∃v,e=AZ v/\w'.ownsRow w.heap.size 217 3 v (K++E).length (G6 (K++E))/\Below w.heap.size w w':=by
 obtain⟨i0,hi,d,f,m⟩:=Ko j_;have Eu:=A5 hc;have FW:=A5 y;have AI:=a5T (K.length+E.length) w x;rw[Int.natCast_add]at AI;have P1:=A5 AI;have M:AL (G6 (K++E)=G6 K++G6 E):=A5 (by unfold G6;rw[XT]);have A:¬(K.length:Int)<0:=by omega
 have X:¬(K.length:Int)+(E.length:Int)<0:=by omega
 have F5:A8.wrap ((K.length:Int)+(E.length:Int))=(K.length:Int)+(E.length:Int):=by rw[VK];omega
 have D:A8.wrap (K.length:Int)=(K.length:Int):=by rw[VK];omega
 clear hc y AI;go_enter Tryz.func131,Tryz.ntmps131;go_wp2;refine U1 3 ?_;rw[LL];go_wp2;rw[LL];go_wp2;rw[LL];go_wp2_with(go_at_call 204;refine P1.out.mono ?_;rintro e w1⟨GZ,rfl,GU,Au⟩;have N:=A5 GU;have h:=A5 Au;clear GU Au);obtain⟨L9,Ia,rfl⟩:=Ln N.out;have F:=Am h.out AV;have d1:=Am h.out h1;have P:=A5 h1;clear AV h1;refine U1 3 ?_;rw[LL];go_wp2_with(at_builtin;refine NB _ rfl _ _ 119 rfl w.heap.size 217 i0 (A_ #[J ⟨#[]⟩,J ⟨#[]⟩,J ⟨#[]⟩]) 3 48 VR hi d f m rfl (by decide) _ _ _ rfl N.out ⟨a,0,Z⟩ K.length c0 (G6 K) rfl (hZ K) λj u H=>by rw[Gw];first|exact Am h.out (FW.out j u H)|(rw[LO];exact Am h.out (FW.out j u H)) (uP K) (by unfold BH;omega) (by omega) h.out.size ?_);intro v' w2 I z _;have o:Below w.heap.size w w2:=h.out.grown z h.out.size λk y=>(N.out.lt k y).1;have Q:=A5 I;have s:=A5 o;clear I z o F d1;have d1:=Am s.out P.out;go_wp2;obtain⟨R,S,rfl⟩:=Ln Q.out;rw[LL];go_wp2_with(at_builtin;refine NB _ rfl _ _ 119 rfl w.heap.size 217 i0 (A_ #[J ⟨#[]⟩,J ⟨#[]⟩,J ⟨#[]⟩]) 3 48 VR hi d f m rfl (by decide) _ _ _ rfl Q.out ⟨g,0,Z⟩ E.length c (G6 E) rfl (hZ E) λj u H=>by rw[Gw];first|exact Am s.out (Eu.out j u H)|(rw[LO];exact Am s.out (Eu.out j u H)) (uP E) (by unfold BH;omega) (by omega) s.out.size ?_);intro v' w3 I z _;have q:Below w.heap.size w w3:=s.out.grown z s.out.size λk y=>(Q.out.lt k y).1;have U:=A5 I;have W:=A5 q;clear I z q;go_wp2;rw[LL];go_wp2;go_ret;exact⟨v',rfl,by rw[M.out,H7];exact U.out,W.out⟩
end
def MW:List BO->List BO->List BO->Prop|[],[],M=>M=[]|x::K,y::E,M=>∃b,(M=x::y::b∨M=y::x::b)/\MW K E b|_,_,_=>False
def xx{a b:Az}(h:DO a b<0):¬DO b a<=0:=by have:=WN.2.1 a b;omega
def nA:∀(K E M:List BO),K.map (·.1)=E.map (·.1)->K.Pairwise (λa b=>DO a.1 b.1<0)->M.Perm (K++E)->M.Pairwise (λa b=>DO a.1 b.1<=0)->MW K E M
 |[],[],M,_,_,hp,_=>by
  have:M=[]:=by simpa using hp
  exact this
 |[],y::E,M,h,_,_,_=>by simp at h
 |x::K,[],M,h,_,_,_=>by simp at h
 |x::K,y::E,M,h,A2,hp,hs=>by
  simp only[Gd,a_N]at h;obtain⟨R,hn⟩:=h;rw[tS]at A2;have S:∀z∈K,DO x.1 z.1<0:=A2.1;have X:∀z∈E,DO x.1 z.1<0:=λz c=>by have W:z.1∈E.map (·.1):=List.mem_map.2 ⟨z,c,rfl⟩;rw[<-hn]at W;obtain⟨u,hu,e⟩:=List.mem_map.1 W;rw[<-e];exact S u hu
  have H:∀z∈K++E,DO x.1 z.1<0:=λz c=>(List.mem_append.1 c).elim (S z) (X z);have N:M.Perm (x::y::(K++E)):=by refine hp.trans ?_;rw[Kq];refine a_L x ?_;exact List.perm_middle
  cases M with
  |nil=>exact absurd N.length_eq (by simp)
  |cons a M=>
   rw[tS]at hs;have step:∀(u v:BO),u.1=x.1->v.1=x.1->M.Perm (v::(K++E))->∃s,M=v::s/\s.Perm (K++E)/\s.Pairwise λa b=>DO a.1 b.1<=0:=by
    intro u v hu hv Q;cases M with
    |nil=>exact absurd Q.length_eq (by simp)
    |cons b M=>
     rw[tS]at hs;have hb:b∈v::(K++E):=Q.subset (Je ..);by_cases d:b=v;·subst d;exact⟨M,rfl,Q.cons_inv,hs.2.2⟩
     have f:b∈K++E:=by
      rcases List.mem_cons.1 hb with h|h;·exact absurd h d
      exact h
     have m:v∈b::M:=Q.symm.subset (Je ..);have o:v∈M:=by
      rcases List.mem_cons.1 m with h|h;·exact absurd h.symm d
      exact h
     have h1:=hs.2.1 v o;rw[hv]at h1;exact absurd h1 (xx (H b f))
   have AB:a∈x::y::(K++E):=N.subset (Je ..);by_cases q:a=x;·subst q;obtain⟨s,rfl,A,D⟩:=step a y rfl R.symm N.cons_inv;exact⟨s,AD rfl,nA K E s hn A2.2 A D⟩
   by_cases I:a=y;·subst I;have Lh:(a::M).Perm (a::x::(K++E)):=N.trans (a_M ..);obtain⟨s,rfl,A,D⟩:=step a x R.symm rfl Lh.cons_inv;exact⟨s,AJ rfl,nA K E s hn A2.2 A D⟩
   have U:a∈K++E:=by
    rcases List.mem_cons.1 AB with h|h;·exact absurd h q
    rcases List.mem_cons.1 h with h|h;·exact absurd h I
    exact h
   have F:x∈a::M:=N.symm.subset (Je ..);have P:x∈M:=by
    rcases List.mem_cons.1 F with h|h;·exact absurd h.symm q
    exact h
   exact absurd (hs.1 x P) (xx (H a U))
def MW.length:∀{K E M:List BO},MW K E M->M.length=2*K.length/\E.length=K.length|[],[],M,h=>by subst h;simp|x::K,y::E,M,h=>by obtain⟨z,s,b⟩:=h;have:=b.length;rcases s with rfl|rfl<;>simp<;>omega|[],_::_,_,h=>h.elim|_::_,[],_,h=>h.elim
def MW.at:∀{K E M:List BO},MW K E M->∀i(h:i<K.length)(he:i<E.length)(b:2*i<M.length)(s:2*i+1<M.length),M[2*i]=K[i]/\M[2*i+1]=E[i]∨M[2*i]=E[i]/\M[2*i+1]=K[i]
 |[],_,_,_,i,h,_,_,_=>by simp at h
 |x::K,[],_,AS,_,_,_,_,_=>AS.elim
 |x::K,y::E,M,AS,i,h,he,b,s=>by
  obtain⟨I,z,H⟩:=AS;cases i with
  |zero=>
   rcases z with rfl|rfl;·exact AD ⟨rfl,rfl⟩
   exact AJ ⟨rfl,rfl⟩
  |succ i=>rcases z with rfl|rfl;all_goals simp only[Kr]at h he b s;have:=H.at i (by omega) (by omega) (by omega) (by omega);simpa[show 2*(i+1)=2*i+1+1 from by omega]using this
section
open Go.RowKit
def aKx(k:Int)(p v:zz)(w:A0)(N:p.size<=1000000)(hv:v.size<=1000000):Ai A6 130 #[A7 A8 k,A_ #[J p,J v]] w λe w'=>∃r,e=AZ r/\KF w.heap.size w' r (Y (k,0,p,v))/\AX w.heap.size w w':=by
 have H:AL (AX w.heap.size w (w.alloc (AF #[J p,J v] 85))):=A5 ((BF _ w).alloc (Ae _) _);have K:=A5 (F7 w (AF #[J p,J v] 85) _ rfl);have s:=A5 (a4J p v (w.alloc (AF #[J p,J v] 85)) N hv);go_enter Tryz.func130,Tryz.ntmps130;go_wp2_with(go_at_call 136;refine s.out.mono ?_;rintro e b⟨rfl,z⟩;(have h:=A5 (H2 z K.out));(have Q:b.cell? ⟨w.heap.size,0,Z⟩=Y (J p):=by rw[Ao h.out];rfl);(have U:b.cell? ⟨w.heap.size,1,Z⟩=Y (J v):=by rw[Ao h.out];rfl);(have z0:=E6 h.out 0);(have Ew:=E6 h.out 1);have y:AL (AX w.heap.size w b):=A5 (H.out.trans (z.mono H.out.size));clear z);go_ret;have M:=(y.out.setCell (p:=⟨w.heap.size,0,Z⟩) (Ae _) (J p)).setCell (p:=⟨w.heap.size,1,Z⟩) (Ae _) (J v);have I:((b.setCell ⟨w.heap.size,0,Z⟩ (J p)).setCell ⟨w.heap.size,1,Z⟩ (J v)).heap.size=b.heap.size:=by simp
 refine⟨_,rfl,⟨b.heap.size,y.out.size,rfl,F7 _ _ _ I.symm⟩,M.alloc (by rw[I];exact y.out.size) _⟩
end
def yr{K E:List BO}(hn:K.map (·.1)=E.map (·.1))(i:Nat)(h:i<K.length)(b:i<E.length):E[i].1=K[i].1:=by have:=congrArg (·[i]?) hn;simpa[K1 h,K1 b]using this.symm
def MW.there{K E M:List BO}(h:MW K E M)(hn:K.map (·.1)=E.map (·.1))(q:Nat)(y:q<K.length)(z:q<E.length)(H:2*q<M.length)(I:2*q+1<M.length)(s:K[q].2≠E[q].2):M[2*q].1=K[q].1/\M[2*q+1].1=K[q].1/\M[2*q].2≠M[2*q+1].2:=by
 have e:=yr hn q y z;rcases h.at q y z H I with⟨a,b⟩|⟨a,b⟩;·rw[a,b];exact⟨rfl,e,s⟩
 rw[a,b];exact⟨e,rfl,λh=>s h.symm⟩
def MW.aLA{K E M:List BO}(h:MW K E M)(hn:K.map (·.1)=E.map (·.1))(Q:K.Pairwise λa b=>DO a.1 b.1<0)(q:Nat)(AH:q<K.length)(I:∀i(h:i<K.length)(c:i<E.length),i<q->K[i].2=E[i].2):∀k(s:k+1<M.length),k<2*q->M[k].1≠M[k+1].1∨M[k].2=M[k+1].2:=by
 intro k s z;obtain⟨AE,f⟩:=h.length;rcases a2k k with H|H
 ·obtain⟨d,rfl⟩:∃d,k=2*d:=⟨k/2,by omega⟩;right;have hs:=I d (by omega) (by omega) (by omega);rcases h.at d (by omega) (by omega) (by omega) s with⟨a,b⟩|⟨a,b⟩;·rw[a,b];exact hs
  rw[a,b];exact hs.symm
 obtain⟨d,rfl⟩:∃d,k=2*d+1:=⟨k/2,by omega⟩;left;have N:K[d].1≠K[d+1].1:=λe=>by have:=List.pairwise_iff_getElem.1 Q d (d+1) (by omega) (by omega) (by omega);rw[e,xy]at this;omega
 have e1:=yr hn d (by omega) (by omega);have e2:=yr hn (d+1) (by omega) (by omega);have AM:M[2*d+1].1=K[d].1:=by
  rcases h.at d (by omega) (by omega) (by omega) (by omega)with⟨_,b⟩|⟨_,b⟩;·rw[b];exact e1
  rw[b]
 have fk:M[2*d+1+1].1=K[d+1].1:=by
  have y:=h.at (d+1) (by omega) (by omega) (by omega) (by omega);have U:M[2*(d+1)]'(by omega)=M[2*d+1+1]:=rfl;rw[U]at y;rcases y with⟨a,_⟩|⟨a,_⟩;·rw[a]
  rw[a];exact e2
 rw[AM,fk];exact N
section
open Go.RowKit Go.Sort
variable{w:A0}{g:Nat}
def nG{E:List BO}(hc:LA w g E):∀j u,(G6 E)[j]?=Y u->w.cell? ⟨g,j,Z⟩=Y u:=λj u b=>by
 have z:j<E.length*3:=by rw[<-hZ];exact(List.getElem?_eq_some_iff.1 b).1
 have y:j/3<E.length:=by omega
 have Hm:=hc (j/3) y;have h:=λo u=>uO E (j/3) y o u;have e:j=j/3*3+j%3:=by omega
 have s:j%3<3:=by omega
 rw[e]at b⊢;generalize j%3=o at s b;match o,s,b with|0,_,b=>rw[h 0 _ (by omega) rfl]at b;rw[<-b];exact Hm.1|1,_,b=>rw[h 1 _ (by omega) rfl]at b;rw[<-b];exact Hm.2.1|2,_,b=>rw[h 2 _ (by omega) rfl]at b;rw[<-b];exact Hm.2.2
def aSV(D c0 g c:Nat)(m:Int)(K E:List BO)(q:Nat)(w:A0)(hk:LA w D K)(hc:LA w g E)(hn:K.map (·.1)=E.map (·.1))(A2:K.Pairwise λa b=>DO a.1 b.1<0)(d9:K.length+E.length<=1000000)(hs:∀x∈K++E,x.1.2.size<=40)(TD:∀x∈K,x.1.1.size<=1000000)(AH:q<K.length)(oJ:q<E.length)(AS:K[q].2≠E[q].2)(e4:∀i(h:i<K.length)(v2:i<E.length),i<q->K[i].2=E[i].2)(hm:w.cell? ⟨0,0,Z⟩=Y (A7 A8 m)):Ai A6 63 #[A4 (Y ⟨D,0,Z⟩) K.length c0,A4 (Y ⟨g,0,Z⟩) E.length c] w λe w'=>∃r,e=AZ (Ay #[A4 Z 0 0,EL 96 r])/\KF w.heap.size w' r (Y (7,0,K[q].1.1,K[q].1.2))/\Below w.heap.size w w':=by
 have Cm:=A5 hs;have Bs:=A5 hm;have XL:AL (∀M:List BO,M.Perm (K++E)->Oj M->MW K E M):=A5 λM a b=>nA K E M hn A2 a b;have S:AL (∀M:List BO,MW K E M->(∀k(hk:k+1<M.length),k<2*q->M[k].1≠M[k+1].1∨M[k].2=M[k+1].2)/\∀(AV:2*q<M.length)(h1:2*q+1<M.length),M[2*q].1=K[q].1/\M[2*q+1].1=K[q].1/\M[2*q].2≠M[2*q+1].2):=A5 λM h=>⟨h.aLA hn A2 q AH e4,λAV h1=>h.there hn q AH oJ AV h1 AS⟩;have X:=TD _ (DU AH);have a7m:=hs _ (List.mem_append_left _ (DU AH));have su:AL (K.length=E.length):=A5 (by simpa using congrArg XV hn);generalize a74:K[q]=z at S X a7m⊢;obtain⟨⟨aZb,aZd⟩,zs⟩:=z;simp only at S X a7m⊢;have Gz:Below w.heap.size w (w.alloc (AF #[A4 (Y ⟨D,0,Z⟩) K.length c0,A4 (Y ⟨g,0,Z⟩) E.length c] 119)):=(BF _ w).alloc (Ae _) _;have LM:=A5 Gz;have ME:=F7 w (AF #[A4 (Y ⟨D,0,Z⟩) K.length c0,A4 (Y ⟨g,0,Z⟩) E.length c] 119) _ rfl;have XF:=A5 (a4H D c0 g c w.heap.size K E (w.alloc (AF #[A4 (Y ⟨D,0,Z⟩) K.length c0,A4 (Y ⟨g,0,Z⟩) E.length c] 119)) (by rw[Ao ME];rfl) (by rw[Ao ME];rfl) (λj u H1=>Am Gz (nG hk j u H1)) (λj u H1=>Am Gz (nG hc j u H1)) d9);clear Gz ME hk hc hn A2 hs TD AS e4 hm a74;go_enter Tryz.func63,Tryz.ntmps63;go_wp2_with(go_at_call 131;refine XF.out.mono ?_;rintro e w1⟨GZ,rfl,GU,Au⟩;have J':=A5 GU;have A:AL (Below w.heap.size w w1):=A5 (LM.out.trans (Au.mono LM.out.size));(have a6U:=Au.size);clear GU Au);have aS:0<w.heap.size:=FA (h:=Bs.out);obtain⟨L9,Ia,rfl⟩:=Ln J'.out;have XG:=A5 (aBx _ _ m (K++E) w1 J'.out (by simp) (by simp;omega) Cm.out (Am A.out Bs.out));go_wp2_with(go_at_call 132;refine XG.out.mono ?_;rintro e I⟨rfl,R,hp,JR,o,b,hb,F⟩;have EM:=A5 hp;have XN:=A5 JR;have gf:=A5 o;(have C6:AL (Below w.heap.size w I):=A5 ⟨F.os.trans A.out.os,F.tape.trans A.out.tape,F.output.trans A.out.output,G3 A.out.size F.size,λk hk=>(F.block k (by have:=A.out.size;omega) (by simp at hb;omega)).trans (A.out.block k hk)⟩);clear hp JR o F hb);have mO:AL (R.length=2*K.length):=A5 (by rw[EM.out.length_eq,H7];have:=su.out;omega);have DD:AL (∀k(h:k<R.length),∃g',L9=Y ⟨g',0,Z⟩/\I.cell? ⟨g',k*3,Z⟩=Y (J R[k].1.1)/\I.cell? ⟨g',k*3+1,Z⟩=Y (J R[k].1.2)/\I.cell? ⟨g',k*3+2,Z⟩=Y (J R[k].2)):=by obtain⟨a,c',e,d0⟩:=gf.out.open;injection e with e;subst e;exact A5 d0
 have aGW:=A5 (S.out R (XL.out R EM.out XN.out)).1;have U3:=A5 (S.out R (XL.out R EM.out XN.out)).2;clear J' XF XG XL S;have a1y:AL ((K++E).length=R.length):=A5 EM.out.length_eq.symm;generalize(K++E).length=N at*;have oY:2*q+1<R.length:=by have:=mO.out;omega
 have nd:N=R.length:=a1y.out;subst nd;clear a1y;go_loopw[17]λi wr=>∃k:Nat,k<=2*q+1/\i=A7 A8 k/\AL (Below I.heap.size I wr)(λi _=>R.length-(BJ i).toNat);case atStart=>exact⟨0,by omega,rfl,A5 (BF _ _)⟩
 case round=>
  obtain⟨k,hk,rfl,Q⟩:=hrel;have hlt:k<R.length:=by omega
  obtain⟨g',rfl,c0,c1,c2⟩:=DD.out k hlt;have c0:=Am Q.out c0;have c1:=Am Q.out c1;have c2:=Am Q.out c2;have F6:I.heap.size<=wr.heap.size:=Q.out.size;have EU:g'<wr.heap.size:=FA (h:=c0);by_cases Fv:k=0
  ·subst Fv;generalize R[0]=x at c0 c1 c2;obtain⟨⟨p,v⟩,s⟩:=x;simp only at c0 c1 c2;go_wp2_with fail;go_quiet(fail);have U:AL (Below I.heap.size I ((wr.alloc (AF #[J p,J v,J s] 217)).drewN nq)):=A5 (IK (Q.out.alloc F6 _) _);go_wp2;first
   |exact⟨⟨1,by omega,by go_num,U⟩,by simp[BJ];omega⟩
   |
    (
     go_roundw;case rel=>exact⟨1,by omega,by go_num,U⟩
     case measure=>simp[BJ];omega)
  obtain⟨d,rfl⟩:∃d,k=d+1:=⟨k-1,by omega⟩;have iY:d<R.length:=by omega
  obtain⟨aLW,L1,f,d1,d2⟩:=DD.out d iY;injection L1 with L1;injection L1 with L1;subst L1;have f:=Am Q.out f;have d1:=Am Q.out d1;have d2:=Am Q.out d2;have Fv:(0:Int)<(d:Int)+1:=by omega
  have T4:(d:Int)+1<(R.length:Int):=by omega
  have iu:0<=(d:Int)+1/\(d:Int)+1<(R.length:Int):=⟨by omega,T4⟩;have e1:(d:Int)+1-1=(d:Int):=by omega
  have e2:(d:Int)<(R.length:Int):=by omega
  have U_:A6.eqGuardType A6.depth 85=A9:=by kernel_rfl
  by_cases HD:R[d].1=R[d+1].1
  ·have H:AL (∀wx,(KL Tp 85 (A_ #[J R[d].1.1,J R[d].1.2]) (A_ #[J R[d+1].1.1,J R[d+1].1.2])).run A6 wx=Ac (Af A3) wx):=A5 λwx=>by rw[ha,decide_eq_true HD]
   by_cases P:R[d].2=R[d+1].2
   ·have o:(R[d].2.toList==R[d+1].2.toList)=A3:=by rw[P];simp
    have ns:d≠2*q:=λe=>by subst e;exact(U3.out (by omega) oY).2.2 P
    clear HD P;generalize R[d+1]=x at c0 c1 c2 H o;generalize R[d]=y at f d1 d2 H o;obtain⟨⟨p,v⟩,s⟩:=x;obtain⟨⟨DL,v'⟩,C9⟩:=y;simp only at c0 c1 c2 f d1 d2 H o;have GB:=H.out;clear H;go_wp2_with fail;have f0:=BL f (AF #[J p,J v,J s] 217);have Ep:=BL d1 (AF #[J p,J v,J s] 217);have F4:=BL d2 (AF #[J p,J v,J s] 217);go_quiet(fail);have U:AL (Below I.heap.size I ((wr.alloc (AF #[J p,J v,J s] 217)).drewN nq)):=A5 (IK (Q.out.alloc F6 _) _);go_wp2;first
    |exact⟨⟨d+1+1,by omega,by go_num,U⟩,by simp[BJ];omega⟩
    |
     (
      go_roundw;case rel=>exact⟨d+1+1,by omega,by go_num,U⟩
      case measure=>simp[BJ];omega)
   have ns:d=2*q:=by
    rcases J2 d (2*q)with h|h
    ·rcases aGW.out d (by omega) h with h1|h1;·exact absurd HD h1
     exact absurd h1 P
    omega
   have j9:R[d+1].1=(aZb,aZd):=by subst ns;exact(U3.out (by omega) oY).2.1
   have o:(R[d].2.toList==R[d+1].2.toList)=A9:=by simp only[beq_eq_false_iff_ne,ne_eq];exact λh=>P ((dQ _ _).1 h)
   clear HD P ns;generalize R[d+1]=x at c0 c1 c2 H o j9;generalize R[d]=y at f d1 d2 H o;obtain⟨⟨p,v⟩,s⟩:=x;obtain⟨⟨DL,v'⟩,C9⟩:=y;simp only at c0 c1 c2 f d1 d2 H o j9;injection j9 with Ir Lk;subst Ir Lk;have GB:=H.out;clear H;go_wp2_with fail;have f0:=BL f (AF #[J p,J v,J s] 217);have Ep:=BL d1 (AF #[J p,J v,J s] 217);have F4:=BL d2 (AF #[J p,J v,J s] 217);go_quiet(fail);have U:AL (Below I.heap.size I ((wr.alloc (AF #[J p,J v,J s] 217)).drewN nq)):=A5 (IK (Q.out.alloc F6 _) _);have a0:((wr.alloc (AF #[J p,J v,J s] 217)).drewN nq).cell? ⟨wr.heap.size,0,Z⟩=Y (J p):=Am (IK (BF _ _) nq) (by rw[Ao (F7 wr _ _ rfl)];rfl);have a1:((wr.alloc (AF #[J p,J v,J s] 217)).drewN nq).cell? ⟨wr.heap.size,1,Z⟩=Y (J v):=Am (IK (BF _ _) nq) (by rw[Ao (F7 wr _ _ rfl)];rfl);generalize(wr.alloc (AF #[J p,J v,J s] 217)).drewN nq=W at U a0 a1⊢;have U2:AL (Below w.heap.size w W):=A5 (C6.out.trans (U.out.mono C6.out.size));go_wp2_with(go_at_call 130;refine(aKx 7 p v _ (by omega) (by omega)).mono ?_;rintro e w4⟨r,rfl,A2,EE⟩;have aGM:=A5 A2;have Hc:=A5 EE;clear A2 EE);go_ret2;exact⟨r,rfl,aGM.out.mono U2.out.size,U2.out.trans (Hc.out.mono U2.out.size)⟩
  have H:AL (∀wx,(KL Tp 85 (A_ #[J R[d].1.1,J R[d].1.2]) (A_ #[J R[d+1].1.1,J R[d+1].1.2])).run A6 wx=Ac (Af A9) wx):=A5 λwx=>by rw[ha,decide_eq_false HD]
  have ns:d≠2*q:=λe=>by subst e;exact HD ((U3.out (by omega) oY).1.trans (U3.out (by omega) oY).2.1.symm)
  clear HD;generalize R[d+1]=x at c0 c1 c2 H;generalize R[d]=y at f d1 d2 H;obtain⟨⟨p,v⟩,s⟩:=x;obtain⟨⟨DL,v'⟩,C9⟩:=y;simp only at c0 c1 c2 f d1 d2 H;have GB:=H.out;clear H;go_wp2_with fail;have f0:=BL f (AF #[J p,J v,J s] 217);have Ep:=BL d1 (AF #[J p,J v,J s] 217);have F4:=BL d2 (AF #[J p,J v,J s] 217);go_quiet(fail);have U:AL (Below I.heap.size I ((wr.alloc (AF #[J p,J v,J s] 217)).drewN nq)):=A5 (IK (Q.out.alloc F6 _) _);go_wp2;first
  |exact⟨⟨d+1+1,by omega,by go_num,U⟩,by simp[BJ];omega⟩
  |
   (
    go_roundw;case rel=>exact⟨d+1+1,by omega,by go_num,U⟩
    case measure=>simp[BJ];omega)
abbrev kX:A1:=A_ #[J ⟨#[]⟩,J ⟨#[]⟩,J ⟨#[]⟩]
def aJO(g o n c:Nat)(ty:Aj)(w:A0)(hn:0<n)(hs:∀j,j<n*3->(w.cell? ⟨g,o+j,Z⟩).isSome=A3)(y:∀j,j<n*3->w.frozen? ⟨g,o+j,Z⟩=A9):(kk #[119] ty #[A4 (Y ⟨g,o,Z⟩) n c]).run A6 w=Ac (Ay #[]) (w.setCells g o (Nv kX.cells n).toList):=by
 have h:(Nv kX.cells n).toList.length=n*3:=by simp[Nv,cc]
 have b:∀v∈(Nv kX.cells n).toList,v.oneCell'=A3:=by intro v hv;simp only[Nv,Array.toList_map,List.mem_map]at hv;obtain⟨r,H,rfl⟩:=hv;have h3:kX.cells.size=3:=rfl;have s:r%3<3:=gu _ (by omega);simp only[h3];generalize r%3=t at s;match t,s with|0,_=>rfl|1,_=>rfl|2,_=>rfl
 have z:=run_storeCells_cells (P:=A6) g o (Nv kX.cells n).toList 0 w (by rw[h];simpa using hs) (by rw[h];simpa using y) b;obtain⟨k,rfl⟩:∃k,n=k+1:=⟨n-1,by omega⟩;simp[kk,Q' VR,z]
def Wm(w:A0)(g j:Nat)(x:BO):Prop:=w.cell? ⟨g,j*3,Z⟩=Y (J x.1.1)/\w.cell? ⟨g,j*3+1,Z⟩=Y (J x.1.2)/\w.cell? ⟨g,j*3+2,Z⟩=Y (J x.2)
def a9o(x y:BO)(w:A0):(KL .neq 217 (HB x) (HB y)).run A6 w=Ac (Af (!Bz (x=y))) w:=by have h:(Ov gC 217 (HB x) (HB y)).run A6 w=Ac (Bz (x=y)) w:=a4o 9997 x y w;simp only[HB]at h;simp[KL,SL,h,Ly]
def a3_{B b:Nat}{a:A0}(y:B<=b):∀(s:List A1)(o:Nat)(w:A0),Below B a w->Below B a (w.setCells b o s)|[],_,_,h=>h|v::s,o,w,h=>a3_ y s (o+1) (w.setCell ⟨b,o,Z⟩ v) (h.setCell (p:=⟨b,o,Z⟩) y v)
def w8(w:A0)(g i:Nat)(cs:zw)(t:Aj)(b:Nat×Nat)(v:A1)(h:w.heap[g]?=Y (AF cs t b)):(w.setCell ⟨g,i,Z⟩ v).heap[g]?=Y (AF (cs.setIfInBounds i v) t b):=by rw[setCell_eq_setRow w g i cs t b v h];exact setRow_heap w g cs _ t _ h
def nQ{w':A0}{a b:zw}{t:Aj}{FI:Nat×Nat}(h:w.heap[g]?=Y (AF a t FI))(s:w'.heap[g]?=Y (AF b t FI))(o:Nat):w'.frozen? ⟨g,o,Z⟩=w.frozen? ⟨g,o,Z⟩:=by simp only[cf,h,s]
abbrev kI(w:A0)(g e:Nat)(x:BO):A0:=((w.setCell ⟨g,e*3,Z⟩ (J x.1.1)).setCell ⟨g,e*3+1,Z⟩ (J x.1.2)).setCell ⟨g,e*3+2,Z⟩ (J x.2)
def aBg(w:A0)(g e:Nat)(x:BO)(j:Nat)(y:BO)(h:j≠e)(hy:Wm w g j y):Wm (kI w g e x) g j y:=by
 have s:∀i b,i<3->b<3->(⟨g,e*3+b,Z⟩:Ak)≠⟨g,j*3+i,Z⟩:=λi b H h2 z=>by have:=congrArg Addr.off z;simp at this;omega
 have k:∀i,i<3->(kI w g e x).cell? ⟨g,j*3+i,Z⟩=w.cell? ⟨g,j*3+i,Z⟩:=λi hi=>by unfold kI;rw[Kn (h:=s i 2 hi (by omega)),Kn (h:=s i 1 hi (by omega))];exact Kn _ _ _ _ (s i 0 hi (by omega))
 exact⟨(k 0 (by omega)).trans hy.1,(k 1 (by omega)).trans hy.2.1,(k 2 (by omega)).trans hy.2.2⟩
def aBf(w:A0)(g e:Nat)(x:BO)(a:zw)(s:Aj)(b:Nat×Nat)(h:w.heap[g]?=Y (AF a s b)):(kI w g e x).heap[g]?=Y (AF (((a.setIfInBounds (e*3) (J x.1.1)).setIfInBounds (e*3+1) (J x.1.2)).setIfInBounds (e*3+2) (J x.2)) s b):=w8 _ g _ _ _ _ _ (w8 _ g _ _ _ _ _ (w8 w g _ _ _ _ _ h))
def aWt(w:A0)(g e:Nat)(x:BO)(a:zw)(s:Aj)(b:Nat×Nat)(h:w.heap[g]?=Y (AF a s b))(hs:e*3+3<=a.size):Wm (kI w g e x) g e x:=by have h3:=aBf w g e x a s b h;refine⟨?_,?_,?_⟩;all_goals rw[Ao h3];simp[HM];try omega
def aJY(g c:Nat)(K:List BO)(w:A0)(A2:∀j(h:j/2<K.length),Wm w g j K[j/2])(Ar:K.length<=400000)(AV:0<K.length)(i6:∀k(h:k+1<K.length),K[k+1]≠K[k])(hc:2*K.length<=c)(MA:c<=BH)(D:zw)(F:Aj)(FI:Nat×Nat)(JP:∀o,o<6*K.length->w.frozen? ⟨g,o,Z⟩=A9)(P:w.heap[g]?=Y (AF D F FI))(aN6:6*K.length<=D.size):Ai A6 134 #[A4 (Y ⟨g,0,Z⟩) (2*K.length) c] w λe w'=>∃c',e=AZ (A4 (Y ⟨g,0,Z⟩) K.length c')/\LA w' g K/\Below g w w':=by
 obtain⟨N,G7⟩:∃N,N=2*K.length:=⟨_,rfl⟩;rw[<-G7]at hc⊢;have RH:¬(N:Int)<2:=by omega
 have aa':(1:Int)<(N:Int):=by omega
 have F3:Wm w g 0 K[0]:=A2 0 AV;have e1:Wm w g 1 K[0]:=A2 1 AV;obtain⟨c0,c1,c2⟩:=F3;obtain⟨c4,c5,FN⟩:=e1;have C2:=A5 A2;have Lz:=A5 i6;have z:AL (∀wx,(KL Tp 217 (HB K[0]) (HB K[0])).run A6 wx=Ac (Af A3) wx):=A5 λwx=>by rw[a4q,decide_eq_true rfl]
 have EU:g<w.heap.size:=FA (h:=c0);have Ev:=A5 G7;clear A2 i6 G7;generalize K[0]=x at c0 c1 c2 c4 c5 FN z;obtain⟨⟨p,v⟩,s⟩:=x;simp only[HB,Nat.zero_mul,Nat.one_mul,LO]at c0 c1 c2 c4 c5 FN z;have R:=H6 c0;have k1:=H6 c1;have S:=H6 c2;have W:=H6 c4;have X:=H6 c5;have Ul:=H6 FN;have GB:=z.out;have ay:A6.follows fq=A3:=by kernel_rfl
 have U_:A6.eqGuardType A6.depth 217=A9:=by kernel_rfl
 clear z;go_enter Tryz.func134,Tryz.ntmps134;go_wp2_with fail;refine U1 1 ?_;rw[LL];go_wp2_with fail;refine mD ay (by kernel_rfl) ?_;repeat(go_big_quiet_step(fail))
 refine mC ?_;intro bm jT;obtain⟨⟨hX,k0⟩,J8⟩:=jT;have f:AL (Below w.heap.size w bm):=A5 (by rw[J8];exact lh w hX k0);clear J8 R k1 S W X Ul c0 c1 c2 c4 c5 FN GB;go_wp2_with fail;obtain⟨a,Ud⟩:∃a,a=N-1:=⟨_,rfl⟩;have sz:AL (a+1=2*K.length):=A5 (by have:=Ev.out;omega);rw[<-Ud];clear Ud;go_loopw[3,5]λi j wr=>∃k:Nat,1<=k/\k<=a/\j=A7 A8 k/\(∃e:Nat,i=A7 A8 e/\AL (e=k/2+1))/\AL ((∀j(h:j/2<K.length),k<=j->Wm wr g j K[j/2])/\(∀j(h:j<K.length),j<k/2+1->Wm wr g j K[j])/\Below g w wr/\∃D,wr.heap[g]?=Y (AF D F FI)/\6*K.length<=D.size)(λ_ j _=>a-(BJ j).toNat);case atStart=>
  refine⟨1,by omega,by have:=sz.out;omega,rfl,⟨1,rfl,A5 rfl⟩,A5 ⟨λj h _=>?_,λj h m=>?_,f.out.mono (by omega),D,?_,aN6⟩⟩;·obtain⟨M,Q,U⟩:=C2.out j h;exact⟨Am f.out M,Am f.out Q,Am f.out U⟩
  ·have Y8:j=0:=by omega
   subst Y8;obtain⟨M,Q,U⟩:=C2.out 0 h;exact⟨Am f.out M,Am f.out Q,Am f.out U⟩
  rw[f.out.block g EU];exact P
 case round=>
  obtain⟨k,IA,au,rfl,⟨e,rfl,mG⟩,H⟩:=hrel;by_cases hlt:k<a
  ·obtain⟨d,rfl⟩:∃d,k=d+1:=⟨k-1,by omega⟩;have bB:(d+2)/2<K.length:=by have:=sz.out;omega
   have Ms:(d+1)/2<K.length:=by omega
   have fk:=H.out.1 (d+2) bB (by omega);have AM:=H.out.1 (d+1) Ms (by omega);have Fv:(0:Int)<(d:Int)+1:=by omega
   have T4:(d:Int)+1<(a:Int):=by omega
   have iu:0<=(d:Int)+1/\(d:Int)+1<(a:Int):=⟨by omega,T4⟩;have e1:(d:Int)+1-1=(d:Int):=by omega
   have e2:(d:Int)<(a:Int):=by omega
   have wI:g<wr.heap.size:=FA (h:=AM.1);by_cases aaj:d%2=1
   ·have Dz:(d+2)/2=(d+1)/2:=by omega
    have z:AL (∀wx,(KL .neq 217 (HB K[(d+2)/2]) (HB K[(d+1)/2])).run A6 wx=Ac (Af A9) wx):=A5 λwx=>by rw[a9o,decide_eq_true (by simp only[Dz])];rfl
    have IL:=A5 fk;have Gc:=A5 AM;clear AM fk;generalize K[(d+2)/2]=x at IL z;generalize K[(d+1)/2]=y at Gc z;obtain⟨⟨p,v⟩,s⟩:=x;obtain⟨⟨DL,v'⟩,C9⟩:=y;have c0:wr.cell? ⟨g,3+(d+1)*3,Z⟩=Y (J p):=by rw[show 3+(d+1)*3=(d+2)*3 by omega];exact IL.out.1
    have c1:wr.cell? ⟨g,3+(d+1)*3+1,Z⟩=Y (J v):=by rw[show 3+(d+1)*3+1=(d+2)*3+1 by omega];exact IL.out.2.1
    have c2:wr.cell? ⟨g,3+(d+1)*3+2,Z⟩=Y (J s):=by rw[show 3+(d+1)*3+2=(d+2)*3+2 by omega];exact IL.out.2.2
    have c4:wr.cell? ⟨g,3+d*3,Z⟩=Y (J DL):=by rw[show 3+d*3=(d+1)*3 by omega];exact Gc.out.1
    have c5:wr.cell? ⟨g,3+d*3+1,Z⟩=Y (J v'):=by rw[show 3+d*3+1=(d+1)*3+1 by omega];exact Gc.out.2.1
    have FN:wr.cell? ⟨g,3+d*3+2,Z⟩=Y (J C9):=by rw[show 3+d*3+2=(d+1)*3+2 by omega];exact Gc.out.2.2
    simp only[HB]at z;have R:=H6 c0;have k1:=H6 c1;have S:=H6 c2;have W:=H6 c4;have X:=H6 c5;have Ul:=H6 FN;have GB:=z.out;clear z;go_wp2_with fail;refine mD ay (by kernel_rfl) ?_;repeat(go_big_quiet_step(fail))
    refine mC ?_;intro wx WG;obtain⟨⟨uF,yM⟩,YI⟩:=WG;have b:AL (Below wr.heap.size wr wx):=A5 (by rw[YI];exact lh wr uF yM);clear YI R k1 S W X Ul c0 c1 c2 c4 c5 FN GB;go_wp2;have wQ:d+1+1<=a:=by omega
    refine⟨⟨d+1+1,by omega,wQ,by go_num,⟨e,rfl,A5 (by have:=mG.out;omega)⟩,A5 ⟨λj h m=>?_,λj h m=>?_,H.out.2.2.1.trans (b.out.mono (by omega)),?_⟩⟩,by simp[BJ];omega⟩;·obtain⟨M,Q,U⟩:=H.out.1 j h (by omega);exact⟨Am b.out M,Am b.out Q,Am b.out U⟩
    ·obtain⟨M,Q,U⟩:=H.out.2.1 j h (by omega);exact⟨Am b.out M,Am b.out Q,Am b.out U⟩
    obtain⟨I,u,Fb⟩:=H.out.2.2.2;exact⟨I,(b.out.block g wI).trans u,Fb⟩
   have jR:(d+2)/2=(d+1)/2+1:=by omega
   have z:AL (∀wx,(KL .neq 217 (HB K[(d+2)/2]) (HB K[(d+1)/2])).run A6 wx=Ac (Af A3) wx):=A5 λwx=>by have C7:=Lz.out ((d+1)/2) (by omega);rw[a9o,decide_eq_false (by simp only[jR];exact C7)];rfl
   have du:e=(d+2)/2:=by have:=mG.out;omega
   have mI:AL (∀h:e<K.length,K[e]=K[(d+2)/2]):=A5 λh=>by simp only[du]
   have aaH:(e:Int)<(N:Int):=by have:=Ev.out;omega
   have aaG:(0:Int)<=(e:Int):=by omega
   have F5:A8.wrap ((e:Int)+1)=(e:Int)+1:=by rw[VK];omega
   have A:AL (e<=d+1/\e*3+3<=6*K.length/\e=(d+2)/2):=A5 ⟨by omega,by omega,du⟩;clear du;have IL:=A5 fk;have Gc:=A5 AM;clear AM fk;generalize K[(d+2)/2]=x at IL z mI;generalize K[(d+1)/2]=y at Gc z;obtain⟨⟨p,v⟩,s⟩:=x;obtain⟨⟨DL,v'⟩,C9⟩:=y;have c0:wr.cell? ⟨g,3+(d+1)*3,Z⟩=Y (J p):=by rw[show 3+(d+1)*3=(d+2)*3 by omega];exact IL.out.1
   have c1:wr.cell? ⟨g,3+(d+1)*3+1,Z⟩=Y (J v):=by rw[show 3+(d+1)*3+1=(d+2)*3+1 by omega];exact IL.out.2.1
   have c2:wr.cell? ⟨g,3+(d+1)*3+2,Z⟩=Y (J s):=by rw[show 3+(d+1)*3+2=(d+2)*3+2 by omega];exact IL.out.2.2
   have c4:wr.cell? ⟨g,3+d*3,Z⟩=Y (J DL):=by rw[show 3+d*3=(d+1)*3 by omega];exact Gc.out.1
   have c5:wr.cell? ⟨g,3+d*3+1,Z⟩=Y (J v'):=by rw[show 3+d*3+1=(d+1)*3+1 by omega];exact Gc.out.2.1
   have FN:wr.cell? ⟨g,3+d*3+2,Z⟩=Y (J C9):=by rw[show 3+d*3+2=(d+1)*3+2 by omega];exact Gc.out.2.2
   simp only[HB]at z;have R:=H6 c0;have k1:=H6 c1;have S:=H6 c2;have W:=H6 c4;have X:=H6 c5;have Ul:=H6 FN;have GB:=z.out;clear z;go_wp2_with fail;refine mD ay (by kernel_rfl) ?_;repeat(go_big_quiet_step(fail))
   refine mC ?_;intro wx WG;obtain⟨⟨uF,yM⟩,YI⟩:=WG;have b:AL (Below wr.heap.size wr wx):=A5 (by rw[YI];exact lh wr uF yM);have bJ:=Am b.out c0;have m1:=Am b.out c1;have bK:=Am b.out c2;obtain⟨I,u,Fb⟩:=H.out.2.2.2;have q:wx.heap[g]?=Y (AF I F FI):=(b.out.block g wI).trans u;have Rk:wx.cell? ⟨g,e*3,Z⟩=Y (I.getD (e*3) A'):=by rw[Ao q];have:=A.out;simp[zk,show e*3<I.size by omega]
   have o1:wx.cell? ⟨g,e*3+1,Z⟩=Y (I.getD (e*3+1) A'):=by rw[Ao q];have:=A.out;simp[zk,show e*3+1<I.size by omega]
   have o2:wx.cell? ⟨g,e*3+2,Z⟩=Y (I.getD (e*3+2) A'):=by rw[Ao q];have:=A.out;simp[zk,show e*3+2<I.size by omega]
   have z0:=(nQ P q (e*3)).trans (JP _ (by have:=A.out;omega));have Ew:=(nQ P q (e*3+1)).trans (JP _ (by have:=A.out;omega));have z2:=(nQ P q (e*3+2)).trans (JP _ (by have:=A.out;omega));have a1s:=A5 q;clear q u;clear YI R k1 S W X Ul c0 c1 c2 c4 c5 FN GB;go_wp2;have wQ:d+1+1<=a:=by omega
   have aaI:=A.out;refine⟨⟨d+1+1,by omega,wQ,by go_num,⟨e+1,by go_num,A5 (by omega)⟩,A5 ⟨λj h m=>?_,λj h m=>?_,?_,?_⟩⟩,by simp[BJ];omega⟩;·obtain⟨M,Q,U⟩:=H.out.1 j h (by omega);exact aBg wx g e ((p,v),s) j _ (by omega) ⟨Am b.out M,Am b.out Q,Am b.out U⟩
   ·by_cases iq:j=e;·subst iq;rw[mI.out h];exact aWt wx g j ((p,v),s) I F FI a1s.out (by omega)
    obtain⟨M,Q,U⟩:=H.out.2.1 j h (by omega);exact aBg wx g e ((p,v),s) j _ iq ⟨Am b.out M,Am b.out Q,Am b.out U⟩
   ·exact(((H.out.2.2.1.trans (b.out.mono (by omega))).setCell (p:=⟨g,e*3,Z⟩) (Ae _) _).setCell (p:=⟨g,e*3+1,Z⟩) (Ae _) _).setCell (p:=⟨g,e*3+2,Z⟩) (Ae _) _
   exact⟨_,aBf wx g e ((p,v),s) I F FI a1s.out,by simpa using Fb⟩
  have a6i:e=K.length:=by have:=mG.out;have:=sz.out;omega
  have aMU:N=2*K.length:=Ev.out;have h1:(e:Int)<=(N:Int):=by omega
  have h2:(0:Int)<=(e:Int):=by omega
  have h3:(e:Int)<=(c:Int):=by omega
  have h4:(N:Int)<=(c:Int):=by omega
  have Hl:¬c=e:=by omega
  have sk:=A5 a6i;have aG6:AL (k/2+1=e):=A5 mG.out.symm;obtain⟨I,u,Fb⟩:=H.out.2.2.2;have Hm:=λty E8=>aJO g (e*3) (N-e) E8 ty wr (by omega) λj m=>by rw[Ao u];simp[show e*3+j<I.size by omega] λj m=>(nQ P u _).trans (JP _ (by omega));have aHa:AL (∀o Ib,Below g w (wr.setCells g o Ib)):=A5 λo Ib=>a3_ (Ae _) Ib o wr H.out.2.2.1;clear a6i aMU;go_wp2;go_ret;refine⟨c,by rw[sk.out];rfl,λj m=>?_,aHa.out _ _⟩;obtain⟨M,Q,U⟩:=H.out.2.1 j m (by have:=sk.out;have:=aG6.out;omega);have iq:j<e:=by have:=sk.out;omega
  refine⟨?_,?_,?_⟩;·rw[a1L g _ _ _ _ λ_ _=>AD (by show j*3<e*3;omega)];exact M
  ·rw[a1L g _ _ _ _ λ_ _=>AD (by show j*3+1<e*3;omega)];exact Q
  rw[a1L g _ _ _ _ λ_ _=>AD (by show j*3+2<e*3;omega)];exact U
end
section
open Go.RowKit Go.Sort Go.Shelf
section
variable{bv:Type}[Inhabited bv]
def aX8{ρ:Ren}(Ar:lP A6 ρ)(k:Nat)(F:∀w,(VS (ρ.t 24)).run A6 w=Ac A3 w)(P:∀w,(Q0 (ρ.t 24)).run A6 w=Ac k w)(enc:bv->List A1)(hk:∀x,(enc x).length=k)(d:0<k)(h1:∀x,∀v∈enc x,v.oneCell'=A3)(M:bv->bv->Int)(bA:V.IM M)(I:Nat)(S:∀z w,(Me I z).run A6 w=Ac (VQ I z) w)(g cap:Nat)(l:List bv)(w:A0)(AE:l.length<=1000000)(q:g<w.heap.size)(hc:∀j(h:j<l.length)o,o<k->w.cell? ⟨g,j*k+o,Z⟩=(enc l[j])[o]?)(W:∀o,w.frozen? ⟨g,o,Z⟩=A9)(X:∀wx,(∀b,b<w.heap.size->b≠g->wx.heap[b]?=w.heap[b]?)->∀x y,Ai A6 I #[A_ (enc x).toArray,A_ (enc y).toArray] wx λe w'=>e=AZ (A7 A8 (M x y))/\Below wx.heap.size wx w'/\wx.drawn<=w'.drawn):Ai A6 (ρ.f 6) #[A4 (Y ⟨g,0,Z⟩) l.length cap,FU (Ek I) #[] #[]] w λe w'=>e=AZ (Ay #[])/\∃R:List bv,R.Perm l/\(R.Pairwise λa b=>M a b<=0)/\(∀j(h:j<R.length)o,o<k->w'.cell? ⟨g,j*k+o,Z⟩=(enc R[j])[o]?)/\Jw g w.heap.size w w'/\∀t,t<l.length*k->w'.frozen? ⟨g,t,Z⟩=A9:=by
 have u:gI enc k w g 0 l.toArray:=by
  intro t U;rw[sM,I7]at U;refine⟨?_,W _⟩;have H:t/k<l.length:=(a2h d).2 U;have Q:t%k<k:=gu _ d;have h2:=hc (t/k) H (t%k) Q;rw[id,a1D _ _ _ _ (by rw[I7];exact U)];have Vn:0+t=t/k*k+t%k:=by rw[LO,aHP];exact(aHL t k).symm
  rw[Vn,h2];have Vo:l.toArray[t/k]! =l[t/k]:=by rw[getElem!_pos _ _ (by rw[I7];exact H)];simp
  rw[Vo];exact nR _ _ (by rw[hk];exact Q)
 have wS:a0A A6 I #[] enc k M g 0 l.toArray.size w:=by intro m os Sl _ x y;refine(X (O0 enc k w g 0 m Sl os) (λb N c=>qE c N) x y).mono ?_;rintro e w'⟨rfl,N,K⟩;exact⟨rfl,ux N K⟩
 have h:=a09 Ar k F P enc hk h1 M (zG bA) I #[] g 0 cap l.toArray w S wS u q (by rw[I7];omega);rw[I7]at h;refine h.mono ?_;rintro e w'⟨rfl,s,n,os,hp,hs,rfl⟩;have K:s.size=l.length:=by rw[hp.1,I7]
 have TC:s.toList.Perm l:=by have h3:=hp.2.2;rw[<-K,fJ]at h3;rw[show l.toArray.extract 0 s.size=l.toArray from by rw[hp.1];exact fJ]at h3;simpa using h3
 have C7:gI enc k (O0 enc k w g 0 n s os) g 0 s:=by unfold O0;exact a1F _ _ _ _ _ _ _ (by rw[cb];exact q) (a1G _ _ _ _ _ _ _ (a1E _ _ _ _ _ _ _ u) (by rw[K,I7]))
 refine⟨rfl,s.toList,TC,?_,?_,⟨rfl,rfl,rfl,aBs,λb N c=>qE c N⟩,λt U=>?_⟩;·rw[a2_];intro i j hi H GS;have:=hs i j (Jf _) GS (by rw[<-K];simpa using H);unfold ZR at this;rw[decide_eq_false_iff_not]at this;rw[getElem!_pos s i (by simpa using hi),getElem!_pos s j (by simpa using H)]at this;have t:=bA.2.1 (s[i]'(by simpa using hi)) (s[j]'(by simpa using H));simp only[fM];omega
 ·intro j H o Q;have A:j<s.size:=by simpa using H
  have D:=(C7.cell A Q).1;rw[getElem!_pos s j A,LO]at D;rw[D];simp only[fM];exact(nR _ _ (by rw[hk];exact Q)).symm
 have HT:=(C7 t (by rw[sM,K];exact U)).2;rwa[LO]at HT
end
def aX5(g cap:Nat)(m:Int)(L:List BO)(w:A0)(U:L.length<=1000000)(hv:∀x∈L,x.1.2.size<=40)(N:g≠0)(Q:g<w.heap.size)(A2:LA w g L)(M:∀o,w.frozen? ⟨g,o,Z⟩=A9)(H:w.cell? ⟨0,0,Z⟩=Y (A7 A8 m)):Ai A6 132 #[A4 (Y ⟨g,0,Z⟩) L.length cap,FU (Ek 133) #[] #[]] w λe w'=>e=AZ (Ay #[])/\∃R,R.Perm L/\Oj R/\LA w' g R/\Jw g w.heap.size w w'/\∀t,t<L.length*3->w'.frozen? ⟨g,t,Z⟩=A9:=by
 have h:=aX8 Tryz.z6 3 a3I aBo dZ (λx=>rfl) (by omega) λx v hx=>by simp[dZ]at hx;rcases hx with rfl|rfl|rfl<;>rfl a3x (WN.back λx:bw=>x.1.1) 133 a4l g cap (UL L hv) w (by rw[d_];exact U) Q (λj b o z=>?_) M λwx c x y=>?_
 ·simp only[d_]at h;refine h.mono ?_;rintro e w'⟨rfl,R,hp,hs,hc,I,K⟩;refine⟨rfl,R.map (·.1),?_,?_,λj b=>?_,I,K⟩;·have:=hp.map (·.1);rwa[a4n]at this
  ·unfold Oj;rw[Q6];exact hs
  have s:j<R.length:=by simpa using b
  have k:=λo z=>hc j s o z;simp only[gp];exact⟨k 0 (by omega),k 1 (by omega),k 2 (by omega)⟩
 ·have s:j<L.length:=by rw[d_]at b;exact b
  have he:(UL L hv)[j].1=L[j]:=by simp[UL]
  have hc:=A2 j s;unfold dZ;rw[he];match o,z with|0,_=>exact hc.1|1,_=>exact hc.2.1|2,_=>exact hc.2.2
 exact u4 x.1 y.1 m wx x.2 y.2 ((FG (a:=⟨0,0,Z⟩) (c 0 (FA (h:=H)) (Gu N))).trans H)
end
def MW.V4{K M:List BO}(h:MW K K M)(j:Nat)(b:j<M.length)(y:j/2<K.length):M[j]=K[j/2]:=by
 obtain⟨z,_⟩:=h.length;rcases a2k j with s|s
 ·obtain⟨d,rfl⟩:∃d,j=2*d:=⟨j/2,by omega⟩;have e:2*d/2=d:=by omega
  simp only[e];rcases h.at d (by omega) (by omega) b (by omega)with⟨a,_⟩|⟨a,_⟩<;>exact a
 obtain⟨d,rfl⟩:∃d,j=2*d+1:=⟨j/2,by omega⟩;have e:(2*d+1)/2=d:=by omega
 simp only[e];rcases h.at d (by omega) (by omega) (by omega) b with⟨_,a⟩|⟨_,a⟩<;>exact a
def aBP{K:List BO}(s:K.Pairwise λa b=>DO a.1 b.1<0)(k:Nat)(h:k+1<K.length):K[k].1≠K[k+1].1:=λe=>by have:=List.pairwise_iff_getElem.1 s k (k+1) (by omega) h (by omega);rw[e,xy]at this;omega
def MW.calm{K M:List BO}(h:MW K K M)(z:K.Pairwise λa b=>DO a.1 b.1<0)(k:Nat)(s:k+1<M.length):M[k].1≠M[k+1].1∨M[k].2=M[k+1].2:=by
 obtain⟨H,_⟩:=h.length;rw[h.V4 k (by omega) (by omega),h.V4 (k+1) s (by omega)];by_cases y:(k+1)/2=k/2;·right;simp only[y]
 left;have e:(k+1)/2=k/2+1:=by omega
 simp only[e];exact aBP z (k/2) (by omega)
def aWx{w:A0}{g o:Nat}{v:A1}(h:w.cell? ⟨g,o,Z⟩=Y v):∃a t b,w.heap[g]?=Y (AF a t b)/\o<a.size:=by
 unfold FB at h;simp only at h;split at h;·rename_i cs t b s;exact⟨cs,t,b,s,(Array.getElem?_eq_some_iff.1 h).1⟩
 all_goals simp at h
section
open Go.RowKit Go.Sort
def aSX(F c0 g c:Nat)(m:Int)(K:List BO)(w:A0)(hk:LA w F K)(hc:LA w g K)(A2:K.Pairwise λa b=>DO a.1 b.1<0)(d9:K.length<=400000)(AV:0<K.length)(hs:∀x∈K,x.1.2.size<=40)(hm:w.cell? ⟨0,0,Z⟩=Y (A7 A8 m)):Ai A6 63 #[A4 (Y ⟨F,0,Z⟩) K.length c0,A4 (Y ⟨g,0,Z⟩) K.length c] w λe w'=>∃v,e=AZ (Ay #[v,DS])/\Iw w' v K/\Below w.heap.size w w':=by
 have Cm:AL (∀x∈K++K,x.1.2.size<=40):=A5 λx hx=>hs x (by simpa using hx);have Bs:=A5 hm;have S:=A5 A2;have XL:AL (∀M:List BO,M.Perm (K++K)->Oj M->MW K K M):=A5 λM a b=>nA K K M rfl A2 a b;have Gz:Below w.heap.size w (w.alloc (AF #[A4 (Y ⟨F,0,Z⟩) K.length c0,A4 (Y ⟨g,0,Z⟩) K.length c] 119)):=(BF _ w).alloc (Ae _) _;have LM:=A5 Gz;have ME:=F7 w (AF #[A4 (Y ⟨F,0,Z⟩) K.length c0,A4 (Y ⟨g,0,Z⟩) K.length c] 119) _ rfl;have XF:=A5 (a4H F c0 g c w.heap.size K K (w.alloc (AF #[A4 (Y ⟨F,0,Z⟩) K.length c0,A4 (Y ⟨g,0,Z⟩) K.length c] 119)) (by rw[Ao ME];rfl) (by rw[Ao ME];rfl) (λj u P=>Am Gz (nG hk j u P)) (λj u P=>Am Gz (nG hc j u P)) (by omega));clear Gz ME hk hc A2 hs hm;go_enter Tryz.func63,Tryz.ntmps63;go_wp2_with(go_at_call 131;refine XF.out.mono ?_;rintro e w1⟨GZ,rfl,GU,Au⟩;have J':=A5 GU;have A:AL (Below w.heap.size w w1):=A5 (LM.out.trans (Au.mono LM.out.size));(have a6U:=Au.size);clear GU Au);have aS:0<w.heap.size:=FA (h:=Bs.out);have W:(K++K).length=2*K.length:=by simp;omega
 rcases J'.out.2 with⟨_,el⟩|⟨N,E8,g6,rfl,L1,Gh,oM⟩;·exact absurd el (by omega)
 have EU:N<w1.heap.size:=(Array.getElem?_eq_some_iff.1 Gh).1;simp only[Fo]at L1;have XG:=A5 (aX5 N E8 m (K++K) w1 (by omega) Cm.out (by omega) EU (nH J'.out) (λo=>E6 Gh o) (Am A.out Bs.out));have sh:=A5 oM;have aG':=A5 Gh;refine XG.out.mono ?_;rintro e H⟨rfl,R,hp,JR,Cy,D,BG⟩;have GP:=A5 (XL.out R hp JR);have Hu:=A5 Cy;have X:AL (R.length=2*K.length):=A5 (by rw[hp.length_eq];exact W);have nd:(K++K).length=R.length:=hp.length_eq.symm;have aG4:AL (∀t,t<6*K.length->H.frozen? ⟨N,t,Z⟩=A9):=A5 λt AP=>BG t (by omega);have C6:AL (Below w.heap.size w H):=A5 ⟨D.os.trans A.out.os,D.tape.trans A.out.tape,D.output.trans A.out.output,G3 A.out.size D.size,λk hk=>(D.block k (by have:=A.out.size;omega) (by omega)).trans (A.out.block k hk)⟩;have a6v:N<H.heap.size:=by have:=D.size;omega
 have a1q:AL (2*K.length<=E8/\E8<=BH):=A5 ⟨by have:=sh.out.1;omega,sh.out.2.1⟩;have iN:R.length<=1000000:=by have:=X.out;omega
 rw[nd];clear hp JR Cy D BG oM Gh XF XG XL J' sh W nd aG';go_wp2;go_loopw[17]λi wr=>∃k:Nat,k<=R.length/\i=A7 A8 k/\AL (Below H.heap.size H wr)(λi _=>R.length-(BJ i).toNat);case atStart=>exact⟨0,by omega,rfl,A5 (BF _ _)⟩
 case round=>
  obtain⟨k,hk,rfl,z⟩:=hrel;by_cases hlt:k<R.length
  ·obtain⟨c0,c1,c2⟩:=Hu.out k hlt;have c0:=Am z.out c0;have c1:=Am z.out c1;have c2:=Am z.out c2;have F6:H.heap.size<=wr.heap.size:=z.out.size;have EU:N<wr.heap.size:=FA (h:=c0);by_cases Fv:k=0
   ·subst Fv;generalize R[0]=x at c0 c1 c2;obtain⟨⟨p,v⟩,s⟩:=x;simp only at c0 c1 c2;go_wp2_with fail;go_quiet(fail);have Q:AL (Below H.heap.size H ((wr.alloc (AF #[J p,J v,J s] 217)).drewN nq)):=A5 (IK (z.out.alloc F6 _) _);go_wp2;first
    |exact⟨⟨1,by omega,by go_num,Q⟩,by simp[BJ];omega⟩
    |
     (
      go_roundw;case rel=>exact⟨1,by omega,by go_num,Q⟩
      case measure=>simp[BJ];omega)
   obtain⟨d,rfl⟩:∃d,k=d+1:=⟨k-1,by omega⟩;have iY:d<R.length:=by omega
   obtain⟨f,U,d2⟩:=Hu.out d iY;have f:=Am z.out f;have U:=Am z.out U;have d2:=Am z.out d2;have Fv:(0:Int)<(d:Int)+1:=by omega
   have T4:(d:Int)+1<(R.length:Int):=by omega
   have iu:0<=(d:Int)+1/\(d:Int)+1<(R.length:Int):=⟨by omega,T4⟩;have e1:(d:Int)+1-1=(d:Int):=by omega
   have e2:(d:Int)<(R.length:Int):=by omega
   have U_:A6.eqGuardType A6.depth 85=A9:=by kernel_rfl
   by_cases HD:R[d].1=R[d+1].1
   ·have I:AL (∀wx,(KL Tp 85 (A_ #[J R[d].1.1,J R[d].1.2]) (A_ #[J R[d+1].1.1,J R[d+1].1.2])).run A6 wx=Ac (Af A3) wx):=A5 λwx=>by rw[ha,decide_eq_true HD]
    have GM:R[d].2=R[d+1].2:=(GP.out.calm S.out d (by omega)).resolve_left λh=>h HD;have I0:(R[d].2.toList==R[d+1].2.toList)=A3:=by rw[GM];simp
    clear HD GM;generalize R[d+1]=x at c0 c1 c2 I I0;generalize R[d]=y at f U d2 I I0;obtain⟨⟨p,v⟩,s⟩:=x;obtain⟨⟨DL,v'⟩,C9⟩:=y;simp only at c0 c1 c2 f U d2 I I0;have GB:=I.out;clear I;go_wp2_with fail;have f0:=BL f (AF #[J p,J v,J s] 217);have Ep:=BL U (AF #[J p,J v,J s] 217);have F4:=BL d2 (AF #[J p,J v,J s] 217);go_quiet(fail);have Q:AL (Below H.heap.size H ((wr.alloc (AF #[J p,J v,J s] 217)).drewN nq)):=A5 (IK (z.out.alloc F6 _) _);go_wp2;first
    |exact⟨⟨d+1+1,by omega,by go_num,Q⟩,by simp[BJ];omega⟩
    |
     (
      go_roundw;case rel=>exact⟨d+1+1,by omega,by go_num,Q⟩
      case measure=>simp[BJ];omega)
   have I:AL (∀wx,(KL Tp 85 (A_ #[J R[d].1.1,J R[d].1.2]) (A_ #[J R[d+1].1.1,J R[d+1].1.2])).run A6 wx=Ac (Af A9) wx):=A5 λwx=>by rw[ha,decide_eq_false HD]
   clear HD;generalize R[d+1]=x at c0 c1 c2 I;generalize R[d]=y at f U d2 I;obtain⟨⟨p,v⟩,s⟩:=x;obtain⟨⟨DL,v'⟩,C9⟩:=y;simp only at c0 c1 c2 f U d2 I;have GB:=I.out;clear I;go_wp2_with fail;have f0:=BL f (AF #[J p,J v,J s] 217);have Ep:=BL U (AF #[J p,J v,J s] 217);have F4:=BL d2 (AF #[J p,J v,J s] 217);go_quiet(fail);have Q:AL (Below H.heap.size H ((wr.alloc (AF #[J p,J v,J s] 217)).drewN nq)):=A5 (IK (z.out.alloc F6 _) _);go_wp2;first
   |exact⟨⟨d+1+1,by omega,by go_num,Q⟩,by simp[BJ];omega⟩
   |
    (
     go_roundw;case rel=>exact⟨d+1+1,by omega,by go_num,Q⟩
     case measure=>simp[BJ];omega)
  have Gi:k=R.length:=by omega
  subst Gi;have PG:=Hu.out (R.length-1) (by have:=X.out;omega);obtain⟨O9,OY,FI,UY,Fb⟩:=aWx (Am z.out PG.2.2);have v8:=aJY N E8 K wr (λj h=>by
   have P:j<R.length:=by have:=X.out;omega
   have q:=Hu.out j P;rw[GP.out.V4 j P h]at q;exact⟨Am z.out q.1,Am z.out q.2.1,Am z.out q.2.2⟩) (by omega) AV (λk h e=>aBP S.out k h (by rw[e])) a1q.out.1 a1q.out.2 O9 OY FI (λo AA=>by
   have e:wr.frozen? ⟨N,o,Z⟩=H.frozen? ⟨N,o,Z⟩:=by simp only[cf,z.out.block N a6v]
   rw[e];exact aG4.out o AA) UY (by have:=X.out;omega);rw[<-X.out]at v8;have sa:=A5 v8;clear v8 PG UY Fb;go_wp2_with(go_at_call 134;refine sa.out.mono ?_;rintro e w4⟨c',rfl,a6J,EE⟩;have aFr:=A5 a6J;have Hc:=A5 EE;clear a6J EE);go_ret2;exact⟨_,rfl,AJ ⟨N,c',rfl,aFr.out⟩,(C6.out.trans (z.out.mono C6.out.size)).trans (Hc.out.mono (by omega))⟩
end
end Go.Proofs.YtcfhleenecfghaaGreatDoor
