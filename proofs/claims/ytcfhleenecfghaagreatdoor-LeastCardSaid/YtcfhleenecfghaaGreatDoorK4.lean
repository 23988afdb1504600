import Derived.DeepKeys4
import Derived.Laws.MakeOwn
import Derived.Great.BuildSlice
import Derived.RegionTactic
import Derived.BigRegion
import Derived.Deep.Cut
import Derived.Deep.RegionHeld2
import Derived.Calls
import Derived.Laws.AppendOwnNone
import Derived.Shelf.SlSortCmp.WholeK
import Derived.Lib.QuietBelow
import Derived.Maps.AppendAt
import Derived.Shelf.SlSortCmp.NoneTotal
import Derived.Laws.StructEq
import Derived.Test.YtcfhleenecfghaaGreatDoorK3
set_option linter.all false
set_option maxHeartbeats 4000000
set_option maxRecDepth 100000
open Array renaming ext_getElem?->nD,extract_size->nE,getElem?_append_left->vU,getElem?_eq_getElem->ET,getElem?_eq_none->Pg,getElem?_modify->hV,getElem?_push->OX,getElem?_setIfInBounds->H5,getElem?_toList->Se,getElem_toList->nH,size_append->hY,size_setIfInBounds->a6m
open Bool renaming and_self->a6r,false->A5,true->A0
open ByteArray renaming mk->L0
open Decidable renaming decide->Bn
open Go renaming Addr->Aa,Calls->AZ,MapEntry->Ft,Obj->Du,Program->Ac,TypeId->A_,Value->A1,World->A',below_drewN->Je,below_regrown->aA5,binOp->Sx,bodyPost_ret->L3,callFunc->Pw,cell_regrown->Nn,heap_alloc_new->No,heap_setCell_same->EV,info_parts->IT,isAgg->aZT,keyOf->oj,maxLen->BK,redrawn->aZr,results->De,results_cell_row->Y0,rounds_succ->RI,run_equalIn_agg->aAB,run_loadVar_row->aAC,run_make_own->oo,run_underlying->Np,sizeOf->UK,size_zeroCells->aAF,undef->Y,wpList_append_own->L4,wpList_append_own_none->a_J,wpQuiet_nil->aAG,wp_loop_rounds->aY,wp_region_quiet_below->aAH,yielded->Gu
open Go.Addr renaming add->Ht
open Go.BinOp renaming and->a7',eql->aYw
open Go.ByteArray renaming toList_eq->Vg
open Go.Calls renaming quiet_of->hf,quiet_of_same->Si
open Go.Departure renaming mixedOrders->aZF
open Go.Ending renaming returned->hq
open Go.Exit renaming inBlock->Sl
open Go.Fn renaming func->aYI
open Go.Instr renaming buildSlice->dH,checkKey->iB,entryStore->dI,findKey->UE,lookup->Hv,makeMap->aQ,mapEntry->Xk,mapUpdate->Vl
open Go.IntKind renaming i64->Po,u64->UF,u8->aYN,wrap_i64->dM,wrap_u64->w_
open Go.Lib renaming BuilderAt->dN,IsBuilder->R9,byteCells->Pp,cell_of_heap->Ad,compareBytes->Hg,frozen_of_heap->Dv,strCells->Xn,toList_data->Xo
open Go.Lit renaming int->iI
open Go.MapKept renaming run_getObj_map->Oc,run_setObj_map->dP
open Go.Next renaming enter->aYl
open Go.Obj renaming cells->BE,map->oF
open Go.Op renaming bytesLess->a8D,equal->Ss,equalIn->Mt,maxDepth->iP
open Go.Oper renaming wp->oL
open Go.Program renaming arrayLen->a8I,elem->aU8,fieldsOf->a8J,keyLits->a8K
open Go.Proofs renaming enters_of->aZh,intOf->Ay,ltOf->da,sortWorldK->Pv
open Go.Proofs.AnyQ renaming slices_SortFunc->a_5
open Go.Proofs.SlLaysF0 renaming n6->oN
open Go.Proofs.Tryz renaming prog->A4,underlying119->dW,underlying130->oV,underlying131->aV,underlying184->oW,underlying299->iX,underlying47->oZ,underlying513->a9X,underlying57->iY,underlying85->Xv,underlying9->L2,underlying99->xK
open Go.Region renaming wanted->EY
open Go.Result renaming andThen->K_,andThen_ok->a9q,ok->aY6
open Go.RowKit renaming Below->AS,Hid->AP,intOf->L_,run_makeMap->xQ
open Go.RowKit.Below renaming alloc->a9s,heap_alloc->oa,heap_setCell->F_,refl->B9
open Go.Sem renaming run_bind->a9w,run_pure->a9x
open Go.Sort renaming HoldsK->aZO,ahead->a_A,holdsK_ahead->a_B,holdsK_grow->a_C,holdsK_putRowK->a_D,size_flatK->a_E,size_putRowK->db
open Go.TypeDesc renaming struct->aYu
open Go.Value renaming agg->dd,bool->aY5,formed->a9y,func->aYK,iface->aYJ,int->IS,map->E3,nilIface->aYA,ownBlock->Sv,pointer->aY4,slice->As,string->AI,tuple->aY8
open Go.WideMaps renaming KeyLaw->aA0
open Go.World renaming block_lt_of_cell?->Ff,cell?_of_block->F4,cell?_setCell_other->Sw,cell?_setCell_same->oe,ownsRow_nil->Vo
open List renaming Nodup->pT,append_assoc->YJ,cons_append->ML,ext_getElem?->yO,flatMap_append->jJ,getElem?_append_left->jL,getElem?_append_right->T4,getElem?_eq_getElem->Ld,getElem?_eq_none->yR,getElem?_map->W',getElem?_modify->aBT,getElem_cons_succ->e5,getElem_inj->a_L,getElem_map->pZ,getElem_mem->EC,getElem_of_eq->aBX,getElem_take->a_M,length->pa,length_append->HN,length_cons->Jg,length_take->W1,map_append->YK,map_cons->GU,map_map->W2,map_nil->K8,map_pmap->aB_,map_toArray->Le,mem_cons->Hw,mem_cons_of_mem->I8,mem_of_getElem?->pc,mem_singleton->ak,mem_zipIdx'->aBc,mem_zipIdx_iff_getElem?->aBd,nodup_append->aBe,nodup_nil->aBg,not_mem_nil->H8,pairwise_iff_getElem->aBh,pairwise_map->YM,replicate->jN,singleton_append->yS,size_toArray->Kd,take_length->On,take_succ_eq_append_getElem->UU,toList_toArray->al,zipIdx_append->aBm
open List.Pairwise renaming imp_of_mem->aUS
open List.Perm renaming append_right->aUU
open Nat renaming add_assoc->pk,div_lt_iff_lt_mul->aBs,le_refl->AX,le_trans->HA,lt_of_lt_of_le->K9,mod_lt->yW,ne_of_lt->yY,not_lt_zero->e9,pow_succ->aBy,zero_add->Oq,zero_le->JJ
open Ne renaming symm->JK
open Option renaming none->J,some->Z
open Option.some renaming inj->D3
open Or renaming inl->AA,inr->AF
namespace Go.Proofs.YtcfhleenecfghaaGreatDoor
section
open Go.RowKit
variable{w w':A'}{fk g0 g2 g5 v:A1}{GV:A1->Prop}{e t:A_}{E0:ByteArray}{a:Du}{l:List ((Int×ByteArray×ByteArray)×Nat)}{xs:List A1}{B b base g n s:Nat}{x:Nat×Nat×List ByteArray}
theorem aCW:A4.keyTypeAt 3 184=A0:=by kernel_rfl
theorem aSK:A4.tiled 3 184=A0:=by kernel_rfl
theorem a2I:aA0 A4 184:=deep_law (m:=3) (by omega) aCW aSK (by rw[oW])
theorem aJt:A4.keyType 184=A0:=by kernel_rfl
theorem zZ:A4.cellsOf 184=3:=by kernel_rfl
theorem aFh(a b c:A1):(dd #[a,b,c]).formed A4 184=A0:=by simp[a9y,oW,zZ]
def V.T2(p:Int×ByteArray×ByteArray):Prop:=(iI .i64 p.1).wf=A0/\p.2.1.size<=BK/\p.2.2.size<=BK
theorem aDS:A4.cellsOf 182=1:=by kernel_rfl
theorem zY:A4.cellsOf 9=1:=by kernel_rfl
theorem size_pos:0<A4.types.size:=of_decide_eq_true (by kernel_rfl)
theorem tO(p:Int×ByteArray×ByteArray)(h:V.T2 p):∃l,oj A4 184 (Ky p)=Z l:=by
 obtain⟨f,h2,h3⟩:=h;have b:∃e,A4.keyLits (A4.types.size+1) 184 [.int .i64 p.1,.string p.2.1,.string p.2.2]=Z e:=by obtain⟨d,m⟩:∃d,A4.types.size=d+1:=⟨A4.types.size-1,by have:=size_pos;omega⟩;rw[m];simp only[a8K,oW,zZ];simp[Tryz.underlying182,L2,aDS,zY,f,h2,h3]
 obtain⟨e,b⟩:=b;refine⟨.string (keyBytes e),?_⟩;unfold oj Ky;rw[oW];simp only[aJt,aFh,a6r,if_true];show(A4.keyLits (A4.types.size+1) 184 [.int .i64 p.1,.string p.2.1,.string p.2.2]).map _=_;rw[b];rfl
theorem aOH{p q:Int×ByteArray×ByteArray}(h:Ky p=Ky q):p=q:=by obtain⟨a,b,c⟩:=p;obtain⟨x,y,z⟩:=q;simp[Ky]at h;obtain⟨rfl,rfl,rfl⟩:=h;rfl
def MC(l:List ((Int×ByteArray×ByteArray)×Nat)):Array Ft:=(l.zipIdx.map λx=>({key:=Ky x.1.1,val:=.int .i64 (x.1.2:Int),born:=x.2}:Ft)).toArray
theorem q7{k:Nat}{a:A'}(h:AS B a w)(e:B<=k)(o:Du):AS B a {w with heap:=w.heap.setIfInBounds k o}:=⟨h.os,h.tape,h.output,by simpa using h.size,λj b=>by rw[<-h.block j b];show(w.heap.setIfInBounds k o)[j]?=w.heap[j]?;rw[Array.getElem?_setIfInBounds_ne (by omega)]⟩
theorem aDZ(s c:Nat)(m:Int)(w:A')(hm:w.cell? ⟨0,0,J⟩=Z (IS Po m))(H:w.cell? ⟨s,0,J⟩=Z (IS Po 1))(Q:w.cell? ⟨s,1,J⟩=Z (aYJ 123 (dd #[AI Eo]))):AZ A4 93 #[As (Z ⟨s,0,J⟩) 1 c] w λe w'=>e=hq (aY4 J)/\AS w.heap.size w w':=by
 have P:=@xQ A4;have d:s<w.heap.size:=Ff (h:=H);go_enter Tryz.func93,Tryz.ntmps93;go_wp2;go_loopw[11]λi wr=>i=IS Po 0/\wr=w.alloc (oF #[] 0)∨i=IS Po 1/\AS w.heap.size w wr(λi _=>1-(Ay i).toNat);case atStart=>exact AA ⟨rfl,rfl⟩
 case round=>
  rcases hrel with⟨rfl,j⟩|⟨rfl,U⟩
  ·subst j;have R:=BX H (oF #[] 0);have k1:=BX Q (oF #[] 0);go_wp2_with fail;refine(aDX m _ (BX (BX hm _) _)).mono ?_;rintro e x⟨rfl,b⟩;have I:x.heap[w.heap.size]?=Z (oF #[] 0):=by rw[b.block w.heap.size (by simp;omega),oa _ _ _ (by simp)];exact No w _
   have S:w.heap.size+1<x.heap.size:=by have:=b.size;simp at this;omega
   have M:x.cell? ⟨w.heap.size+1,1,J⟩=Z (aYJ 123 (dd #[AI Eo])):=Aw b (by simp);have K:x.cell? ⟨w.heap.size+1,0,J⟩=Z (IS Po 1):=Aw b (by simp);have A:=A3 ((((B9 _ w).alloc (AX _) _).alloc (by simp) _).trans (b.mono (by simp;omega)));have D:=A3 I;clear b I;go_wp2_with fail;refine(aOF _).mono ?_;rintro e z⟨rfl,f⟩;have p:z.heap[w.heap.size]?=Z (oF #[] 0):=by rw[f.block w.heap.size (by omega)];exact D.out
   have y:(z.alloc (BE #[IS Po 0,AI Eo,AI ⟨#[]⟩] 184)).heap[w.heap.size]?=Z (oF #[] 0):=by rw[oa _ _ _ (by have:=f.size;omega)];exact p
   have o:=Aw f M;have q:=Aw f K;have u:=BX q (BE #[IS Po 0,AI Eo,AI ⟨#[]⟩] 184);have C:=A3 (A.out.trans (f.mono A.out.size));have N:AP (w.heap.size<=z.heap.size):=A3 C.out.size;have A9:=aLA w.heap.size 0 Eo ⟨#[]⟩ _ y;have hu:=aOS w.heap.size 0 Eo ⟨#[]⟩ (IS Po 1) _ y;clear p y f K M D;go_wp2;exact⟨AF ⟨rfl,q7 (C.out.alloc N.out _) (AX _) _⟩,by simp[Ay]⟩
  ·go_wp2;go_ret;exact⟨rfl,U⟩
theorem tF:(A4.info? 179).map (λi=>(i.zero,i.size,i.bytes))=Z (Z aYA,1,16):=by kernel_rfl
theorem aM5(w:A'):(Instr.makeSlice 99 (IS Po 0) (IS Po 1)).run A4 w=aY6 (As (Z ⟨w.heap.size,0,J⟩) 0 1) (w.alloc (BE #[aYA] 179)):=by kernel_rfl
theorem aKg(m c:Nat)(w:A')(s:w.cell? ⟨m,0,J⟩=Z (IS Po 1))(H:w.cell? ⟨m,1,J⟩=Z (aYJ 123 (dd #[AI Eo]))):AZ A4 95 #[As (Z ⟨m,0,J⟩) 1 c] w λe w'=>∃b f,e=hq (As (Z ⟨b,0,J⟩) 1 f)/\w'.cell? ⟨b,0,J⟩=Z (aYJ 123 (dd #[AI Eo]))/\AS w.heap.size w w':=by
 obtain⟨i0,hi,Q,U,d⟩:=IT tF;have o:=aM5;have K:m<w.heap.size:=Ff (h:=s);go_enter Tryz.func95,Tryz.ntmps95;go_wp2;go_loopw[3,11]λv i wr=>v=As (Z ⟨w.heap.size,0,J⟩) 0 1/\i=IS Po 0/\wr=w.alloc (BE #[aYA] 179)∨i=IS Po 1/\wr.ownsRow w.heap.size 179 1 v 1 [aYJ 123 (dd #[AI Eo])]/\AS w.heap.size w wr(λ_ i _=>1-(Ay i).toNat);case atStart=>exact AA ⟨rfl,rfl,rfl⟩
 case round=>
  rcases hrel with⟨rfl,rfl,N⟩|⟨rfl,AQ,I⟩
  ·subst N;have q:=BX s (BE #[aYA] 179);have k1:=BX H (BE #[aYA] 179);have AQ:(w.alloc (BE #[aYA] 179)).ownsRow w.heap.size 179 1 (As (Z ⟨w.heap.size,0,J⟩) 0 1) 0 []:=⟨rfl,AF ⟨w.heap.size,1,#[aYA],rfl,AX _,No w _,by omega,by unfold BK;omega,rfl,rfl⟩⟩;go_wp2_with(at_builtin;refine L4 _ rfl _ _ 99 rfl w.heap.size 179 i0 aYA 1 16 xK hi Q U d rfl (by decide) _ _ _ rfl ((AQ.alloc _).alloc _) ⟨w.heap.size+1+1,0,J⟩ 1 1 [aYJ 123 (dd #[AI Eo])] rfl rfl ?c1 ?c2 ?c3 ?c4 ?c5 ?_);case c1=>intro j u p;match j,p with|0,p=>simp at p;subst p;exact World.cell?_alloc_at _ _ _ _ (by simp)
   case c2=>intro u hu;simp at hu;subst hu;rfl
   case c3=>unfold BK;omega
   case c4=>omega
   case c5=>simp;omega
   intro v' w2 A z _;have x:AS w.heap.size w w2:=((((B9 _ w).alloc (AX _) _).alloc (by simp) _).alloc (by simp;omega) _).grown z (by simp;omega) (λk M=>by simp[Sv]at M;omega);clear z;go_wp2;first
   |exact⟨AF ⟨rfl,A,x⟩,by simp[Ay]⟩
   |
    (
     go_roundw;case rel=>exact AF ⟨rfl,A,x⟩
     case measure=>simp[Ay])
  ·obtain⟨b,f,hv⟩:∃b f,u3=As (Z ⟨b,0,J⟩) 1 f:=by
    rcases AQ.2 with⟨_,s⟩|⟨b,f,P,hv,_⟩;·omega
    ·exact⟨b,f,hv⟩
   subst hv;have y:=AQ.cells (g:=b) rfl;have C:wr.cell? ⟨b,0,J⟩=Z (aYJ 123 (dd #[AI Eo])):=by simpa[Ht]using y 0 _ rfl
   have D:=A3 C;clear y AQ C;go_wp2;go_ret;exact⟨b,f,rfl,D.out,I⟩
theorem aPm(m:Int)(w:A')(I:w.cell? ⟨0,0,J⟩=Z (IS Po m)):AZ A4 45 #[AI KS] w λe w'=>∃h z,e=hq (aY8 #[As (Z ⟨h,0,J⟩) 1 z,aYA])/\w'.cell? ⟨h,0,J⟩=Z (aYJ 123 (dd #[AI Eo]))/\AS w.heap.size w w':=by go_enter Tryz.func45,Tryz.ntmps45;go_wp2_with fail;refine(aNo m _ I).mono ?_;rintro e w1⟨x,c,rfl,b,K,y⟩;have A:=A3 y;have U:=Aw y I;have p:=A3 b;have D:=A3 K;clear b K y;go_wp2_with fail;refine(aTQ x c _ p.out).mono ?_;rintro e w2⟨rfl,rfl⟩;go_wp2_with fail;refine(aDZ x c m _ U p.out D.out).mono ?_;rintro e w3⟨rfl,f⟩;have C:=A3 (A.out.trans (f.mono A.out.size));have N:=A3 (Aw f p.out);have Q:=A3 (Aw f D.out);clear f;go_wp2_with fail;refine(aKg x c _ N.out Q.out).mono ?_;rintro e w4⟨h,z,rfl,b,H⟩;have M:=A3 (C.out.trans (H.mono C.out.size));have s:=A3 b;clear b H;go_wp2;go_ret2;exact⟨h,z,rfl,s.out,M.out⟩
theorem a62{e:Ft}(h:e∈(MC l).toList):∃x∈l,e.key=Ky x.1/\e.val=.int .i64 (x.2:Int):=by unfold MC at h;rw[al]at h;obtain⟨x,hx,rfl⟩:=List.mem_map.1 h;exact⟨x.1,(aBc hx).2▸EC _,rfl,rfl⟩
theorem aSA{x:(Int×ByteArray×ByteArray)×Nat}(h:x∈l):∃e∈(MC l).toList,e.key=Ky x.1:=by unfold MC;rw[al];obtain⟨k,b,rfl⟩:=List.mem_iff_getElem.1 h;exact⟨_,List.mem_map.2 ⟨(l[k],k),by rw[aBd];exact Ld b,rfl⟩,rfl⟩
theorem aSB(l:List ((Int×ByteArray×ByteArray)×Nat))(p:Int×ByteArray×ByteArray)(n:Nat):MC (l++[(p,n)])=(MC l).push {key:=Ky p,val:=.int .i64 (n:Int),born:=l.length}:=by unfold MC;rw[aBm,YK];simp
theorem a'L(l:List ((Int×ByteArray×ByteArray)×Nat))(p:Int×ByteArray×ByteArray)(w:A')(s:V.T2 p)(h:∀x∈l,V.T2 x.1):((UE 184 (Ky p) (MC l).toList).run A4 w=.ok J w/\∀x∈l,x.1≠p)∨∃x∈l,x.1=p/\∃j,(UE 184 (Ky p) (MC l).toList).run A4 w=.ok (Z (j,.int .i64 (x.2:Int))) w:=by
 obtain⟨z,m⟩:=tO p s;rcases a2I.find w m (MC l).toList λe he=>by obtain⟨x,hx,b,_⟩:=a62 he;rw[b];exact tO _ (h x hx)with⟨f,h2⟩|⟨j,e,f,h2,h3⟩;·refine AA ⟨f,λx hx y=>?_⟩;obtain⟨e,he,b⟩:=aSA hx;exact h2 e he (by rw[b,y])
 ·obtain⟨x,hx,b,hv⟩:=a62 (pc h2);refine AF ⟨x,hx,aOH (b.symm.trans h3),j,?_⟩;rw[f,hv]
theorem qE(p:Int×ByteArray×ByteArray)(f:V.T2 p)(e:Bool)(w:A'):(iB e 10000 184 (Ky p)).run A4 w=.ok () w:=by obtain⟨h,b⟩:=tO p f;exact a2I.check w e b
theorem aLC(r c:Nat)(l:List ((Int×ByteArray×ByteArray)×Nat))(p:Int×ByteArray×ByteArray)(w:A')(e:V.T2 p)(h:∀x∈l,V.T2 x.1)(f:w.heap[r]?=Z (.map (MC l) c)):((Hv 299 (.map (Z r)) (Ky p) A5).run A4 w=.ok (.int .i64 0) w/\∀x∈l,x.1≠p)∨∃x∈l,x.1=p/\(Hv 299 (.map (Z r)) (Ky p) A5).run A4 w=.ok (.int .i64 (x.2:Int)) w:=by
 rcases a'L l p w e h with⟨b,h2⟩|⟨x,hx,m,j,b⟩;·refine AA ⟨?_,h2⟩;simp[Hv,Np iX,Oc f,qE p e,b,K_]
 ·refine AF ⟨x,hx,m,?_⟩;simp[Hv,Np iX,Oc f,qE p e,b,K_]
theorem aOU(r:Nat)(l:List ((Int×ByteArray×ByteArray)×Nat))(p:Int×ByteArray×ByteArray)(n:Nat)(w:A')(f:V.T2 p)(h:∀x∈l,V.T2 x.1)(hn:∀x∈l,x.1≠p)(e:w.heap[r]?=Z (.map (MC l) l.length)):(Vl 299 (.map (Z r)) (Ky p) (.int .i64 (n:Int))).run A4 w=.ok () {w with heap:=w.heap.setIfInBounds r (.map (MC (l++[(p,n)])) (l.length+1))}:=by
 rcases a'L l p w f h with⟨b,h2⟩|⟨x,hx,m,j,b⟩;·rw[aSB];simp[Vl,Np iX,Oc e,qE p f,b,dP _ e,K_]
 ·exact absurd m (hn x hx)
theorem aCX:A4.keyTypeAt 3 85=A0:=by kernel_rfl
theorem aSL:A4.tiled 3 85=A0:=by kernel_rfl
theorem tX:aA0 A4 85:=deep_law (m:=3) (by omega) aCX aSL (by rw[Xv])
theorem aJu:A4.keyType 85=A0:=by kernel_rfl
theorem z_:A4.cellsOf 85=2:=by kernel_rfl
theorem aFi(a b:A1):(dd #[a,b]).formed A4 85=A0:=by simp[a9y,Xv,z_]
abbrev Ax:=ByteArray×ByteArray
def Gk(p:Ax):A1:=dd #[AI p.1,AI p.2]
def Fh(p:Ax):Prop:=p.1.size<=BK/\p.2.size<=BK
theorem lH(p:Ax)(h:Fh p):∃l,oj A4 85 (Gk p)=Z l:=by
 obtain⟨f,h2⟩:=h;have b:∃e,A4.keyLits (A4.types.size+1) 85 [AI p.1,AI p.2]=Z e:=by obtain⟨d,m⟩:∃d,A4.types.size=d+1:=⟨A4.types.size-1,by have:=size_pos;omega⟩;rw[m];simp only[a8K,Xv,z_];simp[L2,zY,f,h2]
 obtain⟨e,b⟩:=b;refine⟨.string (keyBytes e),?_⟩;unfold oj Gk;rw[Xv];simp only[aJu,aFi,a6r,if_true];show(A4.keyLits (A4.types.size+1) 85 [AI p.1,AI p.2]).map _=_;rw[b];rfl
theorem aML{p q:Ax}(h:Gk p=Gk q):p=q:=by obtain⟨a,b⟩:=p;obtain⟨x,y⟩:=q;simp[Gk]at h;obtain⟨rfl,rfl⟩:=h;rfl
theorem WL(p:Ax)(f:Fh p)(e:Bool)(w:A'):(iB e 10000 85 (Gk p)).run A4 w=aY6 () w:=by obtain⟨h,b⟩:=lH p f;exact tX.check w e b
def Eb(l:List (Ax×Nat)):Array Ft:=(l.zipIdx.map λx=>({key:=Gk x.1.1,val:=IS Po (x.1.2:Int),born:=x.2}:Ft)).toArray
theorem a2z{l:List (Ax×Nat)}{e:Ft}(h:e∈(Eb l).toList):∃x∈l,e.key=Gk x.1/\e.val=IS Po (x.2:Int):=by unfold Eb at h;rw[al]at h;obtain⟨x,hx,rfl⟩:=List.mem_map.1 h;exact⟨x.1,(aBc hx).2▸EC _,rfl,rfl⟩
theorem g_(l:List (Ax×Nat)):(Eb l).size=l.length:=by simp[Eb]
theorem ZI{l:List (Ax×Nat)}(j:Nat)(b:j<l.length):(Eb l)[j]?=Z {key:=Gk l[j].1,val:=IS Po (l[j].2:Int),born:=j}:=by unfold Eb;rw[List.getElem?_toArray,W',List.getElem?_zipIdx,Ld b];simp
theorem a3'(l:List (Ax×Nat))(p:Ax)(n:Nat):Eb (l++[(p,n)])=(Eb l).push {key:=Gk p,val:=IS Po (n:Int),born:=l.length}:=by unfold Eb;rw[aBm,YK];simp
theorem bE(l:List (Ax×Nat))(p:Ax)(w:A')(y:Fh p)(m:∀x∈l,Fh x.1):((UE 85 (Gk p) (Eb l).toList).run A4 w=aY6 J w/\∀x∈l,x.1≠p)∨∃j,∃b:j<l.length,l[j].1=p/\(UE 85 (Gk p) (Eb l).toList).run A4 w=aY6 (Z (j,IS Po (l[j].2:Int))) w:=by
 obtain⟨A,s⟩:=lH p y;rcases tX.find w s (Eb l).toList λe he=>by obtain⟨x,hx,h,_⟩:=a2z he;rw[h];exact lH _ (m x hx)with⟨f,h2⟩|⟨j,e,f,h2,h3⟩;·refine AA ⟨f,λx hx z=>?_⟩;obtain⟨j,b,rfl⟩:=List.mem_iff_getElem.1 hx;have h4:=ZI (l:=l) j b;rw[<-Se]at h4;exact h2 _ (pc h4) (by rw[z])
 ·have b:j<l.length:=by have:=(List.getElem?_eq_some_iff.1 h2).1;rw[Array.length_toList,g_]at this;exact this
  have h4:=ZI (l:=l) j b;rw[<-Se,h2]at h4;injection h4 with h4;subst h4;exact AF ⟨j,b,aML h3,f⟩
theorem t_(r c:Nat)(l:List (Ax×Nat))(p:Ax)(w:A')(e:Fh p)(s:∀x∈l,Fh x.1)(f:w.heap[r]?=Z (oF (Eb l) c)):((Hv 131 (E3 (Z r)) (Gk p) A5).run A4 w=aY6 (IS Po 0) w/\∀x∈l,x.1≠p)∨∃x∈l,x.1=p/\(Hv 131 (E3 (Z r)) (Gk p) A5).run A4 w=aY6 (IS Po (x.2:Int)) w:=by
 rcases bE l p w e s with⟨b,h2⟩|⟨j,h,m,b⟩;·refine AA ⟨?_,h2⟩;simp[Hv,Np aV,Oc f,WL p e,b,K_]
 ·refine AF ⟨l[j],EC h,m,?_⟩;simp[Hv,Np aV,Oc f,WL p e,b,K_]
theorem a2T(r c:Nat)(l:List (Ax×Nat))(p:Ax)(w:A')(e:Fh p)(s:∀x∈l,Fh x.1)(f:w.heap[r]?=Z (oF (Eb l) c)):((Hv 131 (E3 (Z r)) (Gk p) A0).run A4 w=aY6 (aY8 #[IS Po 0,aY5 A5]) w/\∀x∈l,x.1≠p)∨∃x∈l,x.1=p/\(Hv 131 (E3 (Z r)) (Gk p) A0).run A4 w=aY6 (aY8 #[IS Po (x.2:Int),aY5 A0]) w:=by
 rcases bE l p w e s with⟨b,h2⟩|⟨j,h,m,b⟩;·refine AA ⟨?_,h2⟩;simp[Hv,Np aV,Oc f,WL p e,b,K_]
 ·refine AF ⟨l[j],EC h,m,?_⟩;simp[Hv,Np aV,Oc f,WL p e,b,K_]
theorem aOT(r:Nat)(l:List (Ax×Nat))(p:Ax)(n:Nat)(w:A')(f:Fh p)(s:∀x∈l,Fh x.1)(hn:∀x∈l,x.1≠p)(e:w.heap[r]?=Z (oF (Eb l) l.length)):(Vl 131 (E3 (Z r)) (Gk p) (IS Po (n:Int))).run A4 w=aY6 () {w with heap:=w.heap.setIfInBounds r (oF (Eb (l++[(p,n)])) (l.length+1))}:=by
 rcases bE l p w f s with⟨b,_⟩|⟨j,h,m,b⟩;·rw[a3'];simp[Vl,Np aV,Oc e,WL p f,b,dP _ e,K_]
 ·exact absurd m (hn _ (EC h))
theorem aLB(r c:Nat)(p:Ax)(w:A')(e:Fh p)(b:w.heap[r]?=Z (oF #[] c)):(Hv 131 (E3 (Z r)) (Gk p) A5).run A4 w=aY6 (IS Po 0) w:=by
 rcases t_ r c [] p w e (λx hx=>absurd hx H8) b with⟨h,_⟩|⟨x,hx,_⟩;·exact h
 ·cases hx
theorem a2U(r c:Nat)(p:Ax)(w:A')(e:Fh p)(f:w.heap[r]?=Z (oF #[] c)):(Hv 132 (E3 (Z r)) (Gk p) A0).run A4 w=aY6 (aY8 #[dd #[AI ⟨#[]⟩,AI ⟨#[]⟩],aY5 A5]) w:=by
 rcases bE [] p w e λx hx=>absurd hx H8 with⟨b,_⟩|⟨j,h,_⟩;·have b:(UE 85 (Gk p) []).run A4 w=aY6 J w:=b;simp[Hv,Np Tryz.underlying132,Oc f,WL p e,b,K_]
 ·cases h
def av(w:A')(b:Nat)(l:List (Nat×Nat×List ByteArray)):Prop:=∀j(h:j<l.length),w.cell? ⟨b,j*2,J⟩=Z (IS Po (l[j].1:Int))/\w.cell? ⟨b,j*2+1,J⟩=Z (aYJ l[j].2.1 (dd (l[j].2.2.map AI).toArray))
def V.cy(x:Nat×Nat×List ByteArray):Prop:=V.Q2 x/\x.1≠0/\∀a∈x.2.2,a.size<=281474976710656
theorem V.cy.aJw(h:V.cy x):V.T2 (V.place x.2.1 x.2.2):=by
 obtain⟨hx,_,hs⟩:=h;obtain⟨n,t,m⟩:=x;have f:(⟨#[]⟩:ByteArray).size<=BK:=by decide
 rcases hx with⟨e,a,h2⟩|⟨e,a,b,h2⟩|⟨e,a,b,h2⟩|⟨e,a,b,c,d,h2⟩;all_goals simp only at e h2;subst e h2
 ·exact⟨by show(iI Po 0).wf=A0;decide,by have:=hs a (by simp);show a.size<=BK;unfold BK;omega,f⟩
 ·exact⟨by show(iI Po 1).wf=A0;decide,by have:=hs a (by simp);show a.size<=BK;unfold BK;omega,f⟩
 ·exact⟨by show(iI Po 2).wf=A0;decide,by have:=hs a (by simp);show a.size<=BK;unfold BK;omega,by have:=hs b (by simp);show b.size<=BK;unfold BK;omega⟩
 ·exact⟨by show(iI Po 3).wf=A0;decide,by have:=hs a (by simp);show a.size<=BK;unfold BK;omega,by have:=hs b (by simp);show b.size<=BK;unfold BK;omega⟩
def vd(l:List (Nat×Nat×List ByteArray))(w:A')(k:Nat)(wr:A'):Prop:=∃seen:List ((Int×ByteArray×ByteArray)×Nat),wr.heap[w.heap.size]?=Z (oF (MC seen) seen.length)/\(∀y∈seen,V.T2 y.1/\y.2≠0)/\AS w.heap.size w wr/\V.Jk l []=V.Jk (l.drop k) seen
theorem aD_(S c:Nat)(m:Int)(l:List (Nat×Nat×List ByteArray))(w:A')(hm:w.cell? ⟨0,0,J⟩=Z (IS Po m))(A9:l.length<=1000000000000)(AH:av w S l)(AE:∀x∈l,V.cy x):AZ A4 93 #[As (Z ⟨S,0,J⟩) l.length c] w λe w'=>∃r,e=hq r/\Nc w.heap.size w' r (V.Jk l [])/\AS w.heap.size w w':=by
 have bb:=@xQ A4;have Cm:=A3 AH;have El:=A3 AE;clear AH AE;go_enter Tryz.func93,Tryz.ntmps93;go_wp2;go_loopw[11]λi wr=>∃k:Nat,k<=l.length/\i=IS Po k/\AP (vd l w k wr)(λi _=>l.length-(Ay i).toNat);case atStart=>exact⟨0,by omega,rfl,A3 ⟨[],No w _,λy hy=>absurd hy (H8),(B9 _ _).alloc (AX _) _,by rw[List.drop_zero]⟩⟩
 case round=>
  obtain⟨k,hk,rfl,H⟩:=hrel;obtain⟨seen,W,d,hb,lc⟩:=H.out;have j1:=A3 W;have u:=A3 d;have N:=A3 hb;have X:=A3 lc;have j:w.heap.size<wr.heap.size:=(Array.getElem?_eq_some_iff.1 W).1;clear H W d hb lc;by_cases hlt:k<l.length
  ·have c0:=Aw N.out (Cm.out k hlt).1;have c1:=Aw N.out (Cm.out k hlt).2;have aZ:=A3 (El.out l[k] (EC hlt));have HM:AP (l.drop k=l[k]::l.drop (k+1)):=A3 (List.drop_eq_getElem_cons hlt);have aVK:S<wr.heap.size:=Ff (h:=c0);generalize l[k]=x at c0 c1 aZ HM;obtain⟨n,t,I⟩:=x;simp only at c0 c1;go_wp2_with fail;refine(aDY n t I m _ aZ.out.1 aZ.out.2.2 (BX (Aw N.out hm) _)).mono ?_;rintro e K⟨r,rfl,A2,M⟩;have HY:K.cell? ⟨wr.heap.size,0,J⟩=Z (IS Po (n:Int)):=Aw M (by simp);have HJ:K.cell? ⟨wr.heap.size,1,J⟩=Z (aYJ t (dd (I.map AI).toArray)):=Aw M (by simp);have G0:wr.heap.size+1<=K.heap.size:=by have:=M.size;simpa using this
   have aAs:AP (K.heap[w.heap.size]?=Z (oF (MC seen) seen.length)):=by refine A3 ?_;rw[M.block w.heap.size (by simp;omega),oa _ _ _ j];exact j1.out
   have Cl:=A3 ((N.out.alloc (Nat.le_of_lt j) _).trans (M.mono (by simp;omega)));clear M c0 c1;cases o:V.bD t I with
   |some f=>
    obtain⟨aFa,fn,k5,k6⟩:=f;have D:AP (V.Jk l []=Z (aFa,(n:Int),k5,k6)):=by refine A3 ?_;rw[X.out,HM.out,V.Jk];simp only[o]
    rw[o]at A2;obtain⟨b,FT,rfl,P⟩:=A2;have d1:K.cell? ⟨b,1,J⟩=Z (IS Po fn):=by rw[Ad P];rfl
    have Gz:K.frozen? ⟨b,1,J⟩=A5:=Dv P 1;have FH:=A3 P;have aVE:wr.heap.size+1<=b:=by simpa using FT
    clear P FT;go_wp2;go_ret;refine⟨_,rfl,?_,Cl.out.setCell (p:=⟨b,1,J⟩) (by show w.heap.size<=b;omega) _⟩;rw[D.out];refine⟨b,by omega,rfl,?_⟩;rw[EV _ _ _ _ _ _ FH.out];rfl
   |none=>
    rw[o]at A2;obtain rfl:r=aY4 J:=A2;have FB:=A3 o;clear o;go_wp2_with fail;refine(aOG n t I _ aZ.out.1).mono ?_;rintro e C⟨rfl,U,_⟩;have Q:=A3 aZ.out.aJw;have aIP:n≠0:=aZ.out.2.1;have Kb:AP (V.Jk l []=if seen.any λy=>Bn (y.1=V.place t I)then Z (4,(n:Int),⟨#[]⟩,⟨#[]⟩)else V.Jk (l.drop (k+1)) (seen++[(V.place t I,n)])):=by refine A3 ?_;rw[X.out,HM.out,V.Jk];simp only[FB.out]
    simp only at Q;generalize V.place t I=pl at Q Kb⊢;obtain⟨z,s,A⟩:=pl;rw[Ky];simp only;have KN:K.heap.size<=C.heap.size:=U.size;have q:(C.alloc (BE #[IS Po z,AI s,AI A] 184)).heap[w.heap.size]?=Z (oF (MC seen) seen.length):=by rw[oa _ _ _ (by omega),U.block w.heap.size (by omega)];exact aAs.out
    have uc:=Aw U HY;have aQo:=BX uc (BE #[IS Po z,AI s,AI A] 184);have Er:=A3 (Cl.out.trans (U.mono Cl.out.size));have H6:=A3 (Er.out.alloc Er.out.size (BE #[IS Po z,AI s,AI A] 184));clear U HY HJ;rcases aLC w.heap.size seen.length seen (z,s,A) _ Q.out (λy hy=>(u.out y hy).1) q with⟨NF,fo⟩|⟨y,hy,ZE,NF⟩
    ·have sr:=aOU w.heap.size seen (z,s,A) n _ Q.out (λy hy=>(u.out y hy).1) fo q;have D:AP (V.Jk l []=V.Jk (l.drop (k+1)) (seen++[((z,s,A),n)])):=by refine A3 ?_;rw[Kb.out,if_neg];rw[Bool.not_eq_true,List.any_eq_false];intro y hy;simpa using fo y hy
     have R:AP (vd l w (k+1) {C.alloc (BE #[IS Po z,AI s,AI A] 184)with heap:=(C.alloc (BE #[IS Po z,AI s,AI A] 184)).heap.setIfInBounds w.heap.size (oF (MC (seen++[((z,s,A),n)])) (seen.length+1))}):=by
      refine A3 ⟨seen++[((z,s,A),n)],?_,?_,q7 H6.out (AX _) _,D.out⟩;·rw[HN];exact Array.getElem?_setIfInBounds_self_of_lt (Array.getElem?_eq_some_iff.1 q).1
      ·intro y hy;rcases List.mem_append.1 hy with hy|hy;·exact u.out y hy
       ·rw[List.mem_singleton.1 hy];exact⟨Q.out,aIP⟩
     simp only[Ky]at NF sr;clear fo q;go_wp2;first
     |exact⟨⟨k+1,by omega,by go_num,R⟩,by simp[Ay];omega⟩
     |
      (
       go_roundw;case rel=>exact⟨k+1,by omega,by go_num,R⟩
       case measure=>simp[Ay];omega)
    ·have l3:((y.2:Int)!=0)=A0:=by have:=(u.out y hy).2;rw[bne_iff_ne];omega
     have D:AP (V.Jk l []=Z (4,(n:Int),⟨#[]⟩,⟨#[]⟩)):=by refine A3 ?_;rw[Kb.out,if_pos];rw[List.any_eq_true];exact⟨y,hy,by simpa using ZE⟩
     simp only[Ky]at NF;clear q ZE hy;go_wp2;go_ret;refine⟨_,rfl,?_,H6.out.alloc H6.out.size _⟩;rw[D.out];refine⟨C.heap.size+1,Nat.le_succ_of_le Er.out.size,rfl,?_⟩;have h:=No (C.alloc (BE #[IS Po z,AI s,AI A] 184)) (BE #[IS Po 4,IS Po (n:Int),AI ⟨#[]⟩,AI ⟨#[]⟩] 150);rw[show(C.alloc (BE #[IS Po z,AI s,AI A] 184)).heap.size=C.heap.size+1 from by simp]at h;exact h
  ·have D:AP (V.Jk l []=J):=by refine A3 ?_;rw[X.out,List.drop_of_length_le (by omega)];rfl
   go_wp2;go_ret;exact⟨_,rfl,by rw[D.out];rfl,N.out⟩
theorem aTT(h c n:Nat)(l:List (Nat×Nat×List ByteArray))(w:A')(z:l.length<=1000000000000)(hc:l.length<=c)(A:l≠[])(s:av w h l):AZ A4 94 #[.slice (Z ⟨h,0,J⟩) l.length c,.int .i64 (n:Int)] w λe w'=>e=.returned (.slice (Z ⟨h,0,J⟩) (V.LY l n).length c)/\w'=w:=by
 obtain⟨q,m⟩:∃q,l.length=q+1:=⟨l.length-1,by have:=List.length_pos_iff.2 A;omega⟩;have hlt:q<l.length:=by omega
 have c0:=(s q hlt).1;have f:AP (V.LY l n=if l[q].1=n then l.dropLast else l):=by refine A3 ?_;unfold V.LY;rw[List.getLast?_eq_getElem?,show l.length-1=q by omega,Ld hlt]
 have x:AP (l.dropLast.length=q):=A3 (by rw[List.length_dropLast];omega);have y:=A3 m;clear s;generalize l[q].1=k at c0 f;rw[m]at z hc hlt⊢;clear m;cases p:(k:Int)==(n:Int)
 ·have b:AP ((V.LY l n).length=q+1):=by refine A3 ?_;rw[f.out,if_neg (by intro e;subst e;simp at p)];exact y.out
  rw[b.out];go_enter Tryz.func94,Tryz.ntmps94;go_wp2;go_ret;exact⟨rfl,rfl⟩
 ·have b:AP ((V.LY l n).length=q):=by refine A3 ?_;rw[f.out,if_pos (by have:=eq_of_beq p;omega)];exact x.out
  rw[b.out];go_enter Tryz.func94,Tryz.ntmps94;go_wp2;go_ret;exact⟨rfl,rfl⟩
def gV(x:Nat×List ByteArray):A1:=.iface x.1 (.agg (x.2.map AI).toArray)
def Lz(l:List (Nat×Nat×List ByteArray)):List A1:=l.map λx=>gV x.2
theorem aKe(l:List (Nat×Nat×List ByteArray))(k:Nat)(h:k<l.length):Lz (l.take (k+1))=Lz (l.take k)++[gV l[k].2]:=by unfold Lz;rw[UU h,YK];rfl
theorem aKh(A c:Nat)(l:List (Nat×Nat×List ByteArray))(w:A')(A9:l.length<=1000000000000)(Q:av w A l):AZ A4 95 #[.slice (Z ⟨A,0,J⟩) l.length c] w λe w'=>∃v,e=.returned v/\w'.ownsRow w.heap.size 179 1 v l.length (Lz l)/\AS w.heap.size w w':=by
 obtain⟨i0,hi,U,d,o⟩:=IT tF;obtain⟨w1,Wx,p,I⟩:=oo (P:=A4) w w.heap.size 99 179 i0 .nilIface 1 xK hi U d .i64 .i64 l.length (by rw[o];omega) (by unfold BK;omega) (AX _);have z:=A3 Q;have q:=A3 p;have S:AP (AS w.heap.size w w1):=A3 ((B9 _ w).grown I (AX _) λk m=>by cases m);have GH:w.heap.size<w1.heap.size:=(p.lt _ rfl).2;clear Q p I;go_enter Tryz.func95,Tryz.ntmps95;go_wp2;go_loopw[3,11]λv i wr=>∃k:Nat,k<=l.length/\i=.int .i64 k/\AP (wr.ownsRow w.heap.size 179 1 v k (Lz (l.take k))/\AS w.heap.size w wr)(λ_ i _=>l.length-(Ay i).toNat);case atStart=>exact⟨0,by omega,rfl,A3 ⟨q.out,S.out⟩⟩
 case round=>
  obtain⟨k,m,rfl,H⟩:=hrel;obtain⟨M,C⟩:=H.out;have f:=A3 M;have b:=A3 C;clear H M C;by_cases hlt:k<l.length
  ·have c0:=Aw b.out (z.out k hlt).1;have c1:=Aw b.out (z.out k hlt).2;have y:=A3 (aKe l k hlt);have W:w.heap.size<=wr.heap.size:=b.out.size;generalize l[k]=x at c0 c1 y;obtain⟨n,t,fs⟩:=x;simp only at c0 c1;go_wp2_with(at_builtin;refine L4 _ rfl _ _ 99 rfl w.heap.size 179 i0 .nilIface 1 16 xK hi U d o rfl (by decide) _ _ _ rfl ((f.out.alloc _).alloc _) ⟨wr.heap.size+1,0,J⟩ 1 1 [gV (t,fs)] rfl rfl ?c1 ?c2 ?c3 ?c4 ?c5 ?_);case c1=>intro j u h;match j,h with|0,h=>simp at h;subst h;rfl
   case c2=>rfl
   case c3=>unfold BK;omega
   case c4=>omega
   case c5=>omega
   intro v' s N K _;have D:AS w.heap.size w s:=((b.out.alloc W _).alloc (by simp;omega) _).grown K (by simp;omega) λk m=>(f.out.lt k m).1;have R:AP (s.ownsRow w.heap.size 179 1 v' (k+1) (Lz (l.take (k+1)))/\AS w.heap.size w s):=by refine A3 ⟨?_,D⟩;rw[y.out];exact N
   clear K N D;go_wp2;first
   |exact⟨⟨k+1,by omega,by go_num,R⟩,by simp[Ay];omega⟩
   |
    (
     go_roundw;case rel=>exact⟨k+1,by omega,by go_num,R⟩
     case measure=>simp[Ay];omega)
  ·have X:k=l.length:=by omega
   subst X;rw[On]at f;go_wp2;go_ret;exact⟨_,rfl,f.out,b.out⟩
theorem aRj(l:List (Nat×Nat×List ByteArray)):∀j(h:j<l.length),(S_ l)[j*2]?=Z (.int .i64 (l[j].1:Int))/\(S_ l)[j*2+1]?=Z (.iface l[j].2.1 (.agg (l[j].2.2.map AI).toArray)):=by
 induction l with
 |nil=>intro j b;simp at b
 |cons x f m=>
  intro j b;have e:S_ (x::f)=[.int .i64 (x.1:Int),.iface x.2.1 (.agg (x.2.2.map AI).toArray)]++S_ f:=rfl;match j with
  |0=>exact⟨rfl,rfl⟩
  |j+1=>
   have:=m j (by simp at b;omega);rw[e];refine⟨?_,?_⟩;·rw[T4 (by simp;omega),e5,<-this.1];congr 1;simp;omega
   ·rw[T4 (by simp;omega),e5,<-this.2];congr 1;simp;omega
theorem aRl{l:List (Nat×Nat×List ByteArray)}(h:w.ownsRow B 301 2 v l.length (S_ l)):v=.slice J 0 0/\l=[]∨∃b c,v=.slice (Z ⟨b,0,J⟩) l.length c/\l.length<=c/\av w b l:=by
 have hc:=λg=>h.cells (g:=g);rcases h.2 with⟨e,h2⟩|⟨b,c,s,e,_,_,h4,_⟩;·exact AA ⟨e,List.length_eq_zero_iff.1 h2⟩
 ·refine AF ⟨b,c,e,h4,λj p=>?_⟩;have h2:=hc b (by rw[e];rfl);have h3:=aRj l j p;have f:=h2 _ _ h3.1;have m:=h2 _ _ h3.2;rw[Gg]at f m;exact⟨f,m⟩
theorem aTS(a:Option Aa)(c:Nat)(n:Int)(w:A'):AZ A4 94 #[.slice a 0 c,.int .i64 n] w λe w'=>e=.returned (.slice a 0 c)/\w'=w:=by go_enter Tryz.func94,Tryz.ntmps94;go_wp2;go_ret;exact⟨rfl,rfl⟩
theorem aDa(a:Option Aa)(c:Nat)(w:A'):AZ A4 93 #[.slice a 0 c] w λe w'=>e=.returned (.pointer J)/\AS w.heap.size w w':=by have b:=@xQ A4;go_enter Tryz.func93,Tryz.ntmps93;go_wp2;refine aY 1 ?_;rw[RI];go_wp2;go_ret;exact⟨rfl,(B9 _ _).alloc (AX _) _⟩
def V.Iv(s:ByteArray):Prop:=(V.parse s).2=0/\V.Jk (V.parse s).1 []=J
def yd(s:ByteArray)(w:A')(e:Ending)(w':A'):Prop:=(V.Iv s/\∃v,e=.returned (.tuple #[v,.nilIface])/\w'.ownsRow w.heap.size 179 1 v (V.parse s).1.length (Lz (V.parse s).1))∨¬V.Iv s/\∃b,e=.returned (.tuple #[.slice J 0 0,.iface 96 (.pointer (Z ⟨b,0,J⟩))])
theorem V.aHO{M:Nat}(b:M<=281474976710656)(h:V.YE M x):V.cy x:=⟨h.1,h.2.1,λa e=>HA (h.2.2 a e) b⟩
theorem V.a6R(l:List (Nat×Nat×List ByteArray))(n:Nat):V.LY l n=l∨V.LY l n=l.dropLast:=by
 unfold V.LY;split
 ·split;·exact AF rfl
  ·exact AA rfl
 ·exact AA rfl
theorem V.vQ(l:List (Nat×Nat×List ByteArray))(n:Nat):(V.LY l n).length<=l.length:=by
 rcases V.a6R l n with e|e<;>rw[e];·exact AX _
 ·simp
theorem V.a6S(l:List (Nat×Nat×List ByteArray))(n:Nat)(j:Nat)(h:j<(V.LY l n).length):(V.LY l n)[j]=l[j]'(K9 h (V.vQ l n)):=by
 rcases V.a6R l n with e|e;·exact aBX e h
 ·rw[aBX e h,List.getElem_dropLast]
theorem V.aTR(l:List (Nat×Nat×List ByteArray))(n:Nat):∀x∈V.LY l n,x∈l:=by intro x hx;obtain⟨j,b,rfl⟩:=List.getElem_of_mem hx;rw[V.a6S];exact EC _
theorem V.a6T{l:List (Nat×Nat×List ByteArray)}(h:∀x∈l,x.1≠0):V.LY l 0=l:=by
 unfold V.LY;split;·rename_i x hx;rw[if_neg (h x (List.mem_of_getLast? hx))]
 ·rfl
theorem a4z(s:ByteArray)(m:Int)(w:A')(hs:s.size<=1073741824)(hm:w.cell? ⟨0,0,J⟩=Z (.int .i64 m)):AZ A4 45 #[.string s] w λe w'=>yd s w e w'/\AS w.heap.size w w':=by
 have C:AP (∀x∈(V.parse s).1,V.cy x):=A3 λx hx=>V.aHO (by omega) (V.aNn s x hx);have H:=V.aNm s;have Kb:AP (V.Iv s↔(V.parse s).2=0/\V.Jk (V.LY (V.parse s).1 (V.parse s).2) []=J):=by
  refine A3 ⟨λh=>⟨h.1,?_⟩,λh=>⟨h.1,?_⟩⟩;·rw[h.1,V.a6T λx hx=>(C.out x hx).2.1];exact h.2
  ·have:=h.2;rw[h.1,V.a6T λx hx=>(C.out x hx).2.1]at this;exact this
 have U:AP ((V.parse s).1=[]->(V.parse s).2≠0):=by refine A3 λAV h1=>?_;obtain⟨p,r,AE,_⟩:=(V.aNq h1 (by rw[AV];rfl)).first;rw[AV]at AE;cases AE
 unfold yd;go_enter Tryz.func45,Tryz.ntmps45;go_wp2_with fail;refine(aNl s m _ (by omega) hm).mono ?_;rintro e w1⟨v,rfl,AQ,Ae⟩;obtain⟨l,n,d⟩:∃l n,V.parse s=(l,n):=⟨_,_,rfl⟩;rw[d]at C Kb U H AQ⊢;simp only at C Kb U H AQ⊢;have E4:=A3 d;clear d;have i:l.length<=1000000000000:=by omega
 have I:=A3 Ae;have FD:=Aw Ae hm;clear Ae;by_cases N:l=[]
 ·have hv:∃a c,v=.slice a 0 c:=by
   subst N;rcases AQ.2 with⟨h,_⟩|⟨A,cap,o,h,_⟩;·exact⟨_,_,h⟩
   ·exact⟨_,_,h⟩
  obtain⟨a,c,rfl⟩:=hv;have u:=U.out N;have md:((n:Int)!=0)=A0:=by rw[bne_iff_ne];omega
  have D:AP (¬V.Iv s):=A3 λh=>u (Kb.out.1 h).1;clear AQ;go_wp2_with fail;refine(aTS a c _ _).mono ?_;rintro e w2⟨rfl,rfl⟩;go_wp2_with fail;refine(aDa a c _).mono ?_;rintro e w3⟨rfl,z⟩;have y:=A3 (I.out.trans (z.mono I.out.size));clear z;go_wp2;go_ret2;exact⟨AF ⟨D.out,_,rfl⟩,y.out.alloc y.out.size _⟩
 ·rcases aRl AQ with⟨rfl,h⟩|⟨A,c,rfl,sH,Bp⟩;·exact absurd h N
  have P:=A3 Bp;have R:AP (av w1 A (V.LY l n)):=by refine A3 λj M=>?_;have:=Bp j (K9 M (V.vQ l n));rw[V.a6S];exact this
  clear Bp AQ;go_wp2_with fail;refine(aTT A c n l _ i sH N P.out).mono ?_;rintro e w2⟨rfl,rfl⟩;go_wp2_with fail;refine(aD_ A c m (V.LY l n) _ FD (HA (V.vQ l n) i) R.out λx hx=>C.out x (V.aTR l n x hx)).mono ?_;rintro e w3⟨r,rfl,Q,z⟩;have y:=A3 (I.out.trans (z.mono I.out.size));have S:AP (av w3 A l):=A3 λj M=>⟨Aw z (P.out j M).1,Aw z (P.out j M).2⟩;clear z;cases K:V.Jk (V.LY l n) []with
  |some f=>
   have D:AP (¬V.Iv s):=A3 λh=>by have:=(Kb.out.1 h).2;rw[K]at this;cases this
   rw[K]at Q;obtain⟨k,q,k5,k6⟩:=f;obtain⟨b,FT,rfl,Dq⟩:=Q;clear Dq;go_wp2;go_ret2;exact⟨AF ⟨D.out,b,rfl⟩,y.out⟩
  |none=>
   rw[K]at Q;obtain rfl:r=.pointer J:=Q;cases hn:(n:Int)!=0
   ·have u:n=0:=by rw[bne_eq_false_iff_eq]at hn;omega
    have F5:AP (V.Iv s):=A3 (Kb.out.2 ⟨u,K⟩);go_wp2_with fail;refine(aKh A c l _ i S.out).mono ?_;rintro e w4⟨v4,rfl,Wz,X⟩;have W:AP (w4.ownsRow w.heap.size 179 1 v4 l.length (Lz l)):=by
     refine A3 ⟨Wz.1,?_⟩;rcases Wz.2 with h|⟨g,Gy,o,h1,h2,h3⟩;·exact AA h
     ·exact AF ⟨g,Gy,o,h1,HA y.out.size h2,h3⟩
    have H6:=A3 (y.out.trans (X.mono y.out.size));obtain⟨a4,n4,c4,rfl⟩:∃a n c,v4=.slice a n c:=by
     rcases Wz.2 with⟨h,_⟩|⟨g,Gy,o,h,_⟩;·exact⟨_,_,_,h⟩
     ·exact⟨_,_,_,h⟩
    clear Wz X;go_wp2;go_ret2;exact⟨AA ⟨F5.out,_,rfl,by rw[E4.out];exact W.out⟩,H6.out⟩
   ·have D:AP (¬V.Iv s):=A3 λh=>by have:=(Kb.out.1 h).1;rw[bne_iff_ne]at hn;omega
    go_wp2;go_ret2;exact⟨AF ⟨D.out,_,rfl⟩,y.out.alloc y.out.size _⟩
theorem FX(w:A')(o:Du)(n:Nat)(h:n=w.heap.size):(w.alloc o).heap[n]?=Z o:=by subst h;show(w.heap.push o)[w.heap.size]?=Z o;rw[OX,if_pos rfl]
theorem E'(w:A')(o:Du)(n:Nat)(h:n<w.heap.size):(w.alloc o).heap[n]?=w.heap[n]?:=by show(w.heap.push o)[n]?=w.heap[n]?;rw[OX,if_neg (by omega)]
theorem Fp(w:A')(o:Du):(w.alloc o).heap.size=w.heap.size+1:=Array.size_push _
theorem tU(w:A')(a:Du):AS w.heap.size w (w.alloc a):=(B9 _ w).alloc (AX _) _
theorem Md(w:A')(a b:Du):AS w.heap.size w ((w.alloc a).alloc b):=(tU w a).alloc (by simp only[Fp];omega) _
theorem bx(w:A')(a b c:Du):AS w.heap.size w (((w.alloc a).alloc b).alloc c):=(Md w a b).alloc (by simp only[Fp];omega) _
theorem IF(e:AS w.heap.size w w'){x:Du}(h:w.heap[b]?=Z x):w'.heap[b]?=Z x:=by rw[e.block b (Array.getElem?_eq_some_iff.1 h).1];exact h
theorem lV(h:w.ownsRow base e s v n xs)(p:AS w.heap.size w w'):w'.ownsRow base e s v n xs:=by
 refine⟨h.1,?_⟩;rcases h.2 with f|⟨g,b,m,f,h2,h3,h4⟩;·exact AA f
 ·exact AF ⟨g,b,m,f,h2,IF p h3,h4⟩
theorem NO(h:w.ownsRow base e s v n xs):∃a c,v=As a n c:=by
 rcases h.2 with⟨b,h2⟩|⟨g,f,m,b,_⟩;·exact⟨J,0,by rw[b,h2]⟩
 ·exact⟨_,_,b⟩
theorem tV(h:w.ownsRow base e s v n xs)(hn:0<n):∃g b,v=As (Z ⟨g,0,J⟩) n b/\base<=g/\g<w.heap.size:=by
 rcases h.2 with⟨_,h2⟩|⟨g,b,m,f,h2,h3,_⟩;·omega
 ·exact⟨g,b,f,h2,(Array.getElem?_eq_some_iff.1 h3).1⟩
theorem QV{cap:Nat}(h:w.ownsRow base e s (As (Z ⟨g,0,J⟩) n cap) n xs)(j:Nat)(u:A1)(b:xs[j]?=Z u):w.cell? ⟨g,j,J⟩=Z u:=by have:=h.cells (g:=g) rfl j u b;rw[Gg]at this;simpa using this
theorem aK2{base':Nat}(h:w.ownsRow base e s v n xs)(p:base'<=base):w.ownsRow base' e s v n xs:=by
 refine⟨h.1,?_⟩;rcases h.2 with f|⟨g,b,m,f,h2,h3⟩;·exact AA f
 ·exact AF ⟨g,b,m,f,HA p h2,h3⟩
def F1(l:List Ax):List A1:=l.flatMap λp=>[AI p.1,AI p.2]
theorem ll(l:List Ax)(p:Ax):F1 (l++[p])=F1 l++[AI p.1,AI p.2]:=by simp[F1]
theorem a2y(l:List Ax):(F1 l).length=l.length*2:=by induction l with|nil=>rfl|cons x e b=>simp[F1]at b⊢;omega
theorem tj(l:List Ax):∀j(h:j<l.length),(F1 l)[j*2]?=Z (AI l[j].1)/\(F1 l)[j*2+1]?=Z (AI l[j].2):=by
 induction l with
 |nil=>intro j b;simp at b
 |cons x f m=>
  intro j b;have e:F1 (x::f)=[AI x.1,AI x.2]++F1 f:=rfl;match j with
  |0=>exact⟨rfl,rfl⟩
  |j+1=>
   have:=m j (by simp at b;omega);rw[e];refine⟨?_,?_⟩;·rw[T4 (by simp;omega),e5,<-this.1];congr 1;simp;omega
   ·rw[T4 (by simp;omega),e5,<-this.2];congr 1;simp;omega
def YO(w:A')(g:Nat)(l:List Ax):Prop:=∀j(h:j<l.length),w.cell? ⟨g,j*2,J⟩=Z (AI l[j].1)/\w.cell? ⟨g,j*2+1,J⟩=Z (AI l[j].2)
theorem YO.below{l:List Ax}(h:YO w g l)(b:AS w.heap.size w w'):YO w' g l:=λj e=>⟨Aw b (h j e).1,Aw b (h j e).2⟩
theorem c7{e:Nat}{l:List Ax}(h:w.ownsRow B e 2 v l.length (F1 l)):v=As J 0 0/\l=[]∨∃g c,v=As (Z ⟨g,0,J⟩) l.length c/\l.length<=c/\YO w g l/\B<=g:=by
 rcases h.2 with⟨b,h2⟩|⟨f,c,s,b,m,_,h4,_⟩;·exact AA ⟨b,List.length_eq_zero_iff.1 h2⟩
 ·refine AF ⟨f,c,b,h4,λj p=>?_,m⟩;rw[b]at h;have h3:=tj l j p;exact⟨QV h _ _ h3.1,QV h _ _ h3.2⟩
theorem VF{d8:Type}(l:List d8)(k:Nat)(h:k<l.length):l.take (k+1)=l.take k++[l[k]]:=UU h
theorem aJg:(A4.info? 221).map (λi=>(i.zero,i.size,i.bytes))=Z (Z (dd #[AI ⟨#[]⟩,AI ⟨#[]⟩]),2,32):=by kernel_rfl
theorem lB:(A4.info? 85).map (λi=>(i.zero,i.size,i.bytes))=Z (Z (dd #[AI ⟨#[]⟩,AI ⟨#[]⟩]),2,32):=by kernel_rfl
theorem aCV(v:A1)(w:A'):(Instr.typeAssert (aYJ 221 v) 179 221 A0).run A4 w=aY6 (aY8 #[v,aY5 A0]) w:=by kernel_rfl
def Ml(x:ByteArray)(l:List Ax):List A1:=aYJ 123 (dd #[AI x])::l.map λp=>aYJ 221 (dd #[AI p.1,AI p.2])
def nQ(x:ByteArray)(l:List Ax)(w:A')(k:Nat)(wr:A'):Prop:=∃b,wr.heap[w.heap.size+1]?=Z (BE #[AI x,b,As J 0 0,As J 0 0] 128)/\wr.heap[w.heap.size]?=Z (BE #[AI ⟨#[]⟩,As J 0 0,As J 0 0,As J 0 0] 128)/\wr.ownsRow (w.heap.size+2) 221 2 b k (F1 (l.take k))/\AS w.heap.size w wr
theorem a'X(g c:Nat)(x:ByteArray)(l:List Ax)(w:A')(A9:l.length<=1000000000)(h:∀j u,(Ml x l)[j]?=Z u->w.cell? ⟨g,j,J⟩=Z u):AZ A4 58 #[As (Z ⟨g,0,J⟩) (l.length+1) c] w λe w'=>∃B5,e=hq (dd #[AI x,B5,As J 0 0,As J 0 0])/\w'.ownsRow w.heap.size 221 2 B5 l.length (F1 l)/\AS w.heap.size w w':=by
 have a1:=jY;have I0:=jZ;have a3:=aCV;obtain⟨i0,hi,E9,DL,Cc⟩:=IT aJg;have H:=A3 h;have c0:=h 0 _ rfl;have AB:g<w.heap.size:=Ff (h:=c0);clear h;have FB:AP (AS w.heap.size w ((w.alloc (BE #[AI {data:=#[]},As J 0 0,As J 0 0,As J 0 0] 128)).alloc (BE #[AI {data:=#[]},As J 0 0,As J 0 0,As J 0 0] 128))):=A3 (Md _ _ _);have Lx:((w.alloc (BE #[AI {data:=#[]},As J 0 0,As J 0 0,As J 0 0] 128)).alloc (BE #[AI {data:=#[]},As J 0 0,As J 0 0,As J 0 0] 128)).cell? ⟨g,0,J⟩=Z (aYJ 123 (dd #[AI x])):=Aw FB.out c0;clear c0;go_enter Tryz.func58,Tryz.ntmps58;go_wp2;go_loopw[12]λi wr=>i=IS Po 0/\wr=(w.alloc (BE #[AI {data:=#[]},As J 0 0,As J 0 0,As J 0 0] 128)).alloc (BE #[AI {data:=#[]},As J 0 0,As J 0 0,As J 0 0] 128)∨∃k:Nat,k<=l.length/\i=IS Po ((k:Int)+1)/\AP (nQ x l w k wr)(λi _=>l.length+1-(Ay i).toNat);case atStart=>exact AA ⟨rfl,rfl⟩
 case round=>
  rcases hrel with⟨rfl,rfl⟩|⟨k,hk,rfl,o⟩
  ·have R:AP (nQ x l w 0 (((w.alloc (BE #[AI {data:=#[]},As J 0 0,As J 0 0,As J 0 0] 128)).alloc (BE #[AI x,As J 0 0,As J 0 0,As J 0 0] 128)).alloc (BE #[AI x] 123))):=by
    refine A3 ⟨As J 0 0,?_,?_,Vo _ _ _ _,bx _ _ _ _⟩;·rw[E' _ _ _ (by simp only[Fp];omega)];exact FX _ _ _ (by simp only[Fp])
    ·rw[E' _ _ _ (by simp only[Fp];omega),E' _ _ _ (by simp only[Fp];omega)];exact FX _ _ _ rfl
   go_wp2;first
   |exact⟨AF ⟨0,by omega,by go_num,R⟩,by simp[Ay]⟩
   |
    (
     go_roundw;case rel=>exact AF ⟨0,by omega,by go_num,R⟩
     case measure=>simp[Ay])
  ·obtain⟨B5,s,f,AQ,hb⟩:=o.out;have Cx:=A3 AQ;have Q:=A3 hb;have Vw:=A3 s;have P:=A3 f;obtain⟨C,I,rfl⟩:=NO AQ;have B3:w.heap.size+1<wr.heap.size:=(Array.getElem?_eq_some_iff.1 s).1;clear o AQ hb f;by_cases hlt:k<l.length
   ·have c1:=Aw Q.out (H.out (k+1) (aYJ 221 (dd #[AI l[k].1,AI l[k].2])) (by simp[Ml,hlt]));have S:=A3 (VF l k hlt);have E6:wr.cell? ⟨w.heap.size+1,1,J⟩=Z (As C k I):=by rw[Ad s];rfl
    have E2:wr.frozen? ⟨w.heap.size+1,1,J⟩=A5:=Dv s 1;generalize l[k]=m at c1 S;obtain⟨p,q⟩:=m;simp only at c1;clear s;go_wp2_with(at_builtin;refine L4 _ rfl _ _ 124 rfl (w.heap.size+2) 221 i0 (dd #[AI ⟨#[]⟩,AI ⟨#[]⟩]) 2 32 Tryz.underlying124 hi E9 DL Cc rfl (by decide) _ _ _ rfl ((Cx.out.alloc _).alloc _) ⟨wr.heap.size+1,0,J⟩ 1 1 [AI p,AI q] rfl rfl ?c1 ?c2 ?c3 ?c4 ?c5 ?_);case c1=>intro j u A;match j,A with|0,A=>simp at A;subst A;rw[Gg];simp|1,A=>simp at A;subst A;rw[Gg];simp
    case c2=>intro u hu;simp at hu;rcases hu with rfl|rfl<;>rfl
    case c3=>unfold BK;omega
    case c4=>omega
    case c5=>simp;omega
    intro v' K DO N _;have d:∀b,b<w.heap.size+2->Z b≠(As C k I).ownBlock:=λb hb e=>by have:=(Cx.out.lt b e.symm).1;omega
    have M:K.heap[w.heap.size+1]?=Z (BE #[AI x,As C k I,As J 0 0,As J 0 0] 128):=by rw[N.block _ (by simp;omega) (d _ (by omega)),E' _ _ _ (by simp;omega),E' _ _ _ (by omega)];exact Vw.out
    have W:K.heap[w.heap.size]?=Z (BE #[AI ⟨#[]⟩,As J 0 0,As J 0 0,As J 0 0] 128):=by rw[N.block _ (by simp;omega) (d _ (by omega)),E' _ _ _ (by simp;omega),E' _ _ _ (by omega)];exact P.out
    have X:AS w.heap.size w K:=((Q.out.alloc (by omega) _).alloc (by simp;omega) _).grown N (by simp;omega) (λk hk=>by have:=(Cx.out.lt k hk).1;omega);have B0:K.cell? ⟨w.heap.size+1,1,J⟩=Z (As C k I):=by rw[Ad M];rfl
    have Bi:K.frozen? ⟨w.heap.size+1,1,J⟩=A5:=Dv M 1;obtain⟨tt,lu,rfl⟩:=NO DO;have R:AP (nQ x l w (k+1) (K.setCell ⟨w.heap.size+1,1,J⟩ (As tt (k+1) lu))):=by
     refine A3 ⟨As tt (k+1) lu,?_,?_,?_,X.setCell (p:=⟨w.heap.size+1,1,J⟩) (by show _<=w.heap.size+1;omega) _⟩;·rw[EV _ _ _ _ _ _ M];rfl
     ·rw[F_ _ _ _ _ (by show w.heap.size≠w.heap.size+1;omega)];exact W
     ·rw[S.out,ll];refine⟨DO.1,?_⟩;rcases DO.2 with h|⟨y,z,U,h1,h2,h3,h4⟩;·exact AA h
      ·refine AF ⟨y,z,U,h1,h2,?_,h4⟩;rw[F_ _ _ _ _ (by show y≠w.heap.size+1;omega)];exact h3
    clear N DO X M W d;go_wp2;first
    |exact⟨AF ⟨k+1,by omega,by go_num,R⟩,by simp[Ay];omega⟩
    |
     (
      go_roundw;case rel=>exact AF ⟨k+1,by omega,by go_num,R⟩
      case measure=>simp[Ay];omega)
   ·have GK:k=l.length:=by omega
    subst GK;rw[On]at Cx;have b0:wr.cell? ⟨w.heap.size+1,0,J⟩=Z (AI x):=by rw[Ad s];rfl
    have E6:wr.cell? ⟨w.heap.size+1,1,J⟩=Z (As C l.length I):=by rw[Ad s];rfl
    have b2:wr.cell? ⟨w.heap.size+1,2,J⟩=Z (As J 0 0):=by rw[Ad s];rfl
    have Ow:wr.cell? ⟨w.heap.size+1,3,J⟩=Z (As J 0 0):=by rw[Ad s];rfl
    clear s;have f:=P.out;have r0:wr.cell? ⟨w.heap.size,0,J⟩=Z (AI ⟨#[]⟩):=by rw[Ad f];rfl
    have r1:wr.cell? ⟨w.heap.size,1,J⟩=Z (As J 0 0):=by rw[Ad f];rfl
    have r2:wr.cell? ⟨w.heap.size,2,J⟩=Z (As J 0 0):=by rw[Ad f];rfl
    have EI:wr.cell? ⟨w.heap.size,3,J⟩=Z (As J 0 0):=by rw[Ad f];rfl
    have f0:wr.frozen? ⟨w.heap.size,0,J⟩=A5:=Dv f 0;have Gz:wr.frozen? ⟨w.heap.size,1,J⟩=A5:=Dv f 1;have HE:wr.frozen? ⟨w.heap.size,2,J⟩=A5:=Dv f 2;have Rg:wr.frozen? ⟨w.heap.size,3,J⟩=A5:=Dv f 3;have D:=EV _ w.heap.size 3 _ _ (As J 0 0) (EV _ w.heap.size 2 _ _ (As J 0 0) (EV _ w.heap.size 1 _ _ (As C l.length I) (EV wr w.heap.size 0 _ _ (AI x) f)));clear f;go_wp2;(try simp only[Sl,Exit.then]);refine L3 (Y0 rfl _ _ w.heap.size 128 #[AI x,As C l.length I,As J 0 0,As J 0 0] (0,0) _ rfl D Tryz.underlying128 rfl (by kernel_rfl)) rfl ?_;refine⟨_,rfl,?_,(((Q.out.setCell (p:=⟨w.heap.size,0,J⟩) (AX _) _).setCell (p:=⟨w.heap.size,1,J⟩) (AX _) _).setCell (p:=⟨w.heap.size,2,J⟩) (AX _) _).setCell (p:=⟨w.heap.size,3,J⟩) (AX _) _⟩;refine⟨Cx.out.1,?_⟩;rcases Cx.out.2 with h|⟨y,z,U,h1,h2,h3,h4⟩;·exact AA h
    ·refine AF ⟨y,z,U,h1,by omega,?_,h4⟩;rw[F_ _ _ _ _ (by show y≠w.heap.size;omega),F_ _ _ _ _ (by show y≠w.heap.size;omega),F_ _ _ _ _ (by show y≠w.heap.size;omega),F_ _ _ _ _ (by show y≠w.heap.size;omega)];exact h3
theorem bytes_inj{a b:ByteArray}(h:a.toList=b.toList):a=b:=by rw[Xo,Xo]at h;have h2:=Array.toList_inj.1 h;cases a;cases b;simp_all
def isStr(u:A1):Prop:=∃s,u=AI s
def HO(w:A')(v:A1)(l:List Ax):Prop:=v=As J 0 0/\l=[]∨∃g c,v=As (Z ⟨g,0,J⟩) l.length c/\YO w g l
theorem HO.below{w w':A'}{v:A1}{l:List Ax}(h:HO w v l)(e:AS w.heap.size w w'):HO w' v l:=by
 rcases h with h|⟨g,c,b,h2⟩;·exact AA h
 ·exact AF ⟨g,c,b,h2.below e⟩
theorem tk{e:Nat}{l:List Ax}(h:w.ownsRow B e 2 v l.length (F1 l)):HO w v l:=by
 rcases c7 h with h|⟨g,c,b,_,h2,_⟩;·exact AA h
 ·exact AF ⟨g,c,b,h2⟩
theorem uy{e:Nat}(f:w.ownsRow B e s v n xs)(h:GJ GV w s v n):GJ GV (w.alloc a) s v n:=h.same λg b hv=>by subst hv;exact E' _ _ _ (f.lt g rfl).2
theorem aRG{e:Nat}{b c:Du}(f:w.ownsRow B e s v n xs)(h:GJ GV w s v n):GJ GV (((w.alloc a).alloc b).alloc c) s v n:=uy ((f.alloc a).alloc b) (uy (f.alloc a) (uy f h))
theorem a3V(own:ByteArray)(r1 r2 c1:Nat)(v:A1)(l:List Ax)(w:A')(d:w.heap[r1]?=Z (oF #[] c1))(hv:HO w v l)(A9:l.length<=1000000000)(o:∀m∈l,m.1≠own/\Fh m):AZ A4 125 #[dd #[AI own,E3 (Z r1),E3 (Z r2)],v] w λe w'=>∃Q,e=hq Q/\w'.ownsRow w.heap.size 85 2 Q l.length (F1 l)/\GJ isStr w' 2 Q l.length/\AS w.heap.size w w':=by
 obtain⟨i0,hi,E9,DL,Cc⟩:=IT lB;have Sz:=A3 o;have pH:=A3 d;have N:AP (AS w.heap.size w (w.alloc (BE #[AI own,E3 (Z r1),E3 (Z r2)] 134))):=A3 (tU _ _);obtain⟨a,c,rfl,DS⟩:∃a c,v=As a l.length c/\AP (∀k(h:k<l.length),∃g,a=Z ⟨g,0,J⟩/\w.cell? ⟨g,k*2,J⟩=Z (AI l[k].1)/\w.cell? ⟨g,k*2+1,J⟩=Z (AI l[k].2)):=by
  rcases hv with⟨rfl,rfl⟩|⟨g,c,rfl,h⟩;·exact⟨J,0,rfl,A3 λk h=>by cases h⟩
  ·exact⟨_,c,rfl,A3 λk C=>⟨g,rfl,h k C⟩⟩
 clear o d hv;go_enter Tryz.func125,Tryz.ntmps125;go_wp2;generalize A:w.alloc (BE #[AI own,E3 (Z r1),E3 (Z r2)] 134)=W at N⊢;have P:W.heap.size=w.heap.size+1:=by rw[<-A];simp
 have HY:W.cell? ⟨w.heap.size,0,J⟩=Z (AI own):=by rw[<-A];simp
 have HJ:W.cell? ⟨w.heap.size,1,J⟩=Z (E3 (Z r1)):=by rw[<-A];simp
 have S:=A3 P;clear P A;go_loopw[5,11]λv i wr=>∃k:Nat,k<=l.length/\i=IS Po k/\AP (wr.ownsRow W.heap.size 85 2 v k (F1 (l.take k))/\GJ isStr wr 2 v k/\AS W.heap.size W wr)(λ_ i _=>l.length-(Ay i).toNat);case atStart=>exact⟨0,by omega,rfl,A3 ⟨Vo _ _ _ _,GJ.nil _ _ _,B9 _ _⟩⟩
 case round=>
  obtain⟨k,C,rfl,H⟩:=hrel;obtain⟨AQ,X,I⟩:=H.out;have j6:=A3 X;have f:=A3 AQ;have s:=A3 I;have z:=A3 (N.out.trans (I.mono N.out.size));clear H AQ I X;by_cases hlt:k<l.length
  ·obtain⟨g,rfl,Iz,Fx⟩:=DS.out k hlt;have c0:=Aw z.out Iz;have jb:=Aw z.out Fx;have t0:=Aw s.out HY;have t1:=Aw s.out HJ;have Wo:W.heap.size<=wr.heap.size:=s.out.size;have FT:w.heap.size<wr.heap.size:=by have:=S.out;omega
   have Fl:g<wr.heap.size:=Ff (h:=c0);have U:=A3 (VF l k hlt);obtain⟨K,M⟩:=Sz.out l[k] (EC hlt);generalize l[k]=m at c0 jb U K M;obtain⟨p,q⟩:=m;simp only at c0 jb K;have sQ:¬p.toList=own.toList:=λh=>K (bytes_inj h);have NF:∀x y,(Hv 131 (E3 (Z r1)) (dd #[AI p,AI q]) A5).run A4 ((wr.alloc x).alloc y)=aY6 (IS Po 0) ((wr.alloc x).alloc y):=by intro x y;refine aLB r1 c1 (p,q) _ M ?_;have h1:=IF z.out pH.out;have h2:=(Array.getElem?_eq_some_iff.1 h1).1;rw[E' _ _ _ (by simp only[Fp];omega),E' _ _ _ h2];exact h1
   clear Iz Fx M;go_wp2_with(at_builtin;refine a6W _ isStr rfl _ _ 57 rfl W.heap.size 85 i0 (dd #[AI ⟨#[]⟩,AI ⟨#[]⟩]) 2 32 iY hi E9 DL Cc rfl (by decide) (λu hu=>by simp[Value.cells]at hu;exact⟨_,hu⟩) _ _ _ rfl (((f.out.alloc _).alloc _).alloc _) (aRG f.out j6.out) ⟨wr.heap.size+2,0,J⟩ 1 1 [AI p,AI q] rfl rfl ?c1 ?c2 (by omega) ?c3 ?c4 ?c5 ?_);case roundEnd=>rename_i h;simp at h;exact absurd h sQ
   case c1=>intro j u b;have J0:=FX ((wr.alloc (BE #[AI p,AI q] 221)).alloc (BE #[AI p,AI q] 85)) (BE #[AI p,AI q] 85) (wr.heap.size+2) (by simp);match j,b with|0,b=>simp at b;subst b;rw[Gg,Ad J0];rfl|1,b=>simp at b;subst b;rw[Gg,Ad J0];rfl
   case c2=>intro u hu;simp at hu;rcases hu with rfl|rfl<;>rfl
   case c3=>unfold BK;omega
   case c4=>omega
   case c5=>simp;omega
   intro v' D DO C' Z9;have kc:AS W.heap.size W D:=(((s.out.alloc Wo _).alloc (by simp;omega) _).alloc (by simp;omega) _).grown C' (by simp;omega) λk C=>(f.out.lt k C).1;have R:AP (D.ownsRow W.heap.size 85 2 v' (k+1) (F1 (l.take (k+1)))/\GJ isStr D 2 v' (k+1)/\AS W.heap.size W D):=by refine A3 ⟨?_,Z9,kc⟩;rw[U.out,ll];exact DO
   clear C' DO kc NF Z9;go_wp2;first
   |exact⟨⟨k+1,by omega,by go_num,R⟩,by simp[Ay];omega⟩
   |
    (
     go_roundw;case rel=>exact⟨k+1,by omega,by go_num,R⟩
     case measure=>simp[Ay];omega)
  ·have GK:k=l.length:=by omega
   subst GK;rw[On]at f;go_wp2;go_ret;exact⟨_,rfl,aK2 f.out (by have:=S.out;omega),j6.out,z.out⟩
theorem aJd(own:ByteArray)(r1 r2 c2:Nat)(m:Ax)(w:A')(b:w.heap[r2]?=Z (oF #[] c2))(hm:Fh m):AZ A4 289 #[dd #[AI own,E3 (Z r1),E3 (Z r2)],dd #[AI m.1,AI m.2]] w λe w'=>e=hq (dd #[AI m.1,AI m.2])/\AS w.heap.size w w':=by
 obtain⟨p,q⟩:=m;have f:=A3 b;have hlt:=(Array.getElem?_eq_some_iff.1 b).1;have h:∀x y z,(Hv 132 (E3 (Z r2)) (dd #[AI p,AI q]) A0).run A4 (((w.alloc x).alloc y).alloc z)=aY6 (aY8 #[dd #[AI ⟨#[]⟩,AI ⟨#[]⟩],aY5 A5]) (((w.alloc x).alloc y).alloc z):=by intro x y z;refine a2U r2 c2 (p,q) _ hm ?_;rw[E' _ _ _ (by simp only[Fp];omega),E' _ _ _ (by simp only[Fp];omega),E' _ _ _ hlt];exact f.out
 have s:∀x y z u,(Hv 132 (E3 (Z r2)) (dd #[AI p,AI ⟨#[]⟩]) A0).run A4 ((((w.alloc x).alloc y).alloc z).alloc u)=aY6 (aY8 #[dd #[AI ⟨#[]⟩,AI ⟨#[]⟩],aY5 A5]) ((((w.alloc x).alloc y).alloc z).alloc u):=by intro x y z u;refine a2U r2 c2 (p,⟨#[]⟩) _ ⟨hm.1,by show(0:Nat)<=_;omega⟩ ?_;rw[E' _ _ _ (by simp only[Fp];omega),E' _ _ _ (by simp only[Fp];omega),E' _ _ _ (by simp only[Fp];omega),E' _ _ _ hlt];exact f.out
 clear b hm hlt;go_enter Tryz.func289,Tryz.ntmps289;go_wp2;(try simp only[Sl,Exit.then]);refine L3 (Y0 rfl _ _ (w.heap.size+1+1) 85 #[AI p,AI q] (0,0) _ rfl ?_ Xv rfl (by kernel_rfl)) rfl ?_;·rw[E' _ _ _ (by simp only[Fp];omega),E' _ _ _ (by simp only[Fp];omega)];exact FX _ _ _ (by simp only[Fp])
 ·exact⟨rfl,((bx w _ _ _).alloc (by simp only[Fp];omega) _).alloc (by simp only[Fp];omega) _⟩
theorem results_cell_tmp{P:Ac}{fn:Func}{p q:Tmp}{ty:A_}(h:fn.results=#[.cell p ty,.tmp q])(b:Array A1)(w:A')(g:Nat)(t:A_)(cs:Array A1)(fr:Nat×Nat)(d:TypeDesc)(m:b.getD p Y=aY4 (Z ⟨g,0,J⟩))(f:w.heap[g]?=Z (BE cs t fr))(hu:P.underlying ty=Z d)(e:(match d with|aYu _|.array _ _=>A0|_=>A5)=A0)(hi:(P.info? ty).map (·.size)=Z cs.size):(De fn b).run P w=aY6 (aY8 #[dd cs,b.getD q Y]) w:=by
 have s:b[p]?.getD Y=aY4 (Z ⟨g,0,J⟩):=by simpa using m
 simp[De,h,s,asAddr,aAC w g t ty cs fr d f hu e hi]
structure Rel where
 p:ByteArray
 v:ByteArray
 m:ByteArray
 Bj:Option Aa
 B4:Nat
 Bt:Nat
 DT:List Ax
variable{G:List Rel}
def Rel.name(r:Rel):Ax:=(r.p,r.v)
def Kf(w:A')(b:Nat)(G:List Rel):Prop:=∀i(h:i<G.length),w.cell? ⟨b,i*4,J⟩=Z (AI G[i].p)/\w.cell? ⟨b,i*4+1,J⟩=Z (AI G[i].v)/\w.cell? ⟨b,i*4+2,J⟩=Z (AI G[i].m)/\w.cell? ⟨b,i*4+3,J⟩=Z (As G[i].Bj G[i].B4 G[i].Bt)
theorem Kf.below{c:Nat}(h:Kf w c G)(b:AS w.heap.size w w'):Kf w' c G:=λi hi=>⟨Aw b (h i hi).1,Aw b (h i hi).2.1,Aw b (h i hi).2.2.1,Aw b (h i hi).2.2.2⟩
def places(G:List Rel):List (Ax×Nat):=G.zipIdx.map λx=>(x.1.name,x.2)
theorem mP{x:Ax×Nat}(h:x∈places G):∃hi:x.2<G.length,G[x.2].name=x.1:=by obtain⟨y,hy,rfl⟩:=List.mem_map.1 h;have:=List.mem_zipIdx_iff_getElem?.1 hy;obtain⟨b,h2⟩:=List.getElem?_eq_some_iff.1 this;exact⟨b,by simp only;rw[h2]⟩
theorem aOJ(i:Nat)(hi:i<G.length):(G[i].name,i)∈places G:=List.mem_map.2 ⟨(G[i],i),by rw[aBd];exact Ld hi,rfl⟩
structure O'(G:List Rel):Prop where
 nodup:(G.map Rel.name).Nodup
 short:∀r∈G,Fh r.name
 len:G.length<=1000000
theorem O'.inj(h:O' G){i j:Nat}(hi:i<G.length)(f:j<G.length)(e:G[i].name=G[j].name):i=j:=by
 have b:i<(G.map Rel.name).length:=by simpa using hi
 have h2:j<(G.map Rel.name).length:=by simpa using f
 exact(a_L (h₀:=b) (h₁:=h2) h.nodup).1 (by simpa using e)
theorem O'.keys(h:O' G):∀x∈places G,Fh x.1:=λx hx=>by obtain⟨hi,e⟩:=mP hx;rw[<-e];exact h.short _ (EC hi)
theorem aFW(A cap f c:Nat)(G:List Rel)(i:Nat)(hi:i<G.length)(b:O' G)(w:A')(s:w.heap[f]?=Z (oF (Eb (places G)) c))(hs:Kf w A G):AZ A4 218 #[dd #[As (Z ⟨A,0,J⟩) G.length cap,E3 (Z f)],dd #[AI G[i].p,AI G[i].v]] w λe w'=>e=hq (aY8 #[dd #[AI G[i].p,AI G[i].v,AI G[i].m,As G[i].Bj G[i].B4 G[i].Bt],aY5 A0])/\AS w.heap.size w w':=by
 have D:=A3 s;have hlt:=(Array.getElem?_eq_some_iff.1 s).1;obtain⟨c0,c1,c2,c3⟩:=hs i hi;have N:A<w.heap.size:=Ff (h:=c0);have C:∀x y z,(Hv 131 (E3 (Z f)) (dd #[AI G[i].p,AI G[i].v]) A0).run A4 (((w.alloc x).alloc y).alloc z)=aY6 (aY8 #[IS Po (i:Int),aY5 A0]) (((w.alloc x).alloc y).alloc z):=by
  intro x y z;rcases a2T f c (places G) G[i].name (((w.alloc x).alloc y).alloc z) (b.short _ (EC hi)) b.keys (by rw[E' _ _ _ (by simp only[Fp];omega),E' _ _ _ (by simp only[Fp];omega),E' _ _ _ hlt];exact D.out)with⟨_,h⟩|⟨x,hx,he,h⟩;·exact absurd rfl (h _ (aOJ i hi))
  ·obtain⟨I,e2⟩:=mP hx;have:x.2=i:=b.inj I hi (e2.trans he);rw[this]at h;exact h
 have M:i<1000000:=by have:=b.len;omega
 have H:(i:Int)<(G.length:Int):=by omega
 generalize K:G[i]=r at c0 c1 c2 c3 C⊢;obtain⟨p,v,m,Bj,B4,Bt,ip⟩:=r;simp only at c0 c1 c2 c3 C;have Q:=λx y z=>BX (BX (BX c0 x) y) z;have U:=λx y z=>BX (BX (BX c1 x) y) z;have d:=λx y z=>BX (BX (BX c2 x) y) z;have j:=λx y z=>BX (BX (BX c3 x) y) z;clear K s hlt b hs c0 c1 c2 c3;go_enter Tryz.func218,Tryz.ntmps218;go_wp2;(try simp only[Sl,Exit.then]);refine L3 (results_cell_tmp rfl _ _ (w.heap.size+1+1) 75 #[AI p,AI v,AI m,As Bj B4 Bt] (0,0) _ rfl (FX _ _ _ (by simp only[Fp])) Tryz.underlying75 rfl (by kernel_rfl)) rfl ?_;exact⟨rfl,bx _ _ _ _⟩
theorem a2E(w:A')(a b c:Du):(((w.alloc a).alloc b).alloc c).heap[w.heap.size]?=Z a:=by rw[E' _ _ _ (by simp only[Fp];omega),E' _ _ _ (by simp only[Fp];omega)];exact FX _ _ _ rfl
theorem tQ(w:A')(a b c:Du):(((w.alloc a).alloc b).alloc c).heap[w.heap.size+1]?=Z b:=by rw[E' _ _ _ (by simp only[Fp];omega)];exact FX _ _ _ (by simp only[Fp])
theorem tR(w:A')(a b c:Du):(((w.alloc a).alloc b).alloc c).heap[w.heap.size+1+1]?=Z c:=FX _ _ _ (by simp only[Fp])
theorem a2F(w:A')(a b c:Du):(((w.alloc a).alloc b).alloc c).heap.size=w.heap.size+1+1+1:=by simp only[Fp]
theorem zH{wa c:A'}{GV:Du}(h:AS n (wa.alloc GV) c)(hn:wa.heap.size<n):c.heap[wa.heap.size]?=Z GV:=(h.block _ hn).trans (FX wa _ _ rfl)
theorem qA(h:w.heap[b]?=Z (BE #[g5,fk,g0,g2] t)):w.cell? ⟨b,0,J⟩=Z g5/\w.cell? ⟨b,1,J⟩=Z fk/\w.cell? ⟨b,2,J⟩=Z g0/\w.cell? ⟨b,3,J⟩=Z g2/\w.frozen? ⟨b,0,J⟩=A5/\w.frozen? ⟨b,1,J⟩=A5/\w.frozen? ⟨b,2,J⟩=A5/\w.frozen? ⟨b,3,J⟩=A5/\AP (w.heap[b]?=Z (BE #[g5,fk,g0,g2] t)):=⟨by rw[Ad h];rfl,by rw[Ad h];rfl,by rw[Ad h];rfl,by rw[Ad h];rfl,Dv h 0,Dv h 1,Dv h 2,Dv h 3,A3 h⟩
theorem eS{W:A'}(h:AS B W w)(e:B<=b):AS B W ((((w.setCell ⟨b,0,J⟩ g5).setCell ⟨b,1,J⟩ fk).setCell ⟨b,2,J⟩ g0).setCell ⟨b,3,J⟩ g2):=(((h.setCell (p:=⟨b,0,J⟩) e _).setCell (p:=⟨b,1,J⟩) e _).setCell (p:=⟨b,2,J⟩) e _).setCell (p:=⟨b,3,J⟩) e _
theorem aHL{z0 E2 z2 z3:A1}(h:w.heap[b]?=Z (BE #[z0,E2,z2,z3] t))(e f m p:A1):((((w.setCell ⟨b,0,J⟩ e).setCell ⟨b,1,J⟩ f).setCell ⟨b,2,J⟩ m).setCell ⟨b,3,J⟩ p).heap[b]?=Z (BE #[e,f,m,p] t):=EV _ b 3 _ _ p (EV _ b 2 _ _ m (EV _ b 1 _ _ f (EV w b 0 _ _ e h)))
theorem aCr{W:A'}(h:AS B W w)(e:B<=b){c d i j:A1}:AS B W ((((((((w.setCell ⟨b,0,J⟩ g5).setCell ⟨b,1,J⟩ fk).setCell ⟨b,2,J⟩ g0).setCell ⟨b,3,J⟩ g2).setCell ⟨b,4,J⟩ c).setCell ⟨b,5,J⟩ d).setCell ⟨b,6,J⟩ i).setCell ⟨b,7,J⟩ j):=((((eS h e).setCell (p:=⟨b,4,J⟩) e _).setCell (p:=⟨b,5,J⟩) e _).setCell (p:=⟨b,6,J⟩) e _).setCell (p:=⟨b,7,J⟩) e _
theorem aHM{z0 E2 z2 z3 z4 z5 U0 Sd:A1}(h:w.heap[b]?=Z (BE #[z0,E2,z2,z3,z4,z5,U0,Sd] t))(e f m p s x y I:A1):((((((((w.setCell ⟨b,0,J⟩ e).setCell ⟨b,1,J⟩ f).setCell ⟨b,2,J⟩ m).setCell ⟨b,3,J⟩ p).setCell ⟨b,4,J⟩ s).setCell ⟨b,5,J⟩ x).setCell ⟨b,6,J⟩ y).setCell ⟨b,7,J⟩ I).heap[b]?=Z (BE #[e,f,m,p,s,x,y,I] t):=by
 have K:(w.setCell ⟨b,0,J⟩ e).heap[b]?=Z (BE #[e,E2,z2,z3,z4,z5,U0,Sd] t):=by rw[EV w b 0 _ _ e h];rfl
 generalize w.setCell ⟨b,0,J⟩ e=w0 at K⊢;have M:(w0.setCell ⟨b,1,J⟩ f).heap[b]?=Z (BE #[e,f,z2,z3,z4,z5,U0,Sd] t):=by rw[EV w0 b 1 _ _ f K];rfl
 generalize w0.setCell ⟨b,1,J⟩ f=z at M⊢;have h2:(z.setCell ⟨b,2,J⟩ m).heap[b]?=Z (BE #[e,f,m,z3,z4,z5,U0,Sd] t):=by rw[EV z b 2 _ _ m M];rfl
 generalize z.setCell ⟨b,2,J⟩ m=A at h2⊢;have h3:(A.setCell ⟨b,3,J⟩ p).heap[b]?=Z (BE #[e,f,m,p,z4,z5,U0,Sd] t):=by rw[EV A b 3 _ _ p h2];rfl
 generalize A.setCell ⟨b,3,J⟩ p=C at h3⊢;have h4:(C.setCell ⟨b,4,J⟩ s).heap[b]?=Z (BE #[e,f,m,p,s,z5,U0,Sd] t):=by rw[EV C b 4 _ _ s h3];rfl
 generalize C.setCell ⟨b,4,J⟩ s=D at h4⊢;have N:(D.setCell ⟨b,5,J⟩ x).heap[b]?=Z (BE #[e,f,m,p,s,x,U0,Sd] t):=by rw[EV D b 5 _ _ x h4];rfl
 generalize D.setCell ⟨b,5,J⟩ x=H at N⊢;have Q:(H.setCell ⟨b,6,J⟩ y).heap[b]?=Z (BE #[e,f,m,p,s,x,y,Sd] t):=by rw[EV H b 6 _ _ y N];rfl
 generalize H.setCell ⟨b,6,J⟩ y=U at Q⊢;rw[EV U b 7 _ _ I Q];rfl
theorem uk(e:g≠b)(f h m p s x y z:A1):((((((((w.setCell ⟨b,0,J⟩ f).setCell ⟨b,1,J⟩ h).setCell ⟨b,2,J⟩ m).setCell ⟨b,3,J⟩ p).setCell ⟨b,4,J⟩ s).setCell ⟨b,5,J⟩ x).setCell ⟨b,6,J⟩ y).setCell ⟨b,7,J⟩ z).heap[g]?=w.heap[g]?:=by rw[F_ _ _ _ _ (show g≠b from e),F_ _ _ _ _ (show g≠b from e),F_ _ _ _ _ (show g≠b from e),F_ _ _ _ _ (show g≠b from e),F_ _ _ _ _ (show g≠b from e),F_ _ _ _ _ (show g≠b from e),F_ _ _ _ _ (show g≠b from e),F_ _ _ _ _ (show g≠b from e)]
theorem TD{o:Nat}(e:g≠b)(f h m p s x y z:A1):((((((((w.setCell ⟨b,0,J⟩ f).setCell ⟨b,1,J⟩ h).setCell ⟨b,2,J⟩ m).setCell ⟨b,3,J⟩ p).setCell ⟨b,4,J⟩ s).setCell ⟨b,5,J⟩ x).setCell ⟨b,6,J⟩ y).setCell ⟨b,7,J⟩ z).cell? ⟨g,o,J⟩=w.cell? ⟨g,o,J⟩:=F4 (uk e _ _ _ _ _ _ _ _)
theorem aD3{c d i j:A1}(h:w.heap[b]?=Z (BE #[g5,fk,g0,g2,c,d,i,j] t)):(w.cell? ⟨b,0,J⟩=Z g5/\w.cell? ⟨b,1,J⟩=Z fk/\w.cell? ⟨b,2,J⟩=Z g0/\w.cell? ⟨b,3,J⟩=Z g2/\w.cell? ⟨b,4,J⟩=Z c/\w.cell? ⟨b,5,J⟩=Z d/\w.cell? ⟨b,6,J⟩=Z i/\w.cell? ⟨b,7,J⟩=Z j)/\w.frozen? ⟨b,0,J⟩=A5/\w.frozen? ⟨b,1,J⟩=A5/\w.frozen? ⟨b,2,J⟩=A5/\w.frozen? ⟨b,3,J⟩=A5/\w.frozen? ⟨b,4,J⟩=A5/\w.frozen? ⟨b,5,J⟩=A5/\w.frozen? ⟨b,6,J⟩=A5/\w.frozen? ⟨b,7,J⟩=A5:=⟨⟨by rw[Ad h];rfl,by rw[Ad h];rfl,by rw[Ad h];rfl,by rw[Ad h];rfl,by rw[Ad h];rfl,by rw[Ad h];rfl,by rw[Ad h];rfl,by rw[Ad h];rfl⟩,Dv h 0,Dv h 1,Dv h 2,Dv h 3,Dv h 4,Dv h 5,Dv h 6,Dv h 7⟩
structure eF(own:ByteArray)(r:Rel):Prop where
 Iv:V.Iv r.m
 lines:Lz (V.parse r.m).1=Ml r.p r.DT
 size:r.m.size<=1000000000
 DT:∀m∈r.DT,m.1≠own/\Fh m
 len:r.DT.length<=1000000
structure Reads(w:A')(own:ByteArray)(r1 r2 bi Aq:Nat)(G:List Rel):Prop where
 EF:∃m,w.cell? ⟨0,0,J⟩=Z (IS Po m)
 ex:∃c,w.heap[r1]?=Z (oF #[] c)
 aPi:∃c,w.heap[r2]?=Z (oF #[] c)
 pl:∃c,w.heap[Aq]?=Z (oF (Eb (places G)) c)
 reg:Kf w bi G
theorem Reads.below{w w':A'}{own:ByteArray}{r1 r2 c d:Nat}{G:List Rel}(h:Reads w own r1 r2 c d G)(b:AS w.heap.size w w'):Reads w' own r1 r2 c d G:=by obtain⟨⟨m,e⟩,⟨c2,h2⟩,⟨c3,h3⟩,⟨c4,h4⟩,f⟩:=h;exact⟨⟨m,Aw b e⟩,⟨c2,IF b h2⟩,⟨c3,IF b h3⟩,⟨c4,IF b h4⟩,f.below b⟩
abbrev HW(own:ByteArray)(r1 r2 bi n cap Aq:Nat):A1:=dd #[AI own,E3 (Z r1),E3 (Z r2),As (Z ⟨bi,0,J⟩) n cap,E3 (Z Aq)]
abbrev XK(r:Rel)(B5:A1):A1:=dd #[AI r.p,AI r.v,AI r.p,AI r.v,AI r.m,As r.Bj r.B4 r.Bt,IS Po 0,B5]
theorem aPk(own:ByteArray)(r1 r2 z cap A:Nat)(G:List Rel)(i:Nat)(hi:i<G.length)(B8:O' G)(FE:eF own G[i])(w:A')(A2:Reads w own r1 r2 z A G):AZ A4 200 #[HW own r1 r2 z G.length cap A,dd #[AI G[i].p,AI G[i].v]] w λe w'=>∃K,e=hq (XK G[i] K)/\w'.ownsRow w.heap.size 85 2 K G[i].DT.length (F1 G[i].DT)/\GJ isStr w' 2 K G[i].DT.length/\AS w.heap.size w w':=by
 have Cg:=A3 A2;have UO:=A3 (B8.short _ (EC hi));have El:=A3 λ(wx:A')(c:Nat)hp hs=>aFW z cap A c G i hi B8 wx hp hs;have N:=A3 FE;clear B8 FE A2;generalize AB:G[i]=r at UO El N⊢;obtain⟨p,v,m,Bj,B4,Bt,ip⟩:=r;simp only[HW,XK,Rel.name]at*;clear AB;go_enter Tryz.func200,Tryz.ntmps200;go_wp2_with fail;have Uv:=bx w (BE #[AI own,E3 (Z r1),E3 (Z r2),As (Z ⟨z,0,J⟩) G.length cap,E3 (Z A)] 138) (BE #[AI p,AI v] 85) (BE #[AI ⟨#[]⟩,AI ⟨#[]⟩,AI ⟨#[]⟩,AI ⟨#[]⟩,AI ⟨#[]⟩,As J 0 0,IS Po 0,As J 0 0] 234);have g5:=a2E w (BE #[AI own,E3 (Z r1),E3 (Z r2),As (Z ⟨z,0,J⟩) G.length cap,E3 (Z A)] 138) (BE #[AI p,AI v] 85) (BE #[AI ⟨#[]⟩,AI ⟨#[]⟩,AI ⟨#[]⟩,AI ⟨#[]⟩,AI ⟨#[]⟩,As J 0 0,IS Po 0,As J 0 0] 234);have fk:=tQ w (BE #[AI own,E3 (Z r1),E3 (Z r2),As (Z ⟨z,0,J⟩) G.length cap,E3 (Z A)] 138) (BE #[AI p,AI v] 85) (BE #[AI ⟨#[]⟩,AI ⟨#[]⟩,AI ⟨#[]⟩,AI ⟨#[]⟩,AI ⟨#[]⟩,As J 0 0,IS Po 0,As J 0 0] 234);have g0:=tR w (BE #[AI own,E3 (Z r1),E3 (Z r2),As (Z ⟨z,0,J⟩) G.length cap,E3 (Z A)] 138) (BE #[AI p,AI v] 85) (BE #[AI ⟨#[]⟩,AI ⟨#[]⟩,AI ⟨#[]⟩,AI ⟨#[]⟩,AI ⟨#[]⟩,As J 0 0,IS Po 0,As J 0 0] 234);have AR:=a2F w (BE #[AI own,E3 (Z r1),E3 (Z r2),As (Z ⟨z,0,J⟩) G.length cap,E3 (Z A)] 138) (BE #[AI p,AI v] 85) (BE #[AI ⟨#[]⟩,AI ⟨#[]⟩,AI ⟨#[]⟩,AI ⟨#[]⟩,AI ⟨#[]⟩,As J 0 0,IS Po 0,As J 0 0] 234);generalize((w.alloc (BE #[AI own,E3 (Z r1),E3 (Z r2),As (Z ⟨z,0,J⟩) G.length cap,E3 (Z A)] 138)).alloc (BE #[AI p,AI v] 85)).alloc (BE #[AI ⟨#[]⟩,AI ⟨#[]⟩,AI ⟨#[]⟩,AI ⟨#[]⟩,AI ⟨#[]⟩,As J 0 0,IS Po 0,As J 0 0] 234)=W at Uv g5 fk g0 AR⊢;have FB:=A3 Uv;have JH:=A3 AR;have T1:=A3 g5;have MK:=A3 fk;have RQ:=A3 g0;clear Uv AR g5 fk g0;have o:AP (∀wx,AS W.heap.size W wx->wx.cell? ⟨w.heap.size,0,J⟩=Z (AI own)/\wx.cell? ⟨w.heap.size,1,J⟩=Z (E3 (Z r1))/\wx.cell? ⟨w.heap.size,2,J⟩=Z (E3 (Z r2))/\wx.cell? ⟨w.heap.size,3,J⟩=Z (As (Z ⟨z,0,J⟩) G.length cap)/\wx.cell? ⟨w.heap.size,4,J⟩=Z (E3 (Z A))/\wx.cell? ⟨w.heap.size+1,0,J⟩=Z (AI p)/\wx.cell? ⟨w.heap.size+1,1,J⟩=Z (AI v)):=by refine A3 λwx x=>?_;have AV:=IF x T1.out;have h1:=IF x MK.out;exact⟨by rw[Ad AV];rfl,by rw[Ad AV];rfl,by rw[Ad AV];rfl,by rw[Ad AV];rfl,by rw[Ad AV];rfl,by rw[Ad h1];rfl,by rw[Ad h1];rfl⟩
 have R:AP (∀wx,AS W.heap.size W wx->Reads wx own r1 r2 z A G):=A3 λwx x=>Cg.out.below (FB.out.trans (x.mono FB.out.size));have aAP:AP (∀wx,AS W.heap.size W wx->AZ A4 289 #[dd #[AI own,E3 (Z r1),E3 (Z r2)],dd #[AI p,AI v]] wx λe w'=>e=hq (dd #[AI p,AI v])/\AS wx.heap.size wx w'):=by refine A3 λwx x=>?_;obtain⟨c,hc⟩:=(R.out wx x).aPi;exact aJd own r1 r2 c (p,v) wx hc UO.out
 have aAN:AP (∀wx,AS W.heap.size W wx->AZ A4 218 #[dd #[As (Z ⟨z,0,J⟩) G.length cap,E3 (Z A)],dd #[AI p,AI v]] wx λe w'=>e=hq (aY8 #[dd #[AI p,AI v,AI m,As Bj B4 Bt],aY5 A0])/\AS wx.heap.size wx w'):=by refine A3 λwx x=>?_;obtain⟨c,hc⟩:=(R.out wx x).pl;exact El.out wx c hc (R.out wx x).reg
 have S:AS W.heap.size W W.drew:=⟨rfl,rfl,rfl,AX _,λ_ _=>rfl⟩;obtain⟨a0,a1,I0,a3,a4,a5,WH⟩:=o.out W (B9 _ _);have LJ:w.heap.size<W.heap.size:=by have:=JH.out;omega
 have GH:w.heap.size+1<W.heap.size:=by have:=JH.out;omega
 have VI:w.heap.size≠W.heap.size:=by omega
 have m1:w.heap.size+1≠W.heap.size:=by omega
 go_cut[5,6]from 10fun b f wx=>∃s,b=aY4 (Z ⟨s,0,J⟩)/\f=aY5 A0/\AP (W.heap.size<=s/\wx.heap[s]?=Z (BE #[AI p,AI v,AI m,As Bj B4 Bt] 75)/\AS W.heap.size W wx);case first=>
  as_aux_lemma=>
   go_region_held2 λwx=>wx.cell? ⟨w.heap.size,0,J⟩=Z (AI own)/\wx.cell? ⟨w.heap.size,1,J⟩=Z (E3 (Z r1))/\wx.cell? ⟨w.heap.size,2,J⟩=Z (E3 (Z r2))/\wx.cell? ⟨w.heap.size,3,J⟩=Z (As (Z ⟨z,0,J⟩) G.length cap)/\wx.cell? ⟨w.heap.size,4,J⟩=Z (E3 (Z A))/\wx.cell? ⟨w.heap.size+1,0,J⟩=Z (AI p)/\wx.cell? ⟨w.heap.size+1,1,J⟩=Z (AI v)(first|go_keep|exact o.out _ (eS M.out C.out.size)|exact o.out _ (eS M.out (AX _)))(first|(go_at_call 289;refine(aAP.out _ ?_).mono ?_;(first|exact S|exact S.alloc (AX _) _);rintro e wa⟨rfl,P8⟩;(first|(have q:AS W.heap.size W wa:=S.trans P8)|(have q:AS W.heap.size W wa:=(S.alloc (AX _) _).trans (P8.mono (by simp))));(obtain⟨FP,e1,e2,DF,EX,Iu,Jm⟩:=o.out wa q);have C:=A3 q;(have Ho:w.heap.size≠wa.heap.size:=by have:=q.size;omega);(have Qh:w.heap.size+1≠wa.heap.size:=by have:=q.size;omega);(first|(have dp:AP (wa.heap[W.heap.size]?=Z (BE #[AI ⟨#[]⟩,AI ⟨#[]⟩,AI ⟨#[]⟩,As J 0 0] 75)):=A3 (zH (wa:=W.drew) P8 (by simp)))|(have dp:=A3 trivial));clear q P8)|(go_at_call 218;refine(aAN.out _ ?_).mono ?_;(first|exact C.out|exact C.out.alloc C.out.size _);rintro e d⟨rfl,X⟩;(first|(have P:AS W.heap.size W d:=C.out.trans (X.mono C.out.size))|(have P:AS W.heap.size W d:=(C.out.alloc C.out.size _).trans (X.mono (by have:=C.out.size;simp;omega))));have M:=A3 P;(obtain⟨NA,g1,Ds,g3,g4,Ri,WU⟩:=o.out d P);(have PU:w.heap.size≠d.heap.size:=by have:=P.size;omega);(have aW7:w.heap.size+1≠d.heap.size:=by have:=P.size;omega);(first|(have LF:=zH X (by simp);obtain⟨z0,E2,z2,z3,Cj,B0,Bi,C5,xy⟩:=qA LF;clear LF)|(have LF:d.heap[W.heap.size]?=Z (BE #[AI ⟨#[]⟩,AI ⟨#[]⟩,AI ⟨#[]⟩,As J 0 0] 75):=IF X dp.out;obtain⟨z0,E2,z2,z3,Cj,B0,Bi,C5,xy⟩:=qA LF;clear LF)|skip);clear X P));all_goals
    go_wp2_with fail;go_meet;case rel=>
     refine⟨_,rfl,rfl,A3 ⟨?_,?_,?_⟩⟩;·first|with_reducible exact AX _|with_reducible exact M.out.size|exact C.out.size
     ·first|with_reducible exact aHL xy.out _ _ _ _|exact FX d _ _ rfl
     ·first|with_reducible exact M.out.alloc M.out.size _|with_reducible exact eS M.out C.out.size|exact eS M.out (AX _)
 case rest=>
  obtain⟨s,rfl,rfl,FH⟩:=hcut;have J8:wc.cell? ⟨s,0,J⟩=Z (AI p):=by rw[Ad FH.out.2.1];rfl
  have Dg:wc.cell? ⟨s,2,J⟩=Z (AI m):=by rw[Ad FH.out.2.1];rfl
  obtain⟨HI,bb⟩:=(R.out wc FH.out.2.2).EF;clear a0 a1 I0 a3 a4 a5 WH S;go_wp2_with fail;refine(a4z m HI _ (by have:=N.out.size;simp only at this;omega) bb).mono ?_;rintro e w1⟨ku,Ae⟩;have Br:=A3 (FH.out.2.2.trans (Ae.mono FH.out.2.2.size));have Vw:=A3 (IF Ae FH.out.2.1);obtain⟨D8,hH,rfl,I7⟩:∃D8 hH,e=hq (aY8 #[As (Z ⟨D8,0,J⟩) (ip.length+1) hH,aYA])/\AP (∀j u,(Ml p ip)[j]?=Z u->w1.cell? ⟨D8,j,J⟩=Z u):=by
   rcases ku with⟨_,v,h1,h2⟩|⟨h,_⟩
   ·have Z1:=N.out.lines;simp only at Z1;rw[Z1]at h2;have Bz:(V.parse m).1.length=ip.length+1:=by have:=congrArg pa Z1;simpa[Lz,Ml]using this
    rw[Bz]at h2;obtain⟨g,c,rfl,_,_⟩:=tV h2 (by omega);exact⟨g,c,h1,A3 λj u H1=>QV h2 j u H1⟩
   ·exact absurd N.out.Iv h
  clear ku Ae J8 Dg bb;go_wp2_with fail;refine(a'X D8 hH p ip _ (by have:=N.out.len;simp only at this;omega) I7.out).mono ?_;rintro e D⟨K,rfl,Q,kc⟩;have Cl:=A3 (Br.out.trans (kc.mono Br.out.size));have p':=A3 (IF kc Vw.out);have aAv:=A3 (tk Q);obtain⟨U,Aj,rfl⟩:=NO Q;have J8:D.cell? ⟨s,0,J⟩=Z (AI p):=by rw[Ad p'.out];rfl
  have IE:s<D.heap.size:=(Array.getElem?_eq_some_iff.1 p'.out).1;have aVC:W.heap.size<=D.heap.size:=Cl.out.size;clear Q kc;go_wp2_with fail;have My:=A3 (tU D (BE #[AI p,As U ip.length Aj,As J 0 0,As J 0 0] 128));have j3:=A3 (FX D (BE #[AI p,As U ip.length Aj,As J 0 0,As J 0 0] 128) _ rfl);generalize D.alloc (BE #[AI p,As U ip.length Aj,As J 0 0,As J 0 0] 128)=y at My j3⊢;have I:=A3 (Cl.out.trans (My.out.mono Cl.out.size));have pK:AP (∀wx,AS y.heap.size y wx->wx.cell? ⟨w.heap.size,0,J⟩=Z (AI own)/\wx.cell? ⟨w.heap.size,1,J⟩=Z (E3 (Z r1))/\wx.cell? ⟨w.heap.size,2,J⟩=Z (E3 (Z r2))/\wx.cell? ⟨w.heap.size+1,0,J⟩=Z (AI p)/\wx.cell? ⟨w.heap.size+1,1,J⟩=Z (AI v)/\wx.cell? ⟨s,0,J⟩=Z (AI p)/\wx.cell? ⟨s,1,J⟩=Z (AI v)/\wx.cell? ⟨s,2,J⟩=Z (AI m)/\wx.cell? ⟨s,3,J⟩=Z (As Bj B4 Bt)/\wx.cell? ⟨D.heap.size,1,J⟩=Z (As U ip.length Aj)):=by refine A3 λwx x=>?_;have Ix:=I.out.trans (x.mono I.out.size);obtain⟨a0,a1,I0,a3,a4,a5,WH⟩:=o.out wx Ix;have hx:=IF x (IF My.out p'.out);obtain⟨z0,E2,z2,z3,_⟩:=qA hx;have hp:=IF x j3.out;exact⟨a0,a1,I0,a5,WH,z0,E2,z2,z3,by rw[Ad hp];rfl⟩
  have va:AS y.heap.size y y.drew:=⟨rfl,rfl,rfl,AX _,λ_ _=>rfl⟩;have ov:AP (∀wx,AS y.heap.size y wx->AZ A4 125 #[dd #[AI own,E3 (Z r1),E3 (Z r2)],As U ip.length Aj] wx λe w'=>∃K,e=hq K/\w'.ownsRow wx.heap.size 85 2 K ip.length (F1 ip)/\GJ isStr w' 2 K ip.length/\AS wx.heap.size wx w'):=by refine A3 λwx x=>?_;have Ix:=I.out.trans (x.mono I.out.size);obtain⟨c,hc⟩:=(R.out wx Ix).ex;exact a3V own r1 r2 c _ ip wx hc (aAv.out.below (My.out.trans (x.mono My.out.size))) (by have:=N.out.len;simp only at this;omega) N.out.DT
  have dw:AP (∀wx,AS y.heap.size y wx->wx.heap[w.heap.size+1+1]?=Z (BE #[AI ⟨#[]⟩,AI ⟨#[]⟩,AI ⟨#[]⟩,AI ⟨#[]⟩,AI ⟨#[]⟩,As J 0 0,IS Po 0,As J 0 0] 234)):=A3 λwx x=>IF (I.out.trans (x.mono I.out.size)) RQ.out;obtain⟨HY,HJ,Qu,me,ud,aWC,aWD,aWE,a5O,aWF⟩:=pK.out y (B9 _ _);have J3:w.heap.size≠w.heap.size+1+1:=by omega
  have k1:w.heap.size+1≠w.heap.size+1+1:=by omega
  have Dl:s≠w.heap.size+1+1:=by have:=FH.out.1;have:=JH.out;omega
  have J4:D.heap.size≠w.heap.size+1+1:=by have:=JH.out;omega
  have aB2:AP (∀wx,AS y.heap.size y wx->∀g5 fk g0 g2 g9 m0 n3 B2:A1,(λH:A'=>H.cell? ⟨w.heap.size,0,J⟩=Z (AI own)/\H.cell? ⟨w.heap.size,1,J⟩=Z (E3 (Z r1))/\H.cell? ⟨w.heap.size,2,J⟩=Z (E3 (Z r2))/\H.cell? ⟨w.heap.size+1,0,J⟩=Z (AI p)/\H.cell? ⟨w.heap.size+1,1,J⟩=Z (AI v)/\H.cell? ⟨s,0,J⟩=Z (AI p)/\H.cell? ⟨s,1,J⟩=Z (AI v)/\H.cell? ⟨s,2,J⟩=Z (AI m)/\H.cell? ⟨s,3,J⟩=Z (As Bj B4 Bt)/\H.cell? ⟨D.heap.size,1,J⟩=Z (As U ip.length Aj)) ((((((((wx.setCell ⟨w.heap.size+1+1,0,J⟩ g5).setCell ⟨w.heap.size+1+1,1,J⟩ fk).setCell ⟨w.heap.size+1+1,2,J⟩ g0).setCell ⟨w.heap.size+1+1,3,J⟩ g2).setCell ⟨w.heap.size+1+1,4,J⟩ g9).setCell ⟨w.heap.size+1+1,5,J⟩ m0).setCell ⟨w.heap.size+1+1,6,J⟩ n3).setCell ⟨w.heap.size+1+1,7,J⟩ B2)):=by refine A3 λwx x g5 fk g0 g2 g9 m0 n3 B2=>?_;obtain⟨FP,e1,e2,DF,EX,Iu,Jm,Rc,Re,Um⟩:=pK.out wx x;exact⟨(TD J3 _ _ _ _ _ _ _ _).trans FP,(TD J3 _ _ _ _ _ _ _ _).trans e1,(TD J3 _ _ _ _ _ _ _ _).trans e2,(TD k1 _ _ _ _ _ _ _ _).trans DF,(TD k1 _ _ _ _ _ _ _ _).trans EX,(TD Dl _ _ _ _ _ _ _ _).trans Iu,(TD Dl _ _ _ _ _ _ _ _).trans Jm,(TD Dl _ _ _ _ _ _ _ _).trans Rc,(TD Dl _ _ _ _ _ _ _ _).trans Re,(TD J4 _ _ _ _ _ _ _ _).trans Um⟩
  clear J8;go_region_held2 λwx=>wx.cell? ⟨w.heap.size,0,J⟩=Z (AI own)/\wx.cell? ⟨w.heap.size,1,J⟩=Z (E3 (Z r1))/\wx.cell? ⟨w.heap.size,2,J⟩=Z (E3 (Z r2))/\wx.cell? ⟨w.heap.size+1,0,J⟩=Z (AI p)/\wx.cell? ⟨w.heap.size+1,1,J⟩=Z (AI v)/\wx.cell? ⟨s,0,J⟩=Z (AI p)/\wx.cell? ⟨s,1,J⟩=Z (AI v)/\wx.cell? ⟨s,2,J⟩=Z (AI m)/\wx.cell? ⟨s,3,J⟩=Z (As Bj B4 Bt)/\wx.cell? ⟨D.heap.size,1,J⟩=Z (As U ip.length Aj)(first|(go_keep;done)|exact aB2.out _ HM.out _ _ _ _ _ _ _ _)(first|(go_at_call 125;refine(ov.out _ va).mono ?_;rintro e wd⟨K,rfl,Q,GL,Lo⟩;have EG:=va.trans Lo;(obtain⟨FP,e1,e2,DF,EX,Iu,Jm,Rc,Re,Um⟩:=pK.out wd EG);(obtain⟨⟨g5,fk,g0,g2,g9,m0,n3,B2⟩,Cj,B0,Bi,C5,Ce,D1,Cf,Cp⟩:=aD3 (dw.out wd EG));(obtain⟨JC,G3,rfl⟩:=NO Q);have HM:=A3 EG;have EW:=A3 Q;have j6:=A3 GL;clear EG Q Lo GL));all_goals
   go_wp2_with fail;refine L3 (Y0 rfl _ _ (w.heap.size+1+1) 234 _ (0,0) _ rfl (aHM (dw.out wd HM.out) _ _ _ _ _ _ _ _) Tryz.underlying234 rfl (by kernel_rfl)) rfl ?_;have aGU:AS w.heap.size w wd:=FB.out.trans ((I.out.trans (HM.out.mono I.out.size)).mono FB.out.size);have hn:=EW.out;have Ia:=I.out.size;have Kk:=JH.out;refine⟨_,rfl,⟨hn.1,?_⟩,j6.out.same λg Gy hv=>uk ?_ _ _ _ _ _ _ _ _,aCr aGU (by omega)⟩
   ·rcases hn.2 with h|⟨g,Gy,hw,h1,h2,h3,h4⟩;·exact AA h
    ·have AB:y.heap.size<=g:=h2;refine AF ⟨g,Gy,hw,h1,by omega,?_,h4⟩;rw[uk (by omega)];exact h3
   ·have AB:y.heap.size<=g:=(hn.lt g (by rw[hv];rfl)).1;omega
def ZK(b:ByteArray)(l:List (Nat×Nat)):List (Nat×List ByteArray):=(123,[b])::l.map V.M3
theorem aMi(C:V.path E0.data.toList=A0){l:List (Nat×Nat)}(h:V.eA l):V.Whole (ZK E0 l):=by
 have D:V.Valid 123 [E0]:=⟨AA ⟨rfl,_,rfl⟩,by show V.Ll E0=J;unfold V.Ll;rw[C];rfl⟩;refine⟨λx hx=>?_,?_,⟨E0,_,rfl,λx hx=>?_⟩⟩
 ·rcases List.mem_cons.1 hx with rfl|hx;·exact D
  ·obtain⟨y,hy,rfl⟩:=List.mem_map.1 hx;exact V.aMy (h.1 y hy)
 ·unfold ZK;rw[GU,List.nodup_cons];refine⟨?_,?_⟩;·intro m;rw[W2]at m;obtain⟨x,_,hx⟩:=List.mem_map.1 m;have:=congrArg Prod.fst hx;exact absurd (show(1:Int)=0 from this) (by decide)
  ·rw[W2];unfold pT;rw[YM];refine aUS ?_ h.2;intro a b s A z e;have f:=V.aMx (h.1 a s).1 (h.1 b A).1 z;have p:V.place (V.M3 a).1 (V.M3 a).2=V.place (V.M3 b).1 (V.M3 b).2:=e;rw[p,V.aNZ.refl]at f;cases f
 ·obtain⟨y,_,rfl⟩:=List.mem_map.1 hx;show 221≠123;decide
def F2(x:Nat×Nat):Ax:=(V.mp x.1,V.Df x.2)
def FZ(b:ByteArray)(l:List (Nat×Nat)):ByteArray:=⟨(V.MD (ZK b l)).toArray⟩
theorem a3G(f:V.path E0.data.toList=A0){l:List (Nat×Nat)}(h:V.eA l):V.Iv (FZ E0 l)/\Lz (V.parse (FZ E0 l)).1=Ml E0 (l.map F2):=by
 obtain⟨b,h2,h3⟩:=V.aTP (aMi f h);refine⟨⟨b,h2⟩,?_⟩;have e:Lz (V.parse (FZ E0 l)).1=((V.parse (FZ E0 l)).1.map (·.2)).map gV:=by unfold Lz;rw[W2];rfl
 rw[e];show((V.parse ⟨(V.MD (ZK E0 l)).toArray⟩).1.map (·.2)).map gV=_;rw[h3];unfold ZK Ml;rw[GU,W2,W2];rfl
def OR(b:ByteArray)(l:List (Nat×Nat))(k:Nat):ByteArray:=⟨([109,111,100,117,108,101,32]++b.data.toList++[10]++(l.take k).flatMap Tu).toArray⟩
theorem a4J(b:ByteArray)(m:b.size<=60)(l:List (Nat×Nat))(k:Nat)(h:l.length<=5):(OR b l k).size<=182:=by
 have e:=qq Tu 22 a57 (l.take k);have h2:(l.take k).length<=5:=by rw[W1];omega
 show([109,111,100,117,108,101,32]++b.data.toList++[10]++(l.take k).flatMap Tu).toArray.size<=182;rw[Kd,HN,HN,HN];have h3:([109,111,100,117,108,101,32]:List UInt8).length=7:=rfl;have h4:([10]:List UInt8).length=1:=rfl;have f:b.data.toList.length=b.size:=by simp
 omega
theorem aNu(b:ByteArray)(l:List (Nat×Nat))(k:Nat)(h:k<l.length):OR b l k++⟨#[114,101,113,117,105,114,101,32]⟩++V.mp l[k].1++⟨#[32]⟩++V.Df l[k].2++⟨#[10]⟩=OR b l (k+1):=by apply V.bytes_inj;rw[Q7,Q7,Q7,Q7,Q7,V.PT,V.XA];unfold OR;rw[UU h,jJ];simp[Tu]
theorem a4I(b:ByteArray)(l:List (Nat×Nat)):OR b l l.length=FZ b l:=by unfold OR FZ;rw[On];apply V.bytes_inj;show _=V.MD (ZK b l);unfold V.MD ZK;rw[List.flatMap_cons,List.flatMap_map];congr 1
theorem aMC(b:ByteArray)(NI:b.size<=60)(v:A1)(l:List (Nat×Nat))(w:A')(U:l.length<=5)(hn:∀x∈l,x.1<5/\x.2<30)(A:MO w v l):AZ A4 51 #[AI b,v] w λe w'=>e=hq (AI (FZ b l))/\∃q,w'=w.drewN q:=by
 have g1:=I_ ⟨#[109,111,100,117,108,101,32]⟩ b (by show 7+b.size<=_;omega);have S:=I_ (⟨#[109,111,100,117,108,101,32]⟩++b) ⟨#[10]⟩ (by rw[G2];show 7+b.size+1<=_;omega);have N:AP ((⟨#[109,111,100,117,108,101,32]⟩:ByteArray)++b++⟨#[10]⟩=OR b l 0):=A3 (by apply V.bytes_inj;rw[Q7,Q7];simp[OR]);have I:=A3 hn;have K:=A3 A;obtain⟨a,c,rfl⟩:∃a c,v=As a l.length c:=by
  rcases A with⟨h,z⟩|⟨g,c,h,_⟩;·exact⟨J,0,by rw[h,z];rfl⟩
  ·exact⟨_,_,h⟩
 clear A hn;go_enter Tryz.func51,Tryz.ntmps51;go_wp2;go_loopw[5,6]λs i wr=>∃k:Nat,k<=l.length/\i=IS Po k/\s=AI (OR b l k)/\∃q,wr=w.drewN q(λ_ i _=>l.length-(Ay i).toNat);case atStart=>exact⟨0,by omega,rfl,by rw[<-N.out],0,rfl⟩
 case round=>
  obtain⟨k,hk,rfl,rfl,D⟩:=hrel;have m:=A3 D;clear D;by_cases hlt:k<l.length
  ·rcases K.out with⟨h,z⟩|⟨g,c',h,hc⟩;·rw[z]at hlt;simp at hlt
   ·injection h with h1 _ h3;subst h1 h3;have c0:wr.cell? ⟨g,k*2,J⟩=Z (IS Po (l[k].1:Int)):=by obtain⟨q,e⟩:=m.out;rw[e];exact(hc k hlt).1
    have c1:wr.cell? ⟨g,k*2+1,J⟩=Z (IS Po (l[k].2:Int)):=by obtain⟨q,e⟩:=m.out;rw[e];exact(hc k hlt).2
    have EL:=A3 (I.out l[k] (EC hlt));have y:=A3 (aNu b l k hlt);have d:=a4J b NI l k U;generalize l[k]=x at c0 c1 EL y;obtain⟨f,p⟩:=x;simp only at c0 c1 EL y;have j:=Tk f;have o:=ZL p;have t1:(L0 #[114,101,113,117,105,114,101,32]).size=8:=rfl;have t2:(L0 #[32]).size=1:=rfl;have t3:(L0 #[10]).size=1:=rfl;have k1:=I_ (OR b l k) ⟨#[114,101,113,117,105,114,101,32]⟩ (by omega);have W:=I_ (OR b l k++⟨#[114,101,113,117,105,114,101,32]⟩) (V.mp f) (by rw[G2];omega);have X:=I_ (OR b l k++⟨#[114,101,113,117,105,114,101,32]⟩++V.mp f) ⟨#[32]⟩ (by rw[G2,G2];omega);have SF:=I_ (OR b l k++⟨#[114,101,113,117,105,114,101,32]⟩++V.mp f++⟨#[32]⟩) (V.Df p) (by rw[G2,G2,G2];omega);have QU:=I_ (OR b l k++⟨#[114,101,113,117,105,114,101,32]⟩++V.mp f++⟨#[32]⟩++V.Df p) ⟨#[10]⟩ (by rw[G2,G2,G2,G2];omega);clear d j o t1 t2 t3 hc;have u:=mO f EL.out.1;have P:=mu p EL.out.2;go_wp2_with fail;go_quiet(first|(go_at_call 21;exact Si (u _))|(go_at_call 22;exact hf (P _)));have C:∃R,wr.drewN nq=w.drewN R:=by obtain⟨q,e⟩:=m.out;exact⟨q+nq,by rw[e,World.drewN_drewN]⟩
    have M:=A3 C;clear C;go_wp2_with fail;go_roundw;case rel=>exact⟨k+1,by omega,by go_num,by rw[y.out],M.out⟩
    case measure=>simp[Ay];omega
  ·have Q:k=l.length:=by omega
   subst Q;have H:=A3 (a4I b l);go_wp2;go_ret;exact⟨XM H.out,m.out⟩
theorem a3j(AW:Nat->Nat->Nat)(b q k:Nat)(m:Option Aa)(s p:Nat)(w:A')(AD:q<5)(hk:k<3)(K:∀j,j<3->w.cell? ⟨b,q*3+j,J⟩=Z (IS Po (AW q j:Int)))(z:∀j,j<k->AW q j≠AW q k)(y:w.cell? ⟨b,15+q*3+k,J⟩=Z (As m s p)):AZ A4 29 #[aY4 (Z ⟨b,0,J⟩),dd #[IS Po (q:Int),IS Po (AW q k:Int)]] w λe w'=>e=hq (As m s p)/\AS w.heap.size w w':=by
 have Q:=A3 K;have M:=A3 z;have d:b<w.heap.size:=Ff (h:=y);have hx:=FX w (BE #[IS Po (q:Int),IS Po (AW q k:Int)] 45) w.heap.size rfl;have I:AS w.heap.size w (w.alloc (BE #[IS Po (q:Int),IS Po (AW q k:Int)] 45)):=(B9 _ w).alloc (AX _) _;have A:=A3 I;have D:AP ((w.alloc (BE #[IS Po (q:Int),IS Po (AW q k:Int)] 45)).heap[w.heap.size]?=Z (BE #[IS Po (q:Int),IS Po (AW q k:Int)] 45)):=A3 hx;have N:=A3 y;clear K z hx I y;have X:(q:Int)<5:=by omega
 have o:(k:Int)<3:=by omega
 go_enter Tryz.func29,Tryz.ntmps29;go_wp2;generalize w.alloc (BE #[IS Po (q:Int),IS Po (AW q k:Int)] 45)=W at A D⊢;go_loopw[5]λi wr=>∃j:Nat,j<=k/\i=IS Po j/\AP (wr.heap[w.heap.size]?=Z (BE #[IS Po (q:Int),IS Po (AW q k:Int)] 45)/\AS w.heap.size w wr)(λi _=>3-(Ay i).toNat);case atStart=>exact⟨0,by omega,rfl,A3 ⟨D.out,A.out⟩⟩
 case round=>
  obtain⟨j,H1,rfl,H⟩:=hrel;have Wq:(j:Int)<3:=by omega
  have x:=A3 H.out.1;have f:=A3 H.out.2;have c:wr.cell? ⟨w.heap.size,0,J⟩=Z (IS Po (q:Int)):=by rw[Ad x.out];rfl
  have d1:wr.cell? ⟨w.heap.size,1,J⟩=Z (IS Po (AW q k:Int)):=by rw[Ad x.out];rfl
  have c0:wr.cell? ⟨b,q*3+j,J⟩=Z (IS Po (AW q j:Int)):=Aw f.out (Q.out j (by omega));have c1:wr.cell? ⟨b,15+q*3+k,J⟩=Z (As m s p):=Aw f.out N.out;clear H;by_cases u:j=k
  ·subst u;have P:((AW q j:Int)==(AW q j:Int))=A0:=by simp
   go_wp2_with fail;go_quiet(fail);have C:=A3 (Je f.out nq);have S:(wr.drewN nq).cell? ⟨w.heap.size,0,J⟩=Z (IS Po (q:Int)):=c;have U:(wr.drewN nq).cell? ⟨b,15+q*3+j,J⟩=Z (As m s p):=c1;generalize wr.drewN nq=WE at C S U⊢;clear c d1 c0 c1;go_wp2_with fail;go_quiet(fail);go_wp2;go_ret;exact⟨rfl,Je C.out _⟩
  ·have z:=M.out j (by omega);have P:((AW q j:Int)==(AW q k:Int))=A5:=by simp;omega
   clear c1;go_wp2_with fail;go_quiet(fail);have R:AP ((wr.drewN nq).heap[w.heap.size]?=Z (BE #[IS Po (q:Int),IS Po (AW q k:Int)] 45)/\AS w.heap.size w (wr.drewN nq)):=A3 ⟨x.out,Je f.out _⟩;go_wp2;first
   |exact⟨⟨j+1,by omega,by go_num,R⟩,by simp[Ay];omega⟩
   |
    (
     go_roundw;case rel=>exact⟨j+1,by omega,by go_num,R⟩
     case measure=>simp[Ay];omega)
theorem a3O(p v m:ByteArray)(b:Option Aa)(h f:Nat)(w:A'):AZ A4 122 #[dd #[AI p,AI v,AI m,As b h f]] w λe w'=>e=hq (dd #[AI p,AI v])/\AS w.heap.size w w':=by go_enter Tryz.func122,Tryz.ntmps122;go_wp2;(try simp only[Sl,Exit.then]);refine L3 (Y0 rfl _ _ (w.heap.size+1) 85 #[AI p,AI v] (0,0) _ rfl (FX _ _ _ (by simp only[Fp])) Xv rfl (by kernel_rfl)) rfl ?_;exact⟨rfl,Md _ _ _⟩
theorem aM4(n:Nat)(w:A'):(aQ 131 (Z (IS Po (n:Int)))).run A4 w=aY6 (E3 (Z w.heap.size)) (w.alloc (oF #[] 0)):=by have b:(asInt (IS Po (n:Int))).run A4 w=aY6 (n:Int) w:=rfl;simp[aQ,Np aV,b,K_]
theorem aOK(G:List Rel)(k:Nat)(h:k<G.length):places (G.take (k+1))=places (G.take k)++[(G[k].name,k)]:=by unfold places;rw[VF G k h,aBm,YK];simp;omega
theorem aDG(A cap:Nat)(G:List Rel)(m:Int)(w:A')(c:O' G)(hs:Kf w A G)(P:∀r∈G,V.Jo r.p r.v=J)(hm:w.cell? ⟨0,0,J⟩=Z (IS Po m))(M:∀r∈G,r.p.size<=1000000/\r.v.size<=1000000):AZ A4 60 #[As (Z ⟨A,0,J⟩) G.length cap] w λe w'=>∃d,e=hq (dd #[As (Z ⟨A,0,J⟩) G.length cap,E3 (Z d)])/\w.heap.size<=d/\w'.heap[d]?=Z (oF (Eb (places G)) G.length)/\AS w.heap.size w w':=by
 have Wx:=aM4 G.length;have j:=A3 c;have Cg:=A3 hs;have U:=A3 P;have T':=A3 M;have Bz:=c.len;clear c hs P M;go_enter Tryz.func60,Tryz.ntmps60;go_wp2;go_loopw[14]λi wr=>∃k:Nat,k<=G.length/\i=IS Po k/\AP (wr.heap[w.heap.size+1]?=Z (oF (Eb (places (G.take k))) k)/\wr.heap[w.heap.size]?=Z (BE #[As J 0 0,E3 J] 136)/\AS w.heap.size w wr)(λi _=>G.length-(Ay i).toNat);case atStart=>refine⟨0,by omega,rfl,A3 ⟨FX _ _ _ (by simp only[Fp]),?_,Md _ _ _⟩⟩;rw[E' _ _ _ (by simp only[Fp];omega)];exact FX _ _ _ rfl
 case round=>
  obtain⟨k,hk,rfl,H⟩:=hrel;obtain⟨o,s,hb⟩:=H.out;have S:=A3 o;have Vw:=A3 s;have z:=A3 hb;have M:w.heap.size+1<wr.heap.size:=(Array.getElem?_eq_some_iff.1 o).1;clear H o hb;by_cases hlt:k<G.length
  ·obtain⟨AV,h1,h2,h3⟩:=Cg.out k hlt;have c0:=Aw z.out AV;have c1:=Aw z.out h1;have c2:=Aw z.out h2;have c3:=Aw z.out h3;have Fl:A<wr.heap.size:=Ff (h:=c0);have q:=A3 (aOK G k hlt);have Q:=A3 (U.out _ (EC hlt));have JH:=A3 (T'.out _ (EC hlt));have K:=A3 (j.out.short _ (EC hlt));have I:AP (∀x∈places (G.take k),x.1≠G[k].name):=by
    refine A3 λx hx e=>?_;obtain⟨W,e2⟩:=mP hx;have b_:x.2<k:=by simp at W;omega
    have DF:G[x.2].name=G[k].name:=by rw[<-e,<-e2];simp
    have:=j.out.inj (by omega) hlt DF;omega
   have X:AP (∀x∈places (G.take k),Fh x.1):=by refine A3 λx hx=>?_;obtain⟨W,e2⟩:=mP hx;rw[<-e2];refine j.out.short _ ?_;rw[a_M];exact EC _
   clear AV h1 h2 h3;generalize G[k]=r at c0 c1 c2 c3 q Q JH K I;obtain⟨p,v,HI,Bj,B4,Bt,ip⟩:=r;simp only[Rel.name]at c0 c1 c2 c3 q Q JH K I;clear s;go_wp2_with fail;refine(a3O p v HI Bj B4 Bt _).mono ?_;rintro e f⟨rfl,C⟩;have Wa:AS w.heap.size w f:=(z.out.alloc (by omega) _).trans (C.mono (by simp;omega));have G0:wr.heap.size+1<=f.heap.size:=by have:=C.size;simpa using this
   have u:(f.alloc (BE #[AI p,AI v] 85)).heap[w.heap.size+1]?=Z (oF (Eb (places (G.take k))) k):=by rw[E' _ _ _ (by omega),C.block _ (by simp;omega),E' _ _ _ M];exact S.out
   have fF:(f.alloc (BE #[AI p,AI v] 85)).heap[w.heap.size]?=Z (BE #[As J 0 0,E3 J] 136):=by rw[E' _ _ _ (by omega),C.block _ (by simp;omega),E' _ _ _ (by omega)];exact Vw.out
   have N:=A3 (Wa.alloc (by omega) (BE #[AI p,AI v] 85));have NF:(Hv 131 (E3 (Z (w.heap.size+1))) (dd #[AI p,AI v]) A0).run A4 (f.alloc (BE #[AI p,AI v] 85))=aY6 (aY8 #[IS Po 0,aY5 A5]) (f.alloc (BE #[AI p,AI v] 85)):=by
    rcases a2T (w.heap.size+1) k (places (G.take k)) (p,v) _ K.out X.out u with⟨h,_⟩|⟨x,hx,OI,_⟩;·exact h
    ·exact absurd OI (I.out x hx)
   have ab:=A3 u;have RQ:=A3 fF;clear C Wa u fF c0 c1 c2 c3;go_wp2_with fail;refine(a2x p v m _ (by have:=JH.out.1;omega) (by have:=JH.out.2;omega) (Aw N.out hm)).mono ?_;rintro e b⟨r,rfl,A2,y⟩;rw[Q.out]at A2;obtain rfl:r=aY4 J:=A2;have KN:f.heap.size+1<=b.heap.size:=by have:=y.size;simpa using this
   have kE:b.heap[w.heap.size+1]?=Z (oF (Eb (places (G.take k))) (places (G.take k)).length):=by rw[y.block _ (by simp;omega),ab.out];simp[places];omega
   have kI:b.heap[w.heap.size]?=Z (BE #[As J 0 0,E3 J] 136):=by rw[y.block _ (by simp;omega)];exact RQ.out
   have BU:b.cell? ⟨f.heap.size,0,J⟩=Z (AI p):=Aw y (by simp);have d1:b.cell? ⟨f.heap.size,1,J⟩=Z (AI v):=Aw y (by simp);have sr:=aOT (w.heap.size+1) (places (G.take k)) (p,v) k b K.out X.out I.out kE;have R:AP (({b with heap:=b.heap.setIfInBounds (w.heap.size+1) (oF (Eb (places (G.take k)++[((p,v),k)])) ((places (G.take k)).length+1))}:A').heap[w.heap.size+1]?=Z (oF (Eb (places (G.take (k+1)))) (k+1))/\({b with heap:=b.heap.setIfInBounds (w.heap.size+1) (oF (Eb (places (G.take k)++[((p,v),k)])) ((places (G.take k)).length+1))}:A').heap[w.heap.size]?=Z (BE #[As J 0 0,E3 J] 136)/\AS w.heap.size w {b with heap:=b.heap.setIfInBounds (w.heap.size+1) (oF (Eb (places (G.take k)++[((p,v),k)])) ((places (G.take k)).length+1))}):=by
    refine A3 ⟨?_,?_,q7 (N.out.trans (y.mono N.out.size)) (by omega) _⟩;·show(b.heap.setIfInBounds (w.heap.size+1) _)[w.heap.size+1]?=_;rw[H5,if_pos rfl,if_pos (by omega),q.out];simp[places];omega
    ·show(b.heap.setIfInBounds (w.heap.size+1) _)[w.heap.size]?=_;rw[H5,if_neg (by omega)];exact kI
   simp only[Gk]at sr;clear y kE kI NF;go_wp2;first
   |exact⟨⟨k+1,by omega,by go_num,R⟩,by simp[Ay];omega⟩
   |
    (
     go_roundw;case rel=>exact⟨k+1,by omega,by go_num,R⟩
     case measure=>simp[Ay];omega)
  ·have GK:k=G.length:=by omega
   subst GK;have b0:wr.cell? ⟨w.heap.size,0,J⟩=Z (As J 0 0):=by rw[Ad s];rfl
   have E6:wr.cell? ⟨w.heap.size,1,J⟩=Z (E3 J):=by rw[Ad s];rfl
   have f0:wr.frozen? ⟨w.heap.size,0,J⟩=A5:=Dv s 0;have Gz:wr.frozen? ⟨w.heap.size,1,J⟩=A5:=Dv s 1;have D:=EV _ w.heap.size 1 _ _ (E3 (Z (w.heap.size+1))) (EV wr w.heap.size 0 _ _ (As (Z ⟨A,0,J⟩) G.length cap) s);clear s;go_wp2;(try simp only[Sl,Exit.then]);refine L3 (Y0 rfl _ _ w.heap.size 136 #[As (Z ⟨A,0,J⟩) G.length cap,E3 (Z (w.heap.size+1))] (0,0) _ rfl D Tryz.underlying136 rfl (by kernel_rfl)) rfl ?_;refine⟨_,rfl,by omega,?_,(z.out.setCell (p:=⟨w.heap.size,0,J⟩) (AX _) _).setCell (p:=⟨w.heap.size,1,J⟩) (AX _) _⟩;have h:=S.out;rw[On]at h;rw[F_ _ _ _ _ (by show w.heap.size+1≠w.heap.size;omega),F_ _ _ _ _ (by show w.heap.size+1≠w.heap.size;omega)];exact h
def V.ZJ(h b:Int):Int:=UF.wrap (bits BinOp.xor UF h (UF.wrap b)*1099511628211)
def V.Tj(h:Int):List UInt8->Int|[]=>h|b::r=>V.Tj (V.ZJ h (b.toNat:Int)) r
theorem V.a3E(a b:List UInt8):∀h,V.Tj h (a++b)=V.Tj (V.Tj h a) b:=by induction a with|nil=>intro h;rfl|cons x r e=>intro h;exact e _
def V.Jx(h:Int)(s:List UInt8):Int:=V.Tj h (s++[0])
theorem V.a3F(h:Int)(s:List UInt8):V.Jx h s=V.ZJ (V.Tj h s) 0:=by unfold V.Jx;rw[V.a3E];rfl
theorem a6P(h b:Int)(w:A'):AZ A4 210 #[IS UF h,IS aYN b] w λe w'=>e=hq (IS UF (V.ZJ h b))/\w'=w:=by go_enter Tryz.func210,Tryz.ntmps210;go_wp2;go_ret;exact⟨rfl,rfl⟩
theorem a6Q(h:Int)(s:ByteArray)(w:A')(hs:s.size<=BK):AZ A4 137 #[IS UF h,AI s] w λe w'=>e=hq (IS UF (V.Jx h s.data.toList))/\w'=w:=by
 unfold BK at hs;go_enter Tryz.func137,Tryz.ntmps137;go_wp2;go_loop[0,5,8]λv _ i=>∃k:Nat,k<=s.size/\i=IS Po k/\v=IS UF (V.Tj h (s.data.toList.take k))(λ_ _ i=>s.size-(L_ i).toNat);case atStart=>exact⟨0,JJ _,rfl,rfl⟩
 case round=>
  obtain⟨k,b,rfl,rfl⟩:=hrel;by_cases hlt:k<s.size
  ·have H:AP (V.Tj h (s.data.toList.take (k+1))=V.ZJ (V.Tj h (s.data.toList.take k)) ((s[k].toNat:Nat):Int)):=A3 (by rw[mj s k hlt,V.a3E];rfl);obtain⟨x,hx⟩:∃x,x=V.Tj h (s.data.toList.take k):=⟨_,rfl⟩;rw[<-hx]at H⊢;clear hx;go_wp2_with(go_at_call 210;refine(a6P _ _ _).mono ?_;rintro e w'⟨rfl,rfl⟩);go_round;case rel=>exact⟨k+1,by omega,by go_num,by rw[H.out]⟩
   case measure=>simp[L_];omega
  ·have e:s.data.toList.take k=s.data.toList:=List.take_of_length_le (by simp;omega);rw[e];clear e;go_wp2_with(go_at_call 210;refine(a6P _ _ _).mono ?_;rintro e w'⟨rfl,rfl⟩);go_ret;exact⟨by rw[V.a3F];rfl,rfl⟩
theorem aGD(w:A')(a b c d e:Du):(((((w.alloc a).alloc b).alloc c).alloc d).alloc e).heap[w.heap.size+1]?=Z b:=by rw[E' _ _ _ (by simp only[Fp];omega),E' _ _ _ (by simp only[Fp];omega)];exact tQ _ _ _ _
theorem aGE(w:A')(a b c d e:Du):(((((w.alloc a).alloc b).alloc c).alloc d).alloc e).heap[w.heap.size+1+1]?=Z c:=by rw[E' _ _ _ (by simp only[Fp];omega),E' _ _ _ (by simp only[Fp];omega)];exact tR _ _ _ _
theorem aGF(w:A')(a b c d e:Du):(((((w.alloc a).alloc b).alloc c).alloc d).alloc e).heap[w.heap.size+1+1+1]?=Z d:=by rw[E' _ _ _ (by simp only[Fp];omega)];exact FX _ _ _ (by simp only[Fp])
theorem aCf(w:A')(a b c d e:Du):AS w.heap.size w (((((w.alloc a).alloc b).alloc c).alloc d).alloc e):=((bx w a b c).alloc (by simp only[Fp];omega) _).alloc (by simp only[Fp];omega) _
theorem a5U(e:g≠b)(f h m p s:A1):(((((w.setCell ⟨b,0,J⟩ f).setCell ⟨b,1,J⟩ h).setCell ⟨b,2,J⟩ m).setCell ⟨b,3,J⟩ p).setCell ⟨b,4,J⟩ s).heap[g]?=w.heap[g]?:=by rw[F_ _ _ _ _ (show g≠b from e),F_ _ _ _ _ (show g≠b from e),F_ _ _ _ _ (show g≠b from e),F_ _ _ _ _ (show g≠b from e),F_ _ _ _ _ (show g≠b from e)]
theorem aMf(w:A'):(aQ 131 J).run A4 w=aY6 (E3 (Z w.heap.size)) (w.alloc (oF #[] 0)):=by kernel_rfl
theorem aMh(w:A'):(aQ 132 J).run A4 w=aY6 (E3 (Z w.heap.size)) (w.alloc (oF #[] 0)):=by kernel_rfl
theorem aT9(x:ByteArray)(b:Option Aa)(n f:Nat)(w:A'):AZ A4 121 #[dd #[AI x,As b n f,As J 0 0,As J 0 0]] w λe w'=>∃h m,e=hq (dd #[AI x,E3 (Z h),E3 (Z m)])/\w.heap.size<=h/\w.heap.size<=m/\w'.heap[h]?=Z (oF #[] 0)/\w'.heap[m]?=Z (oF #[] 0)/\AS w.heap.size w w':=by
 have p:=aMf;have s:=aMh;go_enter Tryz.func121,Tryz.ntmps121;go_wp2;go_loopw[17]λi wr=>i=IS Po 0/\wr=((((w.alloc (BE #[AI x,As b n f,As J 0 0,As J 0 0] 128)).alloc (BE #[AI ⟨#[]⟩,E3 J,E3 J] 134)).alloc (oF #[] 0)).alloc (oF #[] 0)).alloc (BE #[AI x,E3 (Z (w.heap.size+1+1)),E3 (Z (w.heap.size+1+1+1))] 134)(λ_ _=>0);case atStart=>exact⟨rfl,rfl⟩
 case round=>
  obtain⟨rfl,rfl⟩:=hrel;go_wp2;go_loopw[32]λi wr=>i=IS Po 0/\wr=((((w.alloc (BE #[AI x,As b n f,As J 0 0,As J 0 0] 128)).alloc (BE #[AI ⟨#[]⟩,E3 J,E3 J] 134)).alloc (oF #[] 0)).alloc (oF #[] 0)).alloc (BE #[AI x,E3 (Z (w.heap.size+1+1)),E3 (Z (w.heap.size+1+1+1))] 134)(λ_ _=>0);case atStart=>exact⟨rfl,rfl⟩
  case round=>obtain⟨rfl,rfl⟩:=hrel;go_wp2;(try simp only[Sl,Exit.then]);refine L3 (Y0 rfl _ _ (w.heap.size+1) 134 #[AI x,E3 (Z (w.heap.size+1+1)),E3 (Z (w.heap.size+1+1+1))] (0,0) _ rfl (aGD _ _ _ _ _ _) Tryz.underlying134 rfl (by kernel_rfl)) rfl ?_;exact⟨_,_,rfl,by omega,by omega,aGE _ _ _ _ _ _,aGF _ _ _ _ _ _,aCf _ _ _ _ _ _⟩
theorem aPn(x:ByteArray)(y:Option Aa)(n z h f cap m:Nat)(w:A'):AZ A4 59 #[dd #[AI x,As y n z,As J 0 0,As J 0 0],dd #[As (Z ⟨h,0,J⟩) f cap,E3 (Z m)]] w λe w'=>∃A C,e=hq (HW x A C h f cap m)/\w.heap.size<=A/\w.heap.size<=C/\w'.heap[A]?=Z (oF #[] 0)/\w'.heap[C]?=Z (oF #[] 0)/\AS w.heap.size w w':=by
 simp only[HW];have M:=A3 (bx w (BE #[AI x,As y n z,As J 0 0,As J 0 0] 128) (BE #[As (Z ⟨h,0,J⟩) f cap,E3 (Z m)] 136) (BE #[AI ⟨#[]⟩,E3 J,E3 J,As J 0 0,E3 J] 138));have D:=a2E w (BE #[AI x,As y n z,As J 0 0,As J 0 0] 128) (BE #[As (Z ⟨h,0,J⟩) f cap,E3 (Z m)] 136) (BE #[AI ⟨#[]⟩,E3 J,E3 J,As J 0 0,E3 J] 138);have I:=tQ w (BE #[AI x,As y n z,As J 0 0,As J 0 0] 128) (BE #[As (Z ⟨h,0,J⟩) f cap,E3 (Z m)] 136) (BE #[AI ⟨#[]⟩,E3 J,E3 J,As J 0 0,E3 J] 138);have N:=tR w (BE #[AI x,As y n z,As J 0 0,As J 0 0] 128) (BE #[As (Z ⟨h,0,J⟩) f cap,E3 (Z m)] 136) (BE #[AI ⟨#[]⟩,E3 J,E3 J,As J 0 0,E3 J] 138);have U:=a2F w (BE #[AI x,As y n z,As J 0 0,As J 0 0] 128) (BE #[As (Z ⟨h,0,J⟩) f cap,E3 (Z m)] 136) (BE #[AI ⟨#[]⟩,E3 J,E3 J,As J 0 0,E3 J] 138);go_enter Tryz.func59,Tryz.ntmps59;go_wp2_with fail;generalize((w.alloc (BE #[AI x,As y n z,As J 0 0,As J 0 0] 128)).alloc (BE #[As (Z ⟨h,0,J⟩) f cap,E3 (Z m)] 136)).alloc (BE #[AI ⟨#[]⟩,E3 J,E3 J,As J 0 0,E3 J] 138)=W at M D I N U⊢;have Cm:AP (∀b,AS W.heap.size W b->b.cell? ⟨w.heap.size+1,0,J⟩=Z (As (Z ⟨h,0,J⟩) f cap)/\b.cell? ⟨w.heap.size+1,1,J⟩=Z (E3 (Z m))/\b.heap[w.heap.size+1+1]?=Z (BE #[AI ⟨#[]⟩,E3 J,E3 J,As J 0 0,E3 J] 138)/\b.cell? ⟨w.heap.size+1+1,0,J⟩=Z (AI ⟨#[]⟩)/\b.cell? ⟨w.heap.size+1+1,1,J⟩=Z (E3 J)/\b.cell? ⟨w.heap.size+1+1,2,J⟩=Z (E3 J)/\b.cell? ⟨w.heap.size+1+1,3,J⟩=Z (As J 0 0)/\b.cell? ⟨w.heap.size+1+1,4,J⟩=Z (E3 J)/\b.frozen? ⟨w.heap.size+1+1,0,J⟩=A5/\b.frozen? ⟨w.heap.size+1+1,1,J⟩=A5/\b.frozen? ⟨w.heap.size+1+1,2,J⟩=A5/\b.frozen? ⟨w.heap.size+1+1,3,J⟩=A5/\b.frozen? ⟨w.heap.size+1+1,4,J⟩=A5):=by refine A3 λb hb=>?_;have E6:=IF hb I;have s:=IF hb N;exact⟨by rw[Ad E6];rfl,by rw[Ad E6];rfl,s,by rw[Ad s];rfl,by rw[Ad s];rfl,by rw[Ad s];rfl,by rw[Ad s];rfl,by rw[Ad s];rfl,Dv s _,Dv s _,Dv s _,Dv s _,Dv s _⟩
 have c0:W.cell? ⟨w.heap.size,0,J⟩=Z (AI x):=by rw[Ad D];rfl
 have c1:W.cell? ⟨w.heap.size,1,J⟩=Z (As y n z):=by rw[Ad D];rfl
 have c2:W.cell? ⟨w.heap.size,2,J⟩=Z (As J 0 0):=by rw[Ad D];rfl
 have c3:W.cell? ⟨w.heap.size,3,J⟩=Z (As J 0 0):=by rw[Ad D];rfl
 have c4:W.cell? ⟨w.heap.size+1,0,J⟩=Z (As (Z ⟨h,0,J⟩) f cap):=by rw[Ad I];rfl
 have c5:W.cell? ⟨w.heap.size+1,1,J⟩=Z (E3 (Z m)):=by rw[Ad I];rfl
 have JH:=A3 U;clear D I N U;go_region_with(go_at_call 121;refine(aT9 x y n z _).mono ?_;rintro e b⟨A,C,rfl,c,d,i,j,H⟩;have Q:AS W.heap.size W b:=⟨H.os,H.tape,H.output,H.size,H.block⟩;obtain⟨BU,d1,d2,d3,d4,d5,d6,d7,o,qP,ec,q,u⟩:=Cm.out b Q;have P:=A3 d2;have R:=A3 Q;have S:AP (W.heap.size<=A):=A3 c;have X:AP (W.heap.size<=C):=A3 d;have pB:=A3 i;have ab:=A3 j;clear d2 H Q c d i j);all_goals
  go_wp2;(try simp only[Sl,Exit.then]);have vg:=EV _ _ 4 _ _ (E3 (Z m)) (EV _ _ 3 _ _ (As (Z ⟨h,0,J⟩) f cap) (EV _ _ 2 _ _ (E3 (Z C)) (EV _ _ 1 _ _ (E3 (Z A)) (EV _ _ 0 _ _ (AI x) P.out))));refine L3 (Y0 rfl _ _ (w.heap.size+1+1) 138 #[AI x,E3 (Z A),E3 (Z C),As (Z ⟨h,0,J⟩) f cap,E3 (Z m)] (0,0) _ rfl vg Tryz.underlying138 rfl (by kernel_rfl)) rfl ?_;have z0:=JH.out;have E2:=S.out;have z2:=X.out;have K:=((((M.out.trans (R.out.mono M.out.size)).setCell (p:=⟨w.heap.size+1+1,0,J⟩) (by show _<=w.heap.size+1+1;omega) (AI x)).setCell (p:=⟨w.heap.size+1+1,1,J⟩) (by show _<=w.heap.size+1+1;omega) (E3 (Z A))).setCell (p:=⟨w.heap.size+1+1,2,J⟩) (by show _<=w.heap.size+1+1;omega) (E3 (Z C))).setCell (p:=⟨w.heap.size+1+1,3,J⟩) (by show _<=w.heap.size+1+1;omega) (As (Z ⟨h,0,J⟩) f cap)|>.setCell (p:=⟨w.heap.size+1+1,4,J⟩) (by show _<=w.heap.size+1+1;omega) (E3 (Z m));refine⟨A,C,rfl,by omega,by omega,?_,?_,⟨K.os,K.tape,K.output,K.size,K.block⟩⟩;·exact(a5U (by omega) _ _ _ _ _).trans pB.out
  ·exact(a5U (by omega) _ _ _ _ _).trans ab.out
theorem aF1(a:Aa)(n c:Nat)(w:A'):(Sx aYw 99 (As (Z a) n c) (As J 0 0)).run A4 w=aY6 (aY5 A5) w:=by kernel_rfl
theorem aD5(w:A'):(dH 99 0 #[]).run A4 w=aY6 (As (Z ⟨w.heap.size,0,J⟩) 0 0) (w.alloc (BE #[] 179)):=by kernel_rfl
theorem aDm(p z:Nat)(w:A')(s:w.cell? ⟨p,0,J⟩=Z (aYJ 123 (dd #[AI Eo]))):AZ A4 96 #[As (Z ⟨p,0,J⟩) 1 z] w λe w'=>∃b f,e=hq (As (Z ⟨b,0,J⟩) 1 f)/\w'.cell? ⟨b,0,J⟩=Z (aYJ 123 (dd #[AI Eo]))/\AS w.heap.size w w':=by
 obtain⟨U,hi,M,N,Q⟩:=IT tF;have hlt:p<w.heap.size:=Ff (h:=s);have c:=aF1;have K:(w.alloc (BE #[] 179)).ownsRow w.heap.size 179 1 (As (Z ⟨w.heap.size,0,J⟩) 0 0) 0 []:=⟨rfl,AF ⟨w.heap.size,0,#[],rfl,AX _,No w _,by omega,by unfold BK;omega,rfl,rfl⟩⟩;have d:=aD5;go_enter Tryz.func96,Tryz.ntmps96;go_wp2_with(at_builtin;refine L4 _ rfl _ _ 99 rfl w.heap.size 179 U aYA 1 16 xK hi M N Q rfl (by decide) _ _ _ rfl K ⟨p,0,J⟩ 1 z [aYJ 123 (dd #[AI Eo])] rfl rfl ?c1 ?c2 ?c3 ?c4 ?c5 ?_);case c1=>intro j u m;match j,m with|0,m=>simp at m;subst m;exact BX s _
 case c2=>intro u hu;simp at hu;subst hu;rfl
 case c3=>unfold BK;omega
 case c4=>omega
 case c5=>simp
 intro v' C DO y _;have H:AS w.heap.size w C:=((B9 _ w).alloc (AX _) _).grown y (by simp) (λk I=>by simp[Sv]at I;omega);obtain⟨b,f,hv⟩:∃b f,v'=As (Z ⟨b,0,J⟩) 1 f:=by
  rcases DO.2 with⟨_,s⟩|⟨b,f,i,hv,_⟩;·omega
  ·exact⟨b,f,hv⟩
 subst hv;have x:=DO.cells (g:=b) rfl;have A:C.cell? ⟨b,0,J⟩=Z (aYJ 123 (dd #[AI Eo])):=by simpa[Ht]using x 0 _ rfl
 have D:=A3 A;clear x DO y A;go_wp2;go_ret;exact⟨b,f,rfl,D.out,H⟩
theorem aJj(v f:A1)(w:A'):AZ A4 256 #[v,IS Po 0,IS Po 1,f] w λe w'=>e=hq (aY8 #[])/\w'=w:=by go_enter Tryz.func256,Tryz.ntmps256;go_wp2;refine aY 1 ?_;rw[RI];go_wp2;go_end0;exact⟨rfl,rfl⟩
theorem aNz(v f:A1)(n:Int)(w:A'):AZ A4 181 #[v,IS Po 0,IS Po 1,IS Po n,f] w λe w'=>e=hq (aY8 #[])/\w'=w:=by go_enter Tryz.func181,Tryz.ntmps181;go_wp2;refine aY 1 ?_;rw[RI];go_wp2_with fail;refine(aJj v f _).mono ?_;rintro e b⟨rfl,rfl⟩;go_wp2;exact L3 (v:=aY8 #[]) (by simp[De,Tryz.results181,go_sem]) rfl ⟨rfl,rfl⟩
theorem aRD(h b:Nat)(f:A1)(w:A'):AZ A4 97 #[As (Z ⟨h,0,J⟩) 1 b,f] w λe w'=>e=hq (aY8 #[])/\w'=w:=by go_enter Tryz.func97,Tryz.ntmps97;go_wp2_with fail;refine(Tryz.bits_Len 1 _ (by omega) (by omega)).mono ?_;rintro e m⟨rfl,rfl⟩;go_wp2_with fail;refine(aNz _ _ _ _).mono ?_;rintro e m⟨rfl,rfl⟩;go_wp2;go_end0;exact⟨rfl,rfl⟩
def cP:ByteArray:=⟨#[109,111,100,117,108,101,32,97]⟩
theorem aSE(w:A'):AZ A4 472 #[dd #[AI Eo]] w λe w'=>e=hq (AI cP)/\AS w.heap.size w w':=by
 have b:∀wx:A',(Op.stringOp .add ⟨#[109,111,100,117,108,101,32]⟩ Eo).run A4 wx=aY6 (AI cP) wx:=by intro wx;exact run_string_add_sum (P:=A4) wx ⟨#[109,111,100,117,108,101,32]⟩ Eo (by decide)
 go_enter Tryz.func472,Tryz.ntmps472;go_wp2;go_ret;exact⟨rfl,(B9 _ _).alloc (AX _) _⟩
theorem aNf:Xn cP++[IS aYN 10]=Pp [109,111,100,117,108,101,32,97,10]:=by kernel_rfl
theorem aM_(s:ByteArray)(w:A'):(method 654 123 (dd #[AI s]) "Text").run A4 w=aY6 (472,dd #[AI s]) w:=by kernel_rfl
theorem aNH(y K:Nat)(w:A')(AV:w.cell? ⟨y,0,J⟩=Z (aYJ 123 (dd #[AI Eo]))):AZ A4 46 #[As (Z ⟨y,0,J⟩) 1 K] w λe w'=>e=hq (AI ⟨#[109,111,100,117,108,101,32,97,10]⟩)/\AS w.heap.size w w':=by
 have c:=aM_;go_enter Tryz.func46,Tryz.ntmps46;go_wp2_with fail;refine(aDm y K _ AV).mono ?_;rintro e w1⟨d,U,rfl,t0,s⟩;have M:=A3 s;have j:=s.size;clear s;go_wp2_with fail;refine(aRD d U _ _).mono ?_;rintro e b⟨rfl,rfl⟩;have I:R9 190 5 b.heap.size b.heap.size [] (b.alloc (BE #[aY4 J,As J 0 0] 190)):=AA ⟨AX _,As J 0 0,No b _,⟨rfl,AA ⟨rfl,rfl⟩⟩,by simp[Sv]⟩;have P:=BX t0 (BE #[aY4 J,As J 0 0] 190);have R:=A3 I;clear I;go_wp2;go_loopw[13]λi wr=>i=IS Po 0/\wr=b.alloc (BE #[aY4 J,As J 0 0] 190)∨i=IS Po 1/\dN 190 5 b.heap.size b.heap.size (aY4 (Z ⟨b.heap.size,0,J⟩)) (Xn cP++[IS aYN 10]) wr/\AS b.heap.size b wr(λi _=>1-(Ay i).toNat);case atStart=>exact AA ⟨rfl,rfl⟩
 case round=>
  rcases hrel with⟨rfl,o⟩|⟨rfl,q,hb⟩
  ·subst o;go_wp2_with fail;refine(aSE _).mono ?_;rintro e w3⟨rfl,x⟩;have m:R9 190 5 b.heap.size b.heap.size [] w3:=by refine AA ⟨AX _,As J 0 0,?_,⟨rfl,AA ⟨rfl,rfl⟩⟩,by simp[Sv]⟩;rw[x.block b.heap.size (by simp)];exact No b _
   have z:=A3 (((B9 _ b).alloc (AX _) _).trans (x.mono (by simp)));have Q:=A3 m;clear x m;go_wp2_with fail;refine(a6X b.heap.size b.heap.size [] cP _ Q.out (by decide) z.out.size).mono ?_;rintro e w4⟨rfl,H,D⟩;have N:=A3 H;have A:=A3 (z.out.trans D);clear H D;go_wp2_with fail;refine(aTe b.heap.size b.heap.size ([]++Xn cP) 10 _ (AF N.out) (by decide) A.out.size).mono ?_;rintro e u⟨rfl,h,f⟩;have C:=A3 h;have p:=A3 (A.out.trans f);clear h f;go_wp2;first
   |exact⟨AF ⟨rfl,C.out,p.out⟩,by simp[Ay]⟩
   |
    (
     go_roundw;case rel=>exact AF ⟨rfl,C.out,p.out⟩
     case measure=>simp[Ay])
  ·go_wp2_with fail;refine(Tryz.Builder_String b.heap.size b.heap.size [109,111,100,117,108,101,32,97,10] _ (by rw[<-aNf];exact AF q) (by simp)).mono ?_;rintro e u⟨rfl,f⟩;have p:=A3 (M.out.trans ((hb.trans f).mono j));clear f;go_wp2;go_ret;exact⟨rfl,p.out⟩
theorem aOQ(m:Int)(w:A')(y:w.cell? ⟨0,0,J⟩=Z (IS Po m)):AZ A4 17 #[AI ⟨#[109,111,100,117,108,101,32,97]⟩] w λe w'=>e=hq (aY8 #[AI ⟨#[109,111,100,117,108,101,32,97,10]⟩,aYA])/\AS w.heap.size w w':=by go_enter Tryz.func17,Tryz.ntmps17;go_wp2_with fail;refine(aPm m _ y).mono ?_;rintro e C⟨A,z,rfl,p,f⟩;have b:=A3 f;have x:=A3 p;clear p f;go_wp2_with fail;refine(aNH A z _ x.out).mono ?_;rintro e D⟨rfl,h⟩;have s:=A3 (b.out.trans (h.mono b.out.size));clear h;go_wp2;go_ret2;exact⟨rfl,s.out⟩
theorem aTD:V.AW (L0 #[118,49,46,48,46,48,45,114,99]).data.toList=A0:=by decide
theorem aTA:V.AW (L0 #[118,49,46,48,46,48]).data.toList=A0:=by decide
theorem aTE:V.order (L0 #[118,49,46,48,46,48,45,114,99]).data.toList (L0 #[118,49,46,48,46,48]).data.toList=-1:=by decide
theorem aCn(m:Int)(w:A')(p:w.cell? ⟨0,0,J⟩=Z (IS Po m)):AZ A4 13 #[] w λe w'=>e=hq (aY5 A0)/\AS w.heap.size w w':=by go_enter Tryz.func13,Tryz.ntmps13;go_wp2_with fail;refine(aSD (L0 #[118,49,46,48,46,48,45,114,99]) (L0 #[118,49,46,48,46,48]) m _ p aTD aTA).mono ?_;rintro e y⟨rfl,b⟩;rw[aTE];have f:=A3 b;have x:=Aw b p;clear b;go_wp2_with fail;refine(aOQ m _ x).mono ?_;rintro e z⟨rfl,h⟩;have s:=A3 (f.out.trans (h.mono f.out.size));clear h;go_wp2;go_ret;exact⟨rfl,s.out⟩
end
def V.s':List UInt8:=[48,49,50,51,52,53,54,55,56,57,97,98,99,100,101,102]
def V.LG(n:Nat):UInt8:=V.s'[n%16]!
def V.TQ:Nat->Nat->List UInt8->List UInt8|0,_,s=>s|n+1,u,s=>V.TQ n (u/16) (V.LG u::s)
def V.MB:Nat->Nat->List UInt8->List UInt8|0,u,s=>V.LG u::s|n+1,u,s=>if 16<=u then V.MB n (u/16) (V.LG u::s)else V.LG u::s
theorem V.a0N:∀(n u:Nat)(s:List UInt8),(V.TQ n u s).length=n+s.length|0,_,s=>by simp[V.TQ]|n+1,u,s=>by rw[V.TQ,V.a0N n];simp;omega
theorem V.a0O:∀(n:Nat)(s:List UInt8),V.TQ n 0 s=jN n 48++s|0,s=>rfl|n+1,s=>by rw[V.TQ,Nat.zero_div,V.a0O n,List.replicate_succ'];simp[V.LG,V.s']
theorem V.a5Z:∀(n u:Nat)(s:List UInt8),s.length+1<=(V.MB n u s).length/\(V.MB n u s).length<=s.length+1+n
 |0,_,s=>by simp[V.MB]
 |n+1,u,s=>by
  rw[V.MB];have:=V.a5Z n (u/16) (V.LG u::s);simp only[Jg]at this;split;·omega
  ·simp only[Jg];omega
theorem V.a0R:∀(n u:Nat)(s:List UInt8),u<16^(n+1)->V.TQ (n+1) u s=jN (n+1+s.length-(V.MB n u s).length) 48++V.MB n u s
 |0,u,s,h=>by simp[V.TQ,V.MB];omega
 |n+1,u,s,h=>by
  rw[V.TQ,V.MB];by_cases b:16<=u;·rw[if_pos b,V.a0R n (u/16) (V.LG u::s) (by rw[aBs (by omega)];rw[aBy]at h;exact h)];congr 2;simp only[Jg];omega
  ·rw[if_neg b,Nat.div_eq_of_lt (by omega),V.a0O];congr 2;simp only[Jg];omega
def V.hG(h:Int):List UInt8:=V.TQ 16 h.toNat []
section
open Go.RowKit
theorem aSi(w:A')(b:w.cell? ⟨5,15,J⟩=Z (IS aYN 4)):AZ A4 438 #[IS UF 16] w λe w'=>e=hq (IS Po 4)/\w'=w:=by
 have e1:bits a7' UF 16 (UF.wrap (-16))=16:=by kernel_rfl
 have e2:UF.wrap 4573923408821661840=4573923408821661840:=by kernel_rfl
 go_enter Tryz.func438,Tryz.ntmps438;go_wp2;go_ret;exact⟨rfl,rfl⟩
theorem aSj(w:A')(b:w.cell? ⟨5,15,J⟩=Z (IS aYN 4)):AZ A4 421 #[IS UF 16] w λe w'=>e=hq (IS Po 4)/\w'=w:=by go_enter Tryz.func421,Tryz.ntmps421;go_wp2_with(go_at_call 438;refine(aSi _ b).mono ?_;rintro e w'⟨rfl,rfl⟩);go_ret;exact⟨rfl,rfl⟩
theorem aOO(w:A'):AZ A4 420 #[IS Po 16] w λe w'=>e=hq (aY5 A0)/\w'=w:=by go_enter Tryz.func420,Tryz.ntmps420;go_wp2;go_ret;exact⟨rfl,rfl⟩
def dz(b:Nat)(wr:A')(s:List UInt8):Prop:=s.length<=65/\(∀j,j<65->(∃x,wr.cell? ⟨b,j,J⟩=Z x)/\wr.frozen? ⟨b,j,J⟩=A5)/\∀j(h:j<s.length),wr.cell? ⟨b,65-s.length+j,J⟩=Z (IS aYN ((s[j].toNat:Nat):Int))
theorem dz.push{b:Nat}{wr:A'}{s:List UInt8}(c:UInt8)(h:dz b wr s)(hs:s.length<65):dz b (wr.setCell ⟨b,64-s.length,J⟩ (IS aYN ((c.toNat:Nat):Int))) (c::s):=by
 obtain⟨_,h2,h3⟩:=h;refine⟨by simp;omega,λj f=>?_,λj f=>?_⟩
 ·refine⟨?_,?_⟩
  ·by_cases e:j=64-s.length;·subst e;obtain⟨x,hx⟩:=(h2 _ f).1;exact⟨_,oe _ _ _ hx⟩
   ·rw[Sw (h:=λe2=>by injection e2;omega)];exact(h2 j f).1
  ·rw[World.frozen?_setCell];exact(h2 j f).2
 ·cases j with
  |zero=>obtain⟨x,hx⟩:=(h2 (64-s.length) (by omega)).1;rw[show 65-(c::s).length+0=64-s.length by simp];exact oe _ _ _ hx
  |succ j=>
   have m:j<s.length:=by simpa using f
   rw[show 65-(c::s).length+(j+1)=65-s.length+j by simp;omega,Sw (h:=λe2=>by injection e2;omega)];exact h3 j m
theorem aCR(v:Nat)(h:v<18446744073709551616):bits a7' UF (v:Int) 15=((v%16:Nat):Int):=by have b:=bits_and_u64_nat v 15 h (by decide);rw[show v&&&15=v%16 from Nat.and_two_pow_sub_one_eq_mod v 4]at b;exact b
def V0:ByteArray:=⟨#[48,49,50,51,52,53,54,55,56,57,97,98,99,100,101,102,103,104,105,106,107,108,109,110,111,112,113,114,115,116,117,118,119,120,121,122]⟩
theorem a0P(v:Nat)(h:v%16<V0.size):V0[v%16]=V.LG v:=by
 have hv:v%16<16:=yW _ (by decide);unfold V.LG;generalize v%16=k at hv h⊢;have b:∀k:Fin 16,V0.data[k.1]?=Z (V.s'[k.1]!):=by decide
 have e:=b ⟨k,hv⟩;obtain⟨_,h2⟩:=Array.getElem?_eq_some_iff.1 e;exact h2
theorem a0Q(v:Nat)(hv:v<16)(h:v<V0.size):V0[v]=V.LG v:=by have e:v%16=v:=Nat.mod_eq_of_lt hv;have:=a0P v (by rw[e];exact h);simpa only[e]using this
theorem aTj(j:Nat)(h:j<65):(Array.replicate 65 (IS aYN 0))[j]?=Z (IS aYN 0):=by rw[Array.getElem?_replicate,if_pos h]
theorem aFf(u:Nat)(hu:u<18446744073709551616)(w:A')(M:w.cell? ⟨5,15,J⟩=Z (IS aYN 4)):AZ A4 379 #[As J 0 0,IS UF u,IS Po 16,aY5 A5,aY5 A5] w λe w'=>∃s:ByteArray,e=hq (aY8 #[As J 0 0,AI s])/\s.data.toList=V.MB 15 u []/\AS w.heap.size w w':=by
 have N:=λo=>BX M o;go_enter Tryz.func379,Tryz.ntmps379;go_wp2_with(first|(go_at_call 420;refine(aOO _).mono ?_;rintro e w'⟨rfl,rfl⟩)|(go_at_call 421;refine(aSj _ (N _)).mono ?_;rintro e w'⟨rfl,rfl⟩));go_loopw[1,13]λA z wr=>∃(v:Nat)(s:List UInt8),A=IS UF v/\z=IS Po (65-(s.length:Int))/\s.length<=15/\v<18446744073709551616/\AP (v<16^(16-s.length))/\AP (V.MB (15-s.length) v s=V.MB 15 u [])/\AP (dz w.heap.size wr s)/\AS w.heap.size w wr(λA _ _=>(L_ A).toNat);case atStart=>refine⟨u,[],rfl,rfl,by simp,hu,hu,rfl,⟨by simp,λj m=>?_,λj m=>absurd m (e9 _)⟩,(B9 _ _).alloc (AX _) _⟩;refine⟨⟨IS aYN 0,?_⟩,World.frozen?_alloc_new _ _ _ _⟩;rw[World.cell?_alloc_new];exact aTj j m
 case round=>
  obtain⟨v,s,rfl,rfl,hs,hv,D,C,p7,I⟩:=hrel;have A6:=aCR v hv;have hc:=p7.out.2.1 (65-s.length-1) (by omega);obtain⟨⟨x,hc⟩,AE⟩:=hc;by_cases H:16<=v
  ·go_wp2;go_round;case rel=>
    have Q:s.length+1<=15:=by
     by_cases e:s.length=15;·exfalso;have:=D.out;rw[e]at this;omega
     ·omega
    refine⟨v/16,V.LG v::s,by go_num,by go_num,by simpa using Q,by omega,?_,?_,?_,I.setCell (p:=⟨_,_,J⟩) (AX _) _⟩;·refine A3 ?_;have b:=D.out;rw[show 16-s.length=16-(s.length+1)+1 by omega,aBy]at b;simp only[Jg];omega
    ·refine A3 ?_;rw[<-C.out,show 15-s.length=15-(s.length+1)+1 by omega];simp only[Jg,V.MB,if_pos H]
    ·refine A3 ?_;have K:v%16<V0.size:=by have:v%16<16:=yW _ (by decide);exact K9 this (by decide)
     have b:dz w.heap.size (wr.setCell ⟨w.heap.size,65-s.length-1,J⟩ (IS aYN ((V0[v%16].toNat:Nat):Int))) (V.LG v::s):=by rw[a0P v K,show 65-s.length-1=64-s.length by omega];exact p7.out.push _ (by omega)
     exact b
   case measure=>simp[L_];omega
  ·have c:∀W,(Instr.sliceAt 513 (aY4 (Z ⟨w.heap.size,0,J⟩)) (Z (IS Po (65-(s.length:Int)-1))) J J).run A4 W=aY6 (As (Z ⟨w.heap.size,65-s.length-1,J⟩) (s.length+1) (s.length+1)) W:=by
    intro W;have f:A4.arrayLen 513=65:=by simp[a8I,a9X]
    rw[run_sliceAt_array_l W 513 ⟨w.heap.size,0,J⟩ (by simp[a8I,aU8,a9X]) Po _ (by omega) (by rw[f];omega),f];go_simp;omega
   have y:=run_convert_bytes_back (P:=A4) (wr.setCell ⟨w.heap.size,64-s.length,J⟩ (IS aYN (((V.LG v).toNat:Nat):Int))) 188 9 5 ⟨w.heap.size,64-s.length,J⟩ (s.length+1) (V.LG v::s) Tryz.underlying188 Tryz.underlying5 L2 (λj m=>by
    have b:=(p7.out.push (V.LG v) (by omega)).2.2 j m;rw[show(⟨w.heap.size,64-s.length,J⟩:Aa).add j=⟨w.heap.size,65-(V.LG v::s).length+j,J⟩by
     unfold Ht;split;·subst_vars;simp
     ·simp];exact b);rw[<-a0Q v (by omega) (K9 (by omega:v<16) (by decide)),Jg,show 64-s.length=65-s.length-1 by omega]at y;have U:AP _:=y;unfold V0 at y;go_wp2;go_ret2;refine⟨_,rfl,?_,I.setCell (p:=⟨_,_,J⟩) (AX _) _⟩;rw[<-C.out];have e:V.MB (15-s.length) v s=V.LG v::s:=by cases h:15-s.length with|zero=>rfl|succ n=>rw[V.MB,if_neg H]
   rw[e];have e2:V0[v]'(K9 (by omega:v<16) (by decide))=V.LG v:=a0Q v (by omega) _;rw[<-e2];rfl
theorem aFg(u:Nat)(hu:u<18446744073709551616)(w:A')(h:w.cell? ⟨5,15,J⟩=Z (IS aYN 4)):AZ A4 216 #[IS UF u,IS Po 16] w λe w'=>∃s:ByteArray,e=hq (AI s)/\s.data.toList=V.MB 15 u []/\AS w.heap.size w w':=by
 have b:AZ A4 313 #[IS UF u,IS Po 16] w λe w'=>∃s:ByteArray,e=hq (AI s)/\s.data.toList=V.MB 15 u []/\AS w.heap.size w w':=by go_enter Tryz.func313,Tryz.ntmps313;go_wp2_with(go_at_call 379;refine(aFf u hu _ h).mono ?_;rintro e w'⟨s,rfl,hs,f⟩);go_ret;exact⟨_,rfl,hs,f⟩
 go_enter Tryz.func216,Tryz.ntmps216;go_wp2_with(go_at_call 313;refine b.mono ?_;rintro e w'⟨s,rfl,hs,f⟩);go_ret;exact⟨_,rfl,hs,f⟩
theorem zC{c:Nat}(hc:c<16):c=0∨c=1∨c=2∨c=3∨c=4∨c=5∨c=6∨c=7∨c=8∨c=9∨c=10∨c=11∨c=12∨c=13∨c=14∨c=15:=by omega
theorem mul_one(c:Nat)(hc:c<16)(w:A'):AZ A4 314 #[IS UF 1,IS UF c] w λe w'=>e=hq (aY8 #[IS UF 0,IS UF c])/\w'=w:=by
 have b:AZ A4 381 #[IS UF 1,IS UF c] w λe w'=>e=hq (aY8 #[IS UF 0,IS UF c])/\w'=w:=by go_enter Tryz.func381,Tryz.ntmps381;go_wp2;go_ret2;refine⟨?_,rfl⟩;rcases zC hc with rfl|rfl|rfl|rfl|rfl|rfl|rfl|rfl|rfl|rfl|rfl|rfl|rfl|rfl|rfl|rfl<;>kernel_rfl
 go_enter Tryz.func314,Tryz.ntmps314;go_wp2_with(go_at_call 381;refine b.mono ?_;rintro e w'⟨rfl,rfl⟩);go_ret2;exact⟨rfl,rfl⟩
def gi(c:Nat):ByteArray:=⟨(jN c 48).toArray⟩
theorem aQ1(c:Nat)(hc:c<16)(w:A'):AZ A4 217 #[AI ⟨#[48]⟩,IS Po c] w λe w'=>e=hq (AI (gi c))/\w'=w:=by
 by_cases b:c=0;·subst b;go_enter Tryz.func217,Tryz.ntmps217;go_wp2;go_ret;exact⟨rfl,rfl⟩
 ·by_cases f:c=1;·subst f;go_enter Tryz.func217,Tryz.ntmps217;go_wp2;go_ret;exact⟨rfl,rfl⟩
  ·go_enter Tryz.func217,Tryz.ntmps217;go_wp2_with(first|(go_at_call 314;refine(mul_one c hc _).mono ?_;rintro e w'⟨rfl,rfl⟩)|(go_at_call 168;refine(Tryz.strings_HasPrefix _ _ _).mono ?_;rintro e w'⟨rfl,rfl⟩));go_ret;refine⟨?_,rfl⟩;rcases zC hc with rfl|rfl|rfl|rfl|rfl|rfl|rfl|rfl|rfl|rfl|rfl|rfl|rfl|rfl|rfl|rfl;all_goals first|exact absurd rfl b|exact absurd rfl f|kernel_rfl
theorem a3f(c:Nat):(gi c).data.toList=jN c 48:=by simp[gi]
theorem aRt(u:Nat)(hu:u<18446744073709551616)(w:A')(x:w.cell? ⟨5,15,J⟩=Z (IS aYN 4)):AZ A4 139 #[IS UF u] w λe w'=>∃t:ByteArray,e=hq (AI t)/\t.data.toList=V.hG u/\AS w.heap.size w w':=by
 go_enter Tryz.func139,Tryz.ntmps139;go_wp2_with fail;go_at_call 216;refine(aFg u hu _ x).mono ?_;rintro e z⟨s,rfl,hs,p⟩;have b:=V.a5Z 15 u [];rw[<-hs]at b;have y:1<=s.size/\s.size<=16:=by
  have e1:s.data.toList.length=s.size:=by simp
  rw[e1]at b;simpa using b
 have f:(16:Int)-(s.size:Int)=((16-s.size:Nat):Int):=by omega
 have h:=λw=>aQ1 (16-s.size) (by omega) w;rw[<-f]at h;have hn:(gi (16-s.size)).size=16-s.size:=by have:=congrArg pa (a3f (16-s.size));simpa using this
 have m:=A3 hs;clear hs b f;go_wp2_with(go_at_call 217;refine(h _).mono ?_;rintro e w'⟨rfl,rfl⟩);go_ret;refine⟨_,rfl,?_,p⟩;have e2:(gi (16-s.size)++s).data.toList=jN (16-s.size) 48++s.data.toList:=by rw[<-a3f];simp
 rw[e2];unfold V.hG;rw[Int.toNat_natCast,V.a0R 15 u [] hu,<-m.out];simp
theorem aF0(a:Aa)(n c:Nat)(w:A'):(Sx aYw 73 (As (Z a) n c) (As J 0 0)).run A4 w=aY6 (aY5 A5) w:=by kernel_rfl
theorem aD4(w:A'):(dH 73 0 #[]).run A4 w=aY6 (As (Z ⟨w.heap.size,0,J⟩) 0 0) (w.alloc (BE #[] 77)):=by kernel_rfl
theorem aJh:(A4.info? 77).map (λi=>(i.zero,i.size,i.bytes))=Z (Z (dd #[AI ⟨#[]⟩,AI ⟨#[]⟩]),2,32):=by kernel_rfl
theorem aDn(a I:Nat)(x y:ByteArray)(w:A')(z:w.cell? ⟨a,0,J⟩=Z (AI x))(C:w.cell? ⟨a,1,J⟩=Z (AI y)):AZ A4 211 #[As (Z ⟨a,0,J⟩) 1 I] w λe w'=>∃f b,e=hq (As (Z ⟨f,0,J⟩) 1 b)/\w'.ownsRow w.heap.size 77 2 (As (Z ⟨f,0,J⟩) 1 b) 1 [AI x,AI y]/\AS w.heap.size w w':=by
 obtain⟨i0,hi,Q,U,c⟩:=IT aJh;have d:=aF0;have A:(w.alloc (BE #[] 77)).ownsRow w.heap.size 77 2 (As (Z ⟨w.heap.size,0,J⟩) 0 0) 0 []:=⟨rfl,AF ⟨w.heap.size,0,#[],rfl,AX _,FX w _ _ rfl,by omega,by unfold BK;omega,rfl,rfl⟩⟩;have i:=aD4;have m:=A3 z;have M:=A3 C;clear z C;go_enter Tryz.func211,Tryz.ntmps211;go_wp2_with(at_builtin;refine L4 _ rfl _ _ 73 rfl w.heap.size 77 i0 (dd #[AI ⟨#[]⟩,AI ⟨#[]⟩]) 2 32 Tryz.underlying73 hi Q U c rfl (by decide) _ _ _ rfl A ⟨a,0,J⟩ 1 I [AI x,AI y] rfl ?c0 ?c1 ?c2 ?c3 ?c4 ?c5 ?_);case c0=>rfl
 case c1=>intro j u h;match j,h with|0,h=>simp at h;subst h;rw[Gg];exact BX m.out _|1,h=>simp at h;subst h;rw[Gg];exact BX M.out _
 case c2=>intro u hu;simp at hu;rcases hu with rfl|rfl<;>rfl
 case c3=>unfold BK;omega
 case c4=>omega
 case c5=>simp
 intro v' K DO H _;have D:AS w.heap.size w K:=((B9 _ w).alloc (AX _) _).grown H (by simp) (λk N=>by simp[Sv]at N;omega);obtain⟨f,b,hv⟩:∃f b,v'=As (Z ⟨f,0,J⟩) 1 b:=by
  rcases DO.2 with⟨_,z⟩|⟨f,b,o,hv,_⟩;·omega
  ·exact⟨f,b,by simpa using hv⟩
 subst hv;have s:AP (K.ownsRow w.heap.size 77 2 (As (Z ⟨f,0,J⟩) 1 b) 1 [AI x,AI y]):=A3 (by simpa using DO);have p:=A3 D;clear DO H D;go_wp2;go_ret;exact⟨f,b,rfl,s.out,p.out⟩
theorem aJk(p:Option Aa)(c:Nat)(f:A1)(w:A'):AZ A4 374 #[As p 1 c,IS Po 0,IS Po 1,f] w λe w'=>e=hq (aY8 #[])/\w'=w:=by
 go_enter Tryz.func374,Tryz.ntmps374;go_wp2_with fail;go_loopw[8]λi wr=>i=IS Po 1/\wr=w(λ_ _=>0);case atStart=>exact⟨rfl,rfl⟩
 case round=>obtain⟨rfl,rfl⟩:=hrel;go_wp2;go_end0;exact⟨rfl,rfl⟩
theorem aRS(p:Option Aa)(c:Nat)(f:A1)(w:A'):AZ A4 312 #[As p 1 c,IS Po 1,f] w λe w'=>e=hq (aY8 #[])/\w'=w:=by
 go_enter Tryz.func312,Tryz.ntmps312;go_wp2_with fail;go_loopw[7,8]λa b wr=>a=IS Po 0/\b=IS Po 20/\wr=w(λ_ _ _=>0);case atStart=>exact⟨rfl,rfl,rfl⟩
 case round=>
  obtain⟨rfl,rfl,rfl⟩:=hrel;go_wp2_with fail;refine(aJk p c f _).mono ?_;rintro e h⟨rfl,rfl⟩;go_wp2_with fail;go_loopw[6]λb wr=>b=IS Po 20/\wr=h(λ_ _=>0);case atStart=>exact⟨rfl,rfl⟩
  case round=>obtain⟨rfl,rfl⟩:=hrel;go_wp2;go_end0;exact⟨rfl,rfl⟩
theorem aRE(p:Option Aa)(c:Nat)(f:A1)(w:A'):AZ A4 212 #[As p 1 c,f] w λe w'=>e=hq (aY8 #[])/\w'=w:=by go_enter Tryz.func212,Tryz.ntmps212;go_wp2_with fail;refine(aRS p c f _).mono ?_;rintro e b⟨rfl,rfl⟩;go_wp2;go_end0;exact⟨rfl,rfl⟩
theorem aDv(p:Option Aa)(c:Nat)(f:A1)(w:A'):AZ A4 214 #[As p 1 c,f] w λe w'=>e=hq (As p 1 c)/\w'=w:=by go_enter Tryz.func214,Tryz.ntmps214;go_wp2;go_ret;exact⟨rfl,rfl⟩
theorem aJc(a z:Nat)(x y:ByteArray)(w:A')(h:w.cell? ⟨a,0,J⟩=Z (AI x))(m:w.cell? ⟨a,1,J⟩=Z (AI y)):AZ A4 138 #[As (Z ⟨a,0,J⟩) 1 z] w λe w'=>∃f b,e=hq (As (Z ⟨f,0,J⟩) 1 b)/\w'.ownsRow w.heap.size 77 2 (As (Z ⟨f,0,J⟩) 1 b) 1 [AI x,AI y]/\AS w.heap.size w w':=by go_enter Tryz.func138,Tryz.ntmps138;go_wp2_with fail;refine(aDn a z x y _ h m).mono ?_;rintro e D⟨f,b,rfl,s,p⟩;have C:=A3 s;have A:=A3 p;clear s p h m;go_wp2_with fail;refine(aRE _ b _ _).mono ?_;rintro e H⟨rfl,rfl⟩;go_wp2_with fail;refine(aDv _ b _ _).mono ?_;rintro e I⟨rfl,rfl⟩;go_wp2_with fail;go_ret;exact⟨f,b,rfl,C.out,A.out⟩
end
end Go.Proofs.YtcfhleenecfghaaGreatDoor
namespace Go.Proofs.YtcfhleenecfghaaGreatDoor.N
section
variable{d8:Type}[DecidableEq d8]
def fresh(K:List d8):List d8->List d8|[]=>[]|m::l=>if m∈K then fresh K l else m::fresh (K++[m]) l
theorem ga{K l:List d8}{x:d8}:x∈fresh K l↔x∈l/\x∉K:=by
 induction l generalizing K with
 |nil=>simp[fresh]
 |cons m l f=>
  unfold fresh;split
  ·rename_i h;rw[f,Hw];constructor;·rintro⟨a,b⟩;exact⟨AF a,b⟩
   ·rintro⟨rfl|a,b⟩;·exact absurd h b
    ·exact⟨a,b⟩
  ·rename_i h;rw[Hw,f,Hw,List.mem_append,ak];constructor
   ·rintro(rfl|⟨a,b⟩);·exact⟨AA rfl,h⟩
    ·exact⟨AF a,λc=>b (AA c)⟩
   ·rintro⟨rfl|a,b⟩;·exact AA rfl
    ·by_cases e:x=m;·exact AA e
     ·exact AF ⟨a,λc=>c.elim b e⟩
theorem aFk{K l:List d8}:(fresh K l).length<=l.length:=by
 induction l generalizing K with
 |nil=>simp[fresh]
 |cons m l b=>
  unfold fresh;split;·have:=b (K:=K);simp only[Jg];omega
  ·have:=b (K:=K++[m]);simp only[Jg];omega
theorem u2{K l:List d8}(h:K.Nodup):(K++fresh K l).Nodup:=by
 induction l generalizing K with
 |nil=>simpa[fresh]using h
 |cons m l f=>
  unfold fresh;split;·exact f h
  ·rename_i x;have h2:(K++[m]).Nodup:=by rw[aBe];exact⟨h,by simp,λa p b s=>by rw[List.mem_singleton.1 s];intro e;exact x (e▸p)⟩
   have:=f h2;rwa[YJ,yS]at this
theorem aFm{K l:List d8}{m:d8}(h:m∈K++fresh K l):fresh K (l++[m])=fresh K l:=by
 induction l generalizing K with
 |nil=>
  have h:m∈K:=by simpa[fresh]using h
  simp[fresh,h]
 |cons x l b=>
  rw[ML];unfold fresh at h⊢;split;·rename_i hx;rw[if_pos hx]at h;exact b h
  ·rename_i hx;rw[if_neg hx]at h;rw[b (by rwa[YJ,yS])]
theorem aFl{K l:List d8}{m:d8}(h:m∉K++fresh K l):fresh K (l++[m])=fresh K l++[m]:=by
 induction l generalizing K with
 |nil=>
  have h:m∉K:=by simpa[fresh]using h
  simp[fresh,h]
 |cons x l b=>
  rw[ML];unfold fresh at h⊢;split;·rename_i hx;rw[if_pos hx]at h;exact b h
  ·rename_i hx;rw[if_neg hx]at h;rw[b (by rwa[YJ,yS]),ML]
inductive Reach(N:d8->List d8)(R:List d8):d8->Prop|root{x:d8}:x∈R->Reach N R x|step{x y:d8}:Reach N R x->y∈N x->Reach N R y
structure U_(N:d8->List d8)(R F A X:List d8):Prop where
 nodup:F.Nodup
 perm:(A++X).Perm F
 closed:∀m∈A,∀n∈N m,n∈F
 root:∀m∈R,m∈F
 reach:∀m∈F,Reach N R m
theorem U_.start(N:d8->List d8)(R:List d8):U_ N R (fresh [] R) [] (fresh [] R):=by refine⟨by simpa using u2 (K:=[]) (l:=R) aBg,.refl _,λm b=>absurd b H8,λm b=>ga.2 ⟨b,H8⟩,λm b=>.root (ga.1 b).1⟩
theorem U_.next{N:d8->List d8}{R F A X c:List d8}(h:U_ N R F A X)(hp:c.Perm X){L:List d8}(z:L=c.flatMap N):U_ N R (F++fresh F L) (A++c) (fresh F L):=by
 have s:∀m,m∈L↔∃x∈X,m∈N x:=λm=>by rw[z,List.mem_flatMap];exact⟨λ⟨x,a,b⟩=>⟨x,hp.mem_iff.1 a,b⟩,λ⟨x,a,b⟩=>⟨x,hp.mem_iff.2 a,b⟩⟩
 refine⟨u2 h.nodup,aUU _ ((hp.append_left A).trans h.perm),λm f n hn=>?_,λm f=>List.mem_append.2 (AA (h.root m f)),λm f=>?_⟩
 ·rcases List.mem_append.1 f with f|f;·exact List.mem_append.2 (AA (h.closed m f n hn))
  ·by_cases e:n∈F;·exact List.mem_append.2 (AA e)
   ·exact List.mem_append.2 (AF (ga.2 ⟨(s n).2 ⟨m,hp.mem_iff.1 f,hn⟩,e⟩))
 ·rcases List.mem_append.1 f with f|f;·exact h.reach m f
  ·obtain⟨y,_⟩:=ga.1 f;obtain⟨x,hx,p⟩:=(s m).1 y;exact .step (h.reach x (h.perm.mem_iff.1 (List.mem_append.2 (AF hx)))) p
omit[DecidableEq d8]in theorem U_.done{N:d8->List d8}{R F A:List d8}(h:U_ N R F A []):A.Nodup/\∀m,m∈A↔Reach N R m:=by
 have hp:A.Perm F:=by simpa using h.perm
 refine⟨hp.nodup_iff.2 h.nodup,λm=>⟨λhm=>h.reach m (hp.mem_iff.1 hm),λhm=>?_⟩⟩;induction hm with|root hx=>exact hp.mem_iff.2 (h.root _ hx)|step _ hy ih=>exact hp.mem_iff.2 (h.closed _ ih _ hy)
theorem ly{l U:List d8}(h:l.Nodup)(hs:∀x∈l,x∈U):l.length<=U.length:=by
 induction l generalizing U with
 |nil=>simp
 |cons x l b=>
  have hx:=hs x (by simp);have h2:=b (U:=U.erase x) (List.nodup_cons.1 h).2 λy hy=>by refine(List.mem_erase_of_ne ?_).2 (hs y (by simp[hy]));intro e;exact(List.nodup_cons.1 h).1 (e▸hy)
  have h3:=List.length_erase_of_mem hx;have h4:=List.length_pos_of_mem hx;simp only[Jg];omega
end
def IG{c:Type}(b:c->c->Bool):List c->List c|[]=>[]|[x]=>[x]|x::y::l=>if b x y then IG b (y::l)else x::IG b (y::l)
def Lex(a b:Nat×Nat):Prop:=a.1<b.1∨a.1=b.1/\a.2<b.2
def MA(a b:Nat×Nat):Bool:=a.1==b.1
theorem lY{l:List (Nat×Nat)}{x:Nat×Nat}(h:x∈IG MA l):x∈l:=by
 match l with
 |[]=>cases h
 |[y]=>exact h
 |y::z::l=>
  unfold IG at h;split at h;·exact I8 _ (lY h)
  ·rcases List.mem_cons.1 h with rfl|h;·exact List.mem_cons_self
   ·exact I8 _ (lY h)
theorem tW{l:List (Nat×Nat)}(h:l.Pairwise Lex):(IG MA l).Pairwise λa b=>a.1<b.1:=by
 match l with
 |[]=>exact .nil
 |[y]=>simp[IG]
 |y::z::l=>
  have h2:=List.pairwise_cons.1 h;unfold IG;split;·exact tW h2.2
  ·rename_i hn;refine List.pairwise_cons.2 ⟨λx hx=>?_,tW h2.2⟩;have f:y.1≠z.1:=by simpa[MA]using hn
   have m:y.1<z.1:=(h2.1 z (by simp)).resolve_right λe=>f e.1;have hx:=lY hx;rcases List.mem_cons.1 hx with rfl|hx;·exact m
   ·rcases(List.pairwise_cons.1 h2.2).1 x hx with e|e;·omega
    ·omega
theorem lX{l:List (Nat×Nat)}(h:l.Pairwise Lex){x:Nat×Nat}:x∈IG MA l↔x∈l/\∀y∈l,y.1=x.1->y.2<=x.2:=by
 match l with
 |[]=>simp[IG]
 |[y]=>simp only[IG,ak];exact⟨λe=>⟨e,λz f _=>by rw[f,e];exact AX _⟩,λe=>e.1⟩
 |y::z::l=>
  have h2:=List.pairwise_cons.1 h;have p:=lX h2.2 (x:=x);unfold IG;split
  ·rename_i hs;have hs:y.1=z.1:=by simpa[MA]using hs
   rw[p];constructor
   ·rintro⟨a,b⟩;refine⟨I8 _ a,λu hu he=>?_⟩;rcases List.mem_cons.1 hu with rfl|hu
    ·rcases h2.1 x a with e|e;·omega
     ·omega
    ·exact b u hu he
   ·rintro⟨a,b⟩;refine⟨?_,λu hu he=>b u (I8 _ hu) he⟩;rcases List.mem_cons.1 a with rfl|a
    ·have h3:=b z (by simp) hs.symm;rcases h2.1 z (by simp)with e|e;·omega
     ·omega
    ·exact a
  ·rename_i hs;have hs:y.1≠z.1:=by simpa[MA]using hs
   have m:∀u∈z::l,y.1<u.1:=by
    intro u hu;have f:y.1<z.1:=(h2.1 z (by simp)).resolve_right λe=>hs e.1;rcases List.mem_cons.1 hu with rfl|hu;·exact f
    ·rcases(List.pairwise_cons.1 h2.2).1 u hu with e|e;·omega
     ·omega
   rw[Hw,p];constructor
   ·rintro(rfl|⟨a,b⟩)
    ·refine⟨by simp,λu hu he=>?_⟩;rcases List.mem_cons.1 hu with rfl|hu;·exact AX _
     ·have:=m u hu;omega
    ·refine⟨I8 _ a,λu hu he=>?_⟩;rcases List.mem_cons.1 hu with rfl|hu;·have:=m x a;omega
     ·exact b u hu he
   ·rintro⟨a,b⟩;rcases List.mem_cons.1 a with rfl|a;·exact AA rfl
    ·exact AF ⟨a,λu hu he=>b u (I8 _ hu) he⟩
end Go.Proofs.YtcfhleenecfghaaGreatDoor.N
namespace Go.Proofs.YtcfhleenecfghaaGreatDoor
section
open Go.RowKit
variable{w:A'}{v:A1}{T:List (Nat×Nat)}{B p r:Nat}{f:Nat->Int}
def N7(f:Nat->Int):Array A1:=#[IS Po (f 0),IS Po (f 1),IS Po (f 2),IS Po (f 3),IS Po (f 4)]
theorem aCU(f:Nat->Int)(h:p<5):(N7 f)[p]?=Z (IS Po (f p)):=by match p,h with|0,_=>rfl|1,_=>rfl|2,_=>rfl|3,_=>rfl|4,_=>rfl
def ZS(f:Nat->Int)(p:Nat)(x:Int):Nat->Int:=λj=>if j=p then x else f j
theorem yv(f:Nat->Int)(h:p<5)(x:Int):(N7 f).setIfInBounds p (IS Po x)=N7 (ZS f p x):=by match p,h with|0,_=>rfl|1,_=>rfl|2,_=>rfl|3,_=>rfl|4,_=>rfl
def M7(T:List (Nat×Nat))(p:Nat):Int:=match T.find? λx=>x.1==p with|Z x=>(x.2:Int)|J=>-1
theorem a42(h:∀x∈T,x.1≠p):M7 T p=-1:=by unfold M7;rw[List.find?_eq_none.2 λx hx=>by simpa using h x hx]
theorem aNd{x:Nat×Nat}(h:∀y∈T,y.1≠x.1):M7 (T++[x])=ZS (M7 T) x.1 (x.2:Int):=by
 funext p;unfold ZS M7;rw[List.find?_append];by_cases e:p=x.1;·subst e;rw[List.find?_eq_none.2 λy hy=>by simpa using h y hy];simp
 ·rw[if_neg e];cases b:T.find? λy=>y.1==p with|some y=>simp|none=>simp[JK e]
theorem tq:∀{q r:Nat},q<5->r<5->V.mp q=V.mp r->q=r:=by
 intro q r f m h;have e:V.Hn q=V.Hn r:=by rw[<-V.PT,<-V.PT,h]
 have:∀a b:Fin 5,V.Hn a.val=V.Hn b.val->a.val=b.val:=by decide
 exact this ⟨q,f⟩ ⟨r,m⟩ e
theorem a3K:∀{a b:Nat},a<30->b<30->V.Df a=V.Df b->a=b:=by
 intro a b f m h;have e:V.Jy a=V.Jy b:=by rw[<-V.XA,<-V.XA,h]
 have:∀x y:Fin 30,V.Jy x.val=V.Jy y.val->x.val=y.val:=by decide+kernel
 exact this ⟨a,f⟩ ⟨b,m⟩ e
theorem aKb{q:Nat}(h:q<r)(e:r<5):a8D (V.mp q).toList (V.mp r).toList=A0:=by
 rw[Vg,Vg,V.PT,V.PT];have:∀a b:Fin 5,a.val<b.val->a8D (V.Hn a.val) (V.Hn b.val)=A0:=by decide
 exact this ⟨q,by omega⟩ ⟨r,e⟩ h
theorem aQx{b:Nat}(g:Nat->Int)(h:w.heap[b]?=Z (BE (N7 f) 63)):(((((w.setCell ⟨b,0,J⟩ (IS Po (g 0))).setCell ⟨b,1,J⟩ (IS Po (g 1))).setCell ⟨b,2,J⟩ (IS Po (g 2))).setCell ⟨b,3,J⟩ (IS Po (g 3))).setCell ⟨b,4,J⟩ (IS Po (g 4))).heap[b]?=Z (BE (N7 g) 63):=by have e:=EV w b 0 _ _ (IS Po (g 0)) h;have m:=EV _ b 1 _ _ (IS Po (g 1)) e;have h2:=EV _ b 2 _ _ (IS Po (g 2)) m;have h3:=EV _ b 3 _ _ (IS Po (g 3)) h2;have h4:=EV _ b 4 _ _ (IS Po (g 4)) h3;exact h4
theorem aQ5{P:Ac}{fn:Func}{p q:Tmp}{ty:A_}(h:fn.results=#[.cell p ty,.tmp q])(b:Array A1)(w:A')(g:Nat)(t:A_)(cs:Array A1)(fr:Nat×Nat)(d:TypeDesc)(v:A1)(m:b.getD p Y=aY4 (Z ⟨g,0,J⟩))(x:b.getD q Y=v)(f:w.heap[g]?=Z (BE cs t fr))(hu:P.underlying ty=Z d)(e:(match d with|aYu _|.array _ _=>A0|_=>A5)=A0)(hi:(P.info? ty).map (·.size)=Z cs.size):(De fn b).run P w=aY6 (aY8 #[dd cs,v]) w:=by
 have s:b[p]?.getD Y=aY4 (Z ⟨g,0,J⟩):=by simpa using m
 have y:b[q]?.getD Y=v:=by simpa using x
 simp[De,h,s,y,asAddr,aAC w g t ty cs fr d f hu e hi]
structure Nv(w:A')(f:Nat->Int)(wr:A'):Prop where
 res:wr.heap[w.heap.size]?=Z (BE (N7 λ_=>0) 63)
 out:wr.heap[w.heap.size+1]?=Z (BE (N7 f) 63)
 below:AS w.heap.size w wr
theorem Nv.drewN{w:A'}{f:Nat->Int}{wr:A'}(h:Nv w f wr)(n:Nat):Nv w f (wr.drewN n):=⟨h.res,h.out,Je h.below n⟩
theorem Nv.put{wr:A'}(h:Nv w f wr)(b:p<5)(x:Int):Nv w (ZS f p x) (wr.setCell ⟨w.heap.size+1,p,J⟩ (IS Po x)):=by
 refine⟨?_,?_,h.below.setCell (p:=⟨w.heap.size+1,p,J⟩) (by show w.heap.size<=w.heap.size+1;omega) _⟩;·rw[F_ _ _ _ _ (show w.heap.size≠w.heap.size+1 by omega)];exact h.res
 ·rw[EV wr _ p _ _ _ h.out,yv f b]
theorem Nv.start(w:A'):Nv w (λ_=>-1) ((w.alloc (BE (N7 λ_=>0) 63)).alloc (BE (N7 λ_=>-1) 63)):=by refine⟨?_,FX _ _ _ (by simp),((B9 _ w).alloc (AX _) _).alloc (by simp) _⟩;rw[E' _ _ _ (by simp)];exact FX _ _ _ rfl
theorem aS9(AW:Nat->Nat->Nat)(hW:Nat)(T:List (Nat×Nat))(v:A1)(w:A')(JS:∀q k,q<5->k<3->w.cell? ⟨hW,q*3+k,J⟩=Z (IS Po (AW q k:Int))/\AW q k<30)(fV:∀q j k,q<5->j<3->k<3->AW q j=AW q k->j=k)(hv:HO w v (T.map F2))(i1:∀x∈T,x.1<5/\∃k,k<3/\x.2=AW x.1 k)(bj:T.Pairwise λx y=>x.1<y.1):AZ A4 28 #[aY4 (Z ⟨hW,0,J⟩),v] w λe w'=>e=hq (aY8 #[dd (N7 (M7 T)),aY5 A0])/\AS w.heap.size w w':=by
 have DS:=A3 JS;have a_:=A3 fV;have Cm:=A3 i1;have Cg:=A3 bj;obtain⟨a,c,rfl,I7⟩:∃a c,v=As a T.length c/\AP (∀k(h:k<T.length),∃g,a=Z ⟨g,0,J⟩/\w.cell? ⟨g,k*2,J⟩=Z (AI (V.mp T[k].1))/\w.cell? ⟨g,k*2+1,J⟩=Z (AI (V.Df T[k].2))):=by
  rcases hv with⟨rfl,AV⟩|⟨g,c,rfl,h⟩;·obtain rfl:=List.map_eq_nil_iff.1 AV;exact⟨J,0,rfl,A3 λk h=>by cases h⟩
  ·refine⟨_,c,by rw[List.length_map],A3 λk hk=>⟨g,rfl,?_⟩⟩;have:=h k (by simpa using hk);simpa[F2]using this
 have aVA:T.length<=5:=by
  have s:(T.map (·.1)).Nodup:=by unfold pT;rw[YM];exact bj.imp λh=>yY h
  have h2:=N.ly (U:=List.range 5) s λx hx=>by obtain⟨y,hy,rfl⟩:=List.mem_map.1 hx;exact List.mem_range.2 (i1 y hy).1
  simpa using h2
 have UP:=A3 (Nv.start w);clear JS fV i1 bj hv;go_enter Tryz.func28,Tryz.ntmps28;go_wp2;go_loopw[7]λi wr=>∃n:Nat,n<=T.length/\i=IS Po n/\AP (Nv w (M7 (T.take n)) wr)(λi _=>T.length-(Ay i).toNat);case atStart=>exact⟨0,by omega,rfl,A3 UP.out⟩
 case round=>
  obtain⟨n,hn,rfl,H⟩:=hrel;by_cases hlt:n<T.length
  ·obtain⟨g,rfl,o,Yx⟩:=I7.out n hlt;obtain⟨C,m,u,sz⟩:=Cm.out T[n] (EC hlt);have Q:AP (∀y∈T.take n,y.1<T[n].1):=A3 λy hy=>by obtain⟨j,H1,rfl⟩:=List.mem_iff_getElem.1 hy;rw[W1]at H1;rw[a_M];exact List.pairwise_iff_getElem.1 Cg.out j n (by omega) hlt (by omega)
   have P:AP (M7 (T.take (n+1))=ZS (M7 (T.take n)) T[n].1 (T[n].2:Int)):=A3 (by rw[UU hlt];exact aNd λy hy=>yY (Q.out y hy));have I:M7 (T.take n) T[n].1=-1:=a42 λy hy=>yY (Q.out y hy);have p6:AP (0<n->∃q,q<T[n].1/\w.cell? ⟨g,(n-1)*2,J⟩=Z (AI (V.mp q))):=A3 λAV=>by obtain⟨g',e,s,_⟩:=I7.out (n-1) (by omega);injection e with e;injection e with e;subst e;exact⟨_,List.pairwise_iff_getElem.1 Cg.out (n-1) n (by omega) hlt (by omega),s⟩
   have aVZ:n<=5:=by omega
   have aHc:g<w.heap.size:=Ff (h:=o);generalize T[n]=x at o Yx C sz P I p6 Q;generalize M7 (T.take n)=f at H P I;generalize If:M7 (T.take (n+1))=f' at P;have iz:=A3 If;clear If;obtain⟨b,U'⟩:=x;simp only at o Yx C sz P I p6 Q;subst sz;have y2:=A3 o;have aAi:=A3 Yx;clear o Yx Q;go_wp2;go_loopw[8,9]λD p cd=>∃q:Nat,q<=5/\p=IS Po q/\D=aY5 (Bn (b<q))/\AP (Nv w (if b<q then f' else f) cd)(λ_ p _=>5-(Ay p).toNat);case atStart=>exact⟨0,by omega,rfl,rfl,by simpa using H⟩
   case round=>
    clear H;obtain⟨q,AD,rfl,rfl,H⟩:=hrel;by_cases Z8:q<5
    ·go_wp2;rw[show Bn ((q:Int)<5)=A0 from decide_eq_true (by omega)];go_loopw[8,10]λD k aTV=>∃j:Nat,j<=3/\k=IS Po j/\D=aY5 (Bn (b<q∨b=q/\m<j))/\AP (Nv w (if b<q∨b=q/\m<j then f' else f) aTV)(λ_ k _=>3-(Ay k).toNat);case atStart=>exact⟨0,by omega,rfl,by simp,by simpa using H⟩
     case round=>
      clear H;obtain⟨j,H1,rfl,rfl,H⟩:=hrel;by_cases Wq:j<3
      ·have K:=A3 H.out.below;have S:wr.cell? ⟨g,n*2,J⟩=Z (AI (V.mp b)):=Aw K.out y2.out;have DK:wr.cell? ⟨g,n*2+1,J⟩=Z (AI (V.Df (AW b m))):=Aw K.out aAi.out;obtain⟨QK,l2⟩:=DS.out q j Z8 Wq;have VI:=Aw K.out QK;have aJF:=(DS.out b m C u).2;have M:wr.cell? ⟨w.heap.size+1,q,J⟩=Z (IS Po ((if b<q∨b=q/\m<j then f' else f) q)):=by rw[Ad H.out.out];exact aCU _ Z8
       have o1:=Dv H.out.out q;have TY:=mO q Z8;have Kv:=mu (AW q j) l2;have aVg:(q:Int)<5:=by omega
       have W:(j:Int)<3:=by omega
       have sQ:(n:Int)<(T.length:Int):=by omega
       clear QK;by_cases X:b=q
       ·subst X;have X':((V.mp b).toList==(V.mp b).toList)=A0:=by simp
        by_cases fY:j=m
        ·subst fY;have aJ8:((V.Df (AW b j)).toList==(V.Df (AW b j)).toList)=A0:=by simp
         rw[if_neg (by omega)]at M;rw[I]at M;have O8:Bn (b<b∨b=b/\j<j)=A5:=decide_eq_false (by omega);rw[if_neg (by omega)]at H;clear I;go_wp2_with fail;go_quiet(first|(go_at_call 21;exact Si (TY _))|(go_at_call 22;exact hf (Kv _)));have Cx:=A3 ((H.out.drewN nq).put C (AW b j:Int));have aLG:(wr.drewN nq).cell? ⟨hW,b*3+j,J⟩=Z (IS Po (AW b j:Int)):=VI;have aN8:(wr.drewN nq).cell? ⟨w.heap.size+1,b,J⟩=Z (IS Po (-1)):=M;have cD:(wr.drewN nq).frozen? ⟨w.heap.size+1,b,J⟩=A5:=o1;generalize wr.drewN nq=WE at Cx aLG aN8 cD⊢;clear VI M o1 S DK;go_wp2;have R:AP (Nv w f' (WE.setCell ⟨w.heap.size+1,b,J⟩ (IS Po (AW b j:Int)))):=by rw[P.out];exact Cx
         first
         |exact⟨⟨j+1,by omega,by go_num,by simp,by simpa using R⟩,by simp[Ay];omega⟩
         |
          (
           go_roundw;case rel=>exact⟨j+1,by omega,by go_num,by simp,by simpa using R⟩
           case measure=>simp[Ay];omega)
        ·have md:AW b m≠AW b j:=λe=>fY (a_.out b j m C Wq u e.symm);have aJ8:((V.Df (AW b m)).toList==(V.Df (AW b j)).toList)=A5:=by rw[beq_eq_false_iff_ne];intro e;rw[Vg,Vg]at e;exact md (a3K aJF l2 (V.bytes_inj e))
         have A:b<b∨b=b/\m<j↔b<b∨b=b/\m<j+1:=by omega
         have Cn:AP (Nv w (if b<b∨b=b/\m<j+1 then f' else f) wr):=by
          by_cases Fa:m<j;·rw[if_pos (by omega)];rw[if_pos (by omega)]at H;exact H
          ·rw[if_neg (by omega)];rw[if_neg (by omega)]at H;exact H
         have z:Bn (b<b∨b=b/\m<j)=Bn (b<b∨b=b/\m<j+1):=decide_eq_decide.2 A;have p5:=A3 z;obtain⟨D,a0S⟩:∃D,D=Bn (b<b∨b=b/\m<j):=⟨_,rfl⟩;rw[<-a0S]at p5⊢;clear I M o1 A z a0S H;go_wp2_with fail;go_quiet(first|(go_at_call 21;exact Si (TY _))|(go_at_call 22;exact hf (Kv _)));have R:=A3 (Cn.out.drewN nq);clear Cn;go_wp2_with fail;first
         |exact⟨⟨j+1,by omega,by go_num,by rw[p5.out],R⟩,by simp[Ay];omega⟩
         |
          (
           go_roundw;case rel=>exact⟨j+1,by omega,by go_num,by rw[p5.out],R⟩
           case measure=>simp[Ay];omega)
       ·have X':((V.mp b).toList==(V.mp q).toList)=A5:=by rw[beq_eq_false_iff_ne];intro e;rw[Vg,Vg]at e;exact X (tq C Z8 (V.bytes_inj e))
        have A:(b<q∨b=q/\m<j)=(b<q∨b=q/\m<j+1):=propext (by omega);simp only[A]at H;have z:Bn (b<q∨b=q/\m<j)=Bn (b<q∨b=q/\m<j+1):=by simp only[A]
        generalize Bn (b<q∨b=q/\m<j)=D at z;clear I M o1 A;go_wp2_with fail;go_quiet(first|(go_at_call 21;exact Si (TY _))|(go_at_call 22;exact hf (Kv _)));have R:=A3 (H.out.drewN nq);go_wp2;first
        |exact⟨⟨j+1,by omega,by go_num,by rw[z],R⟩,by simp[Ay];omega⟩
        |
         (
          go_roundw;case rel=>exact⟨j+1,by omega,by go_num,by rw[z],R⟩
          case measure=>simp[Ay];omega)
      ·have W:j=3:=by omega
       subst W;have A:(b<q∨b=q/\m<3)=(b<q+1):=propext (by omega);simp only[A]at H;have z:Bn (b<q∨b=q/\m<3)=Bn (b<q+1):=by simp only[A]
       generalize Bn (b<q∨b=q/\m<3)=D at z;clear A;go_wp2;first
       |exact⟨⟨q+1,by omega,by go_num,by rw[z],H⟩,by simp[Ay];omega⟩
       |
        (
         go_roundw;case rel=>exact⟨q+1,by omega,by go_num,by rw[z],H⟩
         case measure=>simp[Ay];omega)
    ·have aIa:q=5:=by omega
     subst aIa;rw[if_pos C]at H;have z:Bn (b<5)=A0:=decide_eq_true C;rw[z];have K:=A3 H.out.below;have S:wr.cell? ⟨g,n*2,J⟩=Z (AI (V.mp b)):=Aw K.out y2.out;have sQ:(n:Int)<(T.length:Int):=by omega
     by_cases J1:n=0
     ·subst J1;go_wp2_with fail;go_quiet(fail);have R:=A3 (H.out.drewN nq);go_wp2;first
      |exact⟨⟨1,by omega,by go_num,by rw[iz.out];exact R⟩,by simp[Ay];omega⟩
      |
       (
        go_roundw;case rel=>exact⟨1,by omega,by go_num,by rw[iz.out];exact R⟩
        case measure=>simp[Ay];omega)
     ·obtain⟨J8,QP,a10⟩:=p6.out (by omega);have VR:=Aw K.out a10;obtain⟨d,rfl⟩:∃d,n=d+1:=⟨n-1,by omega⟩;rw[Nat.add_sub_cancel]at VR;have MZ:=aKb QP C;have e1:(d:Int)+1-1=(d:Int):=by omega
      have e2:(d:Int)<(T.length:Int):=by omega
      have DF:(0:Int)<(d:Int)+1:=by omega
      clear a10;go_wp2_with fail;go_quiet(fail);have R:=A3 (H.out.drewN nq);go_wp2;first
      |exact⟨⟨d+1+1,by omega,by go_num,by rw[iz.out];exact R⟩,by simp[Ay];omega⟩
      |
       (
        go_roundw;case rel=>exact⟨d+1+1,by omega,by go_num,by rw[iz.out];exact R⟩
        case measure=>simp[Ay];omega)
  ·have GK:n=T.length:=by omega
   subst GK;rw[On]at H;obtain⟨f,AE⟩:∃f,f=M7 T:=⟨_,rfl⟩;rw[<-AE]at H;have El:=A3 AE;clear AE;obtain⟨s,h2,h3⟩:=H.out;have aAl:=A3 s;have aAm:=A3 h3;have J8:wr.cell? ⟨w.heap.size,0,J⟩=Z (IS Po 0):=by rw[Ad s];rfl
   have DQ:wr.cell? ⟨w.heap.size,1,J⟩=Z (IS Po 0):=by rw[Ad s];rfl
   have Dg:wr.cell? ⟨w.heap.size,2,J⟩=Z (IS Po 0):=by rw[Ad s];rfl
   have FG:wr.cell? ⟨w.heap.size,3,J⟩=Z (IS Po 0):=by rw[Ad s];rfl
   have Gn:wr.cell? ⟨w.heap.size,4,J⟩=Z (IS Po 0):=by rw[Ad s];rfl
   have r0:wr.cell? ⟨w.heap.size+1,0,J⟩=Z (IS Po (f 0)):=by rw[Ad h2];rfl
   have r1:wr.cell? ⟨w.heap.size+1,1,J⟩=Z (IS Po (f 1)):=by rw[Ad h2];rfl
   have r2:wr.cell? ⟨w.heap.size+1,2,J⟩=Z (IS Po (f 2)):=by rw[Ad h2];rfl
   have EI:wr.cell? ⟨w.heap.size+1,3,J⟩=Z (IS Po (f 3)):=by rw[Ad h2];rfl
   have EJ:wr.cell? ⟨w.heap.size+1,4,J⟩=Z (IS Po (f 4)):=by rw[Ad h2];rfl
   have z0:=Dv s 0;have E2:=Dv s 1;have z2:=Dv s 2;have z3:=Dv s 3;have z4:=Dv s 4;clear s h2 h3 H;go_wp2;(try simp only[Sl,Exit.then]);refine L3 (aQ5 (p:=4) (q:=5) (ty:=63) (by kernel_rfl) _ _ w.heap.size 63 _ _ _ (aY5 A0) rfl rfl (aQx f aAl.out) Tryz.underlying63 rfl (by rw[show(N7 f).size=5 from rfl];kernel_rfl)) rfl ?_;refine⟨by rw[El.out],?_⟩;have hb:=aAm.out;exact((((hb.setCell (p:=⟨w.heap.size,0,J⟩) (AX _) _).setCell (p:=⟨w.heap.size,1,J⟩) (AX _) _).setCell (p:=⟨w.heap.size,2,J⟩) (AX _) _).setCell (p:=⟨w.heap.size,3,J⟩) (AX _) _).setCell (p:=⟨w.heap.size,4,J⟩) (AX _) _
theorem a5W{o:Du}(h:w.heap[r]?=Z o):({w with heap:=w.heap.setIfInBounds r o}:A')=w:=by
 have:w.heap.setIfInBounds r o=w.heap:=by
  apply nD;intro i;rw[H5];split;·rename_i e;subst e;rw[h];simp[(Array.getElem?_eq_some_iff.1 h).1]
  ·rfl
 rw[this]
def NW(l:List (Ax×Nat))(j n:Nat):List (Ax×Nat):=l.modify j λx=>(x.1,n)
theorem aMJ(l:List (Ax×Nat))(j n:Nat):(Eb l).modify j (λe=>{e with val:=IS Po (n:Int)})=Eb (NW l j n):=by
 apply nD;intro i;rw[hV];by_cases hi:i<l.length
 ·have b:i<(NW l j n).length:=by simpa[NW]using hi
  rw[ZI i b,ZI i hi];by_cases e:j=i;·subst e;simp[NW]
  ·simp[NW,e]
 ·rw[Pg (by rw[g_];omega),Pg (by rw[g_];simp[NW];omega)];split<;>rfl
theorem aPt(l:List (Ax×Nat))(j n:Nat):(NW l j n).map (·.1)=l.map (·.1):=by apply yO;intro i;simp only[NW,W',aBT];cases l[i]? with|none=>simp|some x=>by_cases e:j=i<;>simp[e]
theorem find_born(l:List (Ax×Nat))(j:Nat)(b:j<l.length):(Eb l).findIdx? λe=>(e.born:Int)==(j:Int)=Z j:=by
 rw[Array.findIdx?_eq_some_iff_getElem];have hs:j<(Eb l).size:=by rw[g_];exact b
 refine⟨hs,?_,λk h=>?_⟩;·have:=ZI (l:=l) j b;rw[ET hs]at this;rw[D3 this];simp
 ·have f:k<l.length:=by omega
  have:=ZI (l:=l) k f;rw[ET (by rw[g_];exact f)]at this;rw[D3 this];simp;omega
theorem aEt(r:Nat)(l:List (Ax×Nat))(p:Ax)(j:Nat)(y:j<l.length)(z:l[j].1=p)(I:(l.map (·.1)).Nodup)(w:A')(s:Fh p)(D:∀x∈l,Fh x.1)(f:w.heap[r]?=Z (oF (Eb l) l.length)):(Xk 131 (E3 (Z r)) (Gk p)).run A4 w=aY6 (aY8 #[IS Po (l[j].2:Int),IS Po (j:Int)]) w:=by
 rcases bE l p w s D with⟨_,h2⟩|⟨i,hi,h,A⟩;·exact absurd z (h2 _ (EC y))
 ·have C:i=j:=by
   have a:i<(l.map (·.1)).length:=by simpa using hi
   have b:j<(l.map (·.1)).length:=by simpa using y
   exact(a_L (h₀:=a) (h₁:=b) I).1 (by simp[h,z])
  subst C;obtain⟨N,H⟩:=lH p s;have h3:=ZI (l:=l) i hi;have M:=tX.stays w H;have m:(Eb l).modify i (λe=>{key:=Gk p,val:=e.val,born:=e.born})=Eb l:=by
   apply nD;intro k;rw[hV];split;·rename_i e;subst e;rw[h3];simp[h]
   ·rfl
  have K:=a5W f;simp[Xk,Np aV,Oc f,WL p s,A,h3,h,M,m,dP _ f,K_,goInt];exact K
theorem aEs(r:Nat)(l:List (Ax×Nat))(p:Ax)(hn:∀x∈l,x.1≠p)(w:A')(e:Fh p)(m:∀x∈l,Fh x.1)(b:w.heap[r]?=Z (oF (Eb l) l.length)):(Xk 131 (E3 (Z r)) (Gk p)).run A4 w=aY6 (aY8 #[IS Po 0,IS Po (l.length:Int)]) {w with heap:=w.heap.setIfInBounds r (oF (Eb (l++[(p,0)])) (l.length+1))}:=by
 rcases bE l p w e m with⟨f,_⟩|⟨i,hi,h,_⟩;·rw[a3'];simp[Xk,Np aV,Oc b,WL p e,f,dP _ b,K_,goInt]
 ·exact absurd h (hn _ (EC hi))
theorem a'7(r:Nat)(l:List (Ax×Nat))(j n:Nat)(h:j<l.length)(w:A')(b:w.heap[r]?=Z (oF (Eb l) l.length)):(dI 131 (E3 (Z r)) (IS Po (j:Int)) (IS Po (n:Int))).run A4 w=aY6 () {w with heap:=w.heap.setIfInBounds r (oF (Eb (NW l j n)) l.length)}:=by have e:=find_born l j h;have h2:=aMJ l j n;have f:(asInt (IS Po (j:Int))).run A4 w=aY6 (j:Int) w:=rfl;simp[dI,Oc b,f,e,dP _ b,K_];exact congrArg (λx=>w.heap.setIfInBounds r (oF x l.length)) h2
def Found(w:A')(r:Nat)(K:List Ax)(N:Nat):Prop:=∃l:List (Ax×Nat),w.heap[r]?=Z (oF (Eb l) l.length)/\l.map (·.1)=K/\∀x∈l,0<x.2/\x.2<=N
structure K4(r B:Nat)(w w':A'):Prop where
 os:w'.os=w.os
 tape:w'.tape=w.tape
 output:w'.output=w.output
 size:w.heap.size<=w'.heap.size
 block:∀k,k<B->k≠r->w'.heap[k]?=w.heap[k]?
theorem K4.refl(r B:Nat)(w:A'):K4 r B w w:=⟨rfl,rfl,rfl,AX _,λ_ _ _=>rfl⟩
theorem K4.below{w1 w2:A'}(h:K4 r B w w1)(k:AS B w1 w2):K4 r B w w2:=⟨k.os.trans h.os,k.tape.trans h.tape,k.output.trans h.output,HA h.size k.size,λb e f=>(k.block b e).trans (h.block b e f)⟩
theorem K4.set{w1:A'}(h:K4 r B w w1)(o:Du):K4 r B w {w1 with heap:=w1.heap.setIfInBounds r o}:=⟨h.os,h.tape,h.output,by show _<=(w1.heap.setIfInBounds r o).size;rw[a6m];exact h.size,λb f e=>by show(w1.heap.setIfInBounds r o)[b]?=_;rw[H5,if_neg (JK e)];exact h.block b f e⟩
theorem K4.drew{r B:Nat}{w w1:A'}(h:K4 r B w w1):K4 r B w w1.drew:=⟨h.os,h.tape,h.output,h.size,h.block⟩
theorem aPu(l:List (Ax×Nat))(p:Ax)(n m:Nat):NW (l++[(p,n)]) l.length m=l++[(p,m)]:=by
 unfold NW;apply yO;intro i;rw[aBT];rcases Nat.lt_trichotomy i l.length with h|h|h
 ·rw[jL h,jL h];have:¬l.length=i:=by omega
  simp[this]
 ·subst h;simp
 ·rw[yR (by simp;omega),yR (by simp;omega)];simp
theorem zp(r:Nat)(K:List Ax)(N:Nat)(p:Ax)(w:A')(M:Found w r K N)(EH:K.Nodup)(d:∀m∈K,Fh m)(e:Fh p)(u:N<=1000000000):∃(c:Nat)(j:Nat)(f D:A'),(Hv 131 (E3 (Z r)) (Gk p) A5).run A4 w=aY6 (IS Po (c:Int)) w/\(Xk 131 (E3 (Z r)) (Gk p)).run A4 w=aY6 (aY8 #[IS Po (c:Int),IS Po (j:Int)]) f/\(Hv 131 (E3 (Z r)) (Gk p) A5).run A4 f=aY6 (IS Po (c:Int)) f/\(dI 131 (E3 (Z r)) (IS Po (j:Int)) (IS Po ((c:Int)+1))).run A4 f=aY6 () D/\c<=N/\(c=0/\p∉K/\Found D r (K++[p]) (N+1)∨0<c/\p∈K/\Found D r K (N+1))/\(∃o,f={w with heap:=w.heap.setIfInBounds r o})/\∃o,D={w with heap:=w.heap.setIfInBounds r o}:=by
 obtain⟨l,b,rfl,hc⟩:=M;have A:∀x∈l,Fh x.1:=λx hx=>d _ (List.mem_map.2 ⟨x,hx,rfl⟩);have hlt:=(Array.getElem?_eq_some_iff.1 b).1;rcases t_ r l.length l p w e A b with⟨s,h2⟩|⟨x,hx,C,s⟩
 ·have h3:=aEs r l p h2 w e A b;have I:({w with heap:=w.heap.setIfInBounds r (oF (Eb (l++[(p,0)])) (l.length+1))}:A').heap[r]?=Z (oF (Eb (l++[(p,0)])) (l++[(p,0)]).length):=by show(w.heap.setIfInBounds r _)[r]?=_;rw[H5,if_pos rfl,if_pos hlt];simp
  have h4:(Hv 131 (E3 (Z r)) (Gk p) A5).run A4 {w with heap:=w.heap.setIfInBounds r (oF (Eb (l++[(p,0)])) (l.length+1))}=aY6 (IS Po 0) {w with heap:=w.heap.setIfInBounds r (oF (Eb (l++[(p,0)])) (l.length+1))}:=by
   have U:∀x∈l++[(p,0)],Fh x.1:=λx hx=>by
    rcases List.mem_append.1 hx with hx|hx;·exact A x hx
    ·rw[List.mem_singleton.1 hx];exact e
   rcases t_ r _ (l++[(p,0)]) p _ e U I with⟨h,_⟩|⟨y,hy,q,h⟩;·exact h
   ·rcases List.mem_append.1 hy with hy|hy;·exact absurd q (h2 y hy)
    ·rw[List.mem_singleton.1 hy]at h;exact h
  have z:=a'7 r (l++[(p,0)]) l.length 1 (by simp) _ I;rw[aPu]at z;refine⟨0,l.length,_,_,s,h3,h4,z,by omega,AA ⟨rfl,λhm=>?_,l++[(p,1)],?_,by simp,λx hx=>?_⟩,⟨_,rfl⟩,⟨oF (Eb (l++[(p,1)])) (l++[(p,0)]).length,?_⟩⟩;·obtain⟨x,hx,C⟩:=List.mem_map.1 hm;exact h2 x hx C
  ·show((w.heap.setIfInBounds r _).setIfInBounds r _)[r]?=_;rw[H5,if_pos rfl,if_pos (by rw[a6m];exact hlt)];simp
  ·rcases List.mem_append.1 hx with hx|hx;·have:=hc x hx;omega
   ·rw[List.mem_singleton.1 hx];simp only;omega
  ·simp
 ·obtain⟨j,H,rfl⟩:=List.mem_iff_getElem.1 hx;have a0B:=hc _ (EC H);have h3:=aEt r l p j H C EH w e A b;have z:=a'7 r l j (l[j].2+1) H w b;refine⟨l[j].2,j,_,_,s,h3,s,by exact_mod_cast z,a0B.2,AF ⟨a0B.1,List.mem_map.2 ⟨_,hx,C⟩,NW l j (l[j].2+1),?_,aPt _ _ _,λx hx=>?_⟩,⟨_,(a5W b).symm⟩,⟨_,rfl⟩⟩;·show(w.heap.setIfInBounds r _)[r]?=_;rw[H5,if_pos rfl,if_pos hlt];simp[NW]
  ·obtain⟨i,hi,rfl⟩:=List.mem_iff_getElem.1 hx;have Q:i<l.length:=by simpa[NW]using hi
   have:=hc _ (EC Q);simp only[NW,List.getElem_modify];split;·simp only;omega
   ·omega
theorem Found.heap{w w':A'}{r:Nat}{K:List Ax}{M:Nat}(h:Found w r K M)(e:w'.heap[r]?=w.heap[r]?):Found w' r K M:=by obtain⟨l,b,h2⟩:=h;exact⟨l,by rw[e];exact b,h2⟩
theorem Found.lt{K:List Ax}{M:Nat}(h:Found w r K M):r<w.heap.size:=by obtain⟨l,b,_⟩:=h;exact(Array.getElem?_eq_some_iff.1 b).1
structure R5(K l:List Ax)(M r:Nat)(w:A')(k:Nat)(v:A1)(wr:A'):Prop where
 own:wr.ownsRow w.heap.size 85 2 v (N.fresh K (l.take k)).length (F1 (N.fresh K (l.take k)))
 found:Found wr r (K++N.fresh K (l.take k)) (M+k)
 but:K4 r w.heap.size w wr
theorem ym(r:Nat)(K:List Ax)(M:Nat)(v:A1)(l:List Ax)(w:A')(AE:Found w r K M)(EH:K.Nodup)(Ku:∀m∈K,Fh m)(hv:HO w v l)(Kv:∀g c,v=As (Z ⟨g,0,J⟩) l.length c->g≠r)(A9:∀m∈l,Fh m)(H':M+l.length<=1000000000):AZ A4 124 #[E3 (Z r),v] w λe w'=>∃Dj,e=hq Dj/\R5 K l M r w l.length Dj w':=by
 obtain⟨i0,hi,E9,DL,Cc⟩:=IT lB;have pD:=A3 EH;have UO:=A3 Ku;have I7:=A3 A9;have El:=A3 AE;have Hl:=AE.lt;obtain⟨a,c,rfl,DS⟩:∃a c,v=As a l.length c/\AP (∀k(h:k<l.length),∃g,a=Z ⟨g,0,J⟩/\g≠r/\w.cell? ⟨g,k*2,J⟩=Z (AI l[k].1)/\w.cell? ⟨g,k*2+1,J⟩=Z (AI l[k].2)):=by
  rcases hv with⟨rfl,rfl⟩|⟨g,c,rfl,h⟩;·exact⟨J,0,rfl,A3 λk h=>by cases h⟩
  ·exact⟨_,c,rfl,A3 λk hk=>⟨g,rfl,Kv g c rfl,h k hk⟩⟩
 clear EH Ku A9 AE hv Kv;go_enter Tryz.func124,Tryz.ntmps124;go_wp2;go_loopw[5,10]λv i wr=>∃k:Nat,k<=l.length/\i=IS Po k/\AP (R5 K l M r w k v wr)(λ_ i _=>l.length-(Ay i).toNat);case atStart=>exact⟨0,by omega,rfl,A3 ⟨Vo _ _ _ _,by simpa[N.fresh]using El.out,K4.refl _ _ _⟩⟩
 case round=>
  obtain⟨k,hk,rfl,H⟩:=hrel;by_cases hlt:k<l.length
  ·obtain⟨g,rfl,KJ,Iz,Fx⟩:=DS.out k hlt;have Fl:g<w.heap.size:=Ff (h:=Iz);have F0:=H.out.but.block g Fl KJ;have c0:wr.cell? ⟨g,k*2,J⟩=Z (AI l[k].1):=(F4 (a:=⟨g,k*2,J⟩) F0).trans Iz;have c1:wr.cell? ⟨g,k*2+1,J⟩=Z (AI l[k].2):=(F4 (a:=⟨g,k*2+1,J⟩) F0).trans Fx;have G_:w.heap.size<=wr.heap.size:=H.out.but.size;have DU:=A3 (VF l k hlt);have sJ:Fh l[k]:=I7.out _ (EC hlt);generalize l[k]=m at c0 c1 DU sJ;obtain⟨p,q⟩:=m;simp only at c0 c1;have D2:=A3 sJ;have aVL:g<wr.heap.size:=by omega
   have rP:(K++N.fresh K (l.take k)).Nodup:=N.u2 pD.out;have rQ:∀m∈K++N.fresh K (l.take k),Fh m:=λm U=>by
    rcases List.mem_append.1 U with U|U;·exact UO.out m U
    ·exact I7.out m (List.mem_of_mem_take (N.ga.1 U).1)
   have Q:M+k<=1000000000:=by omega
   obtain⟨n,tN,Pd,d,NF,-,-,-,-,aH5,-,-⟩:=zp r _ (M+k) (p,q) (wr.alloc (BE #[AI p,AI q] 85)) (H.out.found.heap (E' _ _ _ H.out.found.lt)) rP rQ D2.out Q;have yH:=A3 λ(wx:A')(hx:wx.heap[r]?=wr.heap[r]?)=>zp r _ (M+k) (p,q) wx (H.out.found.heap hx) rP rQ D2.out Q;clear Iz Fx F0 sJ rP rQ tN;simp only[Gk]at NF;have aVI:(N.fresh K (l.take k)).length<=k:=HA N.aFk (by simp;omega);have Vw:=A3 (FX wr (BE #[AI p,AI q] 85) _ rfl);have bm:r<wr.heap.size:=by omega
   rcases aH5 with⟨rfl,D_,-⟩|⟨li,Da,-⟩
   ·have Oh:=A3 D_;clear D_ Pd d;go_wp2_with(at_builtin;refine L4 _ rfl _ _ 57 rfl w.heap.size 85 i0 (dd #[AI ⟨#[]⟩,AI ⟨#[]⟩]) 2 32 iY hi E9 DL Cc rfl (by decide) _ _ _ rfl ((H.out.own.alloc _).alloc _) ⟨wr.heap.size+1,0,J⟩ 1 1 [AI p,AI q] rfl rfl ?c1 ?c2 ?c3 ?c4 ?c5 ?_);case c1=>intro j u A;have J0:=FX (wr.alloc (BE #[AI p,AI q] 85)) (BE #[AI p,AI q] 85) (wr.heap.size+1) (by simp);match j,A with|0,A=>simp at A;subst A;rw[Gg,Ad J0];rfl|1,A=>simp at A;subst A;rw[Gg,Ad J0];rfl
    case c2=>intro u hu;simp at hu;rcases hu with rfl|rfl<;>rfl
    case c3=>unfold BK;omega
    case c4=>omega
    case c5=>simp;omega
    intro v' f DO C' _;obtain⟨P,S,rfl⟩:=NO DO;have I5:=H.out.own;have md:∀b,b<w.heap.size->Z b≠Sv u5:=λb hb e=>by have:=(I5.lt b e.symm).1;omega
    have o:f.heap[r]?=wr.heap[r]?:=by rw[C'.block r (by simp;omega) (md r (by omega)),E' _ _ _ (by simp;omega),E' _ _ _ (by omega)]
    have y:f.heap[wr.heap.size]?=Z (BE #[AI p,AI q] 85):=by rw[C'.block _ (by simp;omega) λe=>by have:=(I5.lt _ e.symm).2;omega,E' _ _ _ (by simp)];exact Vw.out
    have Iy:K4 r w.heap.size w f:=H.out.but.below (((B9 _ wr).alloc G_ _).alloc (by simp;omega) _|>.grown C' (by simp;omega) λk hk=>(I5.lt k hk).1);obtain⟨n,tN,C,w4,W,X,Rg,f4,-,Uz,⟨LQ,s⟩,⟨OO,x⟩⟩:=yH.out f.drew o;have z:N.fresh K (l.take (k+1))=N.fresh K (l.take k)++[(p,q)]:=by rw[DU.out];exact N.aFl Oh.out
    rcases Uz with⟨rfl,-,I⟩|⟨-,h,-⟩;case inr=>exact absurd h Oh.out
    have R:AP (R5 K l M r w (k+1) (As P ((N.fresh K (l.take k)).length+1) S) w4):=by
     refine A3 ⟨?_,?_,?_⟩
     ·rw[z,ll,HN];refine⟨DO.1,?_⟩;rcases DO.2 with h|⟨D,Gy,hw,h1,h2,h3,h4⟩;·exact AA h
      ·refine AF ⟨D,Gy,hw,h1,h2,?_,h4⟩;rw[x];show(f.heap.setIfInBounds r OO)[D]?=_;rw[H5,if_neg (by omega)];exact h3
     ·rw[z,<-YJ,<-pk];exact I
     ·rw[x];exact Iy.drew.set OO
    have BU:f.cell? ⟨wr.heap.size,0,J⟩=Z (AI p):=by rw[Ad y];rfl
    have d1:f.cell? ⟨wr.heap.size,1,J⟩=Z (AI q):=by rw[Ad y];rfl
    have t0:C.cell? ⟨wr.heap.size,0,J⟩=Z (AI p):=by rw[<-BU,s];exact F4 (show(f.heap.setIfInBounds r LQ)[wr.heap.size]?=f.heap[wr.heap.size]? by rw[H5,if_neg (by omega)])
    have t1:C.cell? ⟨wr.heap.size,1,J⟩=Z (AI q):=by rw[<-d1,s];exact F4 (show(f.heap.setIfInBounds r LQ)[wr.heap.size]?=f.heap[wr.heap.size]? by rw[H5,if_neg (by omega)])
    simp only[Gk]at W X Rg;simp only[Int.natCast_zero,Int.zero_add]at W X Rg f4;clear DO C' md o y Iy z I s x I5;have Ey:Po.wrap 1=1:=by decide
    go_wp2_with fail;go_region_with fail;all_goals
     go_wp2;first
     |exact⟨⟨k+1,by omega,by go_num,R⟩,by simp[Ay];omega⟩
     |
      (
       go_roundw;case rel=>exact⟨k+1,by omega,by go_num,R⟩
       case measure=>simp[Ay];omega)
   ·have yC:=A3 Da;clear Da Pd d;have J1:((n:Int)==0)=A5:=by simp;omega
    have o:(wr.alloc (BE #[AI p,AI q] 85)).heap[r]?=wr.heap[r]?:=E' _ _ _ bm;obtain⟨PU,tN,C,w4,W,X,Rg,f4,aVb,Uz,⟨LQ,s⟩,⟨OO,x⟩⟩:=yH.out (wr.alloc (BE #[AI p,AI q] 85)).drew o;have z:N.fresh K (l.take (k+1))=N.fresh K (l.take k):=by rw[DU.out];exact N.aFm yC.out
    rcases Uz with⟨-,h,-⟩|⟨-,-,I⟩;case inl=>exact absurd yC.out h
    obtain⟨P,S,rfl⟩:=NO H.out.own;have y:=Vw.out;have R:AP (R5 K l M r w (k+1) (As P (N.fresh K (l.take k)).length S) w4):=by
     have I5:=H.out.own;refine A3 ⟨?_,?_,?_⟩
     ·rw[z];refine⟨I5.1,?_⟩;rcases I5.2 with h|⟨D,Gy,hw,h1,h2,h3,h4⟩;·exact AA h
      ·refine AF ⟨D,Gy,hw,h1,h2,?_,h4⟩;rw[x];show((wr.alloc (BE #[AI p,AI q] 85)).heap.setIfInBounds r OO)[D]?=_;rw[H5,if_neg (by omega),E' _ _ _ (Array.getElem?_eq_some_iff.1 h3).1];exact h3
     ·rw[z,<-pk];exact I
     ·rw[x];exact(H.out.but.below ((B9 _ wr).alloc G_ _)).drew.set OO
    have t0:C.cell? ⟨wr.heap.size,0,J⟩=Z (AI p):=by
     have h2:C.heap[wr.heap.size]?=Z (BE #[AI p,AI q] 85):=by rw[s];show((wr.alloc (BE #[AI p,AI q] 85)).heap.setIfInBounds r LQ)[wr.heap.size]?=_;rw[H5,if_neg (by omega)];exact y
     rw[Ad h2];rfl
    have t1:C.cell? ⟨wr.heap.size,1,J⟩=Z (AI q):=by
     have h2:C.heap[wr.heap.size]?=Z (BE #[AI p,AI q] 85):=by rw[s];show((wr.alloc (BE #[AI p,AI q] 85)).heap.setIfInBounds r LQ)[wr.heap.size]?=_;rw[H5,if_neg (by omega)];exact y
     rw[Ad h2];rfl
    have Ey:Po.wrap ((PU:Int)+1)=(PU:Int)+1:=by have:=dM ((PU:Int)+1);omega
    simp only[Gk]at W X Rg;clear o z I s x y;go_wp2_with fail;go_region_with fail;all_goals
     go_wp2;first
     |exact⟨⟨k+1,by omega,by go_num,R⟩,by simp[Ay];omega⟩
     |
      (
       go_roundw;case rel=>exact⟨k+1,by omega,by go_num,R⟩
       case measure=>simp[Ay];omega)
  ·have GK:k=l.length:=by omega
   subst GK;obtain⟨P,S,rfl⟩:=NO H.out.own;go_wp2;go_ret;exact⟨_,rfl,H.out⟩
structure Cb where
 rel:Rel
 Al:Option Aa
 Aj:Nat
variable{L:List Cb}
abbrev Cb.B5(x:Cb):A1:=As x.Al x.rel.DT.length x.Aj
def HV(L:List Cb):List A1:=L.flatMap λx=>[AI x.rel.p,AI x.rel.v,AI x.rel.p,AI x.rel.v,AI x.rel.m,As x.rel.Bj x.rel.B4 x.rel.Bt,IS Po 0,x.B5]
theorem uY(x:Cb)(L:List Cb):HV (x::L)=[AI x.rel.p,AI x.rel.v,AI x.rel.p,AI x.rel.v,AI x.rel.m,As x.rel.Bj x.rel.B4 x.rel.Bt,IS Po 0,x.B5]++HV L:=rfl
theorem aPe(A B:List Cb):HV (A++B)=HV A++HV B:=by simp[HV]
theorem a4w(L:List Cb):(HV L).length=L.length*8:=by induction L with|nil=>rfl|cons x e b=>rw[uY,HN,b];simp;omega
structure N5(w:A')(g j:Nat)(x:Cb):Prop where
 c0:w.cell? ⟨g,j*8,J⟩=Z (AI x.rel.p)
 c1:w.cell? ⟨g,j*8+1,J⟩=Z (AI x.rel.v)
 c2:w.cell? ⟨g,j*8+2,J⟩=Z (AI x.rel.p)
 c3:w.cell? ⟨g,j*8+3,J⟩=Z (AI x.rel.v)
 c4:w.cell? ⟨g,j*8+4,J⟩=Z (AI x.rel.m)
 c5:w.cell? ⟨g,j*8+5,J⟩=Z (As x.rel.Bj x.rel.B4 x.rel.Bt)
 FO:w.cell? ⟨g,j*8+6,J⟩=Z (IS Po 0)
 F7:w.cell? ⟨g,j*8+7,J⟩=Z x.B5
theorem mY(L:List Cb):∀j(h:j<L.length)(o:Nat)(u:A1),o<8->[AI L[j].rel.p,AI L[j].rel.v,AI L[j].rel.p,AI L[j].rel.v,AI L[j].rel.m,As L[j].rel.Bj L[j].rel.B4 L[j].rel.Bt,IS Po 0,L[j].B5][o]?=Z u->(HV L)[j*8+o]?=Z u:=by induction L with|nil=>intro j b;simp at b|cons x s f=>intro j b o u e hu;rw[uY];match j with|0=>rw[jL (by simp;omega)];simpa using hu|j+1=>rw[T4 (by simp;omega)];have:=f j (by simp at b;omega) o u e hu;rw[<-this];congr 1;simp;omega
def T7(w:A')(g:Nat)(L:List Cb):Prop:=∀j(h:j<L.length),N5 w g j L[j]/\HO w L[j].B5 L[j].rel.DT
theorem N5.below{w':A'}{g j:Nat}{x:Cb}(h:N5 w g j x)(b:AS w.heap.size w w'):N5 w' g j x:=⟨Aw b h.c0,Aw b h.c1,Aw b h.c2,Aw b h.c3,Aw b h.c4,Aw b h.c5,Aw b h.FO,Aw b h.F7⟩
theorem T7.below{w w':A'}{g:Nat}{L:List Cb}(h:T7 w g L)(b:AS w.heap.size w w'):T7 w' g L:=λj e=>⟨(h j e).1.below b,(h j e).2.below b⟩
def Jh(w:A')(v:A1)(L:List Cb):Prop:=v=As J 0 0/\L=[]∨∃g c,v=As (Z ⟨g,0,J⟩) L.length c/\T7 w g L
theorem Jh.below{w w':A'}{v:A1}{L:List Cb}(h:Jh w v L)(e:AS w.heap.size w w'):Jh w' v L:=by
 rcases h with h|⟨g,c,b,h2⟩;·exact AA h
 ·exact AF ⟨g,c,b,h2.below e⟩
theorem aPg(h:w.ownsRow B 234 8 v L.length (HV L))(hn:∀x∈L,HO w x.B5 x.rel.DT):Jh w v L:=by
 rcases h.2 with⟨b,h2⟩|⟨f,c,p,b,_⟩;·exact AA ⟨b,List.length_eq_zero_iff.1 h2⟩
 ·refine AF ⟨f,c,b,λj e=>⟨?_,hn _ (EC e)⟩⟩;rw[b]at h;have k:=λo u m hu=>QV h _ _ (mY L j e o u m hu);exact⟨k 0 _ (by omega) rfl,k 1 _ (by omega) rfl,k 2 _ (by omega) rfl,k 3 _ (by omega) rfl,k 4 _ (by omega) rfl,k 5 _ (by omega) rfl,k 6 _ (by omega) rfl,k 7 _ (by omega) rfl⟩
theorem Jh.open(h:Jh w v L):∃a c,v=As a L.length c/\∀k(h:k<L.length),∃g,a=Z ⟨g,0,J⟩/\N5 w g k L[k]/\HO w L[k].B5 L[k].rel.DT:=by
 rcases h with⟨rfl,rfl⟩|⟨g,c,rfl,h⟩;·exact⟨J,0,rfl,λk h=>by cases h⟩
 ·exact⟨_,c,rfl,λk b=>⟨g,rfl,(h k b).1,(h k b).2⟩⟩
theorem aMH(A B:List Ax):F1 (A++B)=F1 A++F1 B:=by simp[F1]
theorem aMI(l:List Ax):∀u∈F1 l,u.oneCell'=A0:=by intro u hu;unfold F1 at hu;obtain⟨x,_,hx⟩:=List.mem_flatMap.1 hu;simp at hx;rcases hx with rfl|rfl<;>rfl
def Ei(L:List Cb):List Ax:=L.flatMap λx=>x.rel.DT
theorem a3U(L:List Cb)(k:Nat)(h:k<L.length):Ei (L.take (k+1))=Ei (L.take k)++L[k].rel.DT:=by unfold Ei;rw[VF L k h,jJ];simp
theorem aN0(v:A1)(L:List Cb)(w:A')(hv:Jh w v L)(BI:L.length<=1000000)(hn:∀k,(Ei (L.take k)).length<=1000000000):AZ A4 127 #[v] w λe w'=>∃B5,e=hq B5/\w'.ownsRow w.heap.size 85 2 B5 (Ei L).length (F1 (Ei L))/\AS w.heap.size w w':=by
 obtain⟨i0,hi,S,W,X⟩:=IT lB;have C:=A3 hn;obtain⟨a,c,rfl,d⟩:=hv.open;have DS:=A3 d;clear hv d hn;go_enter Tryz.func127,Tryz.ntmps127;go_wp2;go_loopw[3,8]λv i wr=>∃k:Nat,k<=L.length/\i=IS Po k/\AP (wr.ownsRow w.heap.size 85 2 v (Ei (L.take k)).length (F1 (Ei (L.take k)))/\AS w.heap.size w wr)(λ_ i _=>L.length-(Ay i).toNat);case atStart=>exact⟨0,by omega,rfl,A3 ⟨Vo _ _ _ _,B9 _ _⟩⟩
 case round=>
  obtain⟨k,hk,rfl,H⟩:=hrel;obtain⟨I,hb⟩:=H.out;have s:=A3 I;have f:=A3 hb;obtain⟨JC,G3,rfl⟩:=NO I;clear H I hb;by_cases hlt:k<L.length
  ·obtain⟨g,rfl,hc,o⟩:=DS.out k hlt;obtain⟨c0,c1,c2,c3,c4,c5,N,Q⟩:=hc.below f.out;have A:=A3 (o.below f.out);have y:=A3 (a3U L k hlt);have D:=C.out (k+1);rw[a3U L k hlt,HN]at D;have q:w.heap.size<=wr.heap.size:=f.out.size;have Fl:g<wr.heap.size:=Ff (h:=c0);clear hc o;generalize L[k]=x at c0 c1 c2 c3 c4 c5 N Q A y D;obtain⟨⟨p,v,m,U,B4,Bt,ip⟩,Al,Aj⟩:=x;simp only[Cb.B5]at c0 c1 c2 c3 c4 c5 N Q A y D;rcases A.out with⟨b,h2⟩|⟨K,lu,b,h2⟩
   ·subst h2;injection b with b _ h3;subst b h3;simp only[List.append_nil]at y;have R:AP ((wr.alloc (BE #[AI p,AI v,AI p,AI v,AI m,As U B4 Bt,IS Po 0,As J 0 0] 234)).ownsRow w.heap.size 85 2 (As JC (Ei (L.take k)).length G3) (Ei (L.take (k+1))).length (F1 (Ei (L.take (k+1))))/\AS w.heap.size w (wr.alloc (BE #[AI p,AI v,AI p,AI v,AI m,As U B4 Bt,IS Po 0,As J 0 0] 234))):=by refine A3 ⟨?_,f.out.alloc q _⟩;rw[y.out];exact s.out.alloc _
    go_wp2_with(at_builtin;refine a_J rfl _ _ 57 rfl w.heap.size 85 i0 2 iY hi _ _ _ rfl (s.out.alloc _) rfl ?_);first
    |exact⟨⟨k+1,by omega,by go_num,R⟩,by simp[Ay];omega⟩
    |
     (
      go_roundw;case rel=>exact⟨k+1,by omega,by go_num,R⟩
      case measure=>simp[Ay];omega)
   ·injection b with b _ h3;subst b h3;have Y4:=A3 h2;clear h2;go_wp2_with(at_builtin;refine L4 _ rfl _ _ 57 rfl w.heap.size 85 i0 (dd #[AI ⟨#[]⟩,AI ⟨#[]⟩]) 2 32 iY hi S W X rfl (by decide) _ _ _ rfl (s.out.alloc _) ⟨K,0,J⟩ ip.length Aj (F1 ip) rfl (a2y ip) ?c1 (aMI ip) ?c3 ?c4 ?c5 ?_);case c1=>
     intro j u z;(try rw[Gg]);(try rw[Oq]);refine BX ?_ _;have Wr:j<ip.length*2:=by rw[<-a2y];exact(List.getElem?_eq_some_iff.1 z).1
     have hm:=Y4.out (j/2) (by omega);have AB:=tj ip (j/2) (by omega);rcases Nat.mod_two_eq_zero_or_one j with h|h
     ·have e:j=j/2*2:=by omega
      rw[<-e]at hm AB;rw[AB.1]at z;rw[<-z];exact hm.1
     ·have e:j=j/2*2+1:=by omega
      rw[<-e]at hm AB;rw[AB.2]at z;rw[<-z];exact hm.2
    case c3=>unfold BK;omega
    case c4=>omega
    case c5=>first|omega|(simp;omega)
    intro v' M DO C' _;have P:AS w.heap.size w M:=(f.out.alloc q _).grown C' (by simp;omega) λk hk=>(s.out.lt k hk).1;have R:AP (M.ownsRow w.heap.size 85 2 v' (Ei (L.take (k+1))).length (F1 (Ei (L.take (k+1))))/\AS w.heap.size w M):=by refine A3 ⟨?_,P⟩;rw[y.out,aMH,HN];exact DO
    clear C' DO P;go_wp2;first
    |exact⟨⟨k+1,by omega,by go_num,R⟩,by simp[Ay];omega⟩
    |
     (
      go_roundw;case rel=>exact⟨k+1,by omega,by go_num,R⟩
      case measure=>simp[Ay];omega)
  ·have GK:k=L.length:=by omega
   subst GK;go_wp2;go_ret;rw[On]at s⊢;exact⟨_,rfl,s.out,f.out⟩
theorem aFB(v:A1)(L:List Cb)(w:A')(hv:Jh w v L)(M:L.length<=1000000):AZ A4 62 #[v] w λe w'=>e=hq aYA/\AS w.heap.size w w':=by
 obtain⟨a,c,rfl,y⟩:=hv.open;have z:=A3 y;clear hv y;go_enter Tryz.func62,Tryz.ntmps62;go_wp2;go_loopw[7]λi wr=>∃k:Nat,k<=L.length/\i=IS Po k/\AP (AS w.heap.size w wr)(λi _=>L.length-(Ay i).toNat);case atStart=>exact⟨0,by omega,rfl,A3 (B9 _ _)⟩
 case round=>
  obtain⟨k,Q,rfl,b⟩:=hrel;by_cases hlt:k<L.length
  ·obtain⟨g,rfl,hc,-⟩:=z.out k hlt;obtain⟨c0,c1,c2,c3,c4,c5,f,s⟩:=hc.below b.out;have H:w.heap.size<=wr.heap.size:=b.out.size;have N:g<wr.heap.size:=Ff (h:=c0);clear hc;generalize L[k]=x at c0 c1 c2 c3 c4 c5 f s;obtain⟨⟨p,v,m,A,D,C,ip⟩,I,K⟩:=x;simp only[Cb.B5]at c0 c1 c2 c3 c4 c5 f s;have R:AP (AS w.heap.size w (wr.alloc (BE #[AI p,AI v,AI p,AI v,AI m,As A D C,IS Po 0,As I ip.length K] 234))):=A3 (b.out.alloc H _);go_wp2;first
   |exact⟨⟨k+1,by omega,by go_num,R⟩,by simp[Ay];omega⟩
   |
    (
     go_roundw;case rel=>exact⟨k+1,by omega,by go_num,R⟩
     case measure=>simp[Ay];omega)
  ·go_wp2;go_ret;exact⟨rfl,b.out⟩
theorem lA:(A4.info? 234).map (λi=>(i.zero,i.size,i.bytes))=Z (Z (dd #[AI ⟨#[]⟩,AI ⟨#[]⟩,AI ⟨#[]⟩,AI ⟨#[]⟩,AI ⟨#[]⟩,As J 0 0,IS Po 0,As J 0 0]),8,136):=by kernel_rfl
theorem a4x(L:List Cb)(x:Cb):HV (L++[x])=HV L++[AI x.rel.p,AI x.rel.v,AI x.rel.p,AI x.rel.v,AI x.rel.m,As x.rel.Bj x.rel.B4 x.rel.Bt,IS Po 0,x.B5]:=by simp[HV]
theorem a43{base:Nat}{e:A_}{s n:Nat}{xs:List A1}{a b:Du}(h:w.ownsRow base e s v n xs):((w.alloc a).drew.alloc b).ownsRow base e s v n xs:=(show(w.alloc a).drew.ownsRow base e s v n xs from h.alloc a).alloc b
theorem aCp{W:A'}(h:AS B W w)(f:B<=w.heap.size)(a b:Du):AS B W ((w.alloc a).drew.alloc b):=by have e:=h.alloc f a;exact a9s (⟨e.os,e.tape,e.output,e.size,e.block⟩:AS B W (w.alloc a).drew) (by show B<=(w.alloc a).heap.size;simp;omega) b
theorem aCq{W:A'}(h:AS B W w)(f:B<=w.heap.size)(a b:Du)(n:Nat):AS B W (((w.alloc a).drewN n).alloc b):=by have e:=h.alloc f a;exact a9s (⟨e.os,e.tape,e.output,e.size,e.block⟩:AS B W ((w.alloc a).drewN n)) (by show B<=(w.alloc a).heap.size;simp;omega) b
def Td(L:List Cb)(k:Nat):Bool:=match L[k]?,L[k+1]? with|Z x,Z y=>Bn (x.rel.p.toList≠y.rel.p.toList)|_,_=>A0
def Ex(L:List Cb):Nat->List Cb|0=>[]|k+1=>match L[k]? with|Z x=>if Td L k then Ex L k++[x]else Ex L k|J=>Ex L k
theorem vC(L:List Cb):∀k,(Ex L k).length<=k
 |0=>by simp[Ex]
 |k+1=>by
  have:=vC L k;unfold Ex;split
  ·split;·simp;omega
   ·omega
  ·omega
theorem aS8(v:A1)(L:List Cb)(w:A')(hv:Jh w v L)(BI:L.length<=1000000):AZ A4 66 #[v] w λe w'=>∃LW,e=hq LW/\w'.ownsRow w.heap.size 234 8 LW (Ex L L.length).length (HV (Ex L L.length))/\AS w.heap.size w w':=by
 obtain⟨i0,hi,E9,DL,Cc⟩:=IT lA;obtain⟨a,c,rfl,f1⟩:=hv.open;have DS:=A3 f1;clear hv f1;go_enter Tryz.func66,Tryz.ntmps66;go_wp2;go_loopw[3,8]λv i wr=>∃k:Nat,k<=L.length/\i=IS Po k/\AP (wr.ownsRow w.heap.size 234 8 v (Ex L k).length (HV (Ex L k))/\AS w.heap.size w wr)(λ_ i _=>L.length-(Ay i).toNat);case atStart=>exact⟨0,by omega,rfl,A3 ⟨Vo _ _ _ _,B9 _ _⟩⟩
 case round=>
  obtain⟨k,hk,rfl,H⟩:=hrel;obtain⟨AQ,hb⟩:=H.out;have K:=A3 AQ;have D:=A3 hb;obtain⟨JC,G3,rfl⟩:=NO AQ;clear H AQ hb;by_cases hlt:k<L.length
  ·obtain⟨g,rfl,hc,-⟩:=DS.out k hlt;obtain⟨c0,c1,c2,c3,c4,c5,FO,F7⟩:=hc.below D.out;have q:w.heap.size<=wr.heap.size:=D.out.size;have Fl:g<wr.heap.size:=Ff (h:=c0);have JQ:=vC L k;clear hc;have Ey:Po.wrap ((k:Int)+1)=(k:Int)+1:=by have:=dM ((k:Int)+1);omega
   by_cases P:k+1<L.length
   ·obtain⟨g',d,Hb,-⟩:=DS.out (k+1) P;injection d with d;injection d with d;subst d;have S:=(Hb.below D.out).c0;have C:AP (Ex L (k+1)=if Bn (L[k].rel.p.toList≠L[k+1].rel.p.toList)then Ex L k++[L[k]]else Ex L k):=by refine A3 ?_;rw[Ex];simp[Td,Ld hlt,Ld P]
    generalize L[k+1]=y at S C;generalize L[k]=x at c0 c1 c2 c3 c4 c5 FO F7 C;obtain⟨⟨p,v,m,b,s,f,ip⟩,z,A⟩:=x;obtain⟨⟨N,_,_,_,_,_,_⟩,_,_⟩:=y;simp only[Cb.B5]at c0 c1 c2 c3 c4 c5 FO F7 S C;have md:((k:Int)+1==(L.length:Int))=A5:=by simp;omega
    have M_:(k:Int)+1<(L.length:Int):=by omega
    have aUv:(0:Int)<=(k:Int)+1:=by omega
    have OG:((k:Int)+1).toNat=k+1:=by omega
    have zu:wr.cell? ⟨g,(k+1)*8,J⟩=Z (AI N):=S;clear Hb;by_cases M:p.toList=N.toList
    ·rw[if_neg (by simpa using M)]at C;have X':(N.toList==p.toList)=A0:=by simp[M]
     have R:AP ((wr.alloc (BE #[AI p,AI v,AI p,AI v,AI m,As b s f,IS Po 0,As z ip.length A] 234)).drew.ownsRow w.heap.size 234 8 (As JC (Ex L k).length G3) (Ex L (k+1)).length (HV (Ex L (k+1)))/\AS w.heap.size w (wr.alloc (BE #[AI p,AI v,AI p,AI v,AI m,As b s f,IS Po 0,As z ip.length A] 234)).drew):=by have o:=D.out.alloc q (BE #[AI p,AI v,AI p,AI v,AI m,As b s f,IS Po 0,As z ip.length A] 234);refine A3 ⟨?_,⟨o.os,o.tape,o.output,o.size,o.block⟩⟩;rw[C.out];exact K.out.alloc _
     clear M;go_wp2_with fail;go_region_held2 λwx=>wx.cell? ⟨g,(k+1)*8,J⟩=Z (AI N)/\wx.cell? ⟨wr.heap.size,0,J⟩=Z (AI p)(go_keep)(fail);go_wp2;first
     |exact⟨⟨k+1,by omega,by go_num,R⟩,by simp[Ay];omega⟩
     |
      (
       go_roundw;case rel=>exact⟨k+1,by omega,by go_num,R⟩
       case measure=>simp[Ay];omega)
    ·rw[if_pos (by simpa using M)]at C;have X':(N.toList==p.toList)=A5:=by simp;exact λh=>M h.symm
     clear M;go_wp2_with fail;go_region_held2 λwx=>wx.cell? ⟨g,(k+1)*8,J⟩=Z (AI N)/\wx.cell? ⟨wr.heap.size,0,J⟩=Z (AI p)(go_keep)(fail);go_wp2_with(at_builtin;refine L4 _ rfl _ _ 130 rfl w.heap.size 234 i0 (dd #[AI ⟨#[]⟩,AI ⟨#[]⟩,AI ⟨#[]⟩,AI ⟨#[]⟩,AI ⟨#[]⟩,As J 0 0,IS Po 0,As J 0 0]) 8 136 oV hi E9 DL Cc rfl (by decide) _ _ _ rfl (a43 K.out) ⟨wr.heap.size+1,0,J⟩ 1 1 [AI p,AI v,AI p,AI v,AI m,As b s f,IS Po 0,As z ip.length A] rfl rfl ?c1 ?c2 ?c3 ?c4 ?c5 ?_);case c1=>intro j u W;have X:((wr.alloc (BE #[AI p,AI v,AI p,AI v,AI m,As b s f,IS Po 0,As z ip.length A] 234)).alloc (BE #[AI p,AI v,AI p,AI v,AI m,As b s f,IS Po 0,As z ip.length A] 234)).drew.heap[wr.heap.size+1]?=Z (BE #[AI p,AI v,AI p,AI v,AI m,As b s f,IS Po 0,As z ip.length A] 234):=FX (wr.alloc _) _ _ (by simp);(try rw[Gg]);(try rw[Oq]);refine(Ad X j).trans ?_;rw[<-W];simp
     case c2=>intro u hu;simp at hu;rcases hu with rfl|rfl|rfl|rfl|rfl|rfl|rfl|rfl<;>rfl
     case c3=>unfold BK;omega
     case c4=>omega
     case c5=>first|omega|(simp;omega)
     intro v' I DO C' _;have U:AS w.heap.size w I:=(aCp D.out q _ _).grown C' (by simp;omega) λk hk=>(K.out.lt k hk).1;have R:AP (I.ownsRow w.heap.size 234 8 v' (Ex L (k+1)).length (HV (Ex L (k+1)))/\AS w.heap.size w I):=by refine A3 ⟨?_,U⟩;rw[C.out,a4x,HN];exact DO
     clear C' DO U;go_wp2;first
     |exact⟨⟨k+1,by omega,by go_num,R⟩,by simp[Ay];omega⟩
     |
      (
       go_roundw;case rel=>exact⟨k+1,by omega,by go_num,R⟩
       case measure=>simp[Ay];omega)
   ·have C:AP (Ex L (k+1)=Ex L k++[L[k]]):=by refine A3 ?_;rw[Ex];simp[Td,Ld hlt,yR (Nat.le_of_not_lt P)]
    have Q:(L.length:Int)=(k:Int)+1:=by omega
    generalize L[k]=x at c0 c1 c2 c3 c4 c5 FO F7 C;obtain⟨⟨p,v,m,b,s,f,ip⟩,z,A⟩:=x;simp only[Cb.B5]at c0 c1 c2 c3 c4 c5 FO F7 C
    ·go_wp2_with fail;go_quiet(fail);have aV2:=A3 Q;clear Q;go_wp2_with(at_builtin;refine L4 _ rfl _ _ 130 rfl w.heap.size 234 i0 (dd #[AI ⟨#[]⟩,AI ⟨#[]⟩,AI ⟨#[]⟩,AI ⟨#[]⟩,AI ⟨#[]⟩,As J 0 0,IS Po 0,As J 0 0]) 8 136 oV hi E9 DL Cc rfl (by decide) _ _ _ rfl (a43 K.out) ⟨wr.heap.size+1,0,J⟩ 1 1 [AI p,AI v,AI p,AI v,AI m,As b s f,IS Po 0,As z ip.length A] rfl rfl ?c1 ?c2 ?c3 ?c4 ?c5 ?_);case c1=>intro j u W;have X:((wr.alloc (BE #[AI p,AI v,AI p,AI v,AI m,As b s f,IS Po 0,As z ip.length A] 234)).alloc (BE #[AI p,AI v,AI p,AI v,AI m,As b s f,IS Po 0,As z ip.length A] 234)).drew.heap[wr.heap.size+1]?=Z (BE #[AI p,AI v,AI p,AI v,AI m,As b s f,IS Po 0,As z ip.length A] 234):=FX (wr.alloc _) _ _ (by simp);(try rw[Gg]);(try rw[Oq]);refine(Ad X j).trans ?_;rw[<-W];simp
     case c2=>intro u hu;simp at hu;rcases hu with rfl|rfl|rfl|rfl|rfl|rfl|rfl|rfl<;>rfl
     case c3=>unfold BK;omega
     case c4=>omega
     case c5=>first|omega|(simp;omega)
     intro v' I DO C' _;have U:AS w.heap.size w I:=(aCq D.out q _ _ nq).grown C' (by simp;omega) λk hk=>(K.out.lt k hk).1;have R:AP (I.ownsRow w.heap.size 234 8 v' (Ex L (k+1)).length (HV (Ex L (k+1)))/\AS w.heap.size w I):=by refine A3 ⟨?_,U⟩;rw[C.out,a4x,HN];exact DO
     clear C' DO U;go_wp2;first
     |exact⟨⟨k+1,by omega,by go_num,R⟩,by simp[Ay];omega⟩
     |
      (
       go_roundw;case rel=>exact⟨k+1,by omega,by go_num,R⟩
       case measure=>simp[Ay];omega)
  ·have GK:k=L.length:=by omega
   subst GK;go_wp2;go_ret;exact⟨_,rfl,K.out,D.out⟩
def GM(a b:Ax):Int:=if Hg a.1.data.toList b.1.data.toList≠0 then Hg a.1.data.toList b.1.data.toList else V.order a.2.data.toList b.2.data.toList
theorem qJ(a b:Ax)(m:Int)(w:A')(h:a.2.size<=40)(s:b.2.size<=40)(C:w.cell? ⟨0,0,J⟩=Z (IS Po m)):AZ A4 203 #[dd #[AI a.1,AI a.2],dd #[AI b.1,AI b.2]] w λe w'=>e=hq (IS Po (GM a b))/\AS w.heap.size w w'/\w.drawn<=w'.drawn:=by
 obtain⟨p,u⟩:=a;obtain⟨q,v⟩:=b;simp only at h s;go_enter Tryz.func203,Tryz.ntmps203;go_wp2_with fail;refine(Tryz.strings_Compare p q _).mono ?_;rintro e I⟨rfl,rfl⟩;have f:AP (GM (p,u) (q,v)=if Hg p.data.toList q.data.toList≠0 then Hg p.data.toList q.data.toList else V.order u.data.toList v.data.toList):=A3 rfl;generalize Hg p.data.toList q.data.toList=c at f⊢;by_cases hc:c=0;·subst hc;rw[if_neg (by simp)]at f;go_wp2_with fail;refine(a6F u v m _ h s (BX (BX C _) _)).mono ?_;rintro e D⟨rfl,x,y⟩;have z:=A3 ((Md w _ _).trans (x.mono (Md w _ _).size));have A:AP (w.drawn<=D.drawn):=A3 y;clear x y;go_wp2;go_ret;exact⟨by show hq (IS Po _)=_;rw[f.out],z.out,A.out⟩
 ·rw[if_pos hc]at f;have H:(c !=0)=A0:=by simpa using hc
  go_wp2;go_ret;exact⟨by show hq (IS Po _)=_;rw[f.out],Md _ _ _,AX _⟩
theorem aE'(x y:Cb)(m:Int)(w:A')(z:x.rel.v.size<=40)(A:y.rel.v.size<=40)(C:w.cell? ⟨0,0,J⟩=Z (IS Po m)):AZ A4 129 #[XK x.rel x.B5,XK y.rel y.B5] w λe w'=>e=hq (IS Po (GM x.rel.name y.rel.name))/\AS w.heap.size w w'/\w.drawn<=w'.drawn:=by obtain⟨⟨p,v,c,K,U,N,ip⟩,Al,Aj⟩:=x;obtain⟨⟨D,H,d,M,i,Q,j⟩,o,q⟩:=y;simp only[XK,Cb.B5,Rel.name]at*;go_enter Tryz.func129,Tryz.ntmps129;go_wp2_with fail;refine(qJ (p,v) (D,H) m _ z A (BX (BX C _) _)).mono ?_;rintro e I⟨rfl,b,f⟩;have h:=A3 ((Md w _ _).trans (b.mono (Md w _ _).size));have s:AP (w.drawn<=I.drawn):=A3 f;clear b f;go_wp2;go_ret;exact⟨rfl,h.out,s.out⟩
theorem aE3(p v:ByteArray)(w:A')(hp:p.size<=1000000)(hv:v.size<=1000000):AZ A4 136 #[dd #[AI p,AI v]] w λe w'=>e=hq (dd #[AI p,AI v])/\AS w.heap.size w w':=by
 have y:p.size<=281474976710656:=by omega
 have z:v.size<=281474976710656:=by omega
 clear hp hv;go_enter Tryz.func136,Tryz.ntmps136;go_wp2_with fail;have h:=A3 (Md w (BE #[AI p,AI v] 85) (BE #[AI ⟨#[]⟩,AI ⟨#[]⟩] 85));have m:=A3 (FX (w.alloc (BE #[AI p,AI v] 85)) (BE #[AI ⟨#[]⟩,AI ⟨#[]⟩] 85) (w.heap.size+1) (by simp));have H:AP (((w.alloc (BE #[AI p,AI v] 85)).alloc (BE #[AI ⟨#[]⟩,AI ⟨#[]⟩] 85)).heap[w.heap.size]?=Z (BE #[AI p,AI v] 85)):=A3 (by rw[E' _ _ _ (by simp)];exact FX _ _ _ rfl);generalize(w.alloc (BE #[AI p,AI v] 85)).alloc (BE #[AI ⟨#[]⟩,AI ⟨#[]⟩] 85)=W at h H m⊢;have f:AP (∀wx,AS W.heap.size W wx->wx.cell? ⟨w.heap.size,0,J⟩=Z (AI p)/\wx.cell? ⟨w.heap.size,1,J⟩=Z (AI v)/\wx.cell? ⟨w.heap.size+1,0,J⟩=Z (AI ⟨#[]⟩)/\wx.cell? ⟨w.heap.size+1,1,J⟩=Z (AI ⟨#[]⟩)/\wx.frozen? ⟨w.heap.size+1,0,J⟩=A5/\wx.frozen? ⟨w.heap.size+1,1,J⟩=A5):=by refine A3 λwx K=>?_;have I:=IF K H.out;have b:=IF K m.out;exact⟨by rw[Ad I];rfl,by rw[Ad I];rfl,by rw[Ad b];rfl,by rw[Ad b];rfl,Dv b 0,Dv b 1⟩
 have U:AS W.heap.size W W.drew:=⟨rfl,rfl,rfl,AX _,λ_ _=>rfl⟩;obtain⟨a0,a1,-,-,-,-⟩:=f.out W (B9 _ _);have d:w.heap.size≠w.heap.size+1:=by omega
 go_region_held2 λwx=>wx.cell? ⟨w.heap.size,0,J⟩=Z (AI p)/\wx.cell? ⟨w.heap.size,1,J⟩=Z (AI v)(go_keep)(first|(go_at_call_of 86(AI p);refine(jf p _ y).mono ?_;rintro e wa⟨rfl,M⟩;have s:=U.trans M;(obtain⟨i,e1,-,-,-,-⟩:=f.out wa s);have A:=A3 s;clear s M)|(go_at_call_of 86(AI v);refine(jf v _ z).mono ?_;rintro e Q⟨rfl,N⟩;have x:=A.out.trans (N.mono A.out.size);(obtain⟨j,g1,o,g3,g4,q⟩:=f.out Q x);have C:=A3 x;clear x N));all_goals go_wp2_with fail;have D:=EV _ (w.heap.size+1) 1 _ _ (AI v) (EV Q (w.heap.size+1) 0 _ _ (AI p) (IF C.out m.out));refine L3 (Y0 rfl _ _ (w.heap.size+1) 85 #[AI p,AI v] (0,0) _ rfl D Xv rfl (by kernel_rfl)) rfl ?_;have c:=h.out.trans (C.out.mono h.out.size);exact⟨rfl,(c.setCell (p:=⟨w.heap.size+1,0,J⟩) (by show _<=w.heap.size+1;omega) _).setCell (p:=⟨w.heap.size+1,1,J⟩) (by show _<=w.heap.size+1;omega) _⟩
def names(L:List Cb):List Ax:=L.map λx=>x.rel.name
theorem aMt(L:List Cb)(k:Nat)(h:k<L.length):names (L.take (k+1))=names (L.take k)++[L[k].rel.name]:=by unfold names;rw[VF L k h,YK];rfl
theorem aKl(v:A1)(L:List Cb)(w:A')(hv:Jh w v L)(BI:L.length<=1000000)(hs:∀x∈L,x.rel.p.size<=1000000/\x.rel.v.size<=1000000):AZ A4 65 #[v] w λe w'=>∃d,e=hq d/\w'.ownsRow w.heap.size 85 2 d L.length (F1 (names L))/\AS w.heap.size w w':=by
 obtain⟨i0,hi,o,q,S⟩:=IT lB;obtain⟨a,c,rfl,W⟩:=hv.open;have DS:=A3 W;have T':=A3 hs;obtain⟨w1,Wx,I5,X⟩:=oo (P:=A4) w w.heap.size 57 85 i0 (dd #[AI ⟨#[]⟩,AI ⟨#[]⟩]) 2 iY hi o q Po Po L.length (by rw[S];omega) (by unfold BK;omega) (AX _);have Ns:=A3 I5;have Br:AP (AS w.heap.size w w1):=A3 ((B9 _ w).grown X (AX _) λk s=>by cases s);clear hv W hs I5 X;go_enter Tryz.func65,Tryz.ntmps65;go_wp2;go_loopw[3,11]λv i wr=>∃k:Nat,k<=L.length/\i=IS Po k/\AP (wr.ownsRow w.heap.size 85 2 v k (F1 (names (L.take k)))/\AS w.heap.size w wr)(λ_ i _=>L.length-(Ay i).toNat);case atStart=>exact⟨0,by omega,rfl,A3 ⟨Ns.out,Br.out⟩⟩
 case round=>
  obtain⟨k,s,rfl,H⟩:=hrel;obtain⟨D,hb⟩:=H.out;have y:=A3 D;have f:=A3 hb;obtain⟨JC,G3,rfl⟩:=NO D;clear H D hb;by_cases hlt:k<L.length
  ·obtain⟨g,rfl,hc,-⟩:=DS.out k hlt;obtain⟨c0,c1,c2,c3,c4,c5,FO,F7⟩:=hc.below f.out;have G_:w.heap.size<=wr.heap.size:=f.out.size;have Fl:g<wr.heap.size:=Ff (h:=c0);obtain⟨I,K⟩:=T'.out L[k] (EC hlt);have z:=A3 (aMt L k hlt);clear hc;generalize L[k]=x at c0 c1 c2 c3 c4 c5 FO F7 z I K;obtain⟨⟨p,v,m,Bj,B4,Bt,ip⟩,Al,Aj⟩:=x;simp only[Cb.B5,Rel.name]at c0 c1 c2 c3 c4 c5 FO F7 z I K;go_wp2_with fail;refine(aE3 p v _ I K).mono ?_;rintro e N⟨rfl,A⟩;have C:=(f.out.alloc G_ (BE #[AI p,AI v,AI p,AI v,AI m,As Bj B4 Bt,IS Po 0,As Al ip.length Aj] 234)).trans (A.mono (by simp;omega));have Er:=A3 C;have M:w.heap.size<=N.heap.size:=C.size;have U:=A3 (lV (y.out.alloc (BE #[AI p,AI v,AI p,AI v,AI m,As Bj B4 Bt,IS Po 0,As Al ip.length Aj] 234)) A);clear A C;go_wp2_with(at_builtin;refine L4 _ rfl _ _ 57 rfl w.heap.size 85 i0 (dd #[AI ⟨#[]⟩,AI ⟨#[]⟩]) 2 32 iY hi o q S rfl (by decide) _ _ _ rfl (U.out.alloc _) ⟨N.heap.size,0,J⟩ 1 1 [AI p,AI v] rfl rfl ?c1 ?c2 ?c3 ?c4 ?c5 ?_);case c1=>intro j u b;have J0:=FX N (BE #[AI p,AI v] 85) _ rfl;match j,b with|0,b=>simp at b;subst b;rw[Gg,Ad J0];rfl|1,b=>simp at b;subst b;rw[Gg,Ad J0];rfl
   case c2=>intro u hu;simp at hu;rcases hu with rfl|rfl<;>rfl
   case c3=>unfold BK;omega
   case c4=>omega
   case c5=>first|omega|(simp;omega)
   intro v' Q DO C' _;have EZ:AS w.heap.size w Q:=(Er.out.alloc M _).grown C' (by simp;omega) λk s=>(U.out.lt k s).1;have R:AP (Q.ownsRow w.heap.size 85 2 v' (k+1) (F1 (names (L.take (k+1))))/\AS w.heap.size w Q):=by refine A3 ⟨?_,EZ⟩;rw[z.out,ll];exact DO
   clear C' DO EZ;go_wp2;first
   |exact⟨⟨k+1,by omega,by go_num,R⟩,by simp[Ay];omega⟩
   |
    (
     go_roundw;case rel=>exact⟨k+1,by omega,by go_num,R⟩
     case measure=>simp[Ay];omega)
  ·have GK:k=L.length:=by omega
   subst GK;go_wp2;go_ret;rw[On]at y;exact⟨_,rfl,y.out,f.out⟩
end
variable{x:Nat×Nat}{F:Nat×Nat->List (Nat×Nat)}
def KC(S:List (Nat×Nat))(p:Nat):Int:=S.foldl (λm x=>if x.1=p/\m<(x.2:Int)then(x.2:Int)else m) (-1)
theorem q8(S:List (Nat×Nat))(x:Nat×Nat)(p:Nat):KC (S++[x]) p=if x.1=p/\KC S p<(x.2:Int)then(x.2:Int)else KC S p:=by unfold KC;rw[List.foldl_append];rfl
theorem a5b{d8:Type}{P:List d8->Prop}(none:P [])(more:∀l x,P l->P (l++[x])):∀l,P l:=λl=>by rw[<-List.reverse_reverse l];induction l.reverse with|nil=>exact none|cons x r e=>rw[List.reverse_cons];exact more _ _ e
theorem aCv(p:Nat):∀(S:List (Nat×Nat)),(∀x∈S,x.1≠p)/\KC S p=-1∨∃x∈S,x.1=p/\KC S p=(x.2:Int)/\∀y∈S,y.1=p->y.2<=x.2:=by
 intro S;induction S using a5b with
 |none=>exact AA ⟨λx hx=>(by cases hx),rfl⟩
 |more S z f=>
  rw[q8];rcases f with⟨e,h2⟩|⟨x,hx,e,h2,h3⟩
  ·by_cases AR:z.1=p
   ·right;rw[if_pos ⟨AR,by rw[h2];omega⟩];refine⟨z,by simp,AR,rfl,λy hy b=>?_⟩;rcases List.mem_append.1 hy with hy|hy;·exact absurd b (e y hy)
    ·rw[List.mem_singleton.1 hy];exact AX _
   ·left;rw[if_neg λh=>AR h.1];refine⟨λy hy=>?_,h2⟩;rcases List.mem_append.1 hy with hy|hy;·exact e y hy
    ·rw[List.mem_singleton.1 hy];exact AR
  ·right;by_cases AR:z.1=p/\KC S p<(z.2:Int)
   ·rw[if_pos AR];refine⟨z,by simp,AR.1,rfl,λy hy b=>?_⟩;rcases List.mem_append.1 hy with hy|hy;·have:=h3 y hy b;have h4:=AR.2;rw[h2]at h4;omega
    ·rw[List.mem_singleton.1 hy];exact AX _
   ·rw[if_neg AR];refine⟨x,List.mem_append.2 (AA hx),e,h2,λy hy b=>?_⟩;rcases List.mem_append.1 hy with hy|hy;·exact h3 y hy b
    ·rw[List.mem_singleton.1 hy]at b⊢;have h4:¬KC S p<(z.2:Int):=λh=>AR ⟨b,h⟩;rw[h2]at h4;omega
theorem aNe{X S:List (Nat×Nat)}(m:X.Pairwise N.Lex)(f:∀x,x∈X↔x∈S):M7 (N.IG N.MA X)=KC S:=by
 funext p;rcases aCv p S with⟨b,h2⟩|⟨x,hx,b,h2,h3⟩;·rw[h2,a42 λy hy=>b y ((f y).1 (N.lX m|>.1 hy).1)]
 ·rw[h2];have s:x∈N.IG N.MA X:=(N.lX m).2 ⟨(f x).2 hx,λy hy e=>h3 y ((f y).1 hy) (e.trans b)⟩;unfold M7;cases h:(N.IG N.MA X).find? λy=>y.1==p with
  |none=>have:=List.find?_eq_none.1 h x s;simp[b]at this
  |some y=>
   have hy:=List.mem_of_find?_eq_some h;have A:y.1=p:=by simpa using List.find?_some h
   obtain⟨z,C⟩:=(N.lX m).1 hy;have h4:=C x ((f x).2 hx) (b.trans A.symm);have D:=h3 y ((f y).1 z) A;simp only;omega
structure Nq(F:Nat×Nat->List (Nat×Nat))(d9:List (Nat×Nat))(S l:List (Nat×Nat)):Prop where
 nodup:S.Nodup
 seen:∀x∈S,N.Reach F d9 x
 todo:∀x∈l,N.Reach F d9 x
 root:∀x∈d9,x∈S∨x∈l
 closed:∀x∈S,∀y∈F x,y∈S∨y∈l
theorem Nq.start(F:Nat×Nat->List (Nat×Nat))(c:List (Nat×Nat)):Nq F c [] c:=⟨aBg,λx hx=>(by cases hx),λx hx=>.root hx,λx hx=>AF hx,λx hx=>by cases hx⟩
theorem Nq.skip{c S l:List (Nat×Nat)}(h:Nq F c S (l++[x]))(hx:x∈S):Nq F c S l:=by
 have b:∀y,y∈S∨y∈l++[x]->y∈S∨y∈l:=λy hy=>by
  rcases hy with hy|hy;·exact AA hy
  ·rcases List.mem_append.1 hy with hy|hy;·exact AF hy
   ·rw[List.mem_singleton.1 hy];exact AA hx
 exact⟨h.nodup,h.seen,λy hy=>h.todo y (List.mem_append.2 (AA hy)),λy hy=>b y (h.root y hy),λy hy z e=>b z (h.closed y hy z e)⟩
theorem Nq.more{c S l:List (Nat×Nat)}(h:Nq F c S (l++[x]))(hx:x∉S):Nq F c (S++[x]) (l++F x):=by
 have p:N.Reach F c x:=h.todo x (by simp);have m:∀y,y∈S∨y∈l++[x]->y∈S++[x]∨y∈l++F x:=λy hy=>by
  rcases hy with hy|hy;·exact AA (List.mem_append.2 (AA hy))
  ·rcases List.mem_append.1 hy with hy|hy;·exact AF (List.mem_append.2 (AA hy))
   ·exact AA (List.mem_append.2 (AF hy))
 refine⟨?_,λy hy=>?_,λy hy=>?_,λy hy=>m y (h.root y hy),λy hy z f=>?_⟩;·rw[aBe];exact⟨h.nodup,by simp,λa s b A e=>by rw[List.mem_singleton.1 A]at e;exact hx (e▸s)⟩
 ·rcases List.mem_append.1 hy with hy|hy;·exact h.seen y hy
  ·rw[List.mem_singleton.1 hy];exact p
 ·rcases List.mem_append.1 hy with hy|hy;·exact h.todo y (List.mem_append.2 (AA hy))
  ·exact .step p hy
 ·rcases List.mem_append.1 hy with hy|hy;·exact m z (h.closed y hy z f)
  ·rw[List.mem_singleton.1 hy]at f;exact AF (List.mem_append.2 (AF f))
theorem Nq.done{c S:List (Nat×Nat)}(h:Nq F c S []):∀x,x∈S↔N.Reach F c x:=λx=>by refine⟨h.seen x,λb=>?_⟩;induction b with|root hx=>exact(h.root _ hx).resolve_right λh=>by cases h|step _ hy e=>exact(h.closed _ e _ hy).resolve_right λh=>by cases h
section
open Go.RowKit Go.Sort
variable{w:A'}
abbrev aq:Type:={x:Cb//x.rel.v.size<=40}
instance:Inhabited aq:=⟨⟨⟨⟨⟨#[]⟩,⟨#[]⟩,⟨#[]⟩,J,0,0,[]⟩,J,0⟩,by show(0:Nat)<=40;omega⟩⟩
def encR(x:aq):List A1:=[AI x.1.rel.p,AI x.1.rel.v,AI x.1.rel.p,AI x.1.rel.v,AI x.1.rel.m,As x.1.rel.Bj x.1.rel.B4 x.1.rel.Bt,IS Po 0,x.1.B5]
def jc(x y:aq):Int:=GM x.1.rel.name y.1.rel.name
theorem c8:V.Hx GM:=by
 have f:V.Hx λa b:Ax=>Hg a.1.data.toList b.1.data.toList:=V.ji.1.back λa:Ax=>a.1.data.toList;have h2:V.Hx λa b:Ax=>V.order a.2.data.toList b.2.data.toList:=⟨λa b=>V.a3z _ _,λa b=>V.a4' _ _,λa b c=>V.a3y _ _ _⟩;have e:GM=V.JV (λa b:Ax=>Hg a.1.data.toList b.1.data.toList) λa b:Ax=>V.order a.2.data.toList b.2.data.toList:=by
  funext a b;unfold GM V.JV;by_cases h:Hg a.1.data.toList b.1.data.toList=0;·simp[h]
  ·simp[h]
 rw[e];exact f.then h2
theorem a5w{d8:Type}{f:d8->d8->Int}(h:V.Hx f):SWO (da f)where
 irrefl x:=by unfold da;rw[h.refl];rfl
 trans x y z h1 h2:=by
  unfold da at*;rw[decide_eq_true_eq]at*;have t:=h.2.2 x y z (by omega) (by omega);have b:=h.2.1 x z;by_cases m:f x z=0;·have s:=h.2.2 z x y (by omega) (by omega);have e:=h.2.1 y z;omega
  ·omega
 ntrans x y z h1 h2:=by unfold da at*;rw[decide_eq_false_iff_not]at*;have b:=h.2.1 x y;have e:=h.2.1 y z;have p:=h.2.1 x z;have t:=h.2.2 z y x (by omega) (by omega);omega
theorem aRu:SWO (da jc):=a5w (c8.back λx:aq=>x.1.rel.name)
theorem a'd{w':A'}(h:Below w.heap.size w w')(b:w.drawn<=w'.drawn):∃q os,w'=grow (w.drewN q) os:=by
 obtain⟨p,e⟩:=regrown_of_below h;have f:w.drawn<=p.d:=by rw[e]at b;exact b
 refine⟨p.d-w.drawn,p.os,?_⟩;rw[e];unfold aZr World.drewN;rw[show w.drawn+(p.d-w.drawn)=p.d by omega]
theorem a5f{blk m b:Nat}{c:Array aq}{os:Array Du}(e:b≠blk)(f:b<w.heap.size):(Pv encR 8 w blk 0 m c os).heap[b]?=w.heap[b]?:=by unfold Pv;show(_++os)[b]?=_;rw[vU (by rw[db];exact f)];simp[putRowK,putRow,mapBlock,a_A,hV,JK e]
theorem aDr(b size:Nat)(m:Int)(w:A')(z:b≠0)(f:w.cell? ⟨0,0,J⟩=Z (IS Po m)):CmpLays A4 129 #[] encR 8 jc b 0 size w:=by intro k H p _ x y;have s:0<w.heap.size:=Ff (h:=f);have D:(Pv encR 8 w b 0 k p H).cell? ⟨0,0,J⟩=Z (IS Po m):=(F4 (a:=⟨0,0,J⟩) (a5f (JK z) s)).trans f;refine(aE' x.1 y.1 m _ x.2 y.2 D).mono ?_;rintro e w'⟨rfl,A,C⟩;exact⟨rfl,a'd A C⟩
theorem aEk:∀b w,(Pw 129 b).run A4 w=aY6 (aYl 129 b) w:=by intro b w;exact aZh Tryz.func129 (by kernel_rfl) rfl b w
theorem aCL:∀w,(aZT (Tryz.ux.t 24)).run A4 w=aY6 A0 w:=by intro w;kernel_rfl
theorem mg:∀w,(UK (Tryz.ux.t 24)).run A4 w=aY6 8 w:=by intro w;kernel_rfl
def Qs(L:List Cb)(hv:∀x∈L,x.rel.v.size<=40):List aq:=L.pmap (λx h=>⟨x,h⟩) hv
theorem aPh(L:List Cb)(hv:∀x∈L,x.rel.v.size<=40):(Qs L hv).map (·.1)=L:=by unfold Qs;rw[aB_];simp
def T8(L:List Cb):Prop:=L.Pairwise λa b=>GM a.rel.name b.rel.name<=0
theorem a5h(g cap:Nat)(m:Int)(L:List Cb)(w:A')(A9:L.length<=1000000)(hv:∀x∈L,x.rel.v.size<=40)(d:g≠0)(I:g<w.heap.size)(A2:∀j(h:j<L.length),N5 w g j L[j])(U:∀o,w.frozen? ⟨g,o,J⟩=A5)(hm:w.cell? ⟨0,0,J⟩=Z (IS Po m)):AZ A4 128 #[As (Z ⟨g,0,J⟩) L.length cap,aYK (aYI 129) #[] #[]] w λe w'=>e=hq (aY8 #[])/\∃R,R.Perm L/\T8 R/\(∀j(h:j<R.length),N5 w' g j R[j])/\w.heap.size<=w'.heap.size/\∀b,b<w.heap.size->b≠g->w'.heap[b]?=w.heap[b]?:=by
 have A:(Qs L hv).toArray.size=L.length:=by simp[Qs]
 have H:aZO encR 8 w g 0 (Qs L hv).toArray:=by
  intro t M;rw[a_E,A]at M;refine⟨?_,U _⟩;have s:t/8<L.length:=by omega
  have hc:=A2 (t/8) s;have he:(Qs L hv).toArray[t/8]!.1=L[t/8]:=by rw[getElem!_pos _ _ (by rw[A];exact s)];simp[Qs]
  rw[id,get_flatK _ _ _ _ (by rw[A];exact M)];have N:0+t=t/8*8+t%8:=by omega
  rw[N];have hlt:t%8<8:=yW _ (by omega);generalize((Qs L hv).toArray[t/8]!)=y at he;unfold encR;rw[he];generalize L[t/8]=z at hc;generalize t/8=q at hc⊢;generalize t%8=o at hlt⊢;match o,hlt with|0,_=>exact hc.c0|1,_=>exact hc.c1|2,_=>exact hc.c2|3,_=>exact hc.c3|4,_=>exact hc.c4|5,_=>exact hc.c5|6,_=>exact hc.FO|7,_=>exact hc.F7
 have h:=a_5 Tryz.a5g 8 aCL mg encR (λx=>rfl) λx v hx=>by simp[encR]at hx;rcases hx with rfl|rfl|rfl|rfl|rfl|rfl|rfl|rfl<;>rfl jc aRu 129 #[] g 0 cap (Qs L hv).toArray w aEk (aDr g _ m w d hm) H I (by rw[A];omega);rw[A]at h;refine h.mono ?_;rintro e w'⟨rfl,f,n,D,hp,hs,rfl⟩;have C:f.size=L.length:=by rw[hp.1,A]
 have u:f.toList.Perm (Qs L hv):=by have h3:=hp.2.2;rw[<-C,nE]at h3;rw[show(Qs L hv).toArray.extract 0 f.size=(Qs L hv).toArray from by rw[hp.1];exact nE]at h3;simpa using h3
 refine⟨rfl,f.toList.map (·.1),?_,?_,?_,?_,?_⟩;·have:=u.map (·.1);rwa[aPh]at this
 ·unfold T8;rw[YM,aBh];intro i j hi s P;have:=hs i j (JJ _) P (by rw[<-C];simpa using s);unfold da jc at this;rw[decide_eq_false_iff_not]at this;rw[getElem!_pos f i (by simpa using hi),getElem!_pos f j (by simpa using s)]at this;have t:=c8.2.1 (f[i]'(by simpa using hi)).1.rel.name (f[j]'(by simpa using s)).1.rel.name;simp only[nH];omega
 ·intro j s;have K:j<f.size:=by simpa using s
  have D':aZO encR 8 (Pv encR 8 w g 0 n f D) g 0 f:=by unfold Pv;exact a_C _ _ _ _ _ _ _ (by rw[db];exact I) (a_D _ _ _ _ _ _ _ (a_B _ _ _ _ _ _ _ H) (by rw[C,A]))
  have p:=λc(hc:c<8)=>(D'.cell K hc).1;have he:f[j]! =f[j]:=getElem!_pos f j K;rw[he]at p;simp only[Oq]at p;simp only[pZ,nH];exact⟨p 0 (by omega),p 1 (by omega),p 2 (by omega),p 3 (by omega),p 4 (by omega),p 5 (by omega),p 6 (by omega),p 7 (by omega)⟩
 ·unfold Pv;show _<=(_++D).size;rw[hY,db];show w.heap.size<=w.heap.size+D.size;omega
 ·intro b Q S;exact a5f S Q
end
section
open Go.RowKit Go.Sort Go.Shelf
variable{w:A'}{os:Array Du}{k:Nat}
section
variable{d8:Type}[Inhabited d8]
omit[Inhabited d8]in theorem a'Y(l:List A1)(o:Nat)(h:o<l.length):l[o]?=Z l[o]!:=by rw[Ld h,getElem!_pos l o h]
theorem a5d{enc:d8->List A1}{blk m b:Nat}{c:Array d8}(e:b≠blk)(f:b<w.heap.size):(Pv enc k w blk 0 m c os).heap[b]?=w.heap[b]?:=by unfold Pv;show(_++os)[b]?=_;rw[vU (by rw[db];exact f)];simp[putRowK,putRow,mapBlock,a_A,hV,JK e]
theorem aR6{enc:d8->List A1}{blk m:Nat}{c:Array d8}:w.heap.size<=(Pv enc k w blk 0 m c os).heap.size:=by unfold Pv;show _<=(_++os).size;rw[hY,db];show w.heap.size<=w.heap.size+os.size;omega
theorem a5i{ρ:Ren}(W:oN A4 ρ)(k:Nat)(K:∀w,(aZT (ρ.t 24)).run A4 w=aY6 A0 w)(c:∀w,(UK (ρ.t 24)).run A4 w=aY6 k w)(enc:d8->List A1)(N:∀x,(enc x).length=k)(d:0<k)(h1:∀x,∀v∈enc x,v.oneCell'=A0)(C:d8->d8->Int)(ko:V.Hx C)(A:Nat)(X:∀s w,(Pw A s).run A4 w=aY6 (aYl A s) w)(g cap:Nat)(l:List d8)(w:A')(A9:l.length<=1000000)(q:g<w.heap.size)(hc:∀j(h:j<l.length)o,o<k->w.cell? ⟨g,j*k+o,J⟩=(enc l[j])[o]?)(ND:∀o,w.frozen? ⟨g,o,J⟩=A5)(M:∀wx,(∀b,b<w.heap.size->b≠g->wx.heap[b]?=w.heap[b]?)->∀x y,AZ A4 A #[dd (enc x).toArray,dd (enc y).toArray] wx λe w'=>e=hq (IS Po (C x y))/\Below wx.heap.size wx w'/\wx.drawn<=w'.drawn):AZ A4 (ρ.f 6) #[As (Z ⟨g,0,J⟩) l.length cap,aYK (aYI A) #[] #[]] w λe w'=>e=hq (aY8 #[])/\∃R:List d8,R.Perm l/\(R.Pairwise λa b=>C a b<=0)/\(∀j(h:j<R.length)o,o<k->w'.cell? ⟨g,j*k+o,J⟩=(enc R[j])[o]?)/\K4 g w.heap.size w w':=by
 have u:aZO enc k w g 0 l.toArray:=by
  intro t AH;rw[a_E,Kd]at AH;refine⟨?_,ND _⟩;have z:t/k<l.length:=(aBs d).2 AH;have I:t%k<k:=yW _ d;have h2:=hc (t/k) z (t%k) I;rw[id,get_flatK _ _ _ _ (by rw[Kd];exact AH)];have Re:0+t=t/k*k+t%k:=by rw[Oq,Nat.mul_comm];exact(Nat.div_add_mod t k).symm
  rw[Re,h2];have Um:l.toArray[t/k]! =l[t/k]:=by rw[getElem!_pos _ _ (by rw[Kd];exact z)];simp
  rw[Um];exact a'Y _ _ (by rw[N];exact I)
 have Q:CmpLays A4 A #[] enc k C g 0 l.toArray.size w:=by intro m os Uk _ x y;refine(M (Pv enc k w g 0 m Uk os) (λb D U=>a5d U D) x y).mono ?_;rintro e w'⟨rfl,D,H⟩;exact⟨rfl,a'd D H⟩
 have h:=a_5 W k K c enc N h1 C (a5w ko) A #[] g 0 cap l.toArray w X Q u q (by rw[Kd];omega);rw[Kd]at h;refine h.mono ?_;rintro e w'⟨rfl,p,n,os,hp,hs,rfl⟩;have H:p.size=l.length:=by rw[hp.1,Kd]
 have QO:p.toList.Perm l:=by have h3:=hp.2.2;rw[<-H,nE]at h3;rw[show l.toArray.extract 0 p.size=l.toArray from by rw[hp.1];exact nE]at h3;simpa using h3
 refine⟨rfl,p.toList,QO,?_,?_,⟨rfl,rfl,rfl,aR6,λb D U=>a5d U D⟩⟩;·rw[aBh];intro i j hi z GY;have:=hs i j (JJ _) GY (by rw[<-H];simpa using z);unfold da at this;rw[decide_eq_false_iff_not]at this;rw[getElem!_pos p i (by simpa using hi),getElem!_pos p j (by simpa using z)]at this;have t:=ko.2.1 (p[i]'(by simpa using hi)) (p[j]'(by simpa using z));simp only[nH];omega
 ·intro j z o I;have P:j<p.size:=by simpa using z
  have D':aZO enc k (Pv enc k w g 0 n p os) g 0 p:=by unfold Pv;exact a_C _ _ _ _ _ _ _ (by rw[db];exact q) (a_D _ _ _ _ _ _ _ (a_B _ _ _ _ _ _ _ u) (by rw[H,Kd]))
  have S:=(D'.cell P I).1;rw[getElem!_pos p j P,Oq]at S;rw[S];simp only[nH];exact(a'Y _ _ (by rw[N];exact I)).symm
end
end
section
open Go.RowKit
abbrev PY(r:Rel):A1:=dd #[AI r.p,AI r.v,AI r.m,As r.Bj r.B4 r.Bt]
theorem a3P(p v m:ByteArray)(b:Option Aa)(h f:Nat)(w:A'):AZ A4 122 #[dd #[AI p,AI v,AI m,As b h f]] w λe w'=>e=hq (dd #[AI p,AI v])/\AS w.heap.size w w'/\w.drawn<=w'.drawn:=by go_enter Tryz.func122,Tryz.ntmps122;go_wp2;(try simp only[Sl,Exit.then]);refine L3 (Y0 rfl _ _ (w.heap.size+1) 85 #[AI p,AI v] (0,0) _ rfl (FX _ _ _ (by simp only[Fp])) Xv rfl (by kernel_rfl)) rfl ?_;exact⟨rfl,Md _ _ _,AX _⟩
theorem zn(x y:Rel)(m:Int)(w:A')(A6:x.v.size<=40)(hb:y.v.size<=40)(hm:w.cell? ⟨0,0,J⟩=Z (IS Po m)):AZ A4 207 #[PY x,PY y] w λe w'=>e=hq (IS Po (GM x.name y.name))/\AS w.heap.size w w'/\w.drawn<=w'.drawn:=by
 obtain⟨p,v,s,b,h,f,ip⟩:=x;obtain⟨z,A,I,C,H,D,tu⟩:=y;simp only[PY,Rel.name]at*;go_enter Tryz.func207,Tryz.ntmps207;go_wp2_with fail;have c:=A3 (Md w (BE #[AI p,AI v,AI s,As b h f] 75) (BE #[AI z,AI A,AI I,As C H D] 75));have P:=A3 (FX (w.alloc (BE #[AI p,AI v,AI s,As b h f] 75)) (BE #[AI z,AI A,AI I,As C H D] 75) (w.heap.size+1) (by simp));have R:AP (((w.alloc (BE #[AI p,AI v,AI s,As b h f] 75)).alloc (BE #[AI z,AI A,AI I,As C H D] 75)).heap[w.heap.size]?=Z (BE #[AI p,AI v,AI s,As b h f] 75)):=A3 (by rw[E' _ _ _ (by simp)];exact FX _ _ _ rfl);have S:AP (((w.alloc (BE #[AI p,AI v,AI s,As b h f] 75)).alloc (BE #[AI z,AI A,AI I,As C H D] 75)).cell? ⟨0,0,J⟩=Z (IS Po m)):=A3 (BX (BX hm _) _);have X:AP (((w.alloc (BE #[AI p,AI v,AI s,As b h f] 75)).alloc (BE #[AI z,AI A,AI I,As C H D] 75)).drawn=w.drawn):=A3 rfl;clear hm;generalize(w.alloc (BE #[AI p,AI v,AI s,As b h f] 75)).alloc (BE #[AI z,AI A,AI I,As C H D] 75)=W at c R P S X⊢;have Q:AP (∀wx,AS W.heap.size W wx->(wx.cell? ⟨w.heap.size,0,J⟩=Z (AI p)/\wx.cell? ⟨w.heap.size,1,J⟩=Z (AI v)/\wx.cell? ⟨w.heap.size,2,J⟩=Z (AI s)/\wx.cell? ⟨w.heap.size,3,J⟩=Z (As b h f))/\wx.cell? ⟨w.heap.size+1,0,J⟩=Z (AI z)/\wx.cell? ⟨w.heap.size+1,1,J⟩=Z (AI A)/\wx.cell? ⟨w.heap.size+1,2,J⟩=Z (AI I)/\wx.cell? ⟨w.heap.size+1,3,J⟩=Z (As C H D)):=by refine A3 λwx hb=>?_;have U:=IF hb R.out;have h1:=IF hb P.out;exact⟨⟨by rw[Ad U];rfl,by rw[Ad U];rfl,by rw[Ad U];rfl,by rw[Ad U];rfl⟩,by rw[Ad h1];rfl,by rw[Ad h1];rfl,by rw[Ad h1];rfl,by rw[Ad h1];rfl⟩
 have R6:AS W.heap.size W W.drew:=⟨rfl,rfl,rfl,AX _,λ_ _=>rfl⟩;obtain⟨⟨a0,a1,I0,a3⟩,a4,a5,WH,q2⟩:=Q.out W (B9 _ _);go_region_held2 λwx=>wx.cell? ⟨w.heap.size,0,J⟩=Z (AI p)/\wx.cell? ⟨w.heap.size,1,J⟩=Z (AI v)/\wx.cell? ⟨w.heap.size,2,J⟩=Z (AI s)/\wx.cell? ⟨w.heap.size,3,J⟩=Z (As b h f)/\wx.cell? ⟨w.heap.size+1,0,J⟩=Z (AI z)/\wx.cell? ⟨w.heap.size+1,1,J⟩=Z (AI A)/\wx.cell? ⟨w.heap.size+1,2,J⟩=Z (AI I)/\wx.cell? ⟨w.heap.size+1,3,J⟩=Z (As C H D)(go_keep)(first|(go_at_call_of 122(dd #[AI p,AI v,AI s,As b h f]);refine(a3P p v s b h f _).mono ?_;rintro e wa⟨rfl,P8,K⟩;have d:=R6.trans P8;have i:AP (W.drawn<=wa.drawn):=A3 (HA (Nat.le_succ _) K);(obtain⟨⟨FP,e1,e2,DF⟩,EX,Iu,Jm,Rc⟩:=Q.out wa d);have GD:=A3 d;clear d P8 K)|(go_at_call_of 122(dd #[AI z,AI A,AI I,As C H D]);refine(a3P z A I C H D _).mono ?_;rintro e HZ⟨rfl,JO,M⟩;have j:=GD.out.trans (JO.mono GD.out.size);have o:AP (W.drawn<=HZ.drawn):=A3 (HA i.out M);(obtain⟨⟨NA,g1,Ds,g3⟩,g4,Ri,WU,a'W⟩:=Q.out HZ j);have q:=A3 j;clear j JO M)|(go_at_call 203;refine(qJ (p,v) (z,A) m _ A6 hb (Aw q.out S.out)).mono ?_;rintro e wc⟨rfl,KI,N⟩;have hC:=q.out.trans (KI.mono q.out.size);have u:AP (W.drawn<=wc.drawn):=A3 (HA o.out N);(obtain⟨⟨J3,k1,Dl,J4⟩,SF,QU,lF,a1y⟩:=Q.out wc hC);have FH:=A3 hC;clear hC KI N));all_goals go_wp2_with fail;go_ret;exact⟨rfl,c.out.trans (FH.out.mono c.out.size),by rw[<-X.out];exact u.out⟩
theorem V.aMd(h b:Int):0<=V.ZJ h b/\V.ZJ h b<18446744073709551616:=by unfold V.ZJ;rw[w_];omega
theorem V.aMe(h:Int)(s:List UInt8):0<=V.Jx h s/\V.Jx h s<18446744073709551616:=by rw[V.a3F];exact V.aMd _ _
def V.cV(p v m x y:ByteArray):List UInt8:=V.hG (V.Jx (V.Jx (V.Jx (V.Jx (V.Jx 14695981039346656037 p.data.toList) v.data.toList) m.data.toList) x.data.toList) y.data.toList)
def Q3(w:A')(r:Rel)(s:ByteArray):Prop:=∃a x y,r.Bj=Z ⟨a,0,J⟩/\r.B4=1/\w.cell? ⟨a,0,J⟩=Z (AI x)/\w.cell? ⟨a,1,J⟩=Z (AI y)/\(r.p.size<=1000000000/\r.v.size<=1000000000/\r.m.size<=1000000000/\x.size<=1000000000/\y.size<=1000000000)/\s.data.toList=V.cV r.p r.v r.m x y
theorem Q3.below{w w':A'}{r:Rel}{s:ByteArray}(h:Q3 w r s)(b:AS w.heap.size w w'):Q3 w' r s:=by obtain⟨a,x,y,e,h2,h3,h4,f⟩:=h;exact⟨a,x,y,e,h2,Aw b h3,Aw b h4,f⟩
theorem zK{a b:ByteArray}(h:a.data.toList=b.data.toList):a=b:=by obtain⟨⟨l⟩⟩:=a;obtain⟨⟨e⟩⟩:=b;simp only at h;rw[h]
theorem aND(r:Rel)(s:ByteArray)(w:A')(hs:Q3 w r s)(hm:w.cell? ⟨5,15,J⟩=Z (IS aYN 4)):AZ A4 68 #[PY r] w λe w'=>e=hq (AI s)/\AS w.heap.size w w':=by
 obtain⟨a,x,y,U,h2,h3,h4,⟨E2,z2,z3,z4,z5⟩,z⟩:=hs;obtain⟨p,v,m,Bj,B4,N,ip⟩:=r;simp only at U h2 E2 z2 z3 z;subst U h2;simp only[PY];have hp:p.size<=BK:=by unfold BK;omega
 have hv:v.size<=BK:=by unfold BK;omega
 have u:m.size<=BK:=by unfold BK;omega
 have hx:x.size<=BK:=by unfold BK;omega
 have hy:y.size<=BK:=by unfold BK;omega
 have i:=A3 z;clear E2 z2 z3 z4 z5 z;go_enter Tryz.func68,Tryz.ntmps68;go_wp2_with fail;go_quiet((go_at_call 137;exact Si (a6Q _ _ _ (by assumption))));go_wp2_with fail;go_at_call 138;have f:AS w.heap.size w ((w.alloc (BE #[AI p,AI v,AI m,As (Z ⟨a,0,J⟩) 1 N] 75)).drewN nq):=Je ((B9 _ w).alloc (AX _) _) nq;have c:=Aw f hm;refine(aJc a N x y _ (Aw f h3) (Aw f h4)).mono ?_;rintro e b⟨M,P,rfl,I,C⟩;have A:AS w.heap.size w b:=f.trans (C.mono (by simp));have j:=Aw C c;have R:b.cell? ⟨M,0,J⟩=Z (AI x):=QV I 0 _ rfl;have S:b.cell? ⟨M,1,J⟩=Z (AI y):=QV I 1 _ rfl;clear f C c I h3 h4 hm;have h:AP (V.cV p v m x y=V.hG (V.Jx (V.Jx (V.Jx (V.Jx (V.Jx 14695981039346656037 p.data.toList) v.data.toList) m.data.toList) x.data.toList) y.data.toList)):=A3 rfl;generalize V.Jx (V.Jx (V.Jx 14695981039346656037 p.data.toList) v.data.toList) m.data.toList=Q at h⊢;have o:=V.aMe (V.Jx Q x.data.toList) y.data.toList;go_wp2;refine aY 2 ?_;rw[RI];go_wp2_with fail;go_quiet((go_at_call 137;exact Si (a6Q _ _ _ (by assumption))));go_wp2;rw[RI];generalize V.Jx (V.Jx Q x.data.toList) y.data.toList=d at h o⊢;obtain⟨K,rfl⟩:∃K:Nat,d=K:=⟨d.toNat,by omega⟩;have D:AS b.heap.size b ((b.alloc (BE #[AI x,AI y] 77)).drewN nq):=Je ((B9 _ b).alloc (AX _) _) _;have H:=Aw D j;go_wp2_with(go_at_call 139;refine(aRt K (by omega) _ (by first|exact H|assumption)).mono ?_;rintro e w2⟨t,rfl,AH,q⟩);go_ret;refine⟨?_,A.trans ((D.mono A.size).trans (q.mono (HA A.size D.size)))⟩;have:t=s:=zK (by rw[AH,i.out,h.out]);rw[this];rfl
end
section
open Go.RowKit Go.Sort
variable{w:A'}{g:Nat}
abbrev eH:Type:={x:Rel//x.v.size<=40}
instance:Inhabited eH:=⟨⟨⟨⟨#[]⟩,⟨#[]⟩,⟨#[]⟩,J,0,0,[]⟩,by show(0:Nat)<=40;omega⟩⟩
def qc(x:eH):List A1:=[AI x.1.p,AI x.1.v,AI x.1.m,As x.1.Bj x.1.B4 x.1.Bt]
def aDU(x y:eH):Int:=GM x.1.name y.1.name
theorem aEm:∀b w,(Pw 207 b).run A4 w=aY6 (aYl 207 b) w:=by intro b w;exact aZh Tryz.func207 (by kernel_rfl) rfl b w
theorem aCM:∀w,(aZT (Tryz.uv.t 24)).run A4 w=aY6 A0 w:=by intro w;kernel_rfl
theorem aR1:∀w,(UK (Tryz.uv.t 24)).run A4 w=aY6 4 w:=by intro w;kernel_rfl
def ZY(L:List Rel)(hv:∀x∈L,x.v.size<=40):List eH:=L.pmap (λx h=>⟨x,h⟩) hv
theorem aQ0(L:List Rel)(hv:∀x∈L,x.v.size<=40):(ZY L hv).map (·.1)=L:=by unfold ZY;rw[aB_];simp
theorem uZ(L:List Rel)(hv:∀x∈L,x.v.size<=40):(ZY L hv).length=L.length:=by simp[ZY]
def eG(L:List Rel):Prop:=L.Pairwise λa b=>GM a.name b.name<=0
theorem aR8(g cap:Nat)(m:Int)(L:List Rel)(w:A')(H:L.length<=1000000)(hv:∀x∈L,x.v.size<=40)(C:g≠0)(D:g<w.heap.size)(K:Kf w g L)(A:∀o,w.frozen? ⟨g,o,J⟩=A5)(s:w.cell? ⟨0,0,J⟩=Z (IS Po m)):AZ A4 206 #[As (Z ⟨g,0,J⟩) L.length cap,aYK (aYI 207) #[] #[]] w λe w'=>e=hq (aY8 #[])/\∃R,R.Perm L/\eG R/\Kf w' g R/\K4 g w.heap.size w w':=by
 have h:=a5i Tryz.aR7 4 aCM aR1 qc (λx=>rfl) (by omega) λx v hx=>by simp[qc]at hx;rcases hx with rfl|rfl|rfl|rfl<;>rfl aDU (c8.back λx:eH=>x.1.name) 207 aEm g cap (ZY L hv) w (by rw[uZ];exact H) D (λj b o p=>?_) A λwx M x y=>?_
 ·rw[uZ]at h;refine h.mono ?_;rintro e w'⟨rfl,R,I,hs,hc,z⟩;refine⟨rfl,R.map (·.1),?_,?_,λj b=>?_,z⟩;·have:=I.map (·.1);rwa[aQ0]at this
  ·unfold eG;rw[YM];exact hs
  ·have f:j<R.length:=by simpa using b
   have k:=λo p=>hc j f o p;simp only[pZ];exact⟨k 0 (by omega),k 1 (by omega),k 2 (by omega),k 3 (by omega)⟩
 ·have f:j<L.length:=by rw[uZ]at b;exact b
  have he:(ZY L hv)[j].1=L[j]:=by simp[ZY]
  have hc:=K j f;unfold qc;rw[he];match o,p with|0,_=>exact hc.1|1,_=>exact hc.2.1|2,_=>exact hc.2.2.1|3,_=>exact hc.2.2.2
 ·exact zn x.1 y.1 m wx x.2 y.2 ((F4 (a:=⟨0,0,J⟩) (M 0 (Ff (h:=s)) (JK C))).trans s)
theorem aF'(x y:Rel)(m:Int)(w:A')(A:x.v.size<=40)(C:y.v.size<=40)(s:GM x.name y.name≠0)(D:w.cell? ⟨0,0,J⟩=Z (IS Po m)):AZ A4 209 #[PY x,PY y] w λe w'=>e=hq (aY5 A5)/\Below w.heap.size w w':=by
 have b:AP (∀wx,wx.cell? ⟨0,0,J⟩=Z (IS Po m)->AZ A4 207 #[PY x,PY y] wx λe w'=>e=hq (IS Po (GM x.name y.name))/\Below wx.heap.size wx w'/\wx.drawn<=w'.drawn):=A3 λwx h=>zn x y m wx A C h;generalize GM x.name y.name=c at s b;obtain⟨p,v,U,H,N,K,ip⟩:=x;obtain⟨E1,v',d,I,Q,M,i⟩:=y;simp only[PY]at*;have hc:(c==0)=A5:=by simpa using s
 go_enter Tryz.func209,Tryz.ntmps209;go_wp2_with(go_at_call 207;refine(b.out _ (BX (BX D _) _)).mono ?_;rintro e w2⟨rfl,f,-⟩;have z:=A3 ((Md w _ _).trans (f.mono (Md w _ _).size));clear f);go_ret;exact⟨rfl,z.out⟩
theorem aDw(g c:Nat)(L:List Rel)(m:Int)(w:A')(H:Kf w g L)(BI:L.length<=1000000)(hv:∀x∈L,x.v.size<=40)(D:∀k(h:k+1<L.length),GM L[k+1].name L[k].name≠0)(C:w.cell? ⟨0,0,J⟩=Z (IS Po m)):AZ A4 208 #[As (Z ⟨g,0,J⟩) L.length c,aYK (aYI 209) #[] #[]] w λe w'=>e=hq (As (Z ⟨g,0,J⟩) L.length c)/\Below w.heap.size w w':=by
 by_cases h2:L.length<2
 ·have o:(L.length:Int)<2:=by omega
  clear H hv D C;go_enter Tryz.func208,Tryz.ntmps208;go_wp2;go_ret;exact⟨rfl,B9 _ _⟩
 ·have K:=A3 H;have M:=A3 hv;have q:=A3 D;have u:=A3 C;have o:¬(L.length:Int)<2:=by omega
  clear H hv D C;go_enter Tryz.func208,Tryz.ntmps208;go_wp2_with fail;go_loopw[5]λi wr=>∃k:Nat,1<=k/\k<=L.length/\i=IS Po k/\AP (Below w.heap.size w wr)(λi _=>L.length-(Ay i).toNat);case atStart=>exact⟨1,by omega,by omega,rfl,A3 (B9 _ _)⟩
  case round=>
   obtain⟨k,JQ,P,rfl,b⟩:=hrel;by_cases hlt:k<L.length
   ·obtain⟨d,rfl⟩:∃d,k=d+1:=⟨k-1,by omega⟩;have Q:d<L.length:=by omega
    obtain⟨c0,c1,c2,c3⟩:=K.out.below b.out (d+1) hlt;obtain⟨c4,c5,s,z⟩:=K.out.below b.out d Q;have Jt:(0:Int)<(d:Int)+1:=by omega
    have S:(d:Int)+1<(L.length:Int):=by omega
    have W:0<=(d:Int)+1/\(d:Int)+1<(L.length:Int):=⟨by omega,S⟩;have f:AP (∀wx,wx.cell? ⟨0,0,J⟩=Z (IS Po m)->AZ A4 209 #[PY L[d+1],PY L[d]] wx λe w'=>e=hq (aY5 A5)/\Below wx.heap.size wx w'):=A3 λwx h=>aF' _ _ m wx (M.out _ (EC hlt)) (M.out _ (EC Q)) (q.out d hlt) h;have e1:(d:Int)+1-1=(d:Int):=by omega
    have e2:(d:Int)<(L.length:Int):=by omega
    have U:=Nn (Aw b.out u.out);generalize L[d+1]=x at c0 c1 c2 c3 f;generalize L[d]=y at c4 c5 s z f;obtain⟨p,v,X,Bj,B4,Bt,ip⟩:=x;obtain⟨E1,v',ON,O2,O4,O3,tu⟩:=y;simp only[PY]at*;have J3:=Nn c0;have k1:=Nn c1;have Dl:=Nn c2;have J4:=Nn c3;have SF:=Nn c4;have QU:=Nn c5;have lF:=Nn s;have I:=Nn z;have N:∀A os,AZ A4 209 #[dd #[AI p,AI v,AI X,As Bj B4 Bt],dd #[AI E1,AI v',AI ON,As O2 O4 O3]] (grow (aZr wr A) os) λe mv=>e=hq (aY5 A5)/\∃p:Regrown,mv=grow (aZr wr p.d) p.os:=λA os=>Calls.regrown_of (f.out _ (U A os));have sK:A4.follows aZF=A0:=by kernel_rfl
    clear f U;go_wp2_with fail;refine aAH sK (by kernel_rfl) ?_;repeat(go_big_quiet_step((go_at_call 209;exact N _ _)))
    refine aAG ?_;intro cf sw;obtain⟨⟨qS,uB⟩,j⟩:=sw;have R:AP (Below w.heap.size w cf):=A3 (by rw[j];exact b.out.trans ((aA5 wr qS uB).mono b.out.size));clear j N J3 k1 Dl J4 SF QU lF I c0 c1 c2 c3 c4 c5 s z;go_wp2;first
    |exact⟨⟨d+1+1,by omega,by omega,by go_num,R⟩,by simp[Ay];omega⟩
    |
     (
      go_roundw;case rel=>exact⟨d+1+1,by omega,by omega,by go_num,R⟩
      case measure=>simp[Ay];omega)
   ·have he:k=L.length:=by omega
    subst he;go_wp2;go_ret;exact⟨rfl,b.out⟩
theorem a1n:(A4.info? 75).map (λi=>(i.zero,i.size,i.bytes))=Z (Z (dd #[AI ⟨#[]⟩,AI ⟨#[]⟩,AI ⟨#[]⟩,As J 0 0]),4,72):=by kernel_rfl
def KR(L:List Rel):List A1:=L.flatMap λr=>[AI r.p,AI r.v,AI r.m,As r.Bj r.B4 r.Bt]
theorem aPz(x:Rel)(L:List Rel):KR (x::L)=[AI x.p,AI x.v,AI x.m,As x.Bj x.B4 x.Bt]++KR L:=rfl
theorem a52(L:List Rel)(x:Rel):KR (L++[x])=KR L++[AI x.p,AI x.v,AI x.m,As x.Bj x.B4 x.Bt]:=by simp[KR]
theorem Tt(L:List Rel):∀j(h:j<L.length)(o:Nat)(u:A1),o<4->[AI L[j].p,AI L[j].v,AI L[j].m,As L[j].Bj L[j].B4 L[j].Bt][o]?=Z u->(KR L)[j*4+o]?=Z u:=by induction L with|nil=>intro j b;simp at b|cons x s f=>intro j b o u e hu;rw[aPz];match j with|0=>rw[jL (by simp;omega)];simpa using hu|j+1=>rw[T4 (by simp;omega)];have:=f j (by simp at b;omega) o u e hu;rw[<-this];congr 1;simp;omega
theorem aPw{B c:Nat}{L:List Rel}(h:w.ownsRow B 75 4 (As (Z ⟨g,0,J⟩) L.length c) L.length (KR L)):Kf w g L:=λj b=>by have k:=λo u e hu=>QV h _ _ (Tt L j b o u e hu);exact⟨k 0 _ (by omega) rfl,k 1 _ (by omega) rfl,k 2 _ (by omega) rfl,k 3 _ (by omega) rfl⟩
def Gr(L:List Cb):List Rel:=L.map (·.rel)
theorem aQ8(L:List Cb)(k:Nat)(h:k<L.length):Gr (L.take (k+1))=Gr (L.take k)++[L[k].rel]:=by unfold Gr;rw[VF L k h,YK];rfl
theorem lo{a b:Ax}(h:GM a b≠0):GM b a≠0:=by have:=c8.2.1 a b;omega
theorem aQ'(v:A1)(L:List Cb)(m:Int)(w:A')(hv:Jh w v L)(BI:L.length<=1000000)(hs:∀x∈L,x.rel.v.size<=40)(md:(Gr L).Pairwise λa b=>GM a.name b.name≠0)(hm:w.cell? ⟨0,0,J⟩=Z (IS Po m)):AZ A4 135 #[v] w λe w'=>∃g c R,e=hq (As (Z ⟨g,0,J⟩) R.length c)/\R.Perm (Gr L)/\eG R/\Kf w' g R/\w.heap.size<=g/\Below w.heap.size w w':=by
 obtain⟨i0,hi,E9,DL,Cc⟩:=IT a1n;obtain⟨a,c,rfl,f1⟩:=hv.open;have DS:=A3 f1;have T':=A3 hs;have j2:=A3 md;have d:=A3 hm;obtain⟨w1,Wx,I5,Rx⟩:=oo (P:=A4) w w.heap.size 47 75 i0 (dd #[AI ⟨#[]⟩,AI ⟨#[]⟩,AI ⟨#[]⟩,As J 0 0]) 4 oZ hi E9 DL Po Po L.length (by rw[Cc];omega) (by unfold BK;omega) (AX _);have Ns:=A3 I5;have Br:AP (Below w.heap.size w w1):=A3 ((B9 _ w).grown Rx (AX _) λk D=>by cases D);clear hv f1 hs I5 Rx md hm;go_enter Tryz.func135,Tryz.ntmps135;go_wp2;go_loopw[3,11]λv i wr=>∃k:Nat,k<=L.length/\i=IS Po k/\AP ((∃g c,v=As (Z ⟨g,0,J⟩) k c)/\wr.ownsRow w.heap.size 75 4 v k (KR (Gr (L.take k)))/\Below w.heap.size w wr)(λ_ i _=>L.length-(Ay i).toNat);case atStart=>exact⟨0,by omega,rfl,A3 ⟨⟨_,_,rfl⟩,Ns.out,Br.out⟩⟩
 case round=>
  obtain⟨k,D,rfl,H⟩:=hrel;obtain⟨⟨z,U,rfl⟩,AQ,C⟩:=H.out;have Cx:=A3 AQ;have s:=A3 C;clear H AQ C;by_cases hlt:k<L.length
  ·obtain⟨g,rfl,hc,-⟩:=DS.out k hlt;obtain⟨c0,c1,c2,c3,c4,c5,FO,F7⟩:=hc.below s.out;have G_:w.heap.size<=wr.heap.size:=s.out.size;have Fl:g<wr.heap.size:=Ff (h:=c0);have q:=A3 (aQ8 L k hlt);clear hc;generalize L[k]=x at c0 c1 c2 c3 c4 c5 FO F7 q;obtain⟨⟨p,v,m,Bj,B4,Bt,ip⟩,Al,Aj⟩:=x;simp only[Cb.B5]at c0 c1 c2 c3 c4 c5 FO F7 q;go_wp2_with(at_builtin;refine L4 _ rfl _ _ 47 rfl w.heap.size 75 i0 (dd #[AI ⟨#[]⟩,AI ⟨#[]⟩,AI ⟨#[]⟩,As J 0 0]) 4 72 oZ hi E9 DL Cc rfl (by decide) _ _ _ rfl ((Cx.out.alloc _).alloc _) ⟨wr.heap.size+1,0,J⟩ 1 1 [AI p,AI v,AI m,As Bj B4 Bt] rfl rfl ?c1 ?c2 ?c3 ?c4 ?c5 ?_);case c1=>intro j u f;have Q:=λW(o:Du)i(h:i=W.heap.size)=>FX W o i h;match j,f with|0,f=>simp at f;subst f;rw[Gg,Ad (Q _ _ _ (by simp))];rfl|1,f=>simp at f;subst f;rw[Gg,Ad (Q _ _ _ (by simp))];rfl|2,f=>simp at f;subst f;rw[Gg,Ad (Q _ _ _ (by simp))];rfl|3,f=>simp at f;subst f;rw[Gg,Ad (Q _ _ _ (by simp))];rfl
   case c2=>intro u hu;simp at hu;rcases hu with rfl|rfl|rfl|rfl<;>rfl
   case c3=>unfold BK;omega
   case c4=>omega
   case c5=>first|omega|(simp;omega)
   intro v' w3 DO C' _;have a1W:w.heap.size<=wr.heap.size+1:=by omega
   have EZ:Below w.heap.size w w3:=((s.out.alloc G_ _).alloc (by simp;omega) _).grown C' (by simp;omega) λk D=>(Cx.out.lt k D).1;obtain⟨K,I,hv⟩:∃K I,v'=As (Z ⟨K,0,J⟩) (k+1) I:=by
    rcases DO.2 with⟨_,AV⟩|⟨K,I,M,hv,_⟩;·omega
    ·exact⟨K,I,hv⟩
   have R:AP ((∃g c,v'=As (Z ⟨g,0,J⟩) (k+1) c)/\w3.ownsRow w.heap.size 75 4 v' (k+1) (KR (Gr (L.take (k+1))))/\Below w.heap.size w w3):=by refine A3 ⟨⟨K,I,hv⟩,?_,EZ⟩;rw[q.out,a52];exact DO
   clear C' DO EZ hv;go_wp2;first
   |exact⟨⟨k+1,by omega,by go_num,R⟩,by simp[Ay];omega⟩
   |
    (
     go_roundw;case rel=>exact⟨k+1,by omega,by go_num,R⟩
     case measure=>simp[Ay];omega)
  ·have GK:k=L.length:=by omega
   subst GK;rw[On]at Cx;have S:(Gr L).length=L.length:=by simp[Gr]
   have N:∀x∈Gr L,x.v.size<=40:=λx hx=>by obtain⟨y,hy,rfl⟩:=List.mem_map.1 hx;exact T'.out y hy
   have Fo:∃M,wr.heap[z]?=Z (BE M 75 (0,0))/\w.heap.size<=z:=by
    rcases Cx.out.2 with⟨e,_⟩|⟨g',c',M,e,C,h,_⟩;·cases e
    ·injection e with e;injection e with e;injection e with e;subst e;exact⟨M,h,C⟩
   obtain⟨M,X,aJ9⟩:=Fo;have Kr:=Aw s.out d.out;have eo:0<w.heap.size:=Ff (h:=d.out);have Jv:Kf wr z (Gr L):=aPw (by rw[S];exact Cx.out);have aB1:AP (AZ A4 206 #[As (Z ⟨z,0,J⟩) L.length U,aYK (aYI 207) #[] #[]] wr λe w'=>e=hq (aY8 #[])/\∃R,R.Perm (Gr L)/\eG R/\Kf w' z R/\K4 z wr.heap.size wr w'):=by have:=aR8 z U m (Gr L) wr (by omega) N (by omega) (Array.getElem?_eq_some_iff.1 X).1 Jv (λo=>Dv X o) Kr;rw[S]at this;exact A3 this
   clear Jv X Kr;go_wp2_with(first|(go_at_call 206;refine aB1.out.mono ?_;rintro e ES⟨rfl,R,hp,KL,sb,A⟩;(have LB:R.length=L.length:=by rw[hp.length_eq];exact S);(have r9:=aDw z U R m ES sb (by omega) (λx hx=>N x (hp.mem_iff.1 hx)) (λk D=>lo (List.pairwise_iff_getElem.1 ((hp.pairwise_iff λ{a b}h=>lo h).2 j2.out) k (k+1) (by omega) D (by omega))) ((F4 (a:=⟨0,0,J⟩) (A.block 0 (by have:=s.out.size;omega) (by omega))).trans (Aw s.out d.out)));rw[LB]at r9;have aAM:=A3 r9;(have UL:AP (Below w.heap.size w ES):=A3 ⟨A.os.trans s.out.os,A.tape.trans s.out.tape,A.output.trans s.out.output,HA s.out.size A.size,λb C=>(A.block b (by have:=s.out.size;omega) (by omega)).trans (s.out.block b C)⟩);have E4:=A3 hp;have aAy:=A3 KL;have pI:=A3 sb;clear hp KL sb A r9)|(go_at_call 208;refine aAM.out.mono ?_;rintro e DZ⟨rfl,TO⟩;have xw:=A3 TO;clear TO));go_ret;exact⟨z,U,R,by rw[LB];rfl,E4.out,aAy.out,pI.out.below xw.out,aJ9,UL.out.trans (xw.out.mono UL.out.size)⟩
theorem step_append{P:Ac}{ops:Array Oper}{o:Oper}{a:Act}{K:Act->A'->Prop}{Q:Exit->Act->A'->Prop}{E:Prop}(I:o.guard=J)(s x:Operand)(t:A_)(U:o.op=.call {callee:=.builtin .append,args:=#[s,x],argTypes:=#[t,t]})(base:Nat)(e:A_)(i:TypeInfo)(z:A1)(size bytes:Nat)(AH:P.underlying t=Z (.slice e))(hi:P.info? e=Z i)(AR:i.zero=Z z)(d:i.size=size)(D:i.bytes=bytes)(q:z.cells.size=size)(R:0<size)(v:A1)(n:Nat)(xs:List A1)(hs:a.eval s=v)(AQ:w.ownsRow base e size v n xs)(ad:Aa)(m c:Nat)(f:List A1)(hx:a.eval x=As (Z ad) m c)(M:f.length=m*size)(N:∀j u,f[j]?=Z u->w.cell? (ad.add j)=Z u)(p:∀u∈f,u.oneCell'=A0)(A:n+m<=BK)(H:(n+m)*bytes<=140737488355328)(C:base<=w.heap.size)(h:∀b w',w'.ownsRow base e size b (n+m) (xs++f)->w.grownBy w' v.ownBlock->b.ownBlock=v.ownBlock∨b.ownBlock=Z w.heap.size->K (a.put o.dst b) w'):if EY o (Gu ops a.tmps)=A0 then oL P o a w K Q else E:=by
 have S:EY o (Gu ops a.tmps)=A0:=by simp[EY,I]
 rw[if_pos S];obtain⟨b,w',A2,h2,h3,_,y⟩:=run_append_own_at (P:=P) w base t o.type e i z size bytes AH hi AR d D q R v n xs AQ ad m c f M N p A H C;unfold oL execOp;simp only[U,resolve,invoke,builtin,a9w,a9x,a9q,Le,GU,K8,hs,hx,A2];exact h b w' h2 h3 y
abbrev Fy:=Ax×ByteArray
variable{E:List Fy}
theorem tG:(A4.info? 217).map (λi=>(i.zero,i.size,i.bytes))=Z (Z (dd #[AI ⟨#[]⟩,AI ⟨#[]⟩,AI ⟨#[]⟩]),3,48):=by kernel_rfl
def Kj(E:List Fy):List A1:=E.flatMap λx=>[AI x.1.1,AI x.1.2,AI x.2]
theorem a'2(x:Fy)(E:List Fy):Kj (x::E)=[AI x.1.1,AI x.1.2,AI x.2]++Kj E:=rfl
theorem aEf(E:List Fy)(x:Fy):Kj (E++[x])=Kj E++[AI x.1.1,AI x.1.2,AI x.2]:=by simp[Kj]
theorem a'4(E:List Fy):(Kj E).length=E.length*3:=by induction E with|nil=>rfl|cons x e b=>rw[a'2,HN,b];simp;omega
theorem aEe(E:List Fy):∀u∈Kj E,u.oneCell'=A0:=by intro u hu;unfold Kj at hu;obtain⟨x,_,hx⟩:=List.mem_flatMap.1 hu;simp at hx;rcases hx with rfl|rfl|rfl<;>rfl
def Jn(f:Rel->ByteArray)(R:List Rel):List Fy:=R.map λr=>(r.name,f r)
theorem aEg(f:Rel->ByteArray)(L:List Rel)(k:Nat)(h:k<L.length):Jn f (L.take (k+1))=Jn f (L.take k)++[(L[k].name,f L[k])]:=by unfold Jn;rw[VF L k h,YK];rfl
theorem aEi(w:A')(p v s:ByteArray)(j:Nat)(u:A1)(b:[AI p,AI v,AI s][j]?=Z u):(w.alloc (BE #[AI p,AI v,AI s] 217)).cell? ((⟨w.heap.size,0,J⟩:Aa).add j)=Z u:=by have e:=FX w (BE #[AI p,AI v,AI s] 217) _ rfl;match j,b with|0,b=>simp at b;subst b;rw[Gg,Ad e];rfl|1,b=>simp at b;subst b;rw[Gg,Ad e];rfl|2,b=>simp at b;subst b;rw[Gg,Ad e];rfl
theorem aEr(v:A1)(L:List Cb)(m:Int)(f:Rel->ByteArray)(w:A')(hv:Jh w v L)(BI:L.length<=1000000)(hs:∀x∈L,x.rel.v.size<=40)(md:(Gr L).Pairwise λa b=>GM a.name b.name≠0)(hm:w.cell? ⟨0,0,J⟩=Z (IS Po m))(NH:w.cell? ⟨5,15,J⟩=Z (IS aYN 4))(QS:∀x∈L,Q3 w x.rel (f x.rel)):AZ A4 64 #[v] w λe w'=>∃g c R,e=hq (As (Z ⟨g,0,J⟩) R.length c)/\R.Perm (Gr L)/\eG R/\w'.ownsRow w.heap.size 217 3 (As (Z ⟨g,0,J⟩) R.length c) R.length (Kj (Jn f R))/\Below w.heap.size w w':=by
 obtain⟨i0,hi,E9,DL,Cc⟩:=IT tG;obtain⟨a,c,rfl,f1⟩:=hv.open;have DS:=A3 hv;have T':=A3 hs;have j2:=A3 md;have D2:=A3 hm;have aAq:=A3 NH;have aB3:=A3 QS;obtain⟨w1,Wx,I5,Rx⟩:=oo (P:=A4) w w.heap.size 119 217 i0 (dd #[AI ⟨#[]⟩,AI ⟨#[]⟩,AI ⟨#[]⟩]) 3 dW hi E9 DL Po Po L.length (by rw[Cc];omega) (by unfold BK;omega) (AX _);have Ns:=A3 I5;have Ae:Below w.heap.size w w1:=(B9 _ w).grown Rx (AX _) (λk hk=>by cases hk);have Br:=A3 Ae;have aAL:=A3 (aQ' _ L m w1 (hv.below Ae) BI hs md (Aw Ae hm));clear hv f1 hs I5 Rx md hm NH QS Ae;go_enter Tryz.func64,Tryz.ntmps64;go_wp2_with(go_at_call 135;refine aAL.out.mono ?_;rintro e w2⟨K,rc,R,rfl,hp,KL,Jv,aVh,kc⟩;have E4:=A3 hp;have pE:=A3 KL;have pI:=A3 Jv;have Cl:=A3 kc;clear hp KL Jv kc);have LB:R.length=L.length:=by rw[E4.out.length_eq];simp[Gr]
 have kG:R.length<=1000000:=by omega
 clear LB;have Lb:=A3 (lV Ns.out Cl.out);have UM:AP (Below w.heap.size w w2):=A3 (Br.out.trans (Cl.out.mono Br.out.size));have a0v:w.heap.size≠K:=by have:w.heap.size<w1.heap.size:=(Ns.out.lt w.heap.size rfl).2;omega
 go_loopw[3,12]λv i wr=>∃k:Nat,k<=R.length/\i=IS Po k/\AP ((∃g c,v=As (Z ⟨g,0,J⟩) k c/\g≠K)/\wr.ownsRow w.heap.size 217 3 v k (Kj (Jn f (R.take k)))/\Below w.heap.size w wr/\Kf wr K R)(λ_ i _=>R.length-(Ay i).toNat);case atStart=>exact⟨0,by omega,rfl,A3 ⟨⟨_,_,rfl,a0v⟩,Lb.out,UM.out,pI.out⟩⟩
 case round=>
  obtain⟨k,hk,rfl,H⟩:=hrel;obtain⟨⟨d,G3,rfl,Kv⟩,AQ,hb,Jv⟩:=H.out;have Cx:=A3 AQ;have j:=A3 hb;have Cg:=A3 Jv;clear H AQ hb Jv;by_cases hlt:k<R.length
  ·obtain⟨c0,c1,c2,c3⟩:=Cg.out k hlt;have Ma:∃x∈L,x.rel=R[k]:=by have:=E4.out.mem_iff.1 (EC hlt);obtain⟨x,hx,e⟩:=List.mem_map.1 this;exact⟨x,hx,e⟩
   have pM:AP (Q3 wr R[k] (f R[k])):=A3 (by obtain⟨x,hx,e⟩:=Ma;rw[<-e];exact(aB3.out x hx).below j.out);have G_:w.heap.size<=wr.heap.size:=j.out.size;have Fl:K<wr.heap.size:=Ff (h:=c0);have DU:=A3 (aEg f R k hlt);have q:=Aw j.out aAq.out;have aVr:d<wr.heap.size:=by obtain⟨_,h⟩:=Cx.out.lt d rfl;exact h
   clear Ma;generalize aVi:R[k]=x at c0 c1 c2 c3 DU pM;generalize f x=s at DU pM;obtain⟨p,v,I,y,A,z,ip⟩:=x;simp only[Rel.name]at c0 c1 c2 c3 DU;go_wp2_with fail;have EL:=A3 (FX wr (BE #[AI p,AI v,AI I,As y A z] 75) wr.heap.size rfl);have Q:=A3 ((B9 _ wr).alloc (AX _) (BE #[AI p,AI v,AI I,As y A z] 75));have Y7:=A3 (Cx.out.alloc (BE #[AI p,AI v,AI I,As y A z] 75));have bO:(wr.alloc (BE #[AI p,AI v,AI I,As y A z] 75)).heap.size=wr.heap.size+1:=by simp
   generalize wr.alloc (BE #[AI p,AI v,AI I,As y A z] 75)=W at EL Q Y7 bO⊢;have Ka:AP (∀wx,Below W.heap.size W wx->wx.cell? ⟨wr.heap.size,0,J⟩=Z (AI p)/\wx.cell? ⟨wr.heap.size,1,J⟩=Z (AI v)/\wx.cell? ⟨wr.heap.size,2,J⟩=Z (AI I)/\wx.cell? ⟨wr.heap.size,3,J⟩=Z (As y A z)):=by refine A3 λwx hb=>?_;have AV:=IF hb EL.out;exact⟨by rw[Ad AV];rfl,by rw[Ad AV];rfl,by rw[Ad AV];rfl,by rw[Ad AV];rfl⟩
   have R6:Below W.heap.size W W.drew:=⟨rfl,rfl,rfl,AX _,λ_ _=>rfl⟩;have aB6:AP (Q3 W ⟨p,v,I,y,A,z,ip⟩ s):=A3 (pM.out.below Q.out);have aAr:AP (W.cell? ⟨5,15,J⟩=Z (IS aYN 4)):=A3 (Aw Q.out q);obtain⟨a0,a1,I0,a3⟩:=Ka.out W (B9 _ _);clear q c0 c1 c2 c3;go_region_held2 λwx=>wx.cell? ⟨wr.heap.size,0,J⟩=Z (AI p)/\wx.cell? ⟨wr.heap.size,1,J⟩=Z (AI v)/\wx.cell? ⟨wr.heap.size,2,J⟩=Z (AI I)/\wx.cell? ⟨wr.heap.size,3,J⟩=Z (As y A z)(first|(go_keep;done)|exact⟨BX NA _,BX g1 _,BX Ds _,BX g3 _⟩|exact⟨f0,Gz,HE,Rg⟩)(first|(go_at_call 122;refine(a3O p v I y A z _).mono ?_;rintro e wa⟨rfl,P8⟩;have BD:=R6.trans P8;(obtain⟨FP,e1,e2,DF⟩:=Ka.out wa BD);have GD:=A3 BD;clear BD P8)|(go_at_call 68;refine(aND ⟨p,v,I,y,A,z,ip⟩ s _ (aB6.out.below GD.out) (Aw GD.out aAr.out)).mono ?_;rintro e N⟨rfl,S⟩;have DC:=GD.out.trans (S.mono GD.out.size);(obtain⟨NA,g1,Ds,g3⟩:=Ka.out N DC);have X:=A3 DC;clear DC S)|(refine step_append rfl _ _ 119 rfl w.heap.size 217 i0 (dd #[AI ⟨#[]⟩,AI ⟨#[]⟩,AI ⟨#[]⟩]) 3 48 dW hi E9 DL Cc rfl (by decide) _ _ _ rfl ((lV Y7.out X.out).alloc _) ⟨N.heap.size,0,J⟩ 1 1 [AI p,AI v,AI s] rfl rfl (aEi N p v s) (by intro u hu;simp at hu;rcases hu with rfl|rfl|rfl<;>rfl) (by unfold BK;omega) (by omega) (by have:=X.out.size;simp;omega) ?_;intro v' w3 DO U fJ;(have D:∀o,Z (⟨wr.heap.size,o,J⟩:Aa).block≠(As (Z ⟨d,0,J⟩) k G3).ownBlock:=λo h=>by simp[Sv]at h;omega);have f0:=U.cell (BX NA _) (D _);have Gz:=U.cell (BX g1 _) (D _);have HE:=U.cell (BX Ds _) (D _);have Rg:=U.cell (BX g3 _) (D _);have yB:=A3 DO;have dr:=A3 U;have aAY:=A3 fJ;clear DO U fJ D));all_goals
    have aVm:wr.heap.size+1<=N.heap.size:=by have:=X.out.size;omega
    have S:Below w.heap.size w (N.alloc (BE #[AI p,AI v,AI s] 217)):=(j.out.trans ((Q.out.trans (X.out.mono Q.out.size)).mono G_)).alloc (by omega) _;have EZ:Below w.heap.size w w3:=S.grown dr.out (by simp;omega) λk hk=>(Cx.out.lt k hk).1;have a19:Kf N K R:=(Cg.out.below Q.out).below X.out;have a18:Kf w3 K R:=λi hi=>by
     have D:∀o,Z (⟨K,o,J⟩:Aa).block≠(As (Z ⟨d,0,J⟩) k G3).ownBlock:=λo h=>by simp[Sv]at h;omega
     obtain⟨g5,fk,g0,g2⟩:=a19 i hi;exact⟨dr.out.cell (BX g5 _) (D _),dr.out.cell (BX fk _) (D _),dr.out.cell (BX g0 _) (D _),dr.out.cell (BX g2 _) (D _)⟩
    obtain⟨M,Eu,hv,a0E⟩:∃M Eu,v'=As (Z ⟨M,0,J⟩) (k+1) Eu/\M≠K:=by
     rcases yB.out.2 with⟨_,AV⟩|⟨M,Eu,hw,hv,_⟩;·omega
     ·refine⟨M,Eu,hv,?_⟩;have C:=aAY.out;rw[hv]at C;rcases C with C|C;·have C:M=d:=D3 C;rw[C];exact Kv
      ·have C:M=(N.alloc (BE #[AI p,AI v,AI s] 217)).heap.size:=D3 C;simp at C;omega
    have WA:AP ((∃g c,v'=As (Z ⟨g,0,J⟩) (k+1) c/\g≠K)/\w3.ownsRow w.heap.size 217 3 v' (k+1) (Kj (Jn f (R.take (k+1))))/\Below w.heap.size w w3/\Kf w3 K R):=by refine A3 ⟨⟨M,Eu,hv,a0E⟩,?_,EZ,a18⟩;rw[DU.out,aEf];exact yB.out
    clear EZ S a19 a18 hv;go_wp2;first
    |exact⟨⟨k+1,by omega,by go_num,WA⟩,by simp[Ay];omega⟩
    |
     (
      go_roundw;case rel=>exact⟨k+1,by omega,by go_num,WA⟩
      case measure=>simp[Ay];omega)
  ·have GK:k=R.length:=by omega
   subst GK;rw[On]at Cx;go_wp2;go_ret;exact⟨d,G3,R,rfl,E4.out,pE.out,Cx.out,j.out⟩
theorem aFy(n:Nat)(w:A')(hn:n<=1000000):AZ A4 204 #[As J 0 0,IS Po n] w λe w'=>∃v,e=hq v/\w'.ownsRow w.heap.size 217 3 v 0 []/\Below w.heap.size w w':=by
 obtain⟨s,hi,m,y,p⟩:=IT tG;by_cases f:n=0;·subst f;refine(Any8.slices_Grow_room Tryz.a'b J 0 0 0 w (by omega) (by omega) (by omega) (by omega)).mono ?_;rintro e w'⟨rfl,rfl⟩;exact⟨_,rfl,Vo _ _ _ _,B9 _ _⟩
 ·refine(Any8.slices_Grow_grow Tryz.a'b s _ hi m (by omega) J 0 0 n [] w (by omega) (by omega) (by rw[p];omega) (by omega) (by simp) (λ_=>rfl) λa h=>by cases h).mono ?_;rintro e w'⟨rfl,rfl⟩;have x:=grownCap_ge w (0+n) 0 217;have h2:=grownCap_le_maxLen w (0+n) 0 217 (by unfold BK;omega);refine⟨_,rfl,World.ownsRow_made w.drew _ _ (AX _) h2 ?_,?_⟩;·have h3:(dd #[AI ⟨#[]⟩,AI ⟨#[]⟩,AI ⟨#[]⟩]).cells.size=3:=rfl;have h4:grownCap w (0+n) 0 (Tryz.a'c.t 25)=grownCap w (0+n) 0 217:=rfl;rw[hY,hY,aAF,aAF,h3,h4];simp only[Kd,List.length_nil];omega
  ·have b:Below w.heap.size w w.drew:=⟨rfl,rfl,rfl,AX _,λ_ _=>rfl⟩;exact b.alloc (AX _) _
theorem aE0(g c b:Nat)(E:List Fy)(w:A')(p:w.cell? ⟨b,0,J⟩=Z (As J 0 0))(s:w.cell? ⟨b,1,J⟩=Z (As (Z ⟨g,0,J⟩) E.length c))(hc:∀j u,(Kj E)[j]?=Z u->w.cell? ⟨g,j,J⟩=Z u)(N:E.length<=1000000):AZ A4 131 #[As (Z ⟨b,0,J⟩) 2 2] w λe w'=>∃v,e=hq v/\w'.ownsRow w.heap.size 217 3 v E.length (Kj E)/\Below w.heap.size w w':=by
 obtain⟨H,hi,U,d,i⟩:=IT tG;have m:=A3 hc;have K:=A3 (aFy E.length w N);have o:¬(E.length:Int)<0:=by omega
 clear hc;go_enter Tryz.func131,Tryz.ntmps131;go_wp2;refine aY 3 ?_;rw[RI];go_wp2;rw[RI];go_wp2;rw[RI];go_wp2_with(go_at_call 204;refine K.out.mono ?_;rintro e w1⟨q,rfl,D,x⟩;have h:=A3 D;have f:=A3 x;clear D x);obtain⟨P,R,rfl⟩:=NO h.out;have c0:=Aw f.out p;have c1:=Aw f.out s;clear p s;refine aY 3 ?_;rw[RI];go_wp2_with(at_builtin;refine a_J rfl _ _ 119 rfl w.heap.size 217 H 3 dW hi _ _ _ rfl h.out rfl ?_);rw[RI];go_wp2_with(at_builtin;refine L4 _ rfl _ _ 119 rfl w.heap.size 217 H (dd #[AI ⟨#[]⟩,AI ⟨#[]⟩,AI ⟨#[]⟩]) 3 48 dW hi U d i rfl (by decide) _ _ _ rfl h.out ⟨g,0,J⟩ E.length c (Kj E) rfl (a'4 E) λj u A=>by rw[Gg];first|exact Aw f.out (m.out j u A)|(rw[Oq];exact Aw f.out (m.out j u A)) (aEe E) (by unfold BK;omega) (by omega) f.out.size ?_);intro v' w2 C z _;have y:Below w.heap.size w w2:=f.out.grown z f.out.size λk Q=>(h.out.lt k Q).1;have M:=A3 C;have I:=A3 y;clear C z y;go_wp2;rw[RI];go_wp2;go_ret;exact⟨v',rfl,M.out,I.out⟩
abbrev O1(x:Fy):A1:=dd #[AI x.1.1,AI x.1.2,AI x.2]
def U6(w:A')(g:Nat)(E:List Fy):Prop:=∀i(h:i<E.length),w.cell? ⟨g,i*3,J⟩=Z (AI E[i].1.1)/\w.cell? ⟨g,i*3+1,J⟩=Z (AI E[i].1.2)/\w.cell? ⟨g,i*3+2,J⟩=Z (AI E[i].2)
theorem U6.below{w':A'}(h:U6 w g E)(b:Below w.heap.size w w'):U6 w' g E:=λi hi=>⟨Aw b (h i hi).1,Aw b (h i hi).2.1,Aw b (h i hi).2.2⟩
theorem a'3(L:List Fy):∀j(h:j<L.length)(o:Nat)(u:A1),o<3->[AI L[j].1.1,AI L[j].1.2,AI L[j].2][o]?=Z u->(Kj L)[j*3+o]?=Z u:=by induction L with|nil=>intro j b;simp at b|cons x m f=>intro j b o u e hu;rw[a'2];match j with|0=>rw[jL (by simp;omega)];simpa using hu|j+1=>rw[T4 (by simp;omega)];have:=f j (by simp at b;omega) o u e hu;rw[<-this];congr 1;simp;omega
theorem a'1{B c n:Nat}{L:List Fy}(h:w.ownsRow B 217 3 (As (Z ⟨g,0,J⟩) n c) n (Kj L)):U6 w g L:=λj b=>by have k:=λo u e hu=>QV h _ _ (a'3 L j b o u e hu);exact⟨k 0 _ (by omega) rfl,k 1 _ (by omega) rfl,k 2 _ (by omega) rfl⟩
theorem aDz(x y:Fy)(m:Int)(w:A')(A:x.1.2.size<=40)(C:y.1.2.size<=40)(D:w.cell? ⟨0,0,J⟩=Z (IS Po m)):AZ A4 133 #[O1 x,O1 y] w λe w'=>e=hq (IS Po (GM x.1 y.1))/\Below w.heap.size w w'/\w.drawn<=w'.drawn:=by obtain⟨⟨p,v⟩,s⟩:=x;obtain⟨⟨H,I⟩,M⟩:=y;simp only[O1]at*;go_enter Tryz.func133,Tryz.ntmps133;go_wp2_with fail;refine(qJ (p,v) (H,I) m _ A C (BX (BX D _) _)).mono ?_;rintro e K⟨rfl,b,f⟩;have h:=A3 ((Md w _ _).trans (b.mono (Md w _ _).size));have z:AP (w.drawn<=K.drawn):=A3 f;clear b f;go_wp2;go_ret;exact⟨rfl,h.out,z.out⟩
abbrev cv:Type:={x:Fy//x.1.2.size<=40}
instance:Inhabited cv:=⟨⟨((⟨#[]⟩,⟨#[]⟩),⟨#[]⟩),by show(0:Nat)<=40;omega⟩⟩
def qd(x:cv):List A1:=[AI x.1.1.1,AI x.1.1.2,AI x.1.2]
def aDV(x y:cv):Int:=GM x.1.1 y.1.1
theorem aEl:∀b w,(Pw 133 b).run A4 w=aY6 (aYl 133 b) w:=by intro b w;exact aZh Tryz.func133 (by kernel_rfl) rfl b w
theorem aCK:∀w,(aZT (Tryz.uw.t 24)).run A4 w=aY6 A0 w:=by intro w;kernel_rfl
theorem aR0:∀w,(UK (Tryz.uw.t 24)).run A4 w=aY6 3 w:=by intro w;kernel_rfl
def Yh(L:List Fy)(hv:∀x∈L,x.1.2.size<=40):List cv:=L.pmap (λx h=>⟨x,h⟩) hv
theorem aEu(L:List Fy)(hv:∀x∈L,x.1.2.size<=40):(Yh L hv).map (·.1)=L:=by unfold Yh;rw[aB_];simp
theorem qe(L:List Fy)(hv:∀x∈L,x.1.2.size<=40):(Yh L hv).length=L.length:=by simp[Yh]
def Xa(L:List Fy):Prop:=L.Pairwise λa b=>GM a.1 b.1<=0
theorem aRA(p:Option Aa)(c:Nat)(f:A1)(w:A'):AZ A4 132 #[As p 0 c,f] w λe w'=>e=hq (aY8 #[])/\w'=w:=AnyF.slices_SortFunc_none Tryz.a5e p c f w
theorem aR9(g cap:Nat)(m:Int)(L:List Fy)(w:A')(H:L.length<=1000000)(hv:∀x∈L,x.1.2.size<=40)(C:g≠0)(D:g<w.heap.size)(K:U6 w g L)(A:∀o,w.frozen? ⟨g,o,J⟩=A5)(s:w.cell? ⟨0,0,J⟩=Z (IS Po m)):AZ A4 132 #[As (Z ⟨g,0,J⟩) L.length cap,aYK (aYI 133) #[] #[]] w λe w'=>e=hq (aY8 #[])/\∃R,R.Perm L/\Xa R/\U6 w' g R/\K4 g w.heap.size w w':=by
 have h:=a5i Tryz.a5e 3 aCK aR0 qd (λx=>rfl) (by omega) λx v hx=>by simp[qd]at hx;rcases hx with rfl|rfl|rfl<;>rfl aDV (c8.back λx:cv=>x.1.1) 133 aEl g cap (Yh L hv) w (by rw[qe];exact H) D (λj b o p=>?_) A λwx M x y=>?_
 ·rw[qe]at h;refine h.mono ?_;rintro e w'⟨rfl,R,I,hs,hc,z⟩;refine⟨rfl,R.map (·.1),?_,?_,λj b=>?_,z⟩;·have:=I.map (·.1);rwa[aEu]at this
  ·unfold Xa;rw[YM];exact hs
  ·have f:j<R.length:=by simpa using b
   have k:=λo p=>hc j f o p;simp only[pZ];exact⟨k 0 (by omega),k 1 (by omega),k 2 (by omega)⟩
 ·have f:j<L.length:=by rw[qe]at b;exact b
  have he:(Yh L hv)[j].1=L[j]:=by simp[Yh]
  have hc:=K j f;unfold qd;rw[he];match o,p with|0,_=>exact hc.1|1,_=>exact hc.2.1|2,_=>exact hc.2.2
 ·exact aDz x.1 y.1 m wx x.2 y.2 ((F4 (a:=⟨0,0,J⟩) (M 0 (Ff (h:=s)) (JK C))).trans s)
theorem qB(x y:ByteArray):x.toList=y.toList↔x=y:=by
 constructor;·intro h;rw[Vg,Vg]at h;exact zK h
 ·rintro rfl;rfl
theorem a'8(n:Nat)(a b c d:ByteArray)(w:A'):(Mt (n+2) 85 (dd #[AI a,AI b]) (dd #[AI c,AI d])).run A4 w=aY6 (Bn (((a,b):Ax)=(c,d))) w:=by
 have h:=Tryz.underlying9;have m:=Tryz.isAgg9;have p:=Tryz.sizeOf9;have f:A4.underlying 85=Z (aYu (A4.fieldsOf 85)):=by kernel_rfl
 rw[aAB w (n+1) 85 _ _ f (by kernel_rfl)];simp only[a8J,Xv];go_simp;simp only[qB];by_cases e:a=c<;>by_cases h2:b=d<;>simp[e,h2]
theorem aEw(n:Nat)(x y:Fy)(w:A'):(Mt (n+3) 217 (O1 x) (O1 y)).run A4 w=aY6 (Bn (x=y)) w:=by
 obtain⟨⟨a,b⟩,s⟩:=x;obtain⟨⟨c,d⟩,t⟩:=y;have m:=Tryz.underlying9;have z:=Tryz.isAgg9;have C:=Tryz.sizeOf9;have e:=Tryz.isAgg85;have p:=Tryz.sizeOf85;have A:=a'8 n;have h:A4.underlying 217=Z (aYu (A4.fieldsOf 217)):=by kernel_rfl
 simp only[O1];rw[aAB w (n+2) 217 _ _ h (by kernel_rfl)];simp only[a8J,Tryz.underlying217];go_simp;simp only[qB];by_cases f:a=c<;>by_cases h2:b=d<;>by_cases h3:s=t<;>simp[f,h2,h3]
theorem aEz(a b c d:ByteArray)(w:A'):(Sx aYw 85 (dd #[AI a,AI b]) (dd #[AI c,AI d])).run A4 w=aY6 (aY5 (Bn (((a,b):Ax)=(c,d)))) w:=by have h:(Mt iP 85 (dd #[AI a,AI b]) (dd #[AI c,AI d])).run A4 w=aY6 (Bn (((a,b):Ax)=(c,d))) w:=a'8 9998 a b c d w;simp[Sx,Ss,h,K_]
theorem aEy(x y:Fy)(w:A'):(Sx aYw 217 (O1 x) (O1 y)).run A4 w=aY6 (aY5 (Bn (x=y))) w:=by have h:(Mt iP 217 (O1 x) (O1 y)).run A4 w=aY6 (Bn (x=y)) w:=aEw 9997 x y w;simp only[O1]at h;simp[Sx,Ss,h,K_]
theorem zj(p:Option Aa)(n c:Nat)(w:A')(h2:n<2):AZ A4 134 #[As p n c] w λe w'=>e=hq (As p n c)/\w'=w:=by
 have b:(n:Int)<2:=by omega
 go_enter Tryz.func134,Tryz.ntmps134;go_wp2;go_ret;exact⟨rfl,rfl⟩
theorem aDt(g c:Nat)(L:List Fy)(w:A')(C:U6 w g L)(BI:L.length<=1000000)(A:∀k(h:k+1<L.length),L[k+1]≠L[k]):AZ A4 134 #[As (Z ⟨g,0,J⟩) L.length c] w λe w'=>e=hq (As (Z ⟨g,0,J⟩) L.length c)/\Below w.heap.size w w':=by
 by_cases h2:L.length<2;·refine(zj _ _ c w h2).mono ?_;rintro e w'⟨rfl,rfl⟩;exact⟨rfl,B9 _ _⟩
 ·have z:=A3 C;have H:=A3 A;have Rk:¬(L.length:Int)<2:=by omega
  clear C A;go_enter Tryz.func134,Tryz.ntmps134;go_wp2_with fail;go_loopw[3]λi wr=>∃k:Nat,1<=k/\k<=L.length/\i=IS Po k/\AP (Below w.heap.size w wr)(λi _=>L.length-(Ay i).toNat);case atStart=>exact⟨1,by omega,by omega,rfl,A3 (B9 _ _)⟩
  case round=>
   obtain⟨k,JQ,Q,rfl,b⟩:=hrel;by_cases hlt:k<L.length
   ·obtain⟨d,rfl⟩:∃d,k=d+1:=⟨k-1,by omega⟩;have K:d<L.length:=by omega
    obtain⟨c0,c1,c2⟩:=z.out.below b.out (d+1) hlt;obtain⟨c4,c5,m⟩:=z.out.below b.out d K;have Jt:(0:Int)<(d:Int)+1:=by omega
    have N:(d:Int)+1<(L.length:Int):=by omega
    have U:0<=(d:Int)+1/\(d:Int)+1<(L.length:Int):=⟨by omega,N⟩;have f:AP (∀wx,(Sx aYw 217 (O1 L[d+1]) (O1 L[d])).run A4 wx=aY6 (aY5 A5) wx):=A3 λwx=>by rw[aEy,decide_eq_false (H.out d hlt)]
    have e1:(d:Int)+1-1=(d:Int):=by omega
    have e2:(d:Int)<(L.length:Int):=by omega
    generalize L[d+1]=x at c0 c1 c2 f;generalize L[d]=y at c4 c5 m f;obtain⟨⟨p,v⟩,s⟩:=x;obtain⟨⟨E1,v'⟩,D9⟩:=y;simp only[O1]at*;have j:=Nn c0;have k1:=Nn c1;have o:=Nn c2;have q:=Nn c4;have u:=Nn c5;have P:=Nn m;have M:=f.out;have S:A4.follows aZF=A0:=by kernel_rfl
    have TR:A4.eqGuardType A4.depth 217=A5:=by kernel_rfl
    clear f;go_wp2_with fail;refine aAH S (by kernel_rfl) ?_;repeat(go_big_quiet_step(fail))
    refine aAG ?_;intro W X;obtain⟨⟨I,uB⟩,D⟩:=X;have R:AP (Below w.heap.size w W):=A3 (by rw[D];exact b.out.trans ((aA5 wr I uB).mono b.out.size));clear D j k1 o q u P c0 c1 c2 c4 c5 m M;go_wp2;first
    |exact⟨⟨d+1+1,by omega,by omega,by go_num,R⟩,by simp[Ay];omega⟩
    |
     (
      go_roundw;case rel=>exact⟨d+1+1,by omega,by omega,by go_num,R⟩
      case measure=>simp[Ay];omega)
   ·have he:k=L.length:=by omega
    subst he;go_wp2;go_ret;exact⟨rfl,b.out⟩
def Pl(w:A')(v:A1)(E:List Fy):Prop:=v=As J 0 0/\E=[]∨∃g c,v=As (Z ⟨g,0,J⟩) E.length c/\U6 w g E
theorem Pl.below{w w':A'}{v:A1}{E:List Fy}(h:Pl w v E)(e:Below w.heap.size w w'):Pl w' v E:=by
 rcases h with h|⟨g,c,b,h2⟩;·exact AA h
 ·exact AF ⟨g,c,b,h2.below e⟩
theorem Pl.open{v:A1}(h:Pl w v E):∃a c,v=As a E.length c/\∀k(h:k<E.length),∃g,a=Z ⟨g,0,J⟩/\w.cell? ⟨g,k*3,J⟩=Z (AI E[k].1.1)/\w.cell? ⟨g,k*3+1,J⟩=Z (AI E[k].1.2)/\w.cell? ⟨g,k*3+2,J⟩=Z (AI E[k].2):=by
 rcases h with⟨rfl,rfl⟩|⟨g,c,rfl,h⟩;·exact⟨J,0,rfl,λk h=>by cases h⟩
 ·exact⟨_,c,rfl,λk b=>⟨g,rfl,h k b⟩⟩
theorem aRC(B:Nat)(v:A1)(m:Int)(E:List Fy)(w:A')(AQ:w.ownsRow B 217 3 v E.length (Kj E))(I:0<B)(s:E.length<=1000000)(hs:∀x∈E,x.1.2.size<=40)(C:w.cell? ⟨0,0,J⟩=Z (IS Po m)):AZ A4 132 #[v,aYK (aYI 133) #[] #[]] w λe w'=>e=hq (aY8 #[])/\∃R,R.Perm E/\Xa R/\Pl w' v R/\∃b,B<=b/\K4 b w.heap.size w w':=by
 rcases AQ.2 with⟨rfl,p⟩|⟨g,c,H,rfl,A,f,_⟩;·obtain rfl:=List.length_eq_zero_iff.1 p;refine(aRA J 0 _ w).mono ?_;rintro e w'⟨rfl,rfl⟩;exact⟨rfl,[],.refl _,.nil,AA ⟨rfl,rfl⟩,B,AX _,K4.refl _ _ _⟩
 ·refine(aR9 g c m E w s hs (by omega) (Array.getElem?_eq_some_iff.1 f).1 (a'1 AQ) (λo=>Dv f o) C).mono ?_;rintro e w'⟨rfl,R,h,D,y,z⟩;exact⟨rfl,R,h,D,AF ⟨g,c,by rw[h.length_eq],y⟩,g,A,z⟩
theorem aDu(v:A1)(R:List Fy)(w:A')(h:Pl w v R)(b:R.length<=1000000)(f:∀k(h:k+1<R.length),R[k+1]≠R[k]):AZ A4 134 #[v] w λe w'=>e=hq v/\Below w.heap.size w w':=by
 rcases h with⟨rfl,rfl⟩|⟨g,c,rfl,h⟩;·refine(zj J 0 0 w (by omega)).mono ?_;rintro e w'⟨rfl,rfl⟩;exact⟨rfl,B9 _ _⟩
 ·exact aDt g c R w h b f
theorem aMO(a:Ax):GM a a=0:=c8.refl a
theorem aMY(g c:Nat)(m:Int)(E:List Fy)(w:A')(hc:U6 w g E)(P:E.length<=1000000)(hs:∀x∈E,x.1.2.size<=40)(md:E.Pairwise λa b=>GM a.1 b.1≠0)(hm:w.cell? ⟨0,0,J⟩=Z (IS Po m)):AZ A4 63 #[As J 0 0,As (Z ⟨g,0,J⟩) E.length c] w λe w'=>∃v R,e=hq (aY8 #[v,aYA])/\R.Perm E/\Xa R/\Pl w' v R/\Below w.heap.size w w':=by
 have Wj:∀j u,(Kj E)[j]?=Z u->w.cell? ⟨g,j,J⟩=Z u:=λj u f=>by
  have Wr:j<E.length*3:=by rw[<-a'4];exact(List.getElem?_eq_some_iff.1 f).1
  have AD:j/3<E.length:=by omega
  have Hj:=hc (j/3) AD;have AB:=λo u=>a'3 E (j/3) AD o u;have e:j=j/3*3+j%3:=by omega
  have A7:j%3<3:=by omega
  rw[e]at f⊢;generalize j%3=o at A7 f;match o,A7,f with|0,_,f=>rw[AB 0 _ (by omega) rfl]at f;rw[<-f];exact Hj.1|1,_,f=>rw[AB 1 _ (by omega) rfl]at f;rw[<-f];exact Hj.2.1|2,_,f=>rw[AB 2 _ (by omega) rfl]at f;rw[<-f];exact Hj.2.2
 have FH:=A3 Wj;have DU:=A3 hs;have j2:=A3 md;have D2:=A3 hm;clear hc hs md hm Wj;have S:Below w.heap.size w (w.alloc (BE #[As J 0 0,As (Z ⟨g,0,J⟩) E.length c] 119)):=(B9 _ w).alloc (AX _) _;have dn:=A3 S;have W:=FX w (BE #[As J 0 0,As (Z ⟨g,0,J⟩) E.length c] 119) _ rfl;have xt:=A3 (aE0 g c w.heap.size E (w.alloc (BE #[As J 0 0,As (Z ⟨g,0,J⟩) E.length c] 119)) (by rw[Ad W];rfl) (by rw[Ad W];rfl) (λj u f=>Aw S (FH.out j u f)) P);clear S W;go_enter Tryz.func63,Tryz.ntmps63;go_wp2_with(go_at_call 131;refine xt.out.mono ?_;rintro e w1⟨Hr,rfl,I5,Ae⟩;have X:=A3 I5;have C:AP (Below w.heap.size w w1):=A3 (dn.out.trans (Ae.mono dn.out.size));(have aVF:=Ae.size);clear I5 Ae);have eo:0<w.heap.size:=Ff (h:=D2.out);obtain⟨JC,G3,rfl⟩:=NO X.out;have xu:=A3 (aRC _ _ m E w1 X.out (by simp) P DU.out (Aw C.out D2.out));go_wp2_with(go_at_call 132;refine xu.out.mono ?_;rintro e A⟨rfl,R,hp,KL,OE,b,hb,H⟩;have E4:=A3 hp;have pE:=A3 KL;have pN:=A3 OE;(have Cl:AP (Below w.heap.size w A):=A3 ⟨H.os.trans C.out.os,H.tape.trans C.out.tape,H.output.trans C.out.output,HA C.out.size H.size,λk hk=>(H.block k (by have:=C.out.size;omega) (by simp at hb;omega)).trans (C.out.block k hk)⟩);clear hp KL OE H hb);have y9:AP (∀k(h:k+1<R.length),R[k].1≠R[k+1].1):=A3 λk hk h=>by have:=List.pairwise_iff_getElem.1 ((E4.out.pairwise_iff λ{a b}h=>lo h).2 j2.out) k (k+1) (by omega) hk (by omega);rw[h]at this;exact this (aMO _)
 have yE:AP (R.length=E.length):=A3 E4.out.length_eq;have DS:AP (∀k(h:k<R.length),∃D,JC=Z ⟨D,0,J⟩/\A.cell? ⟨D,k*3,J⟩=Z (AI R[k].1.1)/\A.cell? ⟨D,k*3+1,J⟩=Z (AI R[k].1.2)/\A.cell? ⟨D,k*3+2,J⟩=Z (AI R[k].2)):=by obtain⟨a,c',e,f1⟩:=pN.out.open;injection e with e;subst e;exact A3 f1
 clear X xt xu;go_loopw[17]λi wr=>∃k:Nat,k<=E.length/\i=IS Po k/\AP (Below A.heap.size A wr)(λi _=>E.length-(Ay i).toNat);case atStart=>exact⟨0,by omega,rfl,A3 (B9 _ _)⟩
 case round=>
  obtain⟨k,hk,rfl,z⟩:=hrel;by_cases hlt:k<E.length
  ·have sE:k<R.length:=by rw[yE.out];exact hlt
   obtain⟨D,rfl,c0,c1,c2⟩:=DS.out k sE;have c0:=Aw z.out c0;have c1:=Aw z.out c1;have c2:=Aw z.out c2;have G_:A.heap.size<=wr.heap.size:=z.out.size;have Fl:D<wr.heap.size:=Ff (h:=c0);by_cases Jt:k=0
   ·subst Jt;have aVQ:0<R.length:=sE;generalize R[0]=x at c0 c1 c2;obtain⟨⟨p,v⟩,s⟩:=x;simp only at c0 c1 c2;go_wp2_with fail;go_quiet(fail);have K:AP (Below A.heap.size A ((wr.alloc (BE #[AI p,AI v,AI s] 217)).drewN nq)):=A3 (Je (z.out.alloc G_ _) _);go_wp2;first
    |exact⟨⟨1,by omega,by go_num,K⟩,by simp[Ay];omega⟩
    |
     (
      go_roundw;case rel=>exact⟨1,by omega,by go_num,K⟩
      case measure=>simp[Ay];omega)
   ·obtain⟨d,rfl⟩:∃d,k=d+1:=⟨k-1,by omega⟩;have aHI:d<R.length:=by omega
    obtain⟨aUu,Q,q,M,N⟩:=DS.out d aHI;injection Q with Q;injection Q with Q;subst Q;have q:=Aw z.out q;have M:=Aw z.out M;have N:=Aw z.out N;have I:AP (∀wx,(Sx aYw 85 (dd #[AI R[d].1.1,AI R[d].1.2]) (dd #[AI R[d+1].1.1,AI R[d+1].1.2])).run A4 wx=aY6 (aY5 A5) wx):=A3 λwx=>by rw[aEz,decide_eq_false (y9.out d sE)]
    have Jt:(0:Int)<(d:Int)+1:=by omega
    have fZ:(d:Int)+1<(E.length:Int):=by omega
    have a0f:0<=(d:Int)+1/\(d:Int)+1<(E.length:Int):=⟨by omega,fZ⟩;have e1:(d:Int)+1-1=(d:Int):=by omega
    have e2:(d:Int)<(E.length:Int):=by omega
    generalize R[d+1]=x at c0 c1 c2 I;generalize R[d]=y at q M N I;obtain⟨⟨p,v⟩,s⟩:=x;obtain⟨⟨E1,v'⟩,D9⟩:=y;simp only at c0 c1 c2 q M N I;have Ie:=I.out;have TR:A4.eqGuardType A4.depth 85=A5:=by kernel_rfl
    clear I;go_wp2_with fail;have f0:=BX q (BE #[AI p,AI v,AI s] 217);have Gz:=BX M (BE #[AI p,AI v,AI s] 217);have HE:=BX N (BE #[AI p,AI v,AI s] 217);go_quiet(fail);have K:AP (Below A.heap.size A ((wr.alloc (BE #[AI p,AI v,AI s] 217)).drewN nq)):=A3 (Je (z.out.alloc G_ _) _);go_wp2;first
    |exact⟨⟨d+1+1,by omega,by go_num,K⟩,by simp[Ay];omega⟩
    |
     (
      go_roundw;case rel=>exact⟨d+1+1,by omega,by go_num,K⟩
      case measure=>simp[Ay];omega)
  ·have GK:k=E.length:=by omega
   subst GK;have aAK:=A3 (aDu _ R wr (pN.out.below z.out) (by rw[yE.out];exact P) λk h e=>y9.out k h (by rw[e]));go_wp2_with(go_at_call 134;refine aAK.out.mono ?_;rintro e w4⟨rfl,U⟩;have H6:=A3 U;clear U);go_ret2;have U:=Cl.out.trans ((z.out.trans (H6.out.mono z.out.size)).mono Cl.out.size);exact⟨_,R,rfl,E4.out,pE.out,(pN.out.below z.out).below H6.out,U⟩
def Rf(x:Fy):ByteArray:=x.1.1++⟨#[32]⟩++x.1.2++⟨#[32]⟩++x.2++⟨#[10]⟩
def KE(E:List Fy):List UInt8:=E.flatMap λx=>(Rf x).data.toList
theorem a'5(E:List Fy)(k:Nat)(h:k<E.length):KE (E.take (k+1))=KE (E.take k)++(Rf E[k]).data.toList:=by unfold KE;rw[VF E k h,jJ];simp
theorem aCl(s:ByteArray):Xn s=Pp s.data.toList:=by obtain⟨⟨l⟩⟩:=s;simp[Xn,Pp]
theorem aCj(a b:List UInt8):Pp a++Pp b=Pp (a++b):=by simp[Pp]
theorem aCk(a:List UInt8):(Pp a).length=a.length:=by simp[Pp]
theorem aD6{T e B b:Nat}{AL:List A1}{w':A'}(h:R9 T e B b AL w)(f:Below w.heap.size w w'):R9 T e B b AL w':=by
 have m:∀p,dN T e B b p AL w->dN T e B b p AL w':=by rintro p⟨s,v,h2,h3,h4⟩;have hlt:b<w.heap.size:=(Array.getElem?_eq_some_iff.1 h2).1;refine⟨s,v,by rw[f.block b hlt];exact h2,?_,h4⟩;refine h3.kept (row:=J) ⟨f.os,f.tape,f.output,f.size,λk y _=>f.block k y⟩ ?_;cases v.ownBlock with|none=>exact AA rfl|some x=>exact AF (by simp)
 rcases h with h|h;·exact AA (m _ h)
 ·exact AF (m _ h)
theorem aEh(E:List Fy)(hs:∀x∈E,x.1.1.size<=1000/\x.1.2.size<=1000/\x.2.size<=1000)(k:Nat)(f:k<=E.length):(KE (E.take k)).length<=k*4000:=by
 induction k with
 |zero=>simp[KE]
 |succ k h=>
  have b:k<E.length:=f;rw[a'5 E k b,HN];have m:=h (by omega);obtain⟨h2,h3,h4⟩:=hs E[k] (EC b);have e:(Rf E[k]).data.toList.length=E[k].1.1.size+1+E[k].1.2.size+1+E[k].2.size+1:=by unfold Rf;simp;show E[k].1.1.size+(E[k].1.2.size+(E[k].2.size+1+1)+1)=_;omega
  rw[e];omega
theorem aSF(v:A1)(E:List Fy)(w:A')(hv:Pl w v E)(fd:E.length<=1000000)(hs:∀x∈E,x.1.1.size<=1000/\x.1.2.size<=1000/\x.2.size<=1000):AZ A4 67 #[v] w λe w'=>e=hq (AI ⟨(KE E).toArray⟩)/\Below w.heap.size w w':=by
 obtain⟨a,c,rfl,d⟩:=hv.open;have o:=A3 d;have JH:=A3 hs;have Cm:=A3 (aEh E hs);have Q:R9 190 5 w.heap.size w.heap.size [] (w.alloc (BE #[aY4 J,As J 0 0] 190)):=AA ⟨AX _,As J 0 0,No w _,⟨rfl,AA ⟨rfl,rfl⟩⟩,by simp[Sv]⟩;have q:=A3 Q;clear Q hv d hs;go_enter Tryz.func67,Tryz.ntmps67;go_wp2;go_loopw[8]λi wr=>∃k:Nat,k<=E.length/\i=IS Po k/\AP (R9 190 5 w.heap.size w.heap.size (Pp (KE (E.take k))) wr/\Below w.heap.size w wr)(λi _=>E.length-(Ay i).toNat);case atStart=>exact⟨0,by omega,rfl,A3 ⟨q.out,(B9 _ _).alloc (AX _) _⟩⟩
 case round=>
  obtain⟨k,hk,rfl,H⟩:=hrel;obtain⟨M,D⟩:=H.out;have m:=A3 M;have b:=A3 D;clear H M D;by_cases hlt:k<E.length
  ·obtain⟨g,rfl,c0,c1,c2⟩:=o.out k hlt;have c0:=Aw b.out c0;have c1:=Aw b.out c1;have c2:=Aw b.out c2;have y:=A3 (a'5 E k hlt);have u:w.heap.size<=wr.heap.size:=b.out.size;have Fl:g<wr.heap.size:=Ff (h:=c0);have U:(Pp (KE (E.take k))).length+(Rf E[k]).size<=140737488355328:=by
    rw[aCk];have f:=Cm.out (k+1) (by omega);rw[y.out,HN]at f;have h2:(Rf E[k]).data.toList.length=(Rf E[k]).size:=by simp
    rw[h2]at f;omega
   have z:AP (∀wx,R9 190 5 w.heap.size w.heap.size (Pp (KE (E.take k))) wx->w.heap.size<=wx.heap.size->AZ A4 101 #[aY4 (Z ⟨w.heap.size,0,J⟩),AI (Rf E[k])] wx λe w'=>e=hq (aY8 #[IS Po (Rf E[k]).size,aYA])/\dN 190 5 w.heap.size w.heap.size (aY4 (Z ⟨w.heap.size,0,J⟩)) (Pp (KE (E.take k))++Xn (Rf E[k])) w'/\Below w.heap.size wx w'):=A3 λwx f h2=>a6X _ _ _ _ wx f U h2;generalize hx:E[k]=x at c0 c1 c2 y z;obtain⟨⟨p,v⟩,s⟩:=x;have A:AP (Rf ((p,v),s)=p++⟨#[32]⟩++v++⟨#[32]⟩++s++⟨#[10]⟩):=A3 rfl;simp only at c0 c1 c2;obtain⟨E2,z2,z3⟩:=JH.out E[k] (EC hlt);rw[hx]at E2 z2 z3;simp only at E2 z2 z3;have e1:(L0 #[32]).size=1:=rfl;have e2:(L0 #[10]).size=1:=rfl;have k1:=I_ p ⟨#[32]⟩ (by omega);have P:=I_ (p++⟨#[32]⟩) v (by rw[G2];omega);have R:=I_ (p++⟨#[32]⟩++v) ⟨#[32]⟩ (by rw[G2,G2];omega);have S:=I_ (p++⟨#[32]⟩++v++⟨#[32]⟩) s (by rw[G2,G2,G2];omega);have j:=I_ (p++⟨#[32]⟩++v++⟨#[32]⟩++s) ⟨#[10]⟩ (by rw[G2,G2,G2,G2];omega);rw[<-A.out]at j;clear hx U e1 e2 A;go_wp2_with(go_at_call 101;refine(z.out _ (aD6 m.out ((B9 _ wr).alloc (AX _) _)) (by simp;omega)).mono ?_;rintro e w4⟨rfl,N,I⟩;have W:=A3 N;have X:=A3 ((b.out.alloc u _).trans I);clear N I);have C:AP (R9 190 5 w.heap.size w.heap.size (Pp (KE (E.take (k+1)))) w4/\Below w.heap.size w w4):=by refine A3 ⟨AF ?_,X.out⟩;rw[y.out,<-aCj,<-aCl];exact W.out
   clear k1 P R S j;go_wp2;first
   |exact⟨⟨k+1,by omega,by go_num,C⟩,by simp[Ay];omega⟩
   |
    (
     go_roundw;case rel=>exact⟨k+1,by omega,by go_num,C⟩
     case measure=>simp[Ay];omega)
  ·have GK:k=E.length:=by omega
   subst GK;rw[On]at m;go_wp2_with fail;refine(Any.Builder_String_any Tryz.a2J Tryz.vc w.heap.size w.heap.size (KE E) _ m.out b.out.size).mono ?_;rintro e ES⟨rfl,K⟩;have UL:=A3 (b.out.trans K);clear K;go_wp2;go_ret;exact⟨rfl,UL.out⟩
theorem aKa(w:A'):AZ A4 57 #[AI ⟨#[]⟩] w λe w'=>e=hq (aY8 #[As J 0 0,aYA])/\w'=w:=by go_enter Tryz.func57,Tryz.ntmps57;go_wp2;refine aY 1 ?_;rw[RI];go_wp2;go_ret2;exact⟨rfl,rfl⟩
end
section
open Go.RowKit
variable{w:A'}{o1:Du}{ip:Nat->Nat->List (Nat×Nat)}{AW:Nat->Nat->Nat}
theorem aRf{P:Ac}{ops:Array Oper}{o:Oper}{a:Act}{K:Act->A'->Prop}{Q:Exit->Act->A'->Prop}{E:Prop}(p:A1->Prop)(M:o.guard=J)(s x:Operand)(t:A_)(A7:o.op=.call {callee:=.builtin .append,args:=#[s,x],argTypes:=#[t,t]})(base:Nat)(e:A_)(i:TypeInfo)(z:A1)(size bytes:Nat)(AH:P.underlying t=Z (.slice e))(hi:P.info? e=Z i)(AR:i.zero=Z z)(d:i.size=size)(H:i.bytes=bytes)(q:z.cells.size=size)(R:0<size)(C:∀u∈z.cells.toList,p u)(v:A1)(n:Nat)(xs:List A1)(hs:a.eval s=v)(AQ:w.ownsRow base e size v n xs)(S:GJ p w size v n)(ad:Aa)(m c:Nat)(b:List A1)(hx:a.eval x=As (Z ad) m c)(N:b.length=m*size)(W:∀j u,b[j]?=Z u->w.cell? (ad.add j)=Z u)(y:∀u∈b,u.oneCell'=A0)(U:0<m)(A:n+m<=BK)(I:(n+m)*bytes<=140737488355328)(D:base<=w.heap.size)(h:∀f w',w'.ownsRow base e size f (n+m) (xs++b)->w.grownBy w' v.ownBlock->GJ p w' size f (n+m)->K (a.put o.dst f) w'):if EY o (Gu ops a.tmps)=A0 then oL P o a w K Q else E:=by
 have X:EY o (Gu ops a.tmps)=A0:=by simp[EY,M]
 rw[if_pos X];obtain⟨f,w',A2,h2,h3,h4⟩:=a5K (P:=P) w p base t o.type e i z size bytes AH hi AR d H q R C v n xs AQ S ad m c b N W y U A I D;unfold oL execOp;simp only[A7,resolve,invoke,builtin,a9w,a9x,a9q,Le,GU,K8,hs,hx,A2];exact h f w' h2 h3 h4
def Rh:ByteArray:=⟨#[97,46,116,108]⟩
structure ar(AW:Nat->Nat->Nat)(ip:Nat->Nat->List (Nat×Nat))(B:Nat)(w:A')(q k:Nat)(r:Rel):Prop where
 path:r.p=V.mp q
 version:r.v=V.Df (AW q k)
 lk:r.m=FZ (V.mp q) (ip q k)
 DT:r.DT=(ip q k).map F2
 file:∃b,r.Bj=Z ⟨b,0,J⟩/\r.B4=1/\B<=b/\w.heap[b]?=Z (BE #[AI Rh,AI r.v] 77)
theorem ar.same{B:Nat}{w':A'}{q k:Nat}{r:Rel}(h:ar AW ip B w q k r)(e:∀(b:Nat)(c:Array A1)(q:Nat×Nat),w.heap[b]?=Z (BE c 77 q)->w'.heap[b]?=w.heap[b]?):ar AW ip B w' q k r:=by obtain⟨m,h2,h3,h4,b,p,s,x,f⟩:=h;exact⟨m,h2,h3,h4,b,p,s,x,(e b _ _ f).trans f⟩
def Zb(v:A1):Prop:=isStr v∨v=As J 0 0
structure Lg(AW:Nat->Nat->Nat)(ip:Nat->Nat->List (Nat×Nat))(w:A')(n:Nat)(v:A1)(wr:A')(L:List Rel):Prop where
 len:L.length=n
 rel:∀j(h:j<L.length),ar AW ip w.heap.size wr (j/3) (j%3) L[j]
 own:wr.ownsRow w.heap.size 75 4 v n (KR L)
 spare:GJ Zb wr 4 v n
 below:AS w.heap.size w wr
theorem Lg.start(AW:Nat->Nat->Nat)(ip:Nat->Nat->List (Nat×Nat))(w:A'):Lg AW ip w 0 (As J 0 0) w []:=⟨rfl,λj h=>absurd h (e9 j),Vo _ _ _ _,GJ.nil _ _ _,B9 _ _⟩
theorem Lg.drewN{AW:Nat->Nat->Nat}{ip:Nat->Nat->List (Nat×Nat)}{w:A'}{n:Nat}{v:A1}{wr:A'}{L:List Rel}(h:Lg AW ip w n v wr L)(m:Nat):Lg AW ip w n v (wr.drewN m) L:=⟨h.len,λj b=>(h.rel j b).same λ_ _ _ _=>rfl,h.own,h.spare,⟨h.below.os,h.below.tape,h.below.output,h.below.size,h.below.block⟩⟩
theorem Lg.next{n:Nat}{v v':A1}{wr w3:A'}{L:List Rel}{b:Nat}(h:Lg AW ip w n v wr L)(M:b=wr.heap.size)(o1 o2:Du)(H:o1=BE #[AI Rh,AI (V.Df (AW (n/3) (n%3)))] 77)(A:((wr.alloc o1).alloc o2).grownBy w3 v.ownBlock)(r:Rel)(A2:r=⟨V.mp (n/3),V.Df (AW (n/3) (n%3)),FZ (V.mp (n/3)) (ip (n/3) (n%3)),Z ⟨b,0,J⟩,1,1,(ip (n/3) (n%3)).map F2⟩)(U:w3.ownsRow w.heap.size 75 4 v' (n+1) (KR L++[AI r.p,AI r.v,AI r.m,As r.Bj r.B4 r.Bt]))(d:GJ Zb w3 4 v' (n+1)):Lg AW ip w (n+1) v' w3 (L++[r]):=by
 have i:=h.below.size;have I:∀k o,((wr.alloc o1).alloc o2).heap[k]?=Z o->(∀s,o≠BE s 75 (0,0))->w3.heap[k]?=((wr.alloc o1).alloc o2).heap[k]?:=λk o f N=>by
  refine A.block k (Array.getElem?_eq_some_iff.1 f).1 λe=>?_;rcases h.own.2 with⟨rfl,_⟩|⟨g,K,s,rfl,_,h3,_⟩;·cases e
  ·have e:k=g:=D3 e;subst e;have:((wr.alloc o1).alloc o2).heap[k]?=Z (BE s 75 (0,0)):=by have y:=(Array.getElem?_eq_some_iff.1 h3).1;rw[E' _ _ _ (by simp;omega),E' _ _ _ (by omega)];exact h3
   rw[f]at this;exact N s (D3 this)
 have Q:∀k,k<wr.heap.size->((wr.alloc o1).alloc o2).heap[k]?=wr.heap[k]?:=λk f=>by rw[E' _ _ _ (by simp;omega),E' _ _ _ (by omega)]
 refine⟨by rw[HN,h.len];rfl,λj C=>?_,?_,d,?_⟩
 ·by_cases D:j<L.length;·rw[List.getElem_append_left D];refine(h.rel j D).same λk c q f=>?_;have y:=Q k (Array.getElem?_eq_some_iff.1 f).1;rw[I k _ (y.trans f) λ_=>by simp];exact y
  ·have x:j=n:=by rw[HN,h.len]at C;simp at C;have:=h.len;omega
   subst x;have e:(L++[r])[j]=r:=by rw[List.getElem_append_right (by rw[h.len];exact AX _)];simp[h.len]
   rw[e,A2];refine⟨rfl,rfl,rfl,rfl,b,rfl,rfl,by omega,?_⟩;have z:((wr.alloc o1).alloc o2).heap[b]?=Z o1:=by rw[E' _ _ _ (by simp;omega)];exact FX _ _ _ M
   rw[I b _ z λ_=>by rw[H];simp,z,H]
 ·rw[a52];exact U
 ·exact((h.below.alloc i o1).alloc (by simp;omega) o2).grown A (by simp;omega) λk f=>(h.own.lt k f).1
theorem aRH:∀u∈(dd #[AI ⟨#[]⟩,AI ⟨#[]⟩,AI ⟨#[]⟩,As J 0 0]).cells.toList,Zb u:=by
 intro u hu;have hu:u∈[AI ⟨#[]⟩,AI ⟨#[]⟩,AI ⟨#[]⟩,As J 0 0]:=hu;simp at hu;rcases hu with rfl|rfl;·exact AA ⟨_,rfl⟩
 ·exact AF rfl
structure OY(W wx:A')(o1 o2:Du):Prop where
 heap:wx.heap=((W.alloc o1).alloc o2).heap
 os:wx.os=W.os
 tape:wx.tape=W.tape
 output:wx.output=W.output
theorem OY.old{W wx:A'}{o2:Du}(h:OY W wx o1 o2)(b:Nat)(e:b<W.heap.size):wx.heap[b]?=W.heap[b]?:=by rw[h.heap,E' _ _ _ (by simp;omega),E' _ _ _ (by omega)]
theorem OY.own{AW:Nat->Nat->Nat}{ip:Nat->Nat->List (Nat×Nat)}{w:A'}{n:Nat}{v:A1}{W wx:A'}{L:List Rel}{o1 o2:Du}(h:OY W wx o1 o2)(e:Lg AW ip w n v W L):wx.ownsRow w.heap.size 75 4 v n (KR L)/\GJ Zb wx 4 v n:=by
 obtain⟨a,y⟩:=e.own;refine⟨⟨a,y.imp (λz=>z) ?_⟩,e.spare.same λg b hv=>?_⟩;·rintro⟨g,b,f,m,h2,h3,h4⟩;exact⟨g,b,f,m,h2,(h.old g (Array.getElem?_eq_some_iff.1 h3).1).trans h3,h4⟩
 ·subst hv;exact h.old g (e.own.lt g rfl).2
theorem OY.src{W wx:A'}{g5 fk g0 g2:A1}(h:OY W wx o1 (BE #[g5,fk,g0,g2] 75))(j:Nat)(u:A1)(b:[g5,fk,g0,g2][j]?=Z u):wx.cell? ((⟨W.heap.size+1,0,J⟩:Aa).add j)=Z u:=by
 have e:wx.heap[W.heap.size+1]?=Z (BE #[g5,fk,g0,g2] 75):=by rw[h.heap];exact FX _ _ _ (by simp)
 match j,b with|0,b=>simp at b;subst b;rw[Gg,Ad e];rfl|1,b=>simp at b;subst b;rw[Gg,Ad e];rfl|2,b=>simp at b;subst b;rw[Gg,Ad e];rfl|3,b=>simp at b;subst b;rw[Gg,Ad e];rfl
theorem OY.next{AW:Nat->Nat->Nat}{ip:Nat->Nat->List (Nat×Nat)}{w:A'}{n q k:Nat}{v v':A1}{W wx w3:A'}{L:List Rel}{o2:Du}(e:wx.grownBy w3 v.ownBlock)(h:OY W wx (BE #[AI Rh,AI (V.Df (AW q k))] 77) o2)(p:Lg AW ip w n v W L)(z:n/3=q)(s:n%3=k)(y:w3.ownsRow w.heap.size 75 4 v' (n+1) (KR L++[AI (V.mp q),AI (V.Df (AW q k)),AI (FZ (V.mp q) (ip q k)),As (Z ⟨W.heap.size,0,J⟩) 1 1]))(A:GJ Zb w3 4 v' (n+1)):∃f,Lg AW ip w (n+1) v' w3 f:=by subst z s;refine⟨_,p.next (b:=W.heap.size) rfl _ o2 rfl ⟨e.os.trans h.os,e.tape.trans h.tape,e.output.trans h.output,by rw[<-h.heap];exact e.size,λb m x=>?_⟩ _ rfl y A⟩;rw[<-h.heap]at m⊢;exact e.block b m x
theorem aPy(AW:Nat->Nat->Nat)(ip:Nat->Nat->List (Nat×Nat))(f:Nat)(w:A')(S:∀q k,q<5->k<3->w.cell? ⟨f,q*3+k,J⟩=Z (IS Po (AW q k:Int))/\AW q k<30)(EH:∀q k,q<5->k<3->∃a n c,w.cell? ⟨f,15+q*3+k,J⟩=Z (As a n c)/\MO w (As a n c) (ip q k)/\(ip q k).length<=5/\∀x∈ip q k,x.1<5/\x.2<30):AZ A4 27 #[aY4 (Z ⟨f,0,J⟩)] w λe w'=>∃v L,e=hq v/\Lg AW ip w 15 v w' L:=by
 obtain⟨i0,hi,E9,DL,Cc⟩:=IT a1n;have X:=A3 S;have EW:=A3 EH;clear S EH;go_enter Tryz.func27,Tryz.ntmps27;go_wp2;go_loopw[3,4]λv p wr=>∃q:Nat,q<=5/\p=IS Po q/\AP (∃L,Lg AW ip w (q*3) v wr L)(λ_ p _=>5-(Ay p).toNat);case atStart=>exact⟨0,by omega,rfl,A3 ⟨[],Lg.start AW ip w⟩⟩
 case round=>
  obtain⟨q,AD,rfl,H⟩:=hrel;by_cases hlt:q<5
  ·go_wp2;rw[show Bn ((q:Int)<5)=A0 from decide_eq_true (by omega)];go_loopw[3,5]λv p wr=>∃k:Nat,k<=3/\p=IS Po k/\AP (∃L,Lg AW ip w (q*3+k) v wr L)(λ_ p _=>3-(Ay p).toNat);case atStart=>exact⟨0,by omega,rfl,H⟩
   case round=>
    clear H;obtain⟨k,hk,rfl,H⟩:=hrel;by_cases Q:k<3
    ·obtain⟨L,s⟩:=H.out;have Cg:=A3 s;have m:=s.below;obtain⟨c0,l2⟩:=X.out q k hlt Q;have c0:=Aw m c0;obtain⟨C,I,D,c1,Fo,fc,SC⟩:=EW.out q k hlt Q;have c1:=Aw m c1;have Lc:=A3 (Fo.later m);have G_:w.heap.size<=wr.heap.size:=m.size;obtain⟨JC,G3,rfl⟩:=NO s.own;clear m Fo s H;have fx:(q*3+k)/3=q:=by omega
     have N:(q*3+k)%3=k:=by omega
     go_wp2_with(go_at_call 22;refine(mu (AW q k) l2 _).mono ?_;rintro e w1⟨rfl,z,rfl⟩);have aI8:f<w.heap.size:=Ff (h:=(X.out q k hlt Q).1);have U:f≠wr.heap.size:=by omega
     have d:f≠wr.heap.size+1:=by omega
     have y:=A3 (Cg.out.drewN z);have c1:(wr.drewN z).cell? ⟨f,15+q*3+k,J⟩=Z (As C I D):=c1;have i:(wr.drewN z).heap.size=wr.heap.size:=rfl;have yD:AP (MO (wr.drewN z) (As C I D) (ip q k)):=Lc;clear c0 Cg Lc;generalize wr.drewN z=W at y c1 i yD⊢;rw[<-i]at G_ U d;clear i;have K:AP (∀wx:A',wx.heap=W.heap∨(∃o,wx.heap=W.heap.push o)->MO wx (As C I D) (ip q k)):=A3 λwx hx=>by
      have m:∀b,b<W.heap.size->wx.heap[b]?=W.heap[b]?:=λb m=>by
       rcases hx with e|⟨o,e⟩;·rw[e]
       ·rw[e,Array.getElem?_push_lt m,<-ET]
      rcases yD.out with h|⟨g,c,h,hc⟩;·exact AA h
      ·exact AF ⟨g,c,h,λj A=>⟨(F4 (a:=⟨g,j*2,J⟩) (m g (Ff (h:=(hc j A).1)))).trans (hc j A).1,(F4 (a:=⟨g,j*2+1,J⟩) (m g (Ff (h:=(hc j A).1)))).trans (hc j A).2⟩⟩
     have P:(V.mp q).size<=60:=by rw[Tk];omega
     go_region_held2 λwx=>wx.cell? ⟨f,15+q*3+k,J⟩=Z (As C I D)(first|(go_keep;done)|exact c1|exact BX c1 _|exact BX (BX c1 _) _|exact f0)(first|(go_at_call 21;refine(mO q hlt _).mono ?_;rintro e wx⟨rfl,rfl⟩)|(go_at_call 51;refine(aMC (V.mp q) P _ (ip q k) _ fc SC (K.out _ (by first|exact AA rfl|exact AF ⟨_,rfl⟩))).mono ?_;rintro e wx⟨rfl,PU,rfl⟩)|(refine aRf Zb rfl _ _ 47 rfl w.heap.size 75 i0 (dd #[AI ⟨#[]⟩,AI ⟨#[]⟩,AI ⟨#[]⟩,As J 0 0]) 4 72 oZ hi E9 DL Cc rfl (by decide) aRH (As JC (q*3+k) G3) (q*3+k) (KR L) rfl (OY.own (W:=W) (o1:=BE #[AI Rh,AI (V.Df (AW q k))] 77) (o2:=BE #[AI (V.mp q),AI (V.Df (AW q k)),AI (FZ (V.mp q) (ip q k)),As (Z ⟨W.heap.size,0,J⟩) 1 1] 75) ⟨rfl,rfl,rfl,rfl⟩ y.out).1 (OY.own (W:=W) (o1:=BE #[AI Rh,AI (V.Df (AW q k))] 77) (o2:=BE #[AI (V.mp q),AI (V.Df (AW q k)),AI (FZ (V.mp q) (ip q k)),As (Z ⟨W.heap.size,0,J⟩) 1 1] 75) ⟨rfl,rfl,rfl,rfl⟩ y.out).2 ⟨W.heap.size+1,0,J⟩ 1 1 [AI (V.mp q),AI (V.Df (AW q k)),AI (FZ (V.mp q) (ip q k)),As (Z ⟨W.heap.size,0,J⟩) 1 1] rfl rfl (OY.src (W:=W) (o1:=BE #[AI Rh,AI (V.Df (AW q k))] 77) ⟨rfl,rfl,rfl,rfl⟩) (by intro u hu;simp at hu;rcases hu with rfl|rfl|rfl|rfl<;>rfl) (by decide) (by unfold BK;omega) (by omega) (by simp;omega) ?_;intro v' w3 DO M GL;have f0:=M.cell ((F4 (a:=⟨f,15+q*3+k,J⟩) (OY.old (W:=W) (o1:=BE #[AI Rh,AI (V.Df (AW q k))] 77) (o2:=BE #[AI (V.mp q),AI (V.Df (AW q k)),AI (FZ (V.mp q) (ip q k)),As (Z ⟨W.heap.size,0,J⟩) 1 1] 75) ⟨rfl,rfl,rfl,rfl⟩ f (by omega))).trans c1) (λh=>by have:=(y.out.own.lt f h.symm).1;omega);have N4:=A3 (OY.next (W:=W) (o2:=BE #[AI (V.mp q),AI (V.Df (AW q k)),AI (FZ (V.mp q) (ip q k)),As (Z ⟨W.heap.size,0,J⟩) 1 1] 75) M ⟨rfl,rfl,rfl,rfl⟩ y.out fx N DO GL);clear DO M GL));all_goals
      go_wp2;first
      |exact⟨⟨k+1,by omega,by go_num,N4⟩,by simp[Ay];omega⟩
      |
       (
        go_roundw;case rel=>exact⟨k+1,by omega,by go_num,N4⟩
        case measure=>simp[Ay];omega)
    ·have N:k=3:=by omega
     subst N;have R:=H;rw[show q*3+3=(q+1)*3 by omega]at R;go_wp2;first
     |exact⟨⟨q+1,by omega,by go_num,R⟩,by simp[Ay];omega⟩
     |
      (
       go_roundw;case rel=>exact⟨q+1,by omega,by go_num,R⟩
       case measure=>simp[Ay];omega)
  ·have Z8:q=5:=by omega
   subst Z8;go_wp2;go_ret;obtain⟨L,s⟩:=H.out;exact⟨_,L,rfl,s⟩
end
end Go.Proofs.YtcfhleenecfghaaGreatDoor
