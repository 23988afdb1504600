import Derived.Laws.Tables
import Derived.Laws.AppendOwn
import Derived.Lib.Split
import Derived.Lib.Bytealg
import Derived.Lib.IndexBytes
import Derived.Lib.Strings
import Derived.Lib.FieldsP
import Derived.Lib.TrimUEq
import Derived.Lib.Small
import Derived.WalkKit
import Derived.WalkSpells
import Derived.WalkLawsBesides
import Derived.Deep.QuietTactic
import Derived.BigQuiet
import Derived.Test.YtcfhleenecfghaaGreatDoorRows
import Derived.Lib.LaidU8
import Derived.ProofKit
import Derived.JoinedOf
import Derived.Shelf.Strings.Builder1
import Derived.Shelf.Strings.Builder2
import Derived.Shelf.Small.Bits
import Derived.Shelf.Small.Strs
import Derived.Shelf.Small.Wraps
import Derived.Shelf.Utf8.RuneCount
import Derived.Shelf.Strconv.Itoa0
import Derived.Shelf.Strconv.Itoa1
import Derived.Shelf.LaysM
import Derived.Shelf.Strconv.Itoa2
import Derived.Shelf.Strconv.Clone
import Derived.Shelf.Strings.Search1
import Derived.Shelf.Strings.Search2
import Derived.Shelf.Strings.Search3
import Derived.Shelf.Strings.Cut
import Derived.Shelf.Strings.Count
import Derived.Shelf.Strings.Shaped
import Derived.Shelf.Strings.Prefix
import Derived.Shelf.Strings.Split
import Derived.Shelf.Strings.SplitShaped
import Derived.Shelf.Unicode.Decode
import Derived.Shelf.Strings.RuneCount
import Derived.Shelf.Strings.Explode
import Derived.Shelf.Bits.Mul64
import Derived.Shelf.Unicode.DecodeSlow
import Derived.Shelf.Unicode.DecodeAny
import Derived.Ground.Names2Prog
import Derived.Shelf.Slices.SearchI
import Derived.Shelf.Strings.BuilderF
import Derived.Shelf.Strings.BuilderK
import Derived.Shelf.Strings.FieldsFuncAny
import Derived.Shelf.SlLaysF0
import Derived.Shelf.SlGeneric
import Derived.Ground.SlsfProg
import Derived.Shelf.Spec.SlicesGrow
import Derived.WideMake
import Derived.DeepKeys4
import Derived.Great.BuildSlice
import Derived.RegionTactic
import Derived.BigRegion
import Derived.Deep.RegionWith
import Derived.Test.YtcfhleenecfghaaGreatDoorK2
set_option linter.all false
set_option maxHeartbeats 4000000
set_option maxRecDepth 100000
open Array renaming getD_eq_getD_getElem?->Iv,getElem?_eq_getElem->EP,getElem?_eq_none->Np,getElem?_push->SD,getElem?_push_lt->H_,getElem?_toList->Oi,length_toList->Nq,size_append->fO,size_push->bq
open Bool renaming and_eq_false_iff->aCu,and_eq_true->G0,and_self->aCv,and_true->qp,eq_iff_iff->VA,false->A9,false_eq_true->EJ,false_or->aCw,not_eq_true'->Qw,not_true->Tn,true->A3
open ByteArray renaming empty->B8,size->aCx
open Classical renaming choose->Z5,choose_spec->To
open Decidable renaming decide->Bz
open Go renaming Addr->Ak,Calls->Ai,Event->C5,Frame->Ag,Goroutine->AR,MapEntry->G1,Obj->Df,Oper->BR,Operand->C',Program->Ap,Trace->Dh,TypeId->Aj,TypeInfo->LJ,Value->A1,World->A0,below_drewN->IK,bodyPost_ret->Md,execOp->Ab,grownCap->cj,heap_alloc_new->Pz,heap_setCell_same->F2,info_parts->Ko,joinedFacts->aFX,keyOf->sT,maxLen->BH,results->D_,results_cell_row->XE,rounds_succ->LL,run_underlying->Q',setRow_heap->aFa,stuck->U0,typeInfo->Q2,undef->A',underlying->Jc,wpList_append_own->NB,wp_loop_rounds->U1,zeroValue->Q3
open Go.Act renaming eval->Cg
open Go.Addr renaming add->Qy
open Go.Builtin renaming append->f_,append_->VF,zeroCells->Nv
open Go.ByteArray renaming toList_eq->a'D
open Go.Callee renaming builtin->Kj
open Go.Calls renaming quiet_of_same->fa
open Go.Code renaming region->Ej,ret->Kk,seq->Bh
open Go.CommShape renaming recv->r6
open Go.Conc renaming base->B5,crowd->EV,mem_seen->cB,rcase->ZA,stepG_cond->cC,stepG_oper->Tq,stepG_region->II,stepG_region_end->Hs,stepG_seq->FT
open Go.ConcR renaming wgBlock->Nw
open Go.Ending renaming returned->AZ
open Go.Exit renaming inBlock->ZE
open Go.Extern.AbiNoEscape renaming same->kz
open Go.Fn renaming func->Ek
open Go.Frame renaming finish_at->LF
open Go.FrameMode renaming returning->MZ
open Go.Goroutine renaming finishComm->aDo
open Go.Instr renaming checkKey->l3,fill->VJ,findKey->ZH,lookup->Ix,makeChan->a'k,mapUpdate->cK,sureAddr->fx,typeAssert->Pq
open Go.IntKind renaming i64->A8,u8->F1
open Go.Item renaming code->BS,inRegion->B1
open Go.Lib renaming BuilderAt->cM,IsBuilder->SH,alloc_old->lA,cell_of_heap->Ao,closeSpans->a'r,compareBytes->IJ,compareInt->VL,count->aDv,countB->VM,countB_le->a's,count_hit->aDw,cut->Gr,decodeN->Tr,decode_N->aDx,frozen_of_heap->E6,goFieldsP->VN,hasPrefix->Wy,index->M_,indexByte_none->ra,indexByte_some->rb,index_one->ZL,index_spec->lB,spansFromP->Ts,splitB->lC,splitB_all->a't,splitK->a'u,strCells->ZM,toList_data->VO,trimPrefix->SI
open Go.Lib.BuilderAt renaming put->aDu
open Go.Lib.laidMet renaming reads->aZy
open Go.Lit renaming int->lD
open Go.MapKept renaming run_getObj_map->SJ,run_setObj_map->lE
open Go.Next renaming value->D6
open Go.Obj renaming cells->AF,chan->Jb,map->DM
open Go.Op renaming alloc->a'x,assign->SK,buildSlice->lJ,call->If,move->Mb,operands->Dg,store->gD
open Go.Oper renaming upon_value->a07
open Go.Operand renaming tmp->An
open Go.Program renaming keyLits->aEC
open Go.Proofs renaming PredAtRunes->aED,cell_of_shapedOpen_int->a_F,intOf->BJ
open Go.Proofs.Builder renaming Extra->a_2
open Go.Proofs.Lays renaming n101->a_3,n106->a_4,n122->a_5,n125->a_6,n145->a_7,n146->a_8,n169->a_9,n229->a_A,n99->a_B
open Go.Proofs.Lays8 renaming n4->a_C
open Go.Proofs.LaysM renaming n146->a_D,n316->a_E
open Go.Proofs.SlLaysF0 renaming n6->lP
open Go.Proofs.Tryz renaming f126->Wz,f128->aEE,func126->aEK,func128->lR,func174->aEL,func182->s0,func242->aER,func246->aES,func264->s4,func265->s5,func273->a0H,func339->aEW,func340->aEX,func341->aEY,func345->a0I,func346->a0J,func350->a0K,func351->cQ,func352->a0L,func353->a0M,func405->aEZ,func406->aE_,func407->gG,func409->cR,func410->a0N,func434->aEb,isAgg0->X0,isAgg119->aEe,isAgg188->aEf,isAgg21->a0O,isAgg227->a0P,isAgg242->s6,isAgg3->Ow,isAgg305->cS,isAgg307->aEg,isAgg323->cT,isAgg381->a0Q,isAgg382->a0R,isAgg4->R2,isAgg455->a0S,isAgg458->a0T,isAgg482->a0U,isAgg5->X1,isAgg50->a0V,isAgg500->aEh,isAgg503->a0W,isAgg504->a0X,isAgg533->aEi,isAgg535->aEj,isAgg536->aEk,isAgg9->Pv,prog->A6,results100->s7,results87->aEm,sizeOf0->X2,sizeOf119->aEn,sizeOf188->aEo,sizeOf21->a0Y,sizeOf227->a0Z,sizeOf242->s8,sizeOf3->Ox,sizeOf305->cU,sizeOf307->aEp,sizeOf323->cV,sizeOf381->a0_,sizeOf382->a0a,sizeOf4->R3,sizeOf455->a0b,sizeOf458->a0c,sizeOf482->a0d,sizeOf5->X3,sizeOf50->a0e,sizeOf500->aEq,sizeOf503->a0f,sizeOf504->a0g,sizeOf533->aEr,sizeOf535->aEs,sizeOf536->aEt,sizeOf9->Pw,underlying0->X4,underlying119->VR,underlying131->ZQ,underlying184->s9,underlying187->sA,underlying188->sB,underlying21->a0h,underlying227->a0i,underlying242->sC,underlying299->a0j,underlying3->Lx,underlying305->cW,underlying307->aEw,underlying323->cX,underlying381->a0l,underlying382->a0m,underlying390->aEx,underlying4->O',underlying455->a0n,underlying458->a0o,underlying482->a0q,underlying5->X5,underlying50->a0r,underlying500->aEy,underlying503->a0s,underlying504->a0t,underlying533->aF',underlying535->aF0,underlying536->aF1,underlying85->X6,underlying9->LI,underlying99->aF2,zeroValue0->X7,zeroValue119->aF3,zeroValue188->aF4,zeroValue21->a0u,zeroValue227->a0v,zeroValue242->sD,zeroValue3->Oy,zeroValue305->cY,zeroValue307->aF5,zeroValue323->cZ,zeroValue381->a0w,zeroValue382->a0x,zeroValue4->R4,zeroValue455->a0y,zeroValue458->a0z,zeroValue482->a1',zeroValue5->X8,zeroValue50->a10,zeroValue500->aF6,zeroValue503->a11,zeroValue504->a13,zeroValue535->aF7,zeroValue536->aF8,zeroValue9->Px
open Go.Proofs.YtcfhleenecfghaaGreatDoor.Rows renaming checkedRow->SM
open Go.Result renaming andThen->Ly,ok->Ac
open Go.RowKit renaming Below->AX,Hid->AL,intOf->Mc,ownsRow_setCell_below->a18,run_makeMap->aFE
open Go.RowKit.Below renaming heap_alloc->aFD,heap_setCell->HP,refl->BF
open Go.Sem renaming bind->Dx,events->sH,pure->Jz
open Go.Shelf renaming Ren->Oz
open Go.TypeDesc renaming chan->sP,struct->gK
open Go.Utf8 renaming decode->Tw
open Go.Value renaming agg->A_,bool->Af,cells->cc,chan->Cl,formed->aFM,func->FU,iface->EL,int->A7,map->Ah,nilIface->DS,ownBlock->Tx,pointer->Ad,slice->A4,string->J,tuple->Ay
open Go.WideMaps renaming KeyLaw->aFP
open Go.World renaming block_lt_of_cell?->FA,cell?->FB,cell?_alloc_at->a1K,cell?_alloc_past->l_,cell?_setCell_other->Kn,cell?_setCell_same->la,ownsRow_nil->XA,setCell->LK,setRow->aFR
open Inhabited renaming default->Aw
open LawfulBEq renaming eq_of_beq->gm
open List renaming all_append->mU,all_eq_false->mV,all_eq_true->XS,all_map->aGj,append_assoc->SV,append_nil->aGl,cons_append->Kq,drop_drop->aGp,drop_eq_getElem_cons->mW,drop_eq_nil_of_le->tN,drop_length->a2R,drop_zero->aGq,eq_nil_of_length_eq_zero->tO,flatMap_append->XT,getD_cons_succ->a2U,getD_eq_getElem?_getD->mZ,getElem?_append_right->SX,getElem?_eq_getElem->K1,getElem?_map->XU,getElem?_toArray->VY,getElem_cons_succ->gn,getElem_drop->aGw,getElem_mem->DU,getElem_of_eq->aGy,isEmpty_eq_false_iff->aH',isPrefixOf->gq,length_append->H7,length_cons->Kr,length_drop->cy,length_map->Ks,length_pos_iff->aH0,length_take->Zo,map_append->U7,map_cons->Gd,map_map->SY,map_nil->Kt,map_toArray->M',mem_cons->JG,mem_cons_of_mem->Jd,mem_cons_self->Je,mem_of_getElem?->U8,mem_of_getLast?->aH2,mem_of_mem_tail->aH3,mem_singleton->cz,mem_zipIdx'->aH6,nil_append->U9,nodup_cons->aH7,not_mem_nil->He,range->Hf,size_toArray->I7,tail_cons->aHA,take_append_drop->d',take_left->tT,take_length->O3,take_of_length_le->XX,take_succ_eq_append_getElem->dA,toList_toArray->XY,zipIdx_append->aHD
open Nat renaming add_mul->a2g,le_of_lt->a2i,le_refl->Ae,le_succ->aHM,le_trans->G3,lt_of_lt_of_le->Ku,lt_or_ge->J2,not_lt_zero->gv,zero_add->LO,zero_le->Jf
open Option renaming bind_some->SZ,none->Z,some->Y
open Option.some renaming inj->CH
open Or renaming inl->AD,inr->AJ
open Prod renaming ext->Q7
open Prod.mk renaming injEq->Q8
open UInt8 renaming ofNat->Vf
namespace Go.Proofs.YtcfhleenecfghaaGreatDoor.Twin
section
open Go.Proofs.YtcfhleenecfghaaGreatDoor
open Go.Conc Go.RowKit
variable{w:A0}{v x:A1}{t:Aj}{cs:zw}{ρ:C'->A1}{xs:List A1}{g:Nat}
def kW:∃i z,A6.info? 234=Y i/\i.size=8/\i.bytes=136/\i.zero=Y z/\z.cells.size=8:=by
 have h:((A6.info? 234).map λi=>(i.size,i.bytes,i.zero.map λz=>z.cells.size))=Y (8,136,Y 8):=by kernel_rfl
 obtain⟨i,hi,h⟩:=Option.map_eq_some_iff.1 h;simp only[Q8]at h;obtain⟨z,s,b⟩:=Option.map_eq_some_iff.1 h.2.2;exact⟨i,z,hi,h.1,h.2.1,s,b⟩
def aXc{p:Ap}(h:(match p.underlying t with|Y (gK _)=>A3|_=>A9)=A3):∃b,p.underlying t=Y (gK b):=by cases e:p.underlying t with|none=>rw[e]at h;cases h|some d=>rw[e]at h;cases d with|struct b=>exact⟨b,rfl⟩|_=>cases h
def aXa:∃b,A6.underlying 234=Y (gK b):=aXc (by kernel_rfl)
def qD:(A6.info? 234).map (·.size)=Y 8:=by kernel_rfl
def aWH(w:A0):∃z b,z.size=8/\(Ab ρ (Nf.getD 1 Aw)).runT A6 w #[]=(Ac (D6 (Av w.heap.size)) (w.alloc (AF z 234)),b):=by
 have s:(Nf.getD 1 Aw).op=a'x 234:=by kernel_rfl
 obtain⟨i,z,hi,_,_,H,h⟩:=kW;have y:(Ab ρ (Nf.getD 1 Aw)).run A6 w=Ac (D6 (Av w.heap.size)) (w.alloc (AF z.cells 234)):=by unfold Ab;rw[s];simp[Instr.alloc,Q3,Q2,hi,H,newVar,newRow]
 obtain⟨b,he⟩:=eg y;exact⟨z.cells,b,h,he⟩
def aWi{old:zw}(s:ρ (An 10)=Av g)(y:ρ (An 31)=A_ cs)(z:w.heap[g]?=Y (AF old 234 (0,0)))(K:old.size=8)(hc:cs.size=8)(h:cs.all (·.oneCell')=A3):∃b,(Ab ρ (Nf.getD 2 Aw)).runT A6 w #[]=(Ac .skip (w.setRow g cs),b):=by
 have H:(Nf.getD 2 Aw).op=gD 234 (An 10) (An 31):=by kernel_rfl
 have I:(Ab ρ (Nf.getD 2 Aw)).run A6 w=Ac .skip (w.setRow g cs):=by unfold Ab;rw[H];simp only[s,y];have:=run_storeVar_row (P:=A6) w g 234 234 old cs z (by rw[hc];exact qD) (by omega) h;simp[Instr.storeAt,fx,this]
 exact eg I
def aWZ(h:ρ (An 10)=Av g)(y:w.heap[g]?=Y (AF cs 234 (0,0)))(hc:cs.size=8):∃b,(Ab ρ (JB.getD 1 Aw)).runT A6 w #[]=(Ac (D6 (A_ cs)) w,b):=by
 have z:(JB.getD 1 Aw).op=.load 234 (An 10):=by kernel_rfl
 obtain⟨I,s⟩:=aXa;have H:(Ab ρ (JB.getD 1 Aw)).run A6 w=Ac (D6 (A_ cs)) w:=by unfold Ab;rw[z];simp only[h];have:=run_loadVar_row (P:=A6) w g 234 234 cs (0,0) _ y s rfl (by rw[hc];exact qD);simp[Instr.loadAt,fx,this]
 exact eg H
def eight{bv:Type}{a:Array bv}(h:a.size=8):∃d AM f i j m r u,a=#[d,AM,f,i,j,m,r,u]:=by obtain⟨l⟩:=a;match l,h with|[d,AM,f,i,j,m,r,u],_=>exact⟨d,AM,f,i,j,m,r,u,rfl⟩
def aL4{GI:zw}(hc:cs.size=8)(b:GI.size=8):VJ (λi=>Y (i*8,8)) GI [(0,A_ cs)]=Y cs:=by obtain⟨d,AM,f,h,j,m,r,u,rfl⟩:=eight hc;obtain⟨y,A,D,E,F,H,I,K,rfl⟩:=eight b;simp[VJ,cc]
def aWO(w:A0)(h:ρ (An 33)=A_ cs)(hc:cs.size=8):∃b,(Ab ρ (JB.getD 2 Aw)).runT A6 w #[]=(Ac (D6 (A4 (Y ⟨w.heap.size,0,Z⟩) 1 1)) (w.alloc (AF cs 234)),b):=by
 have y:(JB.getD 2 Aw).op=lJ 130 1 #[(0,An 33)]:=by kernel_rfl
 obtain⟨i,z,hi,s,_,I,K⟩:=kW;have H:(Ab ρ (JB.getD 2 Aw)).run A6 w=Ac (D6 (A4 (Y ⟨w.heap.size,0,Z⟩) 1 1)) (w.alloc (AF cs 234)):=by unfold Ab;rw[y];simp only[M',Gd,Kt,h];simp[Instr.buildSlice,Q' yz,sizeOf,Q2,hi,s,Q3,I,aL4 hc,newRow]
 exact eg H
def aWI{B k:Nat}(H:ρ (An 32)=v)(Q:ρ (An 34)=A4 (Y ⟨g,0,Z⟩) 1 1)(AI:w.heap[g]?=Y (AF cs 234 (0,0)))(hc:cs.size=8)(M:cs.all (·.oneCell')=A3)(K:w.ownsRow B 234 8 v k xs)(hk:k<2147483648)(d:B<=w.heap.size):∃s h y,(Ab ρ (JB.getD 3 Aw)).runT A6 w #[]=(Ac (D6 s) h,y)/\h.ownsRow B 234 8 s (k+1) (xs++cs.toList)/\w.heap.size<=h.heap.size/\∀b,b<B->h.heap[b]?=w.heap[b]?:=by
 have f:(JB.getD 3 Aw).op=If {callee:=Kj f_,args:=#[An 32,An 34],argTypes:=#[130,130]}:=by kernel_rfl
 obtain⟨i,z,hi,m,N,r,U⟩:=kW;have A:∀(j:Nat)(u:A1),cs.toList[j]?=Y u->w.cell? ((⟨g,0,Z⟩:Ak).add j)=Y u:=by
  intro j u hu;have I:cs[j]?=Y u:=by simpa using hu
  rw[Addr.add_lit];simp[FB,AI,I]
 obtain⟨s,h,A2,h2,h3,_⟩:=run_append_own (P:=A6) w B 130 (JB.getD 3 Aw).type 234 i z 8 136 yz hi r m N U (by omega) v k xs K ⟨g,0,Z⟩ 1 1 cs.toList (by simp[hc]) A (λu hu=>(Array.all_eq_true_iff_forall_mem.1 M) u (by simpa using hu)) (by simp[BH];omega) (by omega) d;obtain⟨y,he⟩:=eg A2;refine⟨s,h,y,?_,h2,h3.size,λb hb=>h3.block b (by omega) λe=>?_⟩;·unfold Ab;rw[f];simp only[resolve,M',Gd,Kt,H,Q];change(Dx (VF #[130,130] (JB.getD 3 Aw).type #[v,A4 (Y ⟨g,0,Z⟩) 1 1]) _).runT A6 w #[]=_;rw[JC,he];rfl
 have:=(K.lt b e.symm).1;omega
structure Zr(Db:zy)(x:A1)(cs:zw):Prop where
 is:x=A_ cs
 size:cs.size=8
 one:cs.all (·.oneCell')=A3
 vr:Aq CM (C_ Db) cs.toList cs.toList
def Zr.mono{d f:zy}{x:A1}{cs:zw}(h:Zr d x cs)(k:∀b,d b->f b):Zr f x cs:=⟨h.is,h.size,h.one,h.vr.mono (OM k)⟩
def aAT{w':A0}{B k:Nat}(h:w.ownsRow B 234 8 v k xs)(e:w'.heap=w.heap):w'.ownsRow B 234 8 v k xs:=by obtain⟨x,y⟩:=h;refine⟨x,?_⟩;rw[e];exact y
def yO{w':A0}{B k:Nat}(h:w.ownsRow B 234 8 v k xs)(e:∀b,b<w.heap.size->w'.heap[b]?=w.heap[b]?):w'.ownsRow B 234 8 v k xs:=by obtain⟨x,y⟩:=h;refine⟨x,y.imp id ?_⟩;rintro⟨g,cap,d,s,h2,h3,h4⟩;exact⟨g,cap,d,s,h2,by rw[e g (Array.getElem?_eq_some_iff.1 h3).1];exact h3,h4⟩
def aWu{old:zw}{p:Nat×Nat}(h:w.heap[g]?=Y (AF old t p)):(w.setRow g cs).heap[g]?=Y (AF cs t p):=by unfold aFR;rw[WO _ _ _ h]
def aWv{b:Nat}(h:b≠g):(w.setRow g cs).heap[b]?=w.heap[b]?:=Nb _ _ _ h
def setRow_size(w:A0)(g:Nat)(cs:zw):(w.setRow g cs).heap.size=w.heap.size:=by simp[aFR]
def aWc(h:ρ (An 9)=x)(w:A0):(Ab ρ (JB.getD 0 Aw)).runT A6 w #[]=(Ac (D6 x) w,#[]):=by
 have b:(JB.getD 0 Aw).op=Mb (An 9):=by kernel_rfl
 unfold Ab;rw[b];simp[h]
def aWL(h:ρ (An 35)=x)(w:A0):(Ab ρ (JB.getD 4 Aw)).runT A6 w #[]=(Ac (D6 x) w,#[]):=by
 have b:(JB.getD 4 Aw).op=SK (An 35):=by kernel_rfl
 unfold Ab;rw[b];simp[h]
noncomputable def XR:List Item:=BS (Bh (.cond (An 30) .skip (.exit 2)) (.block 3 gk))::cw
def aLe{fs:List Ag}{Wb D:zy}{T:zw}{c B:Nat}{got:List A1}(h:Va c B Wb D got T w)(hx:Zr D x cs)(hk:got.length<2147483647)(Ck:B<=w.heap.size)(dp:c<B):CZ A6 Wb (λg w'=>∃BV Mn,g=G ((B5 126).at ⟨BV,[]⟩ (BS VZ::cw)) fs/\Va c B Wb Mn (got++[x]) BV w'/\(∀b,D b->Mn b)/\(∀b,b<B->w'.heap[b]?=w.heap[b]?)/\w.heap.size<=w'.heap.size) (G ((B5 126).at ⟨T.setIfInBounds 29 (Ay #[x,Af A3]),[]⟩ (B1 Lp [1]::XR)) fs) w:=by
 have K_:(T.setIfInBounds 29 (Ay #[x,Af A3])).size=39:=by simpa using h.size
 have dL:(T.setIfInBounds 29 (Ay #[x,Af A3])).getD 29 A'=Ay #[x,Af A3]:=FO (by rw[h.size];omega);have hE:(T.setIfInBounds 29 (Ay #[x,Af A3])).getD 28 A'=Cl (Y c):=by rw[Br (by omega)];exact h.t28
 have a9:(T.setIfInBounds 29 (Ay #[x,Af A3])).getD 9 A'=T.getD 9 A':=Br (by omega);generalize T.setIfInBounds 29 (Ay #[x,Af A3])=T0 at K_ dL hE a9;have Aa:=h.own;have JS:=h.vr;have Hm:=h.closed;have NU:=h.off;have Du:=h.low;generalize T.getD 9 A'=H at a9 Aa JS;refine .pure (Af A3) (Ef (by rw[qk];omega)) (by kernel_rfl) (by simp[B5]) (aBW (ρ:=Cg ⟨T0,[]⟩) dL) ?_;rw[show(Lp.getD 1 Aw).dst=Y 30 by kernel_rfl];show CZ A6 Wb _ (G ((B5 126).at ⟨T0.setIfInBounds 30 _,[]⟩ _) fs) w;have GL:(T0.setIfInBounds 30 (Af A3)).size=39:=by simpa using K_
 have Ji:(T0.setIfInBounds 30 (Af A3)).getD 30 A'=Af A3:=FO (by rw[K_];omega);have E:(T0.setIfInBounds 30 (Af A3)).getD 29 A'=Ay #[x,Af A3]:=by rw[Br (by omega)];exact dL
 have hI:(T0.setIfInBounds 30 (Af A3)).getD 28 A'=Cl (Y c):=by rw[Br (by omega)];exact hE
 have Xi:(T0.setIfInBounds 30 (Af A3)).getD 9 A'=H:=by rw[Br (by omega)];exact a9
 generalize T0.setIfInBounds 30 (Af A3)=r at GL Ji E hI Xi;refine .ctl rfl (λ_=>Hs) ?_;unfold XR;refine .ctl rfl (λ_=>FT) ?_;refine .ctl rfl (λ_=>cC (t:=A3) Ji) ?_;refine .ctl rfl (λ_=>stepG_skip) ?_;refine .ctl rfl (λ_=>stepG_block) ?_;rw[aGc];refine .ctl rfl (λ_=>FT) ?_;refine .ctl rfl (λ_=>II) ?_;rw[show Hf Nf.size=[0,1,2]by kernel_rfl];refine .pure x (Ef (by rw[zf];omega)) (by kernel_rfl) (by simp[B5]) (aWR (ρ:=Cg ⟨r,[]⟩) E) ?_;rw[show(Nf.getD 0 Aw).dst=Y 31 by kernel_rfl];show CZ A6 Wb _ (G ((B5 126).at ⟨r.setIfInBounds 31 _,[]⟩ _) fs) w;have GV:(r.setIfInBounds 31 x).size=39:=by simpa using GL
 have F:(r.setIfInBounds 31 x).getD 31 A'=A_ cs:=(FO (by rw[GL];omega)).trans hx.is;have S:(r.setIfInBounds 31 x).getD 28 A'=Cl (Y c):=by rw[Br (by omega)];exact hI
 have X:(r.setIfInBounds 31 x).getD 9 A'=H:=by rw[Br (by omega)];exact Xi
 generalize r.setIfInBounds 31 x=m at GV F S X;have pX:(Nf.getD 1 Aw).op=a'x 234:=by kernel_rfl
 refine(WV Ry (λ_=>trivial) (Wb:=Wb) (R:=D) (ow:=[]) (Q:=λv s=>v=Av w.heap.size/\∃z:zw,z.size=8/\s.heap=w.heap.push (AF z 234)) (Ef (by rw[zf];omega)) (by kernel_rfl) (by simp[B5]) (by rw[pX];rfl) (by unfold Lu;rw[pX]) (by rw[pX];rfl) ?_ Hm Du ?_).bind ?_;·intro y hy;rw[pX]at hy;simp[opsOf,Dg]at hy
 ·intro T0;obtain⟨z,es,el,e1⟩:=aWH (ρ:=Cg ⟨m,[]⟩) (on w T0);exact⟨_,_,_,es,e1,AD rfl,rfl,z,el,rfl⟩
 rintro g w3⟨Sj,v,s,rfl,YH,⟨rfl,z,el,I⟩,iy,Ua,iW,j1,wj⟩;rw[show(Nf.getD 1 Aw).dst=Y 10 by kernel_rfl];show CZ A6 Wb _ (G ((B5 126).at ⟨m.setIfInBounds 10 _,[]⟩ _) fs) w3;have K5:(m.setIfInBounds 10 (Av w.heap.size)).size=39:=by simpa using GV
 have hV:(m.setIfInBounds 10 (Av w.heap.size)).getD 10 A'=Av w.heap.size:=FO (by rw[GV];omega);have uB:(m.setIfInBounds 10 (Av w.heap.size)).getD 31 A'=A_ cs:=by rw[Br (by omega)];exact F
 have a4R:(m.setIfInBounds 10 (Av w.heap.size)).getD 28 A'=Cl (Y c):=by rw[Br (by omega)];exact S
 have uC:(m.setIfInBounds 10 (Av w.heap.size)).getD 9 A'=H:=by rw[Br (by omega)];exact X
 generalize m.setIfInBounds 10 (Av w.heap.size)=M at K5 hV uB a4R uC;have a6q:w3.heap[w.heap.size]?=Y (AF z 234 (0,0)):=by rw[Ua,I];simp
 have eD:w3.heap.size=w.heap.size+1:=by rw[Ua,I];simp
 have a7h:∀b,b<w.heap.size->w3.heap[b]?=w.heap[b]?:=λb N=>by rw[Ua,I,H_ N,EP N]
 have W9:w3.ownsRow B 234 8 H got.length (got.flatMap λv=>v.cells.toList):=yO Aa a7h;have aOT:¬Sj c:=λy=>(wj c y).elim NU λy=>by omega
 have aPV:AN CM (C_ Sj) H H:=JS.mono (OM iy);have aPc:=hx.mono iy;clear Ua I wj s;have pY:(Nf.getD 2 Aw).op=gD 234 (An 10) (An 31):=by kernel_rfl
 refine(WV Ry (λ_=>trivial) (Wb:=Wb) (R:=Sj) (ow:=[]) (Q:=λv s=>s.heap=(w3.setRow w.heap.size cs).heap) (Ef (by rw[zf];omega)) (by kernel_rfl) (by simp[B5]) (by rw[pY];rfl) (by unfold Lu;rw[pY]) (by rw[pY];rfl) ?_ iW j1 ?_).bind ?_
 ·intro y hy;rw[pY]at hy;simp only[opsOf,Dg,JG,He,or_false]at hy;rcases hy with rfl|rfl;·show AN CM (C_ Sj) (M.getD 10 A') (M.getD 10 A');rw[hV];exact YH
  show AN CM (C_ Sj) (M.getD 31 A') (M.getD 31 A');rw[uB];exact .agg aPc.vr
 ·intro T0;obtain⟨es,e1⟩:=aWi (ρ:=Cg ⟨M,[]⟩) (w:=on w3 T0) hV uB a6q el hx.size hx.one;exact⟨_,A',_,es,e1,AJ ⟨rfl,rfl⟩,rfl⟩
 rintro g w4⟨u,v,s,rfl,_,I,iz,RP,aN0,aNv,a7Q⟩;rw[show(Nf.getD 2 Aw).dst=Z by kernel_rfl];show CZ A6 Wb _ (G ((B5 126).at ⟨M,[]⟩ _) fs) w4;have nx:w4.heap[w.heap.size]?=Y (AF cs 234 (0,0)):=by rw[RP,I];exact aWu a6q
 have eE:w4.heap.size=w.heap.size+1:=by rw[RP,I,setRow_size,eD]
 have oP:∀b,b<w.heap.size->w4.heap[b]?=w.heap[b]?:=λb N=>by rw[RP,I,aWv (by omega)];exact a7h b N
 have YD:w4.ownsRow B 234 8 H got.length (got.flatMap λv=>v.cells.toList):=yO Aa oP;have aOU:¬u c:=λy=>(a7Q c y).elim aOT λy=>by omega
 have aPW:AN CM (C_ u) H H:=aPV.mono (OM iz);have aPM:AN CM (C_ u) (Av w.heap.size) (Av w.heap.size):=YH.mono (OM iz);have aNp:∀b,D b->u b:=λb N=>iz b (iy b N);clear RP I a7Q s;refine .ctl rfl (λ_=>Hs) ?_;refine .ctl rfl (λ_=>II) ?_;rw[show Hf JB.size=[0,1,2,3,4]by kernel_rfl];refine .pure H (Ef (by rw[kV];omega)) (by kernel_rfl) (by simp[B5]) (aWc (ρ:=Cg ⟨M,[]⟩) uC) ?_;rw[show(JB.getD 0 Aw).dst=Y 32 by kernel_rfl];show CZ A6 Wb _ (G ((B5 126).at ⟨M.setIfInBounds 32 _,[]⟩ _) fs) w4;have L5:(M.setIfInBounds 32 H).size=39:=by simpa using K5
 have dU:(M.setIfInBounds 32 H).getD 32 A'=H:=FO (by rw[K5];omega);have aM:(M.setIfInBounds 32 H).getD 10 A'=Av w.heap.size:=by rw[Br (by omega)];exact hV
 have a4Z:(M.setIfInBounds 32 H).getD 28 A'=Cl (Y c):=by rw[Br (by omega)];exact a4R
 generalize M.setIfInBounds 32 H=f at L5 dU aM a4Z;have pZ:(JB.getD 1 Aw).op=.load 234 (An 10):=by kernel_rfl
 refine(WV Ry (λ_=>trivial) (Wb:=Wb) (R:=u) (ow:=[]) (Q:=λv s=>v=A_ cs/\s.heap=w4.heap) (Ef (by rw[kV];omega)) (by kernel_rfl) (by simp[B5]) (by rw[pZ];rfl) (by unfold Lu;rw[pZ]) (by rw[pZ];rfl) ?_ aN0 aNv ?_).bind ?_;·intro y hy;rw[pZ]at hy;simp only[opsOf,Dg,JG,He,or_false]at hy;subst hy;show AN CM (C_ u) (f.getD 10 A') (f.getD 10 A');rw[aM];exact aPM
 ·intro T0;obtain⟨es,e1⟩:=aWZ (ρ:=Cg ⟨f,[]⟩) (w:=on w4 T0) aM nx hx.size;exact⟨_,_,_,es,e1,AD rfl,rfl,rfl⟩
 rintro g K⟨u1,v,s,rfl,aPN,⟨rfl,I⟩,a7C,a6x,aN1,aNw,a7R⟩;rw[show(JB.getD 1 Aw).dst=Y 33 by kernel_rfl];show CZ A6 Wb _ (G ((B5 126).at ⟨f.setIfInBounds 33 _,[]⟩ _) fs) K;have PK:(f.setIfInBounds 33 (A_ cs)).size=39:=by simpa using L5
 have u_:(f.setIfInBounds 33 (A_ cs)).getD 33 A'=A_ cs:=FO (by rw[L5];omega);have a4v:(f.setIfInBounds 33 (A_ cs)).getD 32 A'=H:=by rw[Br (by omega)];exact dU
 have f28:(f.setIfInBounds 33 (A_ cs)).getD 28 A'=Cl (Y c):=by rw[Br (by omega)];exact a4Z
 generalize f.setIfInBounds 33 (A_ cs)=i at PK u_ a4v f28;have a6y:K.heap=w4.heap:=a6x.trans I;have aOV:¬u1 c:=λy=>(a7R c y).elim aOU λy=>by omega
 clear a6x I a7R s;have p_:(JB.getD 2 Aw).op=lJ 130 1 #[(0,An 33)]:=by kernel_rfl
 refine(WV Ry (λ_=>trivial) (Wb:=Wb) (R:=u1) (ow:=[]) (Q:=λv s=>v=A4 (Y ⟨K.heap.size,0,Z⟩) 1 1/\s.heap=K.heap.push (AF cs 234)) (Ef (by rw[kV];omega)) (by kernel_rfl) (by simp[B5]) (by rw[p_];rfl) (by unfold Lu;rw[p_]) (by rw[p_];rfl) ?_ aN1 aNw ?_).bind ?_;·intro y hy;rw[p_]at hy;simp only[opsOf,Dg,M',Gd,Kt,JG,He,or_false]at hy;subst hy;show AN CM (C_ u1) (i.getD 33 A') (i.getD 33 A');rw[u_];exact aPN
 ·intro T0;obtain⟨es,e1⟩:=aWO (ρ:=Cg ⟨i,[]⟩) (on K T0) u_ hx.size;exact⟨_,_,_,es,e1,AD rfl,rfl,rfl⟩
 rintro g j⟨hS,v,s,rfl,aPO,⟨rfl,I⟩,a7D,nz,aN2,aNx,a7S⟩;rw[show(JB.getD 2 Aw).dst=Y 34 by kernel_rfl];show CZ A6 Wb _ (G ((B5 126).at ⟨i.setIfInBounds 34 _,[]⟩ _) fs) j;have Uh:(i.setIfInBounds 34 (A4 (Y ⟨K.heap.size,0,Z⟩) 1 1)).size=39:=by simpa using PK
 have xQ:(i.setIfInBounds 34 (A4 (Y ⟨K.heap.size,0,Z⟩) 1 1)).getD 34 A'=A4 (Y ⟨K.heap.size,0,Z⟩) 1 1:=FO (by rw[PK];omega);have i32:(i.setIfInBounds 34 (A4 (Y ⟨K.heap.size,0,Z⟩) 1 1)).getD 32 A'=H:=by rw[Br (by omega)];exact a4v
 have a8A:(i.setIfInBounds 34 (A4 (Y ⟨K.heap.size,0,Z⟩) 1 1)).getD 28 A'=Cl (Y c):=by rw[Br (by omega)];exact f28
 generalize i.setIfInBounds 34 (A4 (Y ⟨K.heap.size,0,Z⟩) 1 1)=U at Uh xQ i32 a8A;have aNR:j.heap[K.heap.size]?=Y (AF cs 234 (0,0)):=by rw[nz,I];simp
 have aax:j.heap.size=K.heap.size+1:=by rw[nz,I];simp
 have aaw:K.heap.size=w.heap.size+1:=by rw[a6y,eE]
 have a7i:∀b,b<w.heap.size->j.heap[b]?=w.heap[b]?:=λb N=>by rw[nz,I,H_ (by omega),<-EP (by omega),a6y];exact oP b N
 have aOa:j.ownsRow B 234 8 H got.length (got.flatMap λv=>v.cells.toList):=yO Aa a7i;have aOW:¬hS c:=λy=>(a7S c y).elim aOV λy=>by omega
 have aPY:AN CM (C_ hS) H H:=(aPW.mono (OM a7C)).mono (OM a7D);clear nz I a7S s;have pa:(JB.getD 3 Aw).op=If {callee:=Kj f_,args:=#[An 32,An 34],argTypes:=#[130,130]}:=by kernel_rfl
 refine(WV Ry (λ_=>trivial) (Wb:=Wb) (R:=hS) (ow:=[]) (Q:=λv s=>s.ownsRow B 234 8 v (got.length+1) ((got.flatMap λv=>v.cells.toList)++cs.toList)/\j.heap.size<=s.heap.size/\∀b,b<B->s.heap[b]?=j.heap[b]?) (Ef (by rw[kV];omega)) (by kernel_rfl) (by simp[B5]) (by rw[pa];rfl) (by unfold Lu;rw[pa]) (by rw[pa];rfl) ?_ aN2 aNx ?_).bind ?_
 ·intro y hy;rw[pa]at hy;have hy:y=An 32∨y=An 34:=by simpa[opsOf,Dg,Call.operands]using hy
  rcases hy with rfl|rfl;·show AN CM (C_ hS) (U.getD 32 A') (U.getD 32 A');rw[i32];exact aPY
  show AN CM (C_ hS) (U.getD 34 A') (U.getD 34 A');rw[xQ];exact aPO
 ·intro T0;obtain⟨v',s,es,e1,e2,Co,Dy⟩:=aWI (ρ:=Cg ⟨U,[]⟩) (w:=on j T0) i32 xQ aNR hx.size hx.one (aAT aOa rfl) (by omega) (by show B<=j.heap.size;omega);exact⟨_,v',s,es,e1,AD rfl,e2,Co,Dy⟩
 rintro g S2⟨aJQ,v,s,rfl,aPP,⟨Ms,bB,jF⟩,aNr,an,aN3,aNy,aOL⟩;rw[show(JB.getD 3 Aw).dst=Y 35 by kernel_rfl];show CZ A6 Wb _ (G ((B5 126).at ⟨U.setIfInBounds 35 _,[]⟩ _) fs) S2;have x9:(U.setIfInBounds 35 v).size=39:=by simpa using Uh
 have a8S:(U.setIfInBounds 35 v).getD 35 A'=v:=FO (by rw[Uh];omega);have a8R:(U.setIfInBounds 35 v).getD 28 A'=Cl (Y c):=by rw[Br (by omega)];exact a8A
 generalize U.setIfInBounds 35 v=A at x9 a8S a8R;refine .pure v (Ef (by rw[kV];omega)) (by kernel_rfl) (by simp[B5]) (aWL (ρ:=Cg ⟨A,[]⟩) a8S) ?_;rw[show(JB.getD 4 Aw).dst=Y 9 by kernel_rfl];show CZ A6 Wb _ (G ((B5 126).at ⟨A.setIfInBounds 9 _,[]⟩ _) fs) S2;have a7f:(A.setIfInBounds 9 v).size=39:=by simpa using x9
 have xc:(A.setIfInBounds 9 v).getD 9 A'=v:=FO (by rw[x9];omega);have a8Y:(A.setIfInBounds 9 v).getD 28 A'=Cl (Y c):=by rw[Br (by omega)];exact a8R
 generalize A.setIfInBounds 9 v=a3A at a7f xc a8Y;refine .ctl rfl (λ_=>Hs) ?_;refine .ctl rfl (λ_=>stepG_inBlock) ?_;unfold cw;refine .ctl rfl (λ_=>stepG_inLoop) ?_;refine .stop λd=>⟨a3A,aJQ,rfl,⟨a7f,a8Y,?_,by rw[xc];exact aPP,aN3.same λ_ _=>rfl,λy=>?_,aNy⟩,λb N=>aNr b (a7D b (a7C b (aNp b N))),λb N=>?_,?_⟩;·rw[xc];have e:(S2.at d).heap=s.heap:=an;refine aAT (w:=s) ?_ e;simpa[hx.is,cc]using Ms
 ·exact(aOL c y).elim aOW λy=>by omega
 ·show S2.heap[b]?=_;rw[an,jF b N];exact a7i b (by omega)
 show w.heap.size<=S2.heap.size;rw[an];omega
open Go.ConcN(sumTo)
variable{w:A0}{z:A1}{t:Aj}{P:Ap}{T:zw}{es:Array C5}{fs:List Ag}{c:Nat}{Wb:zy}
def a3z:∃d,A6.underlying 316=Y (sP d 234):=by
 have h:(match A6.underlying 316 with|Y (sP _ e)=>e==234|_=>A9)=A3:=by kernel_rfl
 have b:∀{p:Ap},(match p.underlying 316 with|Y (sP _ e)=>e==234|_=>A9)=A3->∃d,p.underlying 316=Y (sP d 234):=by intro p h;cases e:p.underlying 316 with|none=>rw[e]at h;cases h|some u=>rw[e]at h;cases u with|chan d e2=>simp only[beq_iff_eq]at h;subst h;exact⟨d,rfl⟩|_=>cases h
 exact b h
def aBU{d:TypeDesc}(h:P.underlying t=Y d):(Jc t).runT P w es=(Ac d w,es):=by change(match P.underlying t with|Y d=>Jz d|Z=>U0 _:Sem _).runT P w es=_;rw[h];rfl
def aWD{i:LJ}(hi:P.info? t=Y i)(h:i.zero=Y z):(Q3 t).runT P w es=(Ac z w,es):=by
 unfold Q3;change(Dx (Q2 t) _).runT P w es=_;have b:(Q2 t).runT P w es=(Ac i w,es):=by change(match P.info? t with|Y i=>Jz i|Z=>U0 _:Sem _).runT P w es=_;rw[hi];rfl
 rw[JC,b];simp only[h];rfl
def aWg{ρ:C'->A1}(b:ρ (An 28)=Cl (Y c)):∃z,∀w:A0,(Ab ρ (Lp.getD 0 Aw)).runT A6 w #[]=(Ac (.comm #[ZA c z] A3 (r6 A3)) w,#[]):=by obtain⟨d,h⟩:=a3z;obtain⟨i,z,hi,_,_,s,_⟩:=kW;refine⟨z,λw=>?_⟩;unfold Ab;rw[aTN];simp only[b];change(Dx (Jc 316) _).runT A6 w #[]=_;have e1:=aBU (w:=w) (es:=#[]) h;rw[JC,e1];change(Dx (Q3 234) _).runT A6 w #[]=_;have e2:=aWD (w:=w) (es:=#[]) hi s;rw[JC,e2];rfl
noncomputable def dM(fs:List Ag)(T:zw):AR:=G ((B5 126).at ⟨T,[]⟩ (B1 Lp [0,1]::XR)) fs
noncomputable def mr(fs:List Ag)(T:zw):AR:=G ((B5 126).at ⟨T,[]⟩ [BS aF]) fs
def aC1(s:T.getD 28 A'=Cl (Y c)):∃z,∀w:A0,stepG A6 A3 (dM fs T) w=.comm (dM fs T) #[ZA c z] A3 (r6 A3) w #[]:=by
 obtain⟨z,h⟩:=aWg (ρ:=Cg ⟨T,[]⟩) s;refine⟨z,λw=>?_⟩;have H:(Ab (Cg ⟨T,[]⟩) (Lp.getD 0 Aw)).run A6 w=Ac (.comm #[ZA c z] A3 (r6 A3)) w:=by rw[<-Rs _ w #[],h w]
 unfold dM;have y:∀b,listed A6 b ⟨T,[]⟩ (Lp.getD 0 Aw) w=#[]:=by intro b;unfold listed sH;rw[h w];exact seen_none _ _
 rw[stepG_comm (Ef (by rw[qk];omega)) (by kernel_rfl) (by simp[B5]) H,y]
def a5A{x:A1}{ok:Bool}:(dM fs T).finishComm A6 #[ZA c z] (r6 A3) 0 x ok=G ((B5 126).at ⟨T.setIfInBounds 29 (Ay #[x,Af ok]),[]⟩ (B1 Lp [1]::XR)) fs:=by
 have b:((B5 126).at ⟨T,[]⟩ (B1 Lp [0,1]::XR)).finish (Ay #[x,Af ok])=(B5 126).at ⟨T.setIfInBounds 29 (Ay #[x,Af ok]),[]⟩ (B1 Lp [1]::XR):=by rw[LF,Ef (ops:=Lp) (i:=0) (by rw[qk];omega),SZ,show(Lp.getD 0 Aw).dst=Y 29 by kernel_rfl];rfl
 unfold dM aDo commResult;simp only[G,b]
def Va.aCF{B:Nat}{d:zy}{got:List A1}{w':A0}(h:Va c B Wb d got T w)(I:c<B)(H:w'.heap.size=w.heap.size)(hs:∀b,b≠c->w'.heap[b]?=w.heap[b]?):Va c B Wb d got T w':=by refine⟨h.size,h.t28,?_,h.vr,h.closed.same λb s=>hs b λe=>h.off (e▸s),h.off,λb s=>by rw[H];exact h.low b s⟩;obtain⟨x,y⟩:=h.own;refine⟨x,y.imp id ?_⟩;rintro⟨g,cap,f,z,h2,h3,h4⟩;exact⟨g,cap,f,z,h2,by rw[hs g (by omega)];exact h3,h4⟩
def aCC:CZ A6 Wb (λg w'=>g=dM fs T/\∃d,w'=w.at d) (G ((B5 126).at ⟨T,[]⟩ (BS VZ::cw)) fs) w:=by rw[aHG];refine .ctl rfl (λ_=>FT) ?_;refine .ctl rfl (λ_=>II) ?_;rw[show Hf Lp.size=[0,1]by kernel_rfl];exact .stop λd=>⟨rfl,d,rfl⟩
def shut(N:T.size=39):CZ A6 Wb (λg w'=>(∃f,g=mr fs f/\f.size=39/\f.getD 28 A'=T.getD 28 A'/\f.getD 9 A'=T.getD 9 A')/\∃d,w'=w.at d) (G ((B5 126).at ⟨T.setIfInBounds 29 (Ay #[z,Af A9]),[]⟩ (B1 Lp [1]::XR)) fs) w:=by
 have b:(T.setIfInBounds 29 (Ay #[z,Af A9])).size=39:=by simpa using N
 have s:(T.setIfInBounds 29 (Ay #[z,Af A9])).getD 29 A'=Ay #[z,Af A9]:=FO (by rw[N];omega);have h:(T.setIfInBounds 29 (Ay #[z,Af A9])).getD 28 A'=T.getD 28 A':=Br (by omega);have y:(T.setIfInBounds 29 (Ay #[z,Af A9])).getD 9 A'=T.getD 9 A':=Br (by omega);generalize T.setIfInBounds 29 (Ay #[z,Af A9])=T0 at b s h y;refine .pure (Af A9) (Ef (by rw[qk];omega)) (by kernel_rfl) (by simp[B5]) (aBW (ρ:=Cg ⟨T0,[]⟩) s) ?_;rw[show(Lp.getD 1 Aw).dst=Y 30 by kernel_rfl];show CZ A6 Wb _ (G ((B5 126).at ⟨T0.setIfInBounds 30 _,[]⟩ _) fs) w;have M:(T0.setIfInBounds 30 (Af A9)).size=39:=by simpa using b
 have I:(T0.setIfInBounds 30 (Af A9)).getD 30 A'=Af A9:=FO (by rw[b];omega);have H:(T0.setIfInBounds 30 (Af A9)).getD 28 A'=T.getD 28 A':=by rw[Br (by omega)];exact h
 have K:(T0.setIfInBounds 30 (Af A9)).getD 9 A'=T.getD 9 A':=by rw[Br (by omega)];exact y
 generalize T0.setIfInBounds 30 (Af A9)=Q at M I H K;refine .ctl rfl (λ_=>Hs) ?_;unfold XR;refine .ctl rfl (λ_=>FT) ?_;refine .ctl rfl (λ_=>cC (t:=A9) I) ?_;refine .ctl rfl (λ_=>stepG_exit (k':=[BS aF]) rfl) ?_;exact .stop λd=>⟨⟨Q,rfl,M,H,K⟩,d,rfl⟩
def aVt{Wc:zy}{B:Nat}(i:c<B)(E4:∀b,Wc b->Wb b)(ve:¬Wb c):∀(buf got:List A1)(I:zy)(T:zw)(w:A0)(gs:Array AR)(sl:Option (Nat×Nat))(t:Dh)(q:Nat->Nat)(cap s r:Nat)(tm:Bool),Va c B Wb I got T w->(∀x∈buf,∃cs,Zr I x cs)->w.heap[c]?=Y (Jb cap buf.toArray A3 s r tm)->got.length+buf.length<2147483648->B<=w.heap.size->De A6 Wc gs w t q (G ((B5 126).at ⟨T,[]⟩ (BS VZ::cw)) fs)->∃(N:Nat)(j:Array AR)(w':A0)(DX:Option (Nat×Nat))(Bf:Dh)(EG:Nat->Nat)(f:zw)(Mn:zy),runNT A6 N (EV gs w sl) t=(.next (EV j w' DX),Bf)/\j.size=gs.size/\De A6 Wc j w' Bf EG (mr fs f)/\Va c B Wb Mn (got++buf) f w'/\(∀b,I b->Mn b)/\(∀b,b<B->b≠c->w'.heap[b]?=w.heap[b]?)/\w.heap.size<=w'.heap.size/\K0 Wb w w':=by
 intro buf;induction buf with
 |nil=>intro got I T w gs sl t q cap s r tm M Al hc AE Ck m;obtain⟨u,aQ,a1,w1,A,t1,Bp,r1,Ew,c1,rfl,Q,rfl⟩:=aCC (w:=w).beside gs sl t q m;obtain⟨z,D⟩:=aC1 (fs:=fs) M.t28;obtain⟨N2,E,d2,F,t2,S,r2,z2,c2⟩:=aIG (w:=w.at Q) rfl (λd=>D _) hc A c1;rw[a5A]at c2;obtain⟨X,hr,a3,w3,kK,t3,E',Ea,z3,c3,⟨f,rfl,e1,e2,Co⟩,d3,rfl⟩:=(shut M.size).beside E F t2 S c2;refine⟨u+(N2+X),hr,_,kK,t3,E',f,I,V2 r1 (V2 r2 Ea),by omega,c3,?_,λ_ x=>x,λ_ _ _=>rfl,Ae _,(((K0.refl Wb w).at _).at _).at _⟩;have:=M.aCF (w':=((w.at Q).at d2).at d3) i rfl λ_ _=>rfl;rw[aGl];exact⟨e1,by rw[e2];exact this.t28,by rw[Co];exact this.own,by rw[Co];exact this.vr,this.closed,this.off,this.low⟩
 |cons x buf ih=>
  intro got I T w gs sl t q cap s r tm M Al hc AE Ck m;obtain⟨u,aQ,a1,w1,A,t1,Bp,r1,Ew,c1,rfl,Q,rfl⟩:=aCC (w:=w).beside gs sl t q m;obtain⟨z,D⟩:=aC1 (fs:=fs) M.t28;obtain⟨N2,E,d2,F,t2,S,r2,z2,c2⟩:=aII (w:=w.at Q) rfl (λd=>D _) hc (by simp) A c1;rw[a5A]at c2;have ME:(x::buf).toArray.getD 0 A'=x:=by simp
  have MF:(x::buf).toArray.extract 1 (x::buf).toArray.size=buf.toArray:=by apply Array.ext';simp
  rw[ME,MF]at c2;rw[MF]at r2;have Hm:c<w.heap.size:=(Array.getElem?_eq_some_iff.1 hc).1;generalize U:(w.at Q).setChan c cap buf.toArray A3 s (r+1) tm=K at c2 r2;have GV:∀b,b≠c->K.heap[b]?=w.heap[b]?:=λb H=>by rw[<-U];exact yw H
  have CO:K.heap.size=w.heap.size:=by rw[<-U];exact yx ..
  have MA:K.heap[c]?=Y (Jb cap buf.toArray A3 s (r+1) tm):=by rw[<-U];exact heap_setChan _ _ _ _ _ _ _ _ Hm
  have M6:Va c B Wb I got T (K.at d2):=M.aCF i CO GV;obtain⟨cs,hx⟩:=Al x (by simp);simp only[Kr]at AE;obtain⟨X,hr,a3,w3,kK,t3,E',Ea,z3,c3,⟨f,Sj,rfl,QN,Eg,GM,rg⟩,aq⟩:=((aLe (fs:=fs) M6 hx (by omega) (by show B<=K.heap.size;omega) i).Am.wide E4).beside E F t2 S c2;have ah:w3.heap[c]?=Y (Jb cap buf.toArray A3 s (r+1) tm):=by rw[GM c i];exact MA
  have aav:w.heap.size<=w3.heap.size:=by have:K.heap.size<=w3.heap.size:=rg;omega
  obtain⟨aHI,aLf,w4,aX',t4,HY,E2,Xk,EH,z4,c4,aa,iz,oP,eE,aNh⟩:=ih (got++[x]) Sj f w3 hr kK t3 E' cap s (r+1) tm QN (λy hy=>let⟨cs,h⟩:=Al y (by simp[hy]);⟨cs,h.mono Eg⟩) ah (by simp;omega) (by omega) c3;refine⟨u+(N2+(X+aHI)),aLf,w4,aX',t4,HY,E2,Xk,V2 r1 (V2 r2 (V2 Ea EH)),by omega,c4,by simpa using aa,λb H=>iz b (Eg b H),λb H RM=>?_,by omega,K0.trans ?_ aNh⟩;·rw[oP b H RM,GM b H];exact GV b RM
  refine K0.trans ⟨?_,?_,by rw[CO];exact Ae _,λb H _=>GV b λe=>ve (e▸H)⟩ (K0.trans ((K0.refl Wb K).at d2) aq);·rw[<-U];rfl
  rw[<-U];rfl
end
section
open Go.Proofs.YtcfhleenecfghaaGreatDoor
open Go.Conc Go.RowKit
variable{x:A1}{ρ:C'->A1}
noncomputable def TT:Array BR:=ML (fstC aF)
noncomputable def TU:Array BR:=ML (fstC (sndC aF))
def aI_:aF=Bh (Ej 16 TT A9) (Bh (Ej 17 TU A9) Kk):=by kernel_rfl
def zg:TT.size=2:=by kernel_rfl
def z17:TU.size=2:=by kernel_rfl
def aWd(h:ρ (An 9)=x)(w:A0):(Ab ρ (TT.getD 0 Aw)).runT A6 w #[]=(Ac (D6 x) w,#[]):=by
 have b:(TT.getD 0 Aw).op=Mb (An 9):=by kernel_rfl
 unfold Ab;rw[b];simp[h]
def aWe(h:ρ (An 9)=x)(w:A0):(Ab ρ (TU.getD 0 Aw)).runT A6 w #[]=(Ac (D6 x) w,#[]):=by
 have b:(TU.getD 0 Aw).op=Mb (An 9):=by kernel_rfl
 unfold Ab;rw[b];simp[h]
def aWM(h:ρ (An 38)=x)(w:A0):(Ab ρ (TU.getD 1 Aw)).runT A6 w #[]=(Ac (D6 x) w,#[]):=by
 have b:(TU.getD 1 Aw).op=SK (An 38):=by kernel_rfl
 unfold Ab;rw[b];simp[h]
def aTO:(TT.getD 1 Aw).op=If {callee:=.value (.func 128),args:=#[An 36,.func 129],argTypes:=#[130,235]}:=by kernel_rfl
def aIO:∃b,aEE.body=Y b:=⟨_,rfl⟩
def Handed(Wb s:zy)(v:A1)(c':Ag)(cs':List Ag)(Q:A0->Prop)(z:Nat)(g:AR)(w':A0):Prop:=∃h y,g=G (c'.finish v) cs'/\AN CM (C_ h) v v/\Q y/\(∀b,s b->h b)/\w'.heap=y.heap/\Closed CM Wb h w'/\(∀b,Wb b->b<w'.heap.size)/\∀b,h b->s b∨z<=b
def aYG{c':Ag}{cs':List Ag}{Wb f:zy}{T:zw}{w:A0}{v:A1}{Q:A0->Prop}(D:T.size=39)(E:T.getD 9 A'=v)(hv:AN CM (C_ f) v v)(Hm:Closed CM Wb f w)(Du:∀b,Wb b->b<w.heap.size)(jM:∀T0,Ai A6 128 #[v,FU (Ek 129) #[] #[]] (on w T0) λe y=>e=AZ (Ay #[])/\Q y):CZ A6 Wb (Handed Wb f v c' cs' Q w.heap.size) (mr (c'::cs') T) w:=by
 unfold mr;rw[aI_];refine .ctl rfl (λ_=>FT) ?_;refine .ctl rfl (λ_=>II) ?_;rw[show Hf TT.size=[0,1]by kernel_rfl];refine .pure v (Ef (by rw[zg];omega)) (by kernel_rfl) (by simp[B5]) (aWd (ρ:=Cg ⟨T,[]⟩) E) ?_;rw[show(TT.getD 0 Aw).dst=Y 36 by kernel_rfl];show CZ A6 Wb _ (G ((B5 126).at ⟨T.setIfInBounds 36 _,[]⟩ _) (c'::cs')) w;have F:(T.setIfInBounds 36 v).size=39:=by simpa using D
 have I:(T.setIfInBounds 36 v).getD 36 A'=v:=FO (by rw[D];omega);have a9:(T.setIfInBounds 36 v).getD 9 A'=v:=by rw[Br (by omega)];exact E
 generalize T.setIfInBounds 36 v=s at F I a9;obtain⟨code,M⟩:=aIO;refine .ctl rfl (λw=>Tg (Ef (by rw[zg];omega)) (by kernel_rfl) (by simp[B5]) aTO lR (by kernel_rfl) M) ?_;have I8:#[An 36,.func 129].map (Cg ⟨s,[]⟩)=#[v,FU (Ek 129) #[] #[]]:=by simp only[M',Gd,Kt];rw[show Cg ⟨s,[]⟩ (An 36)=v from I];rfl
 rw[I8];have j:CM 128:=AD (by decide);have r:CM 129:=AD (by decide);refine(tx Ry (λ_=>trivial) (Wb:=Wb) (R:=f) (Q:=λx y=>x=Ay #[]/\Q y) lR M (bI 128 _ _ (AD j) lR M).1 (bI 128 _ _ (AD j) lR M).2 (λt N=>?_) ?_ Hm Du λT0=>(jM T0).mono ?_).bind ?_;·have e:E5 128=[]:=k2 j;have N:t∈E5 128:=N;rw[e]at N;cases N
 ·exact .cons hv (.cons (.func r .nil .nil) .nil)
 ·rintro e y⟨rfl,AH⟩;exact⟨_,rfl,rfl,AH⟩
 rintro g w2⟨U,x,y,rfl,_,⟨rfl,AH⟩,S,C7,vv,Ub,Bw⟩;have DR:((B5 126).at ⟨s,[]⟩ (B1 TT [1]::[BS (Bh (Ej 17 TU A9) Kk)])).finish (Ay #[])=(B5 126).at ⟨s.setIfInBounds 37 (Ay #[]),[]⟩ (B1 TT []::[BS (Bh (Ej 17 TU A9) Kk)]):=by rw[LF,Ef (ops:=TT) (i:=1) (by rw[zg];omega),SZ,show(TT.getD 1 Aw).dst=Y 37 by kernel_rfl];rfl
 rw[DR];have u:(s.setIfInBounds 37 (Ay #[])).size=39:=by simpa using F
 have X:(s.setIfInBounds 37 (Ay #[])).getD 9 A'=v:=by rw[Br (by omega)];exact a9
 generalize s.setIfInBounds 37 (Ay #[])=z at u X;refine .ctl rfl (λ_=>Hs) ?_;refine .ctl rfl (λ_=>FT) ?_;refine .ctl rfl (λ_=>II) ?_;rw[show Hf TU.size=[0,1]by kernel_rfl];refine .pure v (Ef (by rw[z17];omega)) (by kernel_rfl) (by simp[B5]) (aWe (ρ:=Cg ⟨z,[]⟩) X) ?_;rw[show(TU.getD 0 Aw).dst=Y 38 by kernel_rfl];show CZ A6 Wb _ (G ((B5 126).at ⟨z.setIfInBounds 38 _,[]⟩ _) (c'::cs')) w2;have A:(z.setIfInBounds 38 v).size=39:=by simpa using u
 have K:(z.setIfInBounds 38 v).getD 38 A'=v:=FO (by rw[u];omega);generalize z.setIfInBounds 38 v=H at A K;refine .pure v (Ef (by rw[z17];omega)) (by kernel_rfl) (by simp[B5]) (aWM (ρ:=Cg ⟨H,[]⟩) K) ?_;rw[show(TU.getD 1 Aw).dst=Y 4 by kernel_rfl];show CZ A6 Wb _ (G ((B5 126).at ⟨H.setIfInBounds 4 _,[]⟩ _) (c'::cs')) w2;have L5:(H.setIfInBounds 4 v).size=39:=by simpa using A
 have d4:(H.setIfInBounds 4 v).getD 4 A'=v:=FO (by rw[A];omega);generalize H.setIfInBounds 4 v=h at L5 d4;refine .ctl rfl (λ_=>Hs) ?_;refine .ctl rfl (λ_=>stepG_ret') ?_;have F':Wz.results=#[.tmp 4]:=by kernel_rfl
 have TF:∀w:A0,stepG A6 A3 (G {(B5 126).at ⟨h,[]⟩ [BS Kk]with mode:=MZ} (c'::cs')) w=.go (G (c'.finish v) cs') w #[]:=by
  intro w;rw[Qp rfl rfl];have A2:(D_ Wz h).run A6 w=Ac (h.getD 4 A') w:=results_tmp F' h A6 w;have he:(D_ Wz h).events A6 w #[]=#[]:=events_results_tmp F' h _;rw[d4]at A2;have oO:(D_ Wz h).runT A6 w #[]=(Ac v w,#[]):=by have h1:=Rs (P:=A6) (D_ Wz h) w #[];rw[A2]at h1;unfold sH at he;exact Q7 h1 he
  have PM:=Rz (P:=A6) (m:=A3) (fr:={(B5 126).at ⟨h,[]⟩ [BS Kk]with mode:=MZ}) (c:=c') (cs:=cs') rfl rfl rfl aEK oO;rw[seen_none]at PM;exact PM
 refine .ctl rfl TF ?_;exact .stop λd=>⟨U,y,rfl,hv.mono (OM S),AH,S,C7,vv.same λ_ _=>rfl,Ub,Bw⟩
open Go.ConcR(Payload)
variable{w:A0}{vr x:A1}{c':Ag}{P:Ap}{es:Array C5}{ρ:C'->A1}{Q:List (Nat×A1)->A1->A0->A0->Prop}{cs cs':List Ag}{n:Nat}{C:Nat->A1->zy->A0->Prop}{U Wb:zy}
def gy(A B:zy):zy:=λb=>A b∨B b
structure Zz(rd:zy)(C:Nat->A1->zy->A0->Prop)(j:Nat)(x:A1)(M:zy)(w:A0):Prop where
 a9X:∃cs,Zr (gy rd M) x cs
 own:∀b,M b->∃o,w.heap[b]?=Y o/\Ge CM (C_ (gy rd M)) o o
 ys:C j x M w
def aJT{F:zy}{rd rc Old:zy}{Ch:Nat}{d:List (Nat×A1)}(j:F=CM)(U:Closed F Wb rc w)(f:∀b,rd b->rc b)(m:¬rc Ch)(Bj:∀i v,(i,v)∈d->∃M,(∀b,M b->b<w.heap.size/\¬Wb b/\b≠Ch/\¬Old b)/\Zz rd C i v M w):∃I,Closed CM Wb I w/\¬I Ch/\(∀b,rc b->I b)/\(∀b,I b->rc b∨¬Old b)/\∀i v,(i,v)∈d->∃M cs,Zr I v cs/\(∀b,M b->I b)/\C i v M w:=by
 subst j;have Q:∀p:Nat×A1,∃M:zy,p∈d->(∀b,M b->b<w.heap.size/\¬Wb b/\b≠Ch/\¬Old b)/\Zz rd C p.1 p.2 M w:=by
  intro p;by_cases h:p∈d;·obtain⟨M,h1,h2⟩:=Bj p.1 p.2 h;exact⟨M,λ_=>⟨h1,h2⟩⟩
  exact⟨λ_=>False,λx=>absurd x h⟩
 have K:=λp=>To (Q p);refine⟨λb=>rc b∨∃p,p∈d/\Z5 (Q p) b,⟨λb s=>?_,λb s=>?_,λb s=>AD (U.EX b s)⟩,?_,λb s=>AD s,λb s=>s.imp id λ⟨p,H,y⟩=>((K p H).1 b y).2.2.2,λi v N=>?_⟩
 ·rcases s with s|⟨p,H,s⟩;·obtain⟨o,e,k⟩:=U.heap b s;exact⟨o,e,k.mono (OM λ_ y=>AD y)⟩
  obtain⟨o,e,k⟩:=(K p H).2.own b s;exact⟨o,e,k.mono (OM λc y=>y.imp (f c) λz=>⟨p,H,z⟩)⟩
 ·rcases s with s|⟨p,H,s⟩;·exact U.off b s
  exact((K p H).1 b s).2.1
 ·rintro(s|⟨p,H,s⟩);·exact m s
  exact((K p H).1 Ch s).2.2.1 rfl
 obtain⟨cs,hm⟩:=(K (i,v) N).2.a9X;exact⟨Z5 (Q (i,v)),cs,hm.mono λc y=>y.imp (f c) λz=>⟨(i,v),N,z⟩,λb s=>AJ ⟨(i,v),N,s⟩,(K (i,v) N).2.ys⟩
section
variable{R:JJ}
def aIC{rd rc:zy}{m:Machine}{t:Dh}(H:∀b,U b->R.old b/\¬rc b/\b≠R.AW)(wu:¬R.old R.X.Ch)(CW:R.X.P=A6)(hn:R.X.n=R.ms.length)(GM:R.ms.length<2147483648)(Fb:R.cs=c'::cs')(NS:R.X.ND=Zz rd C)(A:Closed CM R.X.BW rc R.w0)(e9:∀b,rd b->rc b)(QW:∀b,rc b->R.old b)(Fa:¬rc R.X.Ch)(UW:R.old R.AW)(hlt:∀b,R.old b->b<R.w0.heap.size)(IX:∃t p,R.w0.heap[R.AW]?=Y (AF #[Cl (Y R.X.Ch)] t p))(a6W:R.X.Ch<R.w0.heap.size)(ve:¬R.X.Wb R.X.Ch)(vo:R.AW<R.w0.heap.size/\¬R.X.BW R.AW)(jM:∀(d:List (Nat×A1))(w w2:A0)(v:A1)(B:Nat),(∀b,R.old b->w.heap[b]?=R.w0.heap[b]?)->(∀i,(∃v,(i,v)∈d)↔i<R.X.n)->(d.map (·.1)).Nodup->(∀i v,(i,v)∈d->∃M,(∀b,M b->b<w.heap.size/\b≠R.X.Ch)/\C i v M w)->R.w0.heap.size<=w.heap.size->B=w.heap.size->(∀b,b<w.heap.size->b≠R.X.Ch->w2.heap[b]?=w.heap[b]?)->w2.ownsRow B 234 8 v d.length ((d.map (·.2)).flatMap λv=>v.cells.toList)->∀T0,Ai A6 128 #[v,FU (Ek 129) #[] #[]] (on w2 T0) λe I=>e=AZ (Ay #[])/\Q d v w2 I)(E4:tk R m t):∃(N:Nat)(gs:Array AR)(w':A0)(sl:Option (Nat×Nat))(q:Nat->Nat)(Bf:Dh)(d:List (Nat×A1))(v:A1)(w2 I:A0)(r:zy)(g:AR),runNT A6 N m t=(.next (EV gs w' sl),Bf)/\gs.size=R.X.c0+R.X.n/\De A6 R.X.BW gs w' Bf q g/\g=G (c'.finish v) cs'/\Q d v w2 I/\w'.heap=I.heap/\AN CM (C_ r) v v/\Closed CM (λb=>R.X.BW b∨U b) r w'/\(∀b,rc b->r b)/\(∀b,R.X.BW b∨U b->b<w'.heap.size)/\(w'.os=R.w0.os/\w'.output=R.w0.output/\R.w0.heap.size<=w'.heap.size)/\∀b,U b->w'.heap[b]?=R.w0.heap[b]?:=by
 obtain⟨gs,w,sl,T,q,d,rfl,Y6,D,E,u,F,RU,ds,⟨tm,Sv⟩,Fh,GC,Bj⟩:=E4.at_;rw[CW]at D;rw[NS]at Bj;have S:Closed CM (λb=>R.X.BW b∨U b) rc w:=⟨(A.same λb s=>u b (QW b s)).heap,λb s x=>x.elim (A.off b s) λy=>(H b y).2.1 s,A.EX⟩;obtain⟨r,vw,wi,aOn,_,aO6⟩:=aJT (C:=C) (Old:=R.old) rfl S e9 Fa (λi v hv=>by obtain⟨M,z,h2⟩:=Bj i v hv;exact⟨M,λb s=>⟨(z b s).1,λx=>x.elim (z b s).2.1 λy=>(z b s).2.2.2 (H b y).1,(z b s).2.2⟩,h2⟩);obtain⟨OY,PY,eB⟩:=IX;have aMx:w.heap[R.AW]?=Y (AF #[Cl (Y R.X.Ch)] OY PY):=(u _ UW).trans eB;have Bv:d.length<=R.X.n:=by
  have:=pS R.X.n (d.map (·.1)) GC λx hx=>by obtain⟨y,hy,rfl⟩:=List.mem_map.1 hx;exact(Fh y.1).1 ⟨y.2,hy⟩
  simpa using this
 have f:∀b,U b->b<w.heap.size:=λb s=>Ku (hlt b (H b s).1) F;have Du:∀b,R.X.BW b∨U b->b<w.heap.size:=λb s=>s.elim (D.Pb b) (f b);have vX:EW (λb=>R.X.BW b∨U b) w.heap.size R.X.Ch:=⟨by omega,λh=>h.elim (λh=>h.elim ve ds) λh=>wu (H _ h).1⟩;have di:EW (λb=>R.X.BW b∨U b) w.heap.size R.AW:=⟨by omega,λh=>h.elim vo.2 λh=>(H _ h).2.2 rfl⟩;have Ui:=aYF (cs:=R.cs) E.size E.t1 E.t5 aMx Sv di vX vw wi Du GM;obtain⟨NF,aQ,a1,I,Wd,t1,Bp,r1,Ew,c1,⟨BK,aJP,rfl,Er,j,aah,GA,bD,TG⟩,IA⟩:=(Ui.Am.wide (Wc:=R.X.BW) λb=>AD).beside gs sl t q D;obtain⟨N2,Sn,w2,Te,t2,C8,Dk,a48,r2,z2,c2,K,aNq,aP9,oR,Fw⟩:=aVt (fs:=R.cs) (Wc:=R.X.BW) vX.1 (λb=>AD) vX.2 (d.map (·.2)) [] aJP BK I aQ Wd t1 Bp _ _ _ _ Er (λx hx=>by obtain⟨y,hy,rfl⟩:=List.mem_map.1 hx;obtain⟨M,cs,hm,_,_⟩:=aO6 y.1 y.2 hy;exact⟨cs,hm.mono j⟩) GA (by simp;omega) TG c1;have Aa:=K.own;simp only[U9,Ks]at Aa;have BG:∀b,b<w.heap.size->b≠R.X.Ch->w2.heap[b]?=w.heap[b]?:=λb s RM=>by rw[aP9 b s RM];exact bD b s RM
 rw[Fb]at c2;have TF:=aYG (c':=c') (cs':=cs') (Q:=Q d (Dk.getD 9 A') w2) K.size rfl K.vr K.closed K.low (jM d w w2 _ _ u Fh GC (λi v dy=>?_) F rfl BG Aa);·obtain⟨gr,hr,a3,w3,kK,t3,E',Ea,z3,c3,⟨Sj,w4,rfl,YH,jF,iy,Ua,iW,j1,wj⟩,aq⟩:=(TF.Am.wide (Wc:=R.X.BW) λb=>AD).beside Sn Te t2 C8 c2;have hk:=(IA.trans Fw).trans aq;exact⟨NF+(N2+gr),hr,w3,kK,E',t3,d,_,w2,w4,Sj,_,V2 r1 (V2 r2 Ea),by omega,c3,rfl,jF,Ua,YH,iW,λb s=>iy b (aNq b (j b (aOn b s))),j1,⟨hk.os.trans RU.1,hk.output.trans RU.2,G3 F hk.size⟩,λb s=>(hk.same b (AJ s) (f b s)).trans (u b (H b s).1)⟩
 obtain⟨M,z,h2⟩:=Bj i v dy;exact⟨M,λb s=>⟨(z b s).1,(z b s).2.2.1⟩,h2.ys⟩
end
noncomputable def Rk:Array BR:=ML (fstC Xh)
noncomputable def o1:Array BR:=ML (fstC (sndC Xh))
def aI0:Xh=Bh (Ej 0 Rk A9) (Bh (Ej 1 o1 A9) (Bh (Ej 2 o2 A9) c3)):=by kernel_rfl
def aIN:Wz.body=Y Xh:=by
 have h:Wz.body.isSome=A3:=by kernel_rfl
 obtain⟨c,hc⟩:=Option.isSome_iff_exists.1 h;unfold Xh;rw[hc];rfl
def z0:Rk.size=2:=by kernel_rfl
def Ew:o1.size=5:=by kernel_rfl
def ntmps126:Wz.ntmps=39:=by kernel_rfl
def aWJ(hc:ρ (.const (A4 Z 0 0))=A4 Z 0 0)(w:A0):(Ab ρ (Rk.getD 1 Aw)).runT A6 w #[]=(Ac (D6 (A4 Z 0 0)) w,#[]):=by
 have b:(Rk.getD 1 Aw).op=SK (.const (A4 Z 0 0)):=by kernel_rfl
 unfold Ab;rw[b];simp[hc]
def aWa(h:ρ (An 1)=x)(w:A0):(Ab ρ (o1.getD 0 Aw)).runT A6 w #[]=(Ac (D6 x) w,#[]):=by
 have b:(o1.getD 0 Aw).op=Mb (An 1):=by kernel_rfl
 unfold Ab;rw[b];simp[h]
def aWX{a:Ak}{cap:Nat}(h:ρ (An 11)=A4 (Y a) n cap)(w:A0):(Ab ρ (o1.getD 1 Aw)).runT A6 w #[]=(Ac (D6 (A7 A8 n)) w,#[]):=by
 have b:(o1.getD 1 Aw).op=If {callee:=Kj .len,args:=#[An 11],argTypes:=#[57]}:=by kernel_rfl
 unfold Ab;rw[b];simp[h,go_sem]
def aWN{cs:zw}(h:ρ (An 0)=A_ cs)(w:A0):(Ab ρ (Rk.getD 0 Aw)).runT A6 w #[]=(Ac (D6 (Av w.heap.size)) {w with heap:=w.heap.push (AF cs 138)},#[]):=by
 have b:(Rk.getD 0 Aw).op=.box 138 (An 0):=by kernel_rfl
 unfold Ab;rw[b];simp only[h];rfl
def aWC{t:Aj}{i:LJ}(h:P.info? t=Y i):(Q2 t).runT P w es=(Ac i w,es):=by change(match P.info? t with|Y i=>Jz i|Z=>U0 _:Sem _).runT P w es=_;rw[h];rfl
def aWP(h:ρ (An 12)=A7 A8 n)(hn:n<2147483648)(w:A0):(Ab ρ (o1.getD 2 Aw)).runT A6 w #[]=(Ac (D6 (Cl (Y w.heap.size))) {w with heap:=w.heap.push (Jb n #[] A9 0 0 A9)},#[]):=by
 have H:(o1.getD 2 Aw).op=.makeChan 316 (An 12):=by kernel_rfl
 obtain⟨d,y⟩:=a3z;obtain⟨i,z,hi,_,b,I,_⟩:=kW;unfold Ab;rw[H];simp only[h];change(Dx (a'k 316 (A7 A8 n)) _).runT A6 w #[]=_;have e:(a'k 316 (A7 A8 n)).runT A6 w #[]=(Ac (Cl (Y w.heap.size)) {w with heap:=w.heap.push (Jb n #[] A9 0 0 A9)},#[]):=by
  unfold a'k;change(Dx (Jc 316) _).runT A6 w #[]=_;rw[JC,aBU y];change(Dx (Q2 234) _).runT A6 w #[]=_;rw[JC,aWC hi];have s:¬((n:Int)<0∨(n:Int)>A8.max∨(i.bytes:Int)*n>2^48-112):=by
   rw[b];have:A8.max=9223372036854775807:=by decide
   rw[this];omega
  dsimp only;rw[if_neg s];rfl
 rw[JC,e];rfl
def CZ.pd{Stop:AR->A0->Prop}{b:Ag}{a:Act}{ops:Array BR}{i:Nat}{rest:List Nat}{q:List Item}{o:BR}{w2:A0}{f:Next}{v:A1}(s:ops[i]?=Y o)(I:Region.wanted o (yielded ops a.tmps)=A3)(N:b.kind≠.early)(h:∀d,(Ab a.eval o).runT P (w.at d) #[]=(Ac f (w2.at d),es))(M:a'5 f v)(U:w.heap.size<=w2.heap.size)(Q:∀x,x<w.heap.size->¬EW Wb w.heap.size x->w2.heap[x]?=w.heap[x]?)(TA:w2.os=w.os/\w2.output=w.output/\w2.tape=w.tape)(K:∀e∈es,LB (λ_=>False) (λb=>EW Wb w.heap.size b∨w.heap.size<=b/\b<w2.heap.size) e)(k:CZ P Wb Stop (G (b.at (a.put o.dst v) (B1 ops rest::q)) cs) w2):CZ P Wb Stop (G (b.at a (B1 ops (i::rest)::q)) cs) w:=by
 have H:((b.at a (B1 ops (i::rest)::q)).kind==.early)=A9:=by simpa[Frame.at]using N
 have z:∀y,(b.at a (B1 ops (i::rest)::q)).finish y=b.at (a.put o.dst y) (B1 ops rest::q):=λy=>by rw[LF,s];rfl
 refine .step rfl λd=>⟨G (b.at (a.put o.dst v) (B1 ops rest::q)) cs,w2.at d,seen P b.fn es,λb=>EW Wb w.heap.size b∨w.heap.size<=b/\b<w2.heap.size,?_,⟨U,λx hx hn=>Q x hx hn,TA.1,TA.2.1,TA.2.2,λx=>Iff.rfl,λe he=>K e (cB he)⟩,k.at d⟩;rcases M with rfl|⟨rfl,rfl⟩;·rw[Tq s I,Jh H (h d) rfl,z];rfl
 rw[Tq s I,Jh H (h d) rfl,z];rfl
def aWG(w:A0):(Ab ρ (o1.getD 3 Aw)).runT A6 w #[]=(Ac (D6 (Av w.heap.size)) {w with heap:=w.heap.push (AF #[Cl Z] 316)},#[]):=by
 have b:(o1.getD 3 Aw).op=a'x 316:=by kernel_rfl
 unfold Ab;rw[b];simp[go_sem]
def aWh{g c:Nat}(s:ρ (An 5)=Av g)(h:ρ (An 13)=Cl (Y c))(b:w.heap[g]?=Y (AF #[x] 316)):(Ab ρ (o1.getD 4 Aw)).runT A6 w #[]=(Ac .skip (w.setCell ⟨g,0,Z⟩ (Cl (Y c))),#[⟨.cell ⟨g,0,Z⟩,A3,A9⟩]):=by
 have y:(o1.getD 4 Aw).op=gD 316 (An 5) (An 13):=by kernel_rfl
 have c0:w.cell? ⟨g,0,Z⟩=Y x:=by simp[FB,b]
 have z0:w.frozen? ⟨g,0,Z⟩=A9:=by simp[World.frozen?,b]
 unfold Ab;rw[y];simp[s,h,go_sem,c0,z0]
def yV{o:Df}{b:Nat}(h:b<w.heap.size):(w.heap.push o)[b]?=w.heap[b]?:=by rw[H_ h,EP h]
noncomputable def Yk(x y:A1):zw:=#[x,y]++Array.replicate (Wz.ntmps-(#[x,y]:zw).size) A'
def aYh(x y:A1):(Yk x y).size=39:=by unfold Yk;rw[ntmps126];simp
def aYf(x y:A1):(Yk x y).getD 0 A'=x:=by unfold Yk;simp[Iv]
def aYg(x y:A1):(Yk x y).getD 1 A'=y:=by unfold Yk;simp[Iv]
def aKR{rc:zw}{bl off cap:Nat}(Du:∀b,Wb b->b<w.heap.size)(hn:n<2147483648):CZ A6 Wb (λg w'=>∃T,g=G ((B5 126).at ⟨T,[]⟩ [B1 o2 [0],BS c3]) cs/\T.size=39/\T.getD 1 A'=A4 (Y ⟨bl,off,Z⟩) n cap/\T.getD 2 A'=Av w.heap.size/\T.getD 5 A'=Av (w.heap.size+2)/\w'.heap=((w.heap.push (AF rc 138)).push (Jb n #[] A9 0 0 A9)).push (AF #[Cl (Y (w.heap.size+1))] 316)) (G (Frame.enter A6 126 #[A_ rc,A4 (Y ⟨bl,off,Z⟩) n cap] .normal) cs) w:=by
 rw[enter_at _ aEK aIN];have f:=aYh (A_ rc) (A4 (Y ⟨bl,off,Z⟩) n cap);have a0:=aYf (A_ rc) (A4 (Y ⟨bl,off,Z⟩) n cap);have a1:=aYg (A_ rc) (A4 (Y ⟨bl,off,Z⟩) n cap);show CZ A6 Wb _ (G ((B5 126).at ⟨Yk (A_ rc) (A4 (Y ⟨bl,off,Z⟩) n cap),[]⟩ _) cs) w;generalize Yk (A_ rc) (A4 (Y ⟨bl,off,Z⟩) n cap)=T at f a0 a1;rw[aI0];refine .ctl rfl (λ_=>FT) ?_;refine .ctl rfl (λ_=>II) ?_;rw[show Hf Rk.size=[0,1]by kernel_rfl];refine .pd (w2:={w with heap:=w.heap.push (AF rc 138)}) (v:=Av w.heap.size) (Ef (by rw[z0];omega)) (by kernel_rfl) (by simp[B5]) (λd=>aWN (ρ:=Cg ⟨T,[]⟩) a0 (w.at d)) (AD rfl) (by simp) (λx hx _=>yV hx) ⟨rfl,rfl,rfl⟩ (λe he=>by simp at he) ?_;rw[show(Rk.getD 0 Aw).dst=Y 2 by kernel_rfl];show CZ A6 Wb _ (G ((B5 126).at ⟨T.setIfInBounds 2 _,[]⟩ _) cs) _;have S:(T.setIfInBounds 2 (Av w.heap.size)).size=39:=by simpa using f
 have b2:(T.setIfInBounds 2 (Av w.heap.size)).getD 2 A'=Av w.heap.size:=FO (by rw[f];omega);have Cc:(T.setIfInBounds 2 (Av w.heap.size)).getD 1 A'=A4 (Y ⟨bl,off,Z⟩) n cap:=by rw[Br (by omega)];exact a1
 generalize T.setIfInBounds 2 (Av w.heap.size)=K at S b2 Cc;refine .pure (A4 Z 0 0) (Ef (by rw[z0];omega)) (by kernel_rfl) (by simp[B5]) (aWJ (ρ:=Cg ⟨K,[]⟩) rfl) ?_;rw[show(Rk.getD 1 Aw).dst=Y 4 by kernel_rfl];show CZ A6 Wb _ (G ((B5 126).at ⟨K.setIfInBounds 4 _,[]⟩ _) cs) _;have j:(K.setIfInBounds 4 (A4 Z 0 0)).size=39:=by simpa using S
 have d2:(K.setIfInBounds 4 (A4 Z 0 0)).getD 2 A'=Av w.heap.size:=by rw[Br (by omega)];exact b2
 have d1:(K.setIfInBounds 4 (A4 Z 0 0)).getD 1 A'=A4 (Y ⟨bl,off,Z⟩) n cap:=by rw[Br (by omega)];exact Cc
 generalize K.setIfInBounds 4 (A4 Z 0 0)=z at j d2 d1;refine .ctl rfl (λ_=>Hs) ?_;refine .ctl rfl (λ_=>FT) ?_;refine .ctl rfl (λ_=>II) ?_;rw[show Hf o1.size=[0,1,2,3,4]by kernel_rfl];refine .pure (A4 (Y ⟨bl,off,Z⟩) n cap) (Ef (by rw[Ew];omega)) (by kernel_rfl) (by simp[B5]) (aWa (ρ:=Cg ⟨z,[]⟩) d1) ?_;rw[show(o1.getD 0 Aw).dst=Y 11 by kernel_rfl];show CZ A6 Wb _ (G ((B5 126).at ⟨z.setIfInBounds 11 _,[]⟩ _) cs) _;have m:(z.setIfInBounds 11 (A4 (Y ⟨bl,off,Z⟩) n cap)).size=39:=by simpa using j
 have M:(z.setIfInBounds 11 (A4 (Y ⟨bl,off,Z⟩) n cap)).getD 11 A'=A4 (Y ⟨bl,off,Z⟩) n cap:=FO (by rw[j];omega);have e2:(z.setIfInBounds 11 (A4 (Y ⟨bl,off,Z⟩) n cap)).getD 2 A'=Av w.heap.size:=by rw[Br (by omega)];exact d2
 have e1:(z.setIfInBounds 11 (A4 (Y ⟨bl,off,Z⟩) n cap)).getD 1 A'=A4 (Y ⟨bl,off,Z⟩) n cap:=by rw[Br (by omega)];exact d1
 generalize z.setIfInBounds 11 (A4 (Y ⟨bl,off,Z⟩) n cap)=H at m M e2 e1;refine .pure (A7 A8 n) (Ef (by rw[Ew];omega)) (by kernel_rfl) (by simp[B5]) (aWX (ρ:=Cg ⟨H,[]⟩) M) ?_;rw[show(o1.getD 1 Aw).dst=Y 12 by kernel_rfl];show CZ A6 Wb _ (G ((B5 126).at ⟨H.setIfInBounds 12 _,[]⟩ _) cs) _;have r:(H.setIfInBounds 12 (A7 A8 n)).size=39:=by simpa using m
 have N:(H.setIfInBounds 12 (A7 A8 n)).getD 12 A'=A7 A8 n:=FO (by rw[m];omega);have X:(H.setIfInBounds 12 (A7 A8 n)).getD 2 A'=Av w.heap.size:=by rw[Br (by omega)];exact e2
 have Ep:(H.setIfInBounds 12 (A7 A8 n)).getD 1 A'=A4 (Y ⟨bl,off,Z⟩) n cap:=by rw[Br (by omega)];exact e1
 generalize H.setIfInBounds 12 (A7 A8 n)=I at r N X Ep;generalize CK:({w with heap:=w.heap.push (AF rc 138)}:A0)=h;have Ip:h.heap=w.heap.push (AF rc 138):=by rw[<-CK]
 have DF:h.heap.size=w.heap.size+1:=by rw[Ip];simp
 refine .pd (w2:={h with heap:=h.heap.push (Jb n #[] A9 0 0 A9)}) (v:=Cl (Y h.heap.size)) (Ef (by rw[Ew];omega)) (by kernel_rfl) (by simp[B5]) (λd=>aWP (ρ:=Cg ⟨I,[]⟩) N hn (h.at d)) (AD rfl) (by simp) (λx hx _=>yV hx) ⟨rfl,rfl,rfl⟩ (λe he=>by simp at he) ?_;rw[show(o1.getD 2 Aw).dst=Y 13 by kernel_rfl];show CZ A6 Wb _ (G ((B5 126).at ⟨I.setIfInBounds 13 _,[]⟩ _) cs) _;have u:(I.setIfInBounds 13 (Cl (Y h.heap.size))).size=39:=by simpa using r
 have Q:(I.setIfInBounds 13 (Cl (Y h.heap.size))).getD 13 A'=Cl (Y (w.heap.size+1)):=(FO (by rw[r];omega)).trans (by rw[DF]);have Q_:(I.setIfInBounds 13 (Cl (Y h.heap.size))).getD 2 A'=Av w.heap.size:=by rw[Br (by omega)];exact X
 have R_:(I.setIfInBounds 13 (Cl (Y h.heap.size))).getD 1 A'=A4 (Y ⟨bl,off,Z⟩) n cap:=by rw[Br (by omega)];exact Ep
 generalize I.setIfInBounds 13 (Cl (Y h.heap.size))=y at u Q Q_ R_;generalize J8:({h with heap:=h.heap.push (Jb n #[] A9 0 0 A9)}:A0)=w2;have ny:w2.heap=h.heap.push (Jb n #[] A9 0 0 A9):=by rw[<-J8]
 have A:w2.heap.size=w.heap.size+2:=by rw[ny];simp[DF]
 refine .pd (w2:={w2 with heap:=w2.heap.push (AF #[Cl Z] 316)}) (v:=Av w2.heap.size) (Ef (by rw[Ew];omega)) (by kernel_rfl) (by simp[B5]) (λd=>aWG (ρ:=Cg ⟨y,[]⟩) (w2.at d)) (AD rfl) (by simp) (λx hx _=>yV hx) ⟨rfl,rfl,rfl⟩ (λe he=>by simp at he) ?_;rw[show(o1.getD 3 Aw).dst=Y 5 by kernel_rfl];show CZ A6 Wb _ (G ((B5 126).at ⟨y.setIfInBounds 5 _,[]⟩ _) cs) _;have Uh:(y.setIfInBounds 5 (Av w2.heap.size)).size=39:=by simpa using u
 have D:(y.setIfInBounds 5 (Av w2.heap.size)).getD 5 A'=Av (w.heap.size+2):=(FO (by rw[u];omega)).trans (by rw[A]);have U:(y.setIfInBounds 5 (Av w2.heap.size)).getD 13 A'=Cl (Y (w.heap.size+1)):=by rw[Br (by omega)];exact Q
 have ON:(y.setIfInBounds 5 (Av w2.heap.size)).getD 2 A'=Av w.heap.size:=by rw[Br (by omega)];exact Q_
 have oh:(y.setIfInBounds 5 (Av w2.heap.size)).getD 1 A'=A4 (Y ⟨bl,off,Z⟩) n cap:=by rw[Br (by omega)];exact R_
 generalize y.setIfInBounds 5 (Av w2.heap.size)=E at Uh D U ON oh;generalize YI:({w2 with heap:=w2.heap.push (AF #[Cl Z] 316)}:A0)=s;have F:s.heap=w2.heap.push (AF #[Cl Z] 316):=by rw[<-YI]
 have oX:s.heap.size=w.heap.size+3:=by rw[F];simp[A]
 have IX:s.heap[w.heap.size+2]?=Y (AF #[Cl Z] 316):=by rw[F,<-A];simp
 have Al:EW Wb s.heap.size (w.heap.size+2):=⟨by omega,λhb=>by have:=Du _ hb;omega⟩;refine .pd (w2:=s.setCell ⟨w.heap.size+2,0,Z⟩ (Cl (Y (w.heap.size+1)))) (v:=A') (Ef (by rw[Ew];omega)) (by kernel_rfl) (by simp[B5]) (λd=>aWh (ρ:=Cg ⟨E,[]⟩) (w:=s.at d) D U IX) (AJ ⟨rfl,rfl⟩) (by simp[LK]) (λx _ hx=>?_) ⟨rfl,rfl,rfl⟩ (λe he=>?_) ?_;·exact Nb _ _ _ λe=>hx (e▸Al)
 ·simp only[List.mem_toArray,cz]at he;subst he;exact .cell _ _ (AD (AD Al))
 rw[show(o1.getD 4 Aw).dst=Z by kernel_rfl];show CZ A6 Wb _ (G ((B5 126).at ⟨E,[]⟩ _) cs) _;refine .ctl rfl (λ_=>Hs) ?_;refine .ctl rfl (λ_=>FT) ?_;refine .ctl rfl (λ_=>II) ?_;rw[show Hf o2.size=[0]by kernel_rfl];refine .stop λd=>⟨E,rfl,Uh,oh,ON,D,?_⟩;have bC:=q8 (i:=0) (v:=Cl (Y (w.heap.size+1))) IX;apply Array.ext_getElem?;intro x;show(s.setCell ⟨w.heap.size+2,0,Z⟩ (Cl (Y (w.heap.size+1)))).heap[x]?=_;by_cases hx:x=w.heap.size+2;·subst hx;rw[bC,SD,if_pos (by simp)];rfl
 have e:(s.setCell ⟨w.heap.size+2,0,Z⟩ (Cl (Y (w.heap.size+1)))).heap[x]?=s.heap[x]?:=Nb _ _ _ hx;rw[e,F,ny,Ip,SD,SD (xs:=(w.heap.push (AF rc 138)).push (Jb n #[] A9 0 0 A9))];simp only[bq];rw[if_neg hx,if_neg hx]
section
variable[Payload]{R:JJ}
def aTC{rd:zy}{Q:zz->zz->Nat->A1->A0->Prop}(h:R.X.P=A6)(s:R.X.ty=JV.tWg)(hn:R.X.n=R.ms.length)(d:R.ms.length<2147483648)(f:∀j p v,R.ms[j]?=Y (p,v)->R.w0.cell? ⟨R.bl,R.off+j*2,Z⟩=Y (J p)/\R.w0.cell? ⟨R.bl,R.off+j*2+1,Z⟩=Y (J v))(I:R.old R.bl)(hlt:∀b,R.old b->b<R.w0.heap.size)(K:h8 R rd vr Q)(N:R.X.Goal=R.Goal):R.Ok:=⟨h,s,hn,d,f,I,hlt,λ_ _ _ _ _ U i M hm=>aJ5 h s K hlt U i M hm,λT Sh S g' w' H z y=>by rw[N];exact⟨T,H,z,y⟩⟩
omit[Payload]in def aXL{X:HQ}{rd:zy}(z:X.ND=Zz rd C)(y:∀i v M w w',(∀b,M b->w'.heap[b]?=w.heap[b]?)->C i v M w->C i v M w'):X.M2:=by intro i v M w w' h k;rw[z]at k⊢;exact⟨k.a9X,λb s=>by rw[h b s];exact k.own b s,y i v M w w' h k.ys⟩
def aLT{rd rc:zy}{Q1:zz->zz->Nat->A1->A0->Prop}{T:zw}(F:∀b,U b->R.old b/\¬rc b/\b≠R.AW)(H:R.X.P=A6)(S:R.X.ty=JV.tWg)(hn:R.X.n=R.ms.length)(r:R.ms.length<2147483648)(YC:∀j p v,R.ms[j]?=Y (p,v)->R.w0.cell? ⟨R.bl,R.off+j*2,Z⟩=Y (J p)/\R.w0.cell? ⟨R.bl,R.off+j*2+1,Z⟩=Y (J v))(FZ:R.old R.bl)(K:∀s,h8 (R.from s) rd vr Q1)(AI:∀s,(R.from s).X.Goal=(R.from s).Goal)(u:R.X.ND=Zz rd C)(hC:∀i v M w w',(∀b,M b->w'.heap[b]?=w.heap[b]?)->C i v M w->C i v M w')(Fb:R.cs=c'::cs')(Bq:R.X.Wg=w.heap.size)(y:R.old=X_ R.X.Wb R.X.Wg R.X.Ch (w.heap.size+1))(f:R.w0={w with heap:=w.heap.push (Nw R.X.ty 0 0)})(hs:T.size=39)(h1:T.getD 1 A'=A4 (Y ⟨R.bl,R.off,Z⟩) R.ms.length R.cap)(h2:T.getD 2 A'=Av R.br)(li:T.getD 5 A'=Av R.AW)(Fa:∃tm,w.heap[R.X.Ch]?=Y (Jb R.X.n #[] A9 0 0 tm))(Mq:EW R.X.Wb w.heap.size R.X.Ch)(L4:Closed CM R.X.BW rc R.w0)(e9:∀b,rd b->rc b)(A:∀b,rc b->R.old b)(jM:∀(d:List (Nat×A1))(w w2:A0)(v:A1)(B:Nat),(∀b,R.old b->w.heap[b]?=R.w0.heap[b]?)->(∀i,(∃v,(i,v)∈d)↔i<R.X.n)->(d.map (·.1)).Nodup->(∀i v,(i,v)∈d->∃M,(∀b,M b->b<w.heap.size/\b≠R.X.Ch)/\C i v M w)->R.w0.heap.size<=w.heap.size->B=w.heap.size->(∀b,b<w.heap.size->b≠R.X.Ch->w2.heap[b]?=w.heap[b]?)->w2.ownsRow B 234 8 v d.length ((d.map (·.2)).flatMap λv=>v.cells.toList)->∀T0,Ai A6 128 #[v,FU (Ek 129) #[] #[]] (on w2 T0) λe I=>e=AZ (Ay #[])/\Q d v w2 I)(gs:Array AR)(sl:Option (Nat×Nat))(t:Dh)(q:Nat->Nat)(Jj:R.X.c0=gs.size)(KW:De A6 R.X.Wb gs w t q (G ((B5 126).at ⟨T,[]⟩ [B1 o2 [0],BS c3]) R.cs)):∃(N:Nat)(D:Array AR)(w':A0)(DX:Option (Nat×Nat))(EG:Nat->Nat)(E:Dh)(d:List (Nat×A1))(v:A1)(w2 I:A0)(z:zy),runNT A6 N (EV gs w sl) t=(.next (EV D w' DX),E)/\De A6 R.X.BW D w' E EG (G (c'.finish v) cs')/\Q d v w2 I/\w'.heap=I.heap/\AN CM (C_ z) v v/\Closed CM (λb=>R.X.BW b∨U b) z w'/\(∀b,rc b->z b)/\(∀b,R.X.BW b∨U b->b<w'.heap.size)/\(w'.os=R.w0.os/\w'.output=R.w0.output/\R.w0.heap.size<=w'.heap.size)/\∀b,U b->w'.heap[b]?=R.w0.heap[b]?:=by
 have hlt:∀b,R.old b->b<R.w0.heap.size:=λb hb=>by rw[y]at hb;rw[f];simpa using hb.1
 have Gg:∀s,(R.from s).Ok:=λs=>aTC (R:=R.from s) H S hn r YC FZ hlt (K s) (AI s);have Bm:∀s,(R.from s).X.M2:=λs=>aXL (X:=(R.from s).X) u hC;obtain⟨NF,m1,t1,s,r1,E4⟩:=aI' Gg AI Bm Bq y f hs h1 h2 li Fa Mq gs sl t q Jj (by rw[H];exact KW);rw[H]at r1;have VX:=K s;have m:R.X.Ch<R.w0.heap.size:=by rw[f];have:=Mq.1;simp;omega
 have aaE:=y▸VX.AW;have wi:¬rc R.X.Ch:=λh=>by have this:R.old R.X.Ch:=A _ h;rw[y]at this;exact this.2.2.2 rfl
 have wu:¬R.old R.X.Ch:=λh=>by rw[y]at h;exact h.2.2.2 rfl
 have vo:R.AW<R.w0.heap.size/\¬R.X.BW R.AW:=by
  have AV:R.old R.AW:=VX.AW;refine⟨hlt _ AV,λh=>?_⟩;rw[y]at AV;rcases h with h|h;·exact AV.2.1 h
  exact AV.2.2.1 h
 obtain⟨N2,Sn,w2,Te,C8,t2,d,v,wa,HZ,z,g,r2,_,c2,rfl,AH,C7,hv,Hm,Eg,Du,RU,vb⟩:=aIC (R:=R.from s) (rd:=rd) (rc:=rc) (C:=C) (c':=c') (cs':=cs') (Q:=Q) (U:=U) F wu H hn r Fb u L4 e9 A wi VX.AW hlt VX.ch m Mq.2 vo jM E4;exact⟨NF+N2,Sn,w2,Te,C8,t2,d,v,wa,HZ,z,V2 r1 r2,c2,AH,C7,hv,Hm,Eg,Du,RU,vb⟩
end
end
end Go.Proofs.YtcfhleenecfghaaGreatDoor.Twin
namespace Go.Proofs.YtcfhleenecfghaaGreatDoor
variable{s v:zz}{kw:Int}{fs ws:List zz}{l p x:zx}{M n pos q t:Nat}{bv:Type}{b c:UInt8}
namespace V
def TJ(b:UInt8):Bool:=Bz (48<=b.toNat)&&Bz (b.toNat<=57)
def isLet(b:UInt8):Bool:=Bz (97<=b.toNat)&&Bz (b.toNat<=122)||Bz (65<=b.toNat)&&Bz (b.toNat<=90)
def digits(l:zx):Bool:=l.all TJ&&!l.isEmpty
def number(l:zx):Bool:=digits l&&(l==[48]||l.head? !=Y 48)
def Mw(b:UInt8):Bool:=TJ b||isLet b||b==45
def mark(l:zx):Bool:=if digits l then number l else l.all Mw&&!l.isEmpty
def pieces(c:UInt8):zx->List (zx)|[]=>[[]]|b::r=>if b==c then[]::pieces c r else(b::(pieces c r).headD [])::(pieces c r).tail
def parts(s:zx):List (zx)×List (zx):=(pieces 46 (Gr (SI s [118]) [45]).1,if(Gr (SI s [118]) [45]).2.2 then pieces 46 (Gr (SI s [118]) [45]).2.1 else[])
def AY(s:zx):Bool:=Bz (s.length<=40)&&(Wy s [118]&&((parts s).1.length==3&&(parts s).1.all number&&(parts s).2.all mark))
def GJ(a b:Nat):Int:=if a<b then-1 else if b<a then 1 else 0
def Kx(a b:zx):Int:=if GJ a.length b.length !=0 then GJ a.length b.length else IJ a b
def O8(a b:zx):Int:=if digits a then if digits b then Kx a b else-1 else if digits b then 1 else IJ a b
def lex(f:zx->zx->Int):List (zx)->List (zx)->Int|[],[]=>0|[],_::_=>-1|_::_,[]=>1|a::az,b::AW=>if f a b !=0 then f a b else lex f az AW
def order(a b:zx):Int:=if lex Kx (parts a).1 (parts b).1 !=0 then lex Kx (parts a).1 (parts b).1 else if(parts a).2.isEmpty||(parts b).2.isEmpty then GJ (parts b).2.length (parts a).2.length else lex O8 (parts a).2 (parts b).2
def eZ(c:UInt8)(l:zx):pieces c l≠[]:=by cases l with|nil=>simp[pieces]|cons b r=>unfold pieces;split<;>simp
def pw(c:UInt8):∀(l:zx),(∀k:Nat,l[k]?≠Y c)->pieces c l=[l]|[],_=>rfl|b::r,h=>by have s:¬(b==c)=A3:=λe=>h 0 (by simp[gm e]);have y:pieces c r=[r]:=pw c r (λk=>by have:=h (k+1);simpa using this);rw[pieces,if_neg s,y];rfl
def yS(c:UInt8):∀(l:zx)(o:Nat),l[o]?=Y c->(∀k:Nat,k<o->l[k]?≠Y c)->pieces c l=l.take o::pieces c (l.drop (o+1))
 |[],o,h,_=>by simp at h
 |b::r,0,h,_=>by
  have s:(b==c)=A3:=by simpa using h
  rw[pieces,if_pos s];simp
 |b::r,o+1,h,hk=>by have s:¬(b==c)=A3:=λe=>hk 0 (by omega) (by simp[gm e]);have y:=yS c r o (by simpa using h) (λk hlt=>by have:=hk (k+1) (by omega);simpa using this);rw[pieces,if_neg s,y];simp
def aBz(c:UInt8):∀(n:Nat)(l:zx),aDv l [c]<=n->a'u [c] 0 n l=pieces c l
 |0,l,h=>by
  have hi:M_ l [c]=-1:=by
   rcases lB l [c]with⟨b,_⟩|⟨i,b,_⟩;·exact b
   have:=aDw (sub:=[c]) (by simp) b;omega
  rw[ZL]at hi;rw[pw c l (ra hi)];rfl
 |n+1,l,h=>by
  rcases lB l [c]with⟨b,_⟩|⟨i,b,_⟩;·have hi:=b;rw[ZL]at hi;rw[pw c l (ra hi)];unfold a'u;rw[if_pos (beq_iff_eq.2 b)]
  have hi:=b;rw[ZL]at hi;obtain⟨H,s⟩:=rb hi;have hc:=aDw (sub:=[c]) (by simp) b;have z:¬(M_ l [c]==-1)=A3:=λe=>by have:=beq_iff_eq.1 e;omega
  have e:(M_ l [c]).toNat=i:=by omega
  rw[yS c l i H s];unfold a'u;rw[if_neg z,e];have y:([c]:zx).length=1:=rfl;rw[y]at hc⊢;rw[aBz c n _ (by omega)];simp
def qF(s b:zz)(c:UInt8)(h:b.data.toList=[c]):(lC b 0 (VM s b) s).map (·.data.toList)=pieces c s.data.toList:=by rw[Lib.splitB_data,h];exact aBz c _ _ (by show aDv _ b.data.toList≥_;rw[h];exact Ae _)
def aK6(l:zx)(k:Nat)(h:k<l.length)(b:TJ l[k]=A9):digits l=A9:=by
 unfold digits;have:l.all TJ=A9:=by rw[mV];exact⟨l[k],DU h,by simp[b]⟩
 rw[this];rfl
def aK5(h:digits l=A3):l≠[]:=by intro e;subst e;simp[digits]at h
def has(l:zx)(c:UInt8):Bool:=l.contains c
def only(l h:zx):Bool:=l.all (λb=>has h b)&&!l.isEmpty
def marks:zx:=[48,49,50,51,52,53,54,55,56,57,97,98,99,100,101,102,103,104,105,106,107,108,109,110,111,112,113,114,115,116,117,118,119,120,121,122,65,66,67,68,69,70,71,72,73,74,75,76,77,78,79,80,81,82,83,84,85,86,87,88,89,90,45]
def a3f{p q:UInt8->Bool}(h:∀n:Fin 256,p (Vf n.val)=q (Vf n.val))(b:UInt8):p b=q b:=by have:=h ⟨b.toNat,b.toNat_lt⟩;simpa using this
def getD_at(l:List bv)(d:bv){k:Nat}(h:k<l.length):l.getD k d=l[k]:=by rw[mZ,K1 h];rfl
def O7(p:zx->Bool)(b:List zz):Bool:=b.all λx=>p x.data.toList
def a3L(p:zx->Bool)(b:List zz)(k:Nat)(h:k<b.length)(s:O7 p (b.take k)=A3)(h2:p (b.getD k B8).data.toList=A3):O7 p (b.take (k+1))=A3:=by unfold O7 at*;rw[dA h,mU,s];rw[getD_at _ _ h]at h2;simp[h2]
def a3K(p:zx->Bool)(b:List zz)(k:Nat)(h:k<b.length)(h2:p (b.getD k B8).data.toList=A9):O7 p b=A9:=by unfold O7;rw[getD_at _ _ h]at h2;rw[mV];exact⟨b[k],DU h,by rw[h2];simp⟩
def a3J(p:zx->Bool)(b:List zz):O7 p b=(b.map (·.data.toList)).all p:=by unfold O7;rw[aGj];rfl
def lexB(f:zx->zx->Int)(b h:List zz):Int:=lex f (b.map (·.data.toList)) (h.map (·.data.toList))
def drop_at(l:List bv)(k:Nat)(h:k<l.length):l.drop k=l[k]::l.drop (k+1):=mW h
def a8k(f:zx->zx->Int)(b s:List zz)(k:Nat)(y:k<b.length)(h2:k<s.length)(h:(f (b.getD k B8).data.toList (s.getD k B8).data.toList !=0)=A9):lexB f (b.drop k) (s.drop k)=lexB f (b.drop (k+1)) (s.drop (k+1)):=by rw[getD_at _ _ y,getD_at _ _ h2]at h;unfold lexB;rw[drop_at b k y,drop_at s k h2,Gd,Gd,lex,if_neg (by rw[h];simp)]
def a8g(f:zx->zx->Int)(b s:List zz)(k:Nat)(y:k<b.length)(h2:k<s.length)(h:(f (b.getD k B8).data.toList (s.getD k B8).data.toList !=0)=A3):lexB f (b.drop k) (s.drop k)=f (b.getD k B8).data.toList (s.getD k B8).data.toList:=by rw[getD_at _ _ y,getD_at _ _ h2]at h;rw[getD_at _ _ y,getD_at _ _ h2];unfold lexB;rw[drop_at b k y,drop_at s k h2,Gd,Gd,lex,if_pos h]
def a8i(f:zx->zx->Int)(b h:List zz)(k:Nat)(s:k<b.length)(h2:h.length<=k):lexB f (b.drop k) (h.drop k)=1:=by unfold lexB;rw[drop_at b k s,tN h2];rfl
def a8h(f:zx->zx->Int)(h b:List zz)(k:Nat)(s:h.length<=k)(h2:k<b.length):lexB f (h.drop k) (b.drop k)=-1:=by unfold lexB;rw[drop_at b k h2,tN s];rfl
def a8j(f:zx->zx->Int)(b h:List zz)(k:Nat)(s:b.length<=k)(h2:h.length<=k):lexB f (b.drop k) (h.drop k)=0:=by unfold lexB;rw[tN s,tN h2];rfl
def k3(c:UInt8):∀(l:zx),∀q∈pieces c l,q.length<=l.length
 |[],q,h=>by simp[pieces]at h;subst h;simp
 |b::r,q,h=>by
  have s:=k3 c r;rw[pieces]at h;split at h
  ·rcases List.mem_cons.1 h with h|h;·subst h;simp
   have:=s q h;simp;omega
  rcases List.mem_cons.1 h with h|h;·subst h;have z:=eZ c r;cases y:pieces c r with|nil=>exact absurd y z|cons x H=>have:=s x (by rw[y];simp);simp;omega
  have:=s q (aH3 h);simp;omega
def aYZ{t:zz}(h:t.data.toList=SI s.data.toList p)(hs:s.size<=n):t.size<=n:=by
 have e1:t.data.toList.length=t.size:=by simp
 have e2:s.data.toList.length=s.size:=by simp
 rw[<-e1,h];unfold SI;split;·rw[cy];omega
 omega
def uA{t x y:zz}(hx:x.data.toList=(Gr t.data.toList p).1)(hy:y.data.toList=(Gr t.data.toList p).2.1)(hs:t.size<=n):x.size<=n/\y.size<=n:=by
 have e1:x.data.toList.length=x.size:=by simp
 have e2:y.data.toList.length=y.size:=by simp
 have b:t.data.toList.length=t.size:=by simp
 rw[<-e1,<-e2,hx,hy];unfold Gr;split
 ·constructor;·have:=List.length_take_le (M_ t.data.toList p).toNat t.data.toList;simp only[Zo];omega
  simp only[cy];omega
 simp only[List.length_nil];omega
def aJq(h:∀j:Nat,l[j]?≠Y c):Gr l [c]=(l,[],A9):=by
 rcases lB l [c]with⟨b,_⟩|⟨i,b,_⟩;·unfold Gr;rw[b,if_neg (by omega)]
 rw[ZL]at b;exact absurd (rb b).1 (h i)
def aJr{o:Nat}(h:l[o]?=Y c)(H:∀j:Nat,j<o->l[j]?≠Y c):Gr l [c]=(l.take o,l.drop (o+1),A3):=by
 rcases lB l [c]with⟨b,_⟩|⟨i,b,_⟩;·rw[ZL]at b;exact absurd h (ra b o)
 have h2:=b;rw[ZL]at h2;obtain⟨s,y⟩:=rb h2;have e:i=o:=by
  rcases Nat.lt_trichotomy i o with hlt|he|z;·exact absurd s (H i hlt)
  ·exact he
  exact absurd h (y o z)
 subst e;unfold Gr;rw[b,if_pos (by omega)];simp
def aY_(h:l.head?=Y 118):SI l [118]=l.drop 1:=by
 cases l with
 |nil=>cases h
 |cons a r=>
  have e:a=118:=by simpa using h
  subst e;simp[SI,Wy]
def aUO:Wy l [118]=(l.head?==Y 118):=by cases l with|nil=>rfl|cons a r=>rw[VA];simp[Wy];exact eq_comm
def aYm(h:(l.head?==Y 118)=A9):AY l=A9:=by unfold AY;rw[aUO,h];simp
def zT(h:40<l.length):AY l=A9:=by unfold AY;rw[decide_eq_false (by omega)];rfl
def IM{bv:Type}(f:bv->bv->Int):Prop:=(∀x y,f x y=-1∨f x y=0∨f x y=1)/\(∀x y,f y x=-f x y)/\∀x y z,f x y<=0->f y z<=0->f x z<=0
def Good{bv:Type}(f:bv->bv->Int):Prop:=IM f/\∀x y,f x y=0->x=y
def KA{bv:Type}(f g:bv->bv->Int)(x y:bv):Int:=if f x y !=0 then f x y else g x y
def IM.refl{f:bv->bv->Int}(h:IM f)(x:bv):f x x=0:=by have:=h.2.1 x x;omega
def IM.back{d:Type}{f:bv->bv->Int}(h:IM f)(p:d->bv):IM λx y=>f (p x) (p y):=⟨λ_ _=>h.1 _ _,λ_ _=>h.2.1 _ _,λ_ _ _=>h.2.2 _ _ _⟩
def Tj(f g:bv->bv->Int)(x y:bv):f x y≠0/\KA f g x y=f x y∨f x y=0/\KA f g x y=g x y:=by
 unfold KA;by_cases h:f x y=0;·exact AJ ⟨h,by rw[h];rfl⟩
 exact AD ⟨h,by rw[if_pos (bne_iff_ne.2 h)]⟩
def IM.then{f g:bv->bv->Int}(AK:IM f)(AI:IM g):IM (KA f g):=by
 refine⟨λx y=>?_,λx y=>?_,λx y z Q h2=>?_⟩
 ·rcases Tj f g x y with⟨_,e⟩|⟨_,e⟩<;>rw[e];·exact AK.1 x y
  exact AI.1 x y
 ·have a:=AK.2.1 x y;rcases Tj f g x y with⟨h,e⟩|⟨h,e⟩<;>rcases Tj f g y x with⟨b,s⟩|⟨b,s⟩<;>rw[e,s];·exact a
  ·omega
  ·omega
  exact AI.2.1 x y
 have H:f x y<=0:=by rcases Tj f g x y with⟨h,e⟩|⟨h,e⟩<;>omega
 have I:f y z<=0:=by rcases Tj f g y z with⟨h,e⟩|⟨h,e⟩<;>omega
 have N:=AK.2.2 x y z H I;rcases Tj f g x z with⟨h,e⟩|⟨h,e⟩;·omega
 have U:=AK.2.1 x z;have r2:=AK.2.2 z x y (by omega) H;have d:=AK.2.1 z y;have M:f y z=0:=by omega
 have i:=AK.2.2 y z x I (by omega);have j:=AK.2.1 y x;have K:f x y=0:=by omega
 rcases Tj f g x y with⟨b,_⟩|⟨_,e1⟩;·exact absurd K b
 rcases Tj f g y z with⟨b,_⟩|⟨_,e2⟩;·exact absurd M b
 rw[e];exact AI.2.2 x y z (by omega) (by omega)
def Good.then{bv:Type}{f g:bv->bv->Int}(b:IM f)(AI:Good g):Good (KA f g):=⟨b.then AI.1,λx y h=>by
 rcases Tj f g x y with⟨s,e⟩|⟨_,e⟩;·omega
 exact AI.2 x y (by omega)⟩
def aJ:IM GJ:=by
 refine⟨λx y=>?_,λx y=>?_,λx y z=>?_⟩
 ·unfold GJ;split;·exact AD rfl
  split;·exact AJ (AJ rfl)
  exact AJ (AD rfl)
 ·unfold GJ;by_cases s:x<y;·rw[if_neg (by omega),if_pos s,if_pos s];rfl
  by_cases h2:y<x;·rw[if_pos h2,if_neg s,if_pos h2]
  rw[if_neg h2,if_neg s,if_neg s,if_neg h2];rfl
 unfold GJ;intro s h2;have a:x<=y:=by
  by_cases h:y<x;·rw[if_neg (by omega),if_pos h]at s;omega
  omega
 have b:y<=z:=by
  by_cases h:z<y;·rw[if_neg (by omega),if_pos h]at h2;omega
  omega
 by_cases h:x<z;·rw[if_pos h];omega
 rw[if_neg h,if_neg (by omega)];omega
def aJV:Good GJ:=⟨aJ,λx y h=>by
 unfold GJ at h;by_cases b:x<y;·rw[if_pos b]at h;omega
 by_cases h2:y<x;·rw[if_neg b,if_pos h2]at h;omega
 omega⟩
def Ho{bv:Type}(f:bv->bv->Int):List bv->List bv->Int|[],[]=>0|[],_::_=>-1|_::_,[]=>1|a::az,b::AW=>if f a b !=0 then f a b else Ho f az AW
def WL(f:bv->bv->Int)(a b:bv)(az s:List bv):f a b≠0/\Ho f (a::az) (b::s)=f a b∨f a b=0/\Ho f (a::az) (b::s)=Ho f az s:=by
 by_cases h:f a b=0;·exact AJ ⟨h,by rw[Ho,h];rfl⟩
 exact AD ⟨h,by rw[Ho,if_pos (bne_iff_ne.2 h)]⟩
def a8l{f:bv->bv->Int}(AK:Good f):Good (Ho f):=by
 have r:∀x:List bv,∀y,Ho f x y=-1∨Ho f x y=0∨Ho f x y=1:=by
  intro x;induction x with
  |nil=>intro y;cases y<;>simp[Ho]
  |cons a I M=>
   intro y;cases y with
   |nil=>simp[Ho]
   |cons b H=>
    rcases WL f a b I H with⟨_,e⟩|⟨_,e⟩<;>rw[e];·exact AK.1.1 a b
    exact M H
 have s:∀x:List bv,∀y,Ho f y x=-Ho f x y:=by
  intro x;induction x with
  |nil=>intro y;cases y<;>simp[Ho]
  |cons a I M=>
   intro y;cases y with
   |nil=>simp[Ho]
   |cons b H=>
    have q:=AK.1.2.1 a b;rcases WL f a b I H with⟨h,e⟩|⟨h,e⟩<;>rcases WL f b a H I with⟨K,N⟩|⟨K,N⟩<;>rw[e,N];·exact q
    ·omega
    ·omega
    exact M H
 have t:∀x:List bv,∀y z,Ho f x y<=0->Ho f y z<=0->Ho f x z<=0:=by
  intro x;induction x with
  |nil=>intro y z _ _;cases z<;>simp[Ho]
  |cons a I M=>
   intro y z h1 h2;cases y with
   |nil=>simp[Ho]at h1
   |cons b H=>
    cases z with
    |nil=>simp[Ho]at h2
    |cons c cs=>
     have Q:f a b<=0:=by rcases WL f a b I H with⟨h,e⟩|⟨h,e⟩<;>omega
     have U:f b c<=0:=by rcases WL f b c H cs with⟨h,e⟩|⟨h,e⟩<;>omega
     have d:=AK.1.2.2 a b c Q U;rcases WL f a c I cs with⟨h,e⟩|⟨h,e⟩;·omega
     have r1:=AK.1.2.1 a c;have r2:=AK.1.2.2 c a b (by omega) Q;have i:=AK.1.2.1 c b;have z2:f b c=0:=by omega
     have j:=AK.1.2.2 b c a U (by omega);have m:=AK.1.2.1 b a;have Ew:f a b=0:=by omega
     rcases WL f a b I H with⟨K,_⟩|⟨_,e1⟩;·exact absurd Ew K
     rcases WL f b c H cs with⟨K,_⟩|⟨_,e2⟩;·exact absurd z2 K
     rw[e];exact M H cs (by omega) (by omega)
 refine⟨⟨r,s,t⟩,?_⟩;intro x;induction x with
 |nil=>intro y h;cases y<;>simp[Ho]at h⊢
 |cons a I M=>
  intro y h;cases y with
  |nil=>simp[Ho]at h
  |cons b H=>
   rcases WL f a b I H with⟨K,e⟩|⟨K,e⟩;·omega
   rw[AK.2 a b K,M H (by omega)]
def n0(a b:UInt8):Int:=GJ a.toNat b.toNat
def aJU:Good n0:=⟨aJ.back _,λ_ _ h=>UInt8.toNat_inj.1 (aJV.2 _ _ h)⟩
def a4F:∀(x y:zx),IJ x y=Ho n0 x y
 |[],[]=>rfl
 |[],_::_=>rfl
 |_::_,[]=>rfl
 |a::az,b::AW=>by
  have I:=a4F az AW;rw[IJ,Ho,I];unfold n0 GJ;by_cases s:a<b;·have z:a.toNat<b.toNat:=UInt8.lt_iff_toNat_lt.1 s;rw[if_pos s,if_pos z];rfl
  have z:¬a.toNat<b.toNat:=λh=>s (UInt8.lt_iff_toNat_lt.2 h);by_cases h2:b<a;·have H:b.toNat<a.toNat:=UInt8.lt_iff_toNat_lt.1 h2;rw[if_neg s,if_pos h2,if_neg z,if_pos H];rfl
  have H:¬b.toNat<a.toNat:=λh=>h2 (UInt8.lt_iff_toNat_lt.2 h);rw[if_neg s,if_neg h2,if_neg z,if_neg H];rfl
def n1:Good IJ:=by rw[show IJ=Ho n0 from funext λx=>funext λy=>a4F x y];exact a8l aJU
def a4B:Good Kx:=Good.then (aJ.back List.length) n1
def aJX(a b:zx):O8 a b=KA (λx y=>GJ (if digits x then 0 else 1) (if digits y then 0 else 1)) (KA (λx y=>GJ (if digits x then x.length else 0) (if digits y then y.length else 0)) IJ) a b:=by unfold O8 KA;cases h:digits a<;>cases h2:digits b<;>simp[GJ,Kx,h,h2]
def a4A:Good O8:=by rw[show O8=KA _ (KA _ IJ)from funext λx=>funext λy=>aJX x y];exact Good.then (aJ.back λx:zx=>if digits x then 0 else 1) (Good.then (aJ.back λx:zx=>if digits x then x.length else 0) n1)
def a8m(f:zx->zx->Int):∀(x y:List (zx)),lex f x y=Ho f x y|[],[]=>rfl|[],_::_=>rfl|_::_,[]=>rfl|a::az,b::AW=>by rw[lex,Ho,a8m f az AW]
def pA{f:zx->zx->Int}(h:Good f):Good (lex f):=by rw[show lex f=Ho f from funext λx=>funext λy=>a8m f x y];exact a8l h
def po(x y:List (zx)×List (zx)):Int:=KA (λx y=>lex Kx x.1 y.1) (KA (λx y=>GJ (if x.2.isEmpty then 1 else 0) (if y.2.isEmpty then 1 else 0)) λx y=>lex O8 x.2 y.2) x y
def jz(a b:zx):order a b=po (parts a) (parts b):=by
 unfold order po KA;generalize parts a=x;generalize parts b=y;obtain⟨AM,i⟩:=x;obtain⟨j,f⟩:=y;cases i with
 |nil=>
  cases f with
  |nil=>simp[GJ,lex]
  |cons c cs=>simp[GJ]
 |cons d h=>
  cases f with
  |nil=>simp[GJ]
  |cons c cs=>simp[GJ]
def pq:Good po:=by
 refine⟨IM.then ((pA a4B).1.back λx:List (zx)×List (zx)=>x.1) (IM.then (aJ.back λx:List (zx)×List (zx)=>if x.2.isEmpty then 1 else 0) ((pA a4A).1.back λx:List (zx)×List (zx)=>x.2)),?_⟩;intro x y b;unfold po at b;rcases Tj (λx y:List (zx)×List (zx)=>lex Kx x.1 y.1) (KA (λx y=>GJ (if x.2.isEmpty then 1 else 0) (if y.2.isEmpty then 1 else 0)) λx y=>lex O8 x.2 y.2) x y with⟨h,e⟩|⟨h,e⟩;·exact absurd (e.symm.trans b) h
 have e1:=(pA a4B).2 _ _ h;rw[e]at b;rcases Tj (λx y:List (zx)×List (zx)=>GJ (if x.2.isEmpty then 1 else 0) (if y.2.isEmpty then 1 else 0)) (λx y=>lex O8 x.2 y.2) x y with⟨h2,e2⟩|⟨_,e2⟩;·exact absurd (e2.symm.trans b) h2
 have s:=(pA a4A).2 _ _ (e2.symm.trans b);exact Q7 e1 s
def join(c:UInt8):List (zx)->zx|[]=>[]|[a]=>a|a::b::r=>a++c::join c (b::r)
def oi(c:UInt8):∀(l:zx),join c (pieces c l)=l
 |[]=>rfl
 |b::r=>by
  have s:=oi c r;have H:=eZ c r;rw[pieces];cases z:pieces c r with
  |nil=>exact absurd z H
  |cons q y=>
   rw[z]at s;by_cases h:b=c;·subst h;rw[if_pos (beq_self_eq_true b)];show join b ([]::q::y)=b::r;rw[join,s];rfl
   rw[if_neg (by simpa using h)];show join c ((b::q)::y)=b::r;cases y with|nil=>rw[join]at s⊢;rw[s]|cons I y=>rw[join]at s⊢;rw[<-s];rfl
def aJp(l:zx)(c:UInt8):l=(Gr l [c]).1++if(Gr l [c]).2.2 then c::(Gr l [c]).2.1 else[]:=by
 rcases lB l [c]with⟨b,_⟩|⟨i,b,_⟩;·rw[ZL]at b;rw[aJq (ra b)];simp
 rw[ZL]at b;obtain⟨h,s⟩:=rb b;rw[aJr h s];have hi:i<l.length:=(List.getElem?_eq_some_iff.1 h).1;have he:l[i]=c:=(List.getElem?_eq_some_iff.1 h).2;show l=l.take i++c::l.drop (i+1);rw[<-he,<-mW hi,d']
def aCM(h:AY l=A3):l.head?=Y 118:=by
 cases b:l.head?==Y 118;·rw[aYm b]at h;cases h
 exact gm b
def aYl(h:AY l=A3):l=118::(join 46 (parts l).1++if(parts l).2=[]then[]else 45::join 46 (parts l).2):=by
 have s:=aCM h;cases l with
 |nil=>cases s
 |cons a r=>
  have e:a=118:=by simpa using s
  subst e;congr 1;unfold parts;rw[aY_ s];show r=_;have y:(118::r:zx).drop 1=r:=rfl;rw[y];have b:=aJp r 45;generalize Gr r [45]=t at b⊢;obtain⟨H,I,z⟩:=t;cases z;·simp[oi]at b⊢;exact b
  simp[oi,eZ]at b⊢;exact b
def aAM(a b:zx):order b a=-order a b:=by rw[jz,jz];exact pq.1.2.1 _ _
def aAK(a b c:zx)(h:order a b<=0)(h2:order b c<=0):order a c<=0:=by rw[jz]at*;exact pq.1.2.2 _ _ _ h h2
def aAL(a b:zx):order a b=-1∨order a b=0∨order a b=1:=by rw[jz];exact pq.1.1 _ _
def blank(b:UInt8):Bool:=b==32||b==9
def QD(x:Nat):Bool:=x==32||x==9
def Jv:zx->zx->List (zx)|d,[]=>if d.isEmpty then[]else[d]|d,b::r=>if blank b then if d.isEmpty then Jv [] r else d::Jv [] r else Jv (d++[b]) r
def words(l:zx):List (zx):=Jv [] l
def kQ:∀(x r d:zx),(∀b∈x,blank b=A9)->Jv d (x++r)=Jv (d++x) r|[],r,d,_=>by simp|b::x,r,d,h=>by have s:=h b (by simp);rw[Kq,Jv,s];simp only[EJ,if_false];rw[kQ x r (d++[b]) λy hy=>h y (by simp[hy]),SV];rfl
def aN_(h:128<=b.toNat):blank b=A9:=by
 unfold blank;have s:b≠32:=λe=>by subst e;revert h;decide
 have h2:b≠9:=λe=>by subst e;revert h;decide
 simp[s,h2]
def aNa{x:Nat}(h:128<=x):QD x=A9:=by unfold QD;simp;omega
def aIK(b:UInt8):QD b.toNat=blank b:=by
 unfold QD blank;rw[VA];simp only[Bool.or_eq_true,beq_iff_eq];constructor
 ·rintro(h|h);·exact AD (UInt8.toNat_inj.1 h)
  exact AJ (UInt8.toNat_inj.1 h)
 rintro(h|h);·exact AD (by rw[h];rfl)
 exact AJ (by rw[h];rfl)
def aK0(n b0 b b2 s:Nat)(h:b0<128):Tr n b0 b b2 s=(b0,1):=by unfold Tr;rw[if_pos h]
def aK'(n b0 b b2 h:Nat)(s:128<=b0)(hn:1<=n):128<=(Tr n b0 b b2 h).1/\1<=(Tr n b0 b b2 h).2/\(Tr n b0 b b2 h).2<=n/\(1<(Tr n b0 b b2 h).2->128<=b)/\(2<(Tr n b0 b b2 h).2->128<=b2)/\(3<(Tr n b0 b b2 h).2->128<=h)/\(Tr n b0 b b2 h).2<=4:=by
 unfold Tr;rw[if_neg (by omega)];split;·split<;>simp<;>omega
 split;·split<;>simp<;>omega
 split;·split<;>simp<;>omega
 simp;omega
def aK2(y:s.data.toList[pos]?=Y b)(h:b.toNat<128):Tw s pos=(b.toNat,1):=by
 rw[aDx];have e:s.data.toList.getD pos 0=b:=by rw[mZ,y];rfl
 rw[e];exact aK0 _ _ _ _ _ h
def aK1(U:s.data.toList[pos]?=Y b)(h:128<=b.toNat):128<=(Tw s pos).1/\1<=(Tw s pos).2/\pos+(Tw s pos).2<=s.data.toList.length/\∀y∈(s.data.toList.drop pos).take (Tw s pos).2,blank y=A9:=by
 have hlt:pos<s.data.toList.length:=(List.getElem?_eq_some_iff.1 U).1;have e:s.data.toList.getD pos 0=b:=by rw[mZ,U];rfl
 have AS:=aK' (s.data.toList.length-pos) b.toNat (s.data.toList.getD (pos+1) 0).toNat (s.data.toList.getD (pos+2) 0).toNat (s.data.toList.getD (pos+3) 0).toNat h (by omega);rw[aDx,e];generalize Tr (s.data.toList.length-pos) b.toNat (s.data.toList.getD (pos+1) 0).toNat (s.data.toList.getD (pos+2) 0).toNat (s.data.toList.getD (pos+3) 0).toNat=d at AS⊢;obtain⟨d1,d2⟩:=d;obtain⟨I,K,g3,M,N,Q,H⟩:=AS;simp only at I K g3 M N Q H⊢;refine⟨I,K,by omega,λy hy=>?_⟩;obtain⟨j,z,hy⟩:=List.mem_iff_getElem.1 hy;rw[Zo,cy]at z;rw[List.getElem_take,aGw]at hy;have AI:s.data.toList.getD (pos+j) 0=y:=by rw[mZ,K1 (by omega),hy];rfl
 rw[<-AI];apply aN_;match j,z with|0,_=>rw[Nat.add_zero,e];exact h|1,z=>exact M (by omega)|2,z=>exact N (by omega)|3,z=>exact Q (by omega)|j+4,z=>omega
def rest(l:zx)(pos:Nat):Option Nat->List (zx)|Z=>Jv [] (l.drop pos)|Y a=>Jv ((l.drop a).take (pos-a)) (l.drop pos)
def piece(s:zz)(x:Nat×Nat):zx:=(s.data.toList.drop x.1).take (x.2-x.1)
def Yf(s:zz):∀(f pos:Nat)(st:Option Nat)(b:List (Nat×Nat)),s.data.toList.length<=pos+f->pos<=s.data.toList.length->(∀a,st=Y a->a<pos)->(a'r s (Ts QD s f pos st b)).map (piece s)=b.map (piece s)++rest s.data.toList pos st
 |0,pos,st,b,h1,h2,h3=>by
  have M:pos=s.data.toList.length:=by omega
  have hs:s.size=s.data.toList.length:=by simp
  cases st with
  |none=>simp only[Ts,a'r,rest];rw[M,a2R];simp[Jv]
  |some a=>
   have U:=h3 a rfl;have i:((s.data.toList.drop a).take (pos-a)).isEmpty=A9:=by rw[aH',<-aH0,Zo,cy];omega
   simp only[Ts,a'r,U7,Gd,Kt,rest];rw[show s.data.toList.drop pos=[]by rw[M,a2R],Jv,i];simp only[EJ,if_false];show b.map (piece s)++[(s.data.toList.drop a).take (s.size-a)]=_;rw[hs,<-M]
 |f+1,pos,st,b,h1,h2,h3=>by
  have hs:s.size=s.data.toList.length:=by simp
  by_cases hlt:pos<s.size
  ·have N:Ts QD s (f+1) pos st b=if QD (Tw s pos).1 then match st with|Y a=>Ts QD s f (pos+(Tw s pos).2) Z (b++[(a,pos)])|Z=>Ts QD s f (pos+(Tw s pos).2) Z b else match st with|Y a=>Ts QD s f (pos+(Tw s pos).2) (Y a) b|Z=>Ts QD s f (pos+(Tw s pos).2) (Y pos) b:=by
    conv=>lhs;unfold Ts
    rw[if_pos hlt];cases st<;>rfl
   rw[N];clear N;have y:pos<s.data.toList.length:=by omega
   have hb:s.data.toList[pos]?=Y s.data.toList[pos]:=K1 y;have K:s.data.toList.drop pos=s.data.toList[pos]::s.data.toList.drop (pos+1):=mW y;by_cases r:s.data.toList[pos].toNat<128
   ·rw[aK2 hb r];simp only;rw[aIK];cases I:blank s.data.toList[pos];·simp only[EJ,if_false];cases st with|none=>simp only;rw[Yf s f (pos+1) (Y pos) b (by omega) (by omega) λa e=>by injection e;omega];simp only[rest];rw[K,Jv,I];simp|some a=>have U:=h3 a rfl;simp only;rw[Yf s f (pos+1) (Y a) b (by omega) (by omega) λa' e=>by injection e;omega];simp only[rest];rw[K,Jv,I];simp only[EJ,if_false];congr 2;rw[show pos+1-a=pos-a+1 by omega,dA (by rw[cy];omega),aGw];congr 3;omega
    simp only[if_true];cases st with
    |none=>simp only;rw[Yf s f (pos+1) Z b (by omega) (by omega) λa e=>by cases e];simp only[rest];rw[K,Jv,I];simp
    |some a=>
     have U:=h3 a rfl;have i:((s.data.toList.drop a).take (pos-a)).isEmpty=A9:=by rw[aH',<-aH0,Zo,cy];omega
     simp only;rw[Yf s f (pos+1) Z (b++[(a,pos)]) (by omega) (by omega) λa e=>by cases e];simp only[rest,U7,Gd,Kt];rw[K,Jv,I,i];simp[piece]
   obtain⟨Q,j,z,H⟩:=aK1 hb (by omega);generalize Tw s pos=d at Q j z H⊢;obtain⟨d1,h⟩:=d;simp only at Q j z H⊢;rw[aNa Q];simp only[EJ,if_false];have m:s.data.toList.drop pos=(s.data.toList.drop pos).take h++s.data.toList.drop (pos+h):=by rw[<-aGp,d']
   cases st with
   |none=>
    simp only;rw[Yf s f (pos+h) (Y pos) b (by omega) z λa e=>by injection e;omega];simp only[rest];conv=>rhs;rw[m]
    rw[kQ _ _ _ H];simp
   |some a=>
    have U:=h3 a rfl;simp only;rw[Yf s f (pos+h) (Y a) b (by omega) z λa' e=>by injection e;omega];simp only[rest];conv=>rhs;rw[m]
    rw[kQ _ _ _ H];congr 2;rw[show pos+h-a=pos-a+h by omega,List.take_add,aGp,show a+(pos-a)=pos by omega]
  have N:Ts QD s (f+1) pos st b=(b,st):=Lib.spansFromP_end _ _ _ _ _ _ hlt;rw[N];have M:pos=s.data.toList.length:=by omega
  have AV:=Yf s 0 pos st b (by omega) h2 h3;simpa[Ts]using AV
def aL2(s:zz):(VN QD s).map (·.data.toList)=words s.data.toList:=by
 have hs:s.size=s.data.toList.length:=by simp
 have h:=Yf s s.size 0 Z [] (by omega) (by omega) (λa e=>by cases e);unfold VN Lib.spansOfP;rw[SY];have he:((λx:zz=>x.data.toList)∘λx:Nat×Nat=>s.extract x.1 x.2)=piece s:=by funext x;show(s.extract x.1 x.2).data.toList=_;rw[Lib.extract_data];rfl
 rw[he,h];simp[rest,words]
end V
def V.kind(l:zx):Int:=if l==[40]then 1 else if l==[41]then 2 else if l==[61,62]then 3 else 0
def V.HX(l:zx):Int:=if l==[109,111,100,117,108,101]then 1 else if l==[114,101,113,117,105,114,101]then 2 else if l==[101,120,99,108,117,100,101]then 3 else if l==[114,101,112,108,97,99,101]then 4 else 0
def V.said(l:zx):zx:=(Gr l [47,47]).1
def V.fit(ws:List zz)(ks:List Int):Bool:=ws.map (λs=>V.kind s.data.toList)==ks
def V.Ff(kw:Int)(ws:List zz):Option (Nat×List zz):=if kw==1&&V.fit ws [0]then Y (123,[ws.getD 0 B8])else if kw==2&&V.fit ws [0,0]then Y (221,[ws.getD 0 B8,ws.getD 1 B8])else if kw==3&&V.fit ws [0,0]then Y (222,[ws.getD 0 B8,ws.getD 1 B8])else if kw==4&&V.fit ws [0,3,0,0]then Y (224,[ws.getD 0 B8,⟨#[]⟩,ws.getD 2 B8,ws.getD 3 B8])else if kw==4&&V.fit ws [0,0,3,0,0]then Y (224,[ws.getD 0 B8,ws.getD 1 B8,ws.getD 3 B8,ws.getD 4 B8])else Z
def V.added(n:Nat)(kw:Int)(ws:List zz)(l:List (Nat×Nat×List zz)):Bool×List (Nat×Nat×List zz):=match V.Ff kw ws with|Y x=>(A3,l++[(n,x)])|Z=>(A9,l)
def V.opens(kw:Int)(ws:List zz):Bool:=(kw==2||kw==3||kw==4)&&V.fit ws [1]
def V.Nk(n:Nat)(ws:List zz)(b:Int)(l:List (Nat×Nat×List zz)):Bool×Int×Int×List (Nat×Nat×List zz):=if V.fit ws [2]then(A3,1,b,l)else((V.added n b ws l).1,2,b,(V.added n b ws l).2)
def V.EA(n:Nat)(ws:List zz)(st b:Int)(l:List (Nat×Nat×List zz)):Bool×Int×Int×List (Nat×Nat×List zz):=match ws with|[]=>(A3,st,b,l)|x::rest=>if st==2 then V.Nk n (x::rest) b l else if V.HX x.data.toList==1&&st !=0 then(A9,st,b,l)else if V.opens (V.HX x.data.toList) rest then(A3,2,V.HX x.data.toList,l)else((V.added n (V.HX x.data.toList) rest l).1,1,b,(V.added n (V.HX x.data.toList) rest l).2)
def V.RB(x:Nat×Nat×List zz):Prop:=(x.2.1=123/\∃a,x.2.2=[a])∨(x.2.1=221/\∃a b,x.2.2=[a,b])∨(x.2.1=222/\∃a b,x.2.2=[a,b])∨x.2.1=224/\∃a b c d,x.2.2=[a,b,c,d]
def V.h9(st b:Int):Prop:=(st=0∨st=1∨st=2)/\(b=0∨b=1∨b=2∨b=3∨b=4)
def V.may(st:Int)(l:List (Nat×Nat×List zz)):Bool:=match l with|[]=>A9|x::_=>!st==2&&x.2.1==123
def V.texts(b:List (zx)):List zz:=b.map λl=>⟨l.toArray⟩
def V.lines(s:zz):List zz:=V.texts (V.pieces 10 s.data.toList)
def V.I_(s:zz):List zz:=V.texts (V.words (V.said s.data.toList))
def V.GX:Nat->List zz->Int->Int->List (Nat×Nat×List zz)->List (Nat×Nat×List zz)×Nat|n,[],st,_,l=>(l,if V.may st l then 0 else n)|n,x::xs,st,blk,l=>if(V.EA (n+1) (V.I_ x) st blk l).1 then V.GX (n+1) xs (V.EA (n+1) (V.I_ x) st blk l).2.1 (V.EA (n+1) (V.I_ x) st blk l).2.2.1 (V.EA (n+1) (V.I_ x) st blk l).2.2.2 else((V.EA (n+1) (V.I_ x) st blk l).2.2.2,n+1)
def V.parse(s:zz):List (Nat×Nat×List zz)×Nat:=V.GX 0 (V.lines s) 0 0 []
def V.OS(b:UInt8):Bool:=b.toNat==46||b.toNat==45||b.toNat==95||Bz (97<=b.toNat)&&Bz (b.toNat<=122)||Bz (48<=b.toNat)&&Bz (b.toNat<=57)
def V.Ru(l:zx):Bool:=l.all V.OS&&(l !=[]&&(l !=[46]&&l !=[46,46]))
def V.path(l:zx):Bool:=Bz (l.length<=60)&&(V.pieces 47 l).all V.Ru
def V.M4(p:zz):Option (Int×Int×zz×zz):=if V.path p.data.toList then Z else Y (3,0,p,⟨#[]⟩)
def V.Sm(v:zz):Option (Int×Int×zz×zz):=if V.AY v.data.toList then Z else Y (2,0,⟨#[]⟩,v)
def V.JN(p v:zz):Option (Int×Int×zz×zz):=match V.M4 p with|Y f=>Y f|Z=>V.Sm v
def V.UM(p v:zz):Option (Int×Int×zz×zz):=if v.toList==[]then V.M4 p else V.JN p v
def V.Xn(a b c d:zz):Option (Int×Int×zz×zz):=match V.UM a b with|Y f=>Y f|Z=>V.JN c d
def V.da(t:Nat)(fs:List zz):Option (Int×Int×zz×zz):=if t==123 then V.M4 (fs.getD 0 B8)else if t==224 then V.Xn (fs.getD 0 B8) (fs.getD 1 B8) (fs.getD 2 B8) (fs.getD 3 B8)else V.JN (fs.getD 0 B8) (fs.getD 1 B8)
def V.place(t:Nat)(fs:List zz):Int×zz×zz:=if t==123 then(0,fs.getD 0 B8,⟨#[]⟩)else if t==221 then(1,fs.getD 0 B8,⟨#[]⟩)else if t==222 then(2,fs.getD 0 B8,fs.getD 1 B8)else(3,fs.getD 0 B8,fs.getD 1 B8)
def V.KS:List (Nat×Nat×List zz)->List ((Int×zz×zz)×Nat)->Option (Int×Int×zz×zz)|[],_=>Z|x::xs,seen=>match V.da x.2.1 x.2.2 with|Y f=>Y (f.1,(x.1:Int),f.2.2.1,f.2.2.2)|Z=>if seen.any λy=>Bz (y.1=V.place x.2.1 x.2.2)then Y (4,(x.1:Int),⟨#[]⟩,⟨#[]⟩)else V.KS xs (seen++[(V.place x.2.1 x.2.2,x.1)])
def V.MT(l:List (Nat×Nat×List zz))(n:Nat):List (Nat×Nat×List zz):=match l.getLast? with|Y x=>if x.1=n then l.dropLast else l|Z=>l
namespace V
def KT(n:Nat):UInt8:=Vf (48+n)
def Vl:Nat->Nat->zx|0,n=>[KT n]|f+1,n=>if n<10 then[KT n]else Vl f (n/10)++[KT (n%10)]
def a4T:∀(f n:Nat),1<=(Vl f n).length/\(Vl f n).length<=f+1
 |0,n=>by simp[Vl]
 |f+1,n=>by
  rw[Vl];by_cases b:n<10;·rw[if_pos b];simp
  rw[if_neg b];have h:=a4T f (n/10);simp;omega
def pv(c:UInt8)(l r:zx)(h:∀k:Nat,l[k]?≠Y c):pieces c (l++c::r)=l::pieces c r:=by have b:=yS c (l++c::r) l.length (by simp) (λk s=>by rw[List.getElem?_append_left s];exact h k);rw[b];simp
def YT(h:digits l=A3)(c:UInt8)(hc:TJ c=A9)(k:Nat):l[k]?≠Y c:=by intro e;have b:c∈l:=U8 e;unfold digits at h;simp only[G0,XS]at h;have:=h.1 c b;rw[hc]at this;cases this
def aWm(b:UInt8)(l:zx):said (b::l)=if[47,47].isPrefixOf (b::l)then[]else b::said l:=by
 unfold said Gr;by_cases h:[47,47].isPrefixOf (b::l)=A3
 ·rw[if_pos h];have:M_ (b::l) [47,47]=0:=by rw[M_,if_pos h]
  rw[this];rfl
 rw[if_neg h];have hi:M_ (b::l) [47,47]=if M_ l [47,47]==-1 then-1 else M_ l [47,47]+1:=by rw[M_,if_neg h]
 have y:=Lib.index_ge l [47,47];by_cases s:M_ l [47,47]=-1;·rw[hi,s];rfl
 rw[if_neg (by simpa using s)]at hi;rw[hi,if_pos (by omega),if_pos (by omega)];show(b::l).take (M_ l [47,47]+1).toNat=b::l.take (M_ l [47,47]).toNat;rw[show(M_ l [47,47]+1).toNat=(M_ l [47,47]).toNat+1 by omega,List.take_succ_cons]
def clean:zx->Bool|[]=>A3|b::l=>![47,47].isPrefixOf (b::l)&&clean l
def aBa:∀(l:zx),clean l=A3->said l=l|[],_=>rfl|b::l,h=>by unfold clean at h;rw[G0,Qw]at h;rw[aWm,h.1,aBa l h.2];rfl
def hR:∀(a r:zx)(c:UInt8),c≠47->clean a=A3->clean r=A3->clean (a++c::r)=A3|[],r,c,hc,_,A2=>by show clean (c::r)=A3;unfold clean;rw[A2,qp,Qw];simp only[gq,aCu];left;rw[beq_eq_false_iff_ne];exact hc.symm|[b],r,c,hc,_,A2=>by have h:=hR [] r c hc rfl A2;show clean (b::([]++c::r))=A3;unfold clean;rw[h,qp,Qw];simp only[gq,U9,aCu];right;left;rw[beq_eq_false_iff_ne];exact hc.symm|b::d::a,r,c,hc,AB,A2=>by unfold clean at AB;rw[G0]at AB;have h:=hR (d::a) r c hc AB.2 A2;show clean (b::(d::a++c::r))=A3;unfold clean;rw[h,qp];have:=AB.1;simp only[gq,Kq]at this⊢;exact this
def a47:∀(l:zx),(∀b∈l,b≠47)->clean l=A3|[],_=>rfl|b::l,h=>by have:=hR [] l b (h b (Je ..)) rfl (a47 l λx hx=>h x (Jd _ hx));simpa using this
def aZF(hn:x≠[])(h:∀b∈x,blank b=A9):words x=[x]:=by have:=kQ x [] [] h;rw[aGl,U9]at this;unfold words;rw[this,Jv];cases x with|nil=>exact absurd rfl hn|cons a r=>rfl
def aZE(r:zx)(hn:x≠[])(h:∀b∈x,blank b=A9)(hc:blank c=A3):words (x++c::r)=x::words r:=by have:=kQ x (c::r) [] h;rw[U9]at this;unfold words;rw[this,Jv,hc];cases x with|nil=>exact absurd rfl hn|cons a s=>rfl
def hD(x:zx):Prop:=x≠[]/\(∀b∈x,blank b=A9/\b≠10)/\clean x=A3
def aCX:∀(ws:List (zx)),(∀x∈ws,hD x)->words (join 32 ws)=ws|[],_=>rfl|[a],h=>by have:=h a (by simp);exact aZF this.1 λb s=>(this.2.1 b s).1|a::b::r,h=>by have AB:=h a (by simp);rw[join,aZE _ AB.1 (λc hc=>(AB.2.1 c hc).1) (by decide),aCX (b::r) λx hx=>h x (Jd _ hx)]
def a43:∀(ws:List (zx)),(∀x∈ws,hD x)->clean (join 32 ws)=A3|[],_=>rfl|[a],h=>(h a (by simp)).2.2|a::b::r,h=>by rw[join];exact hR a _ 32 (by decide) (h a (by simp)).2.2 (a43 (b::r) λx hx=>h x (Jd _ hx))
def ja(c:UInt8):∀(ws:List (zx))(b:UInt8),b∈join c ws->b=c∨∃x∈ws,b∈x
 |[],b,h=>by simp[join]at h
 |[a],b,h=>AJ ⟨a,by simp,h⟩
 |a::d::r,b,h=>by
  rw[join]at h;rcases List.mem_append.1 h with h|h;·exact AJ ⟨a,by simp,h⟩
  rcases List.mem_cons.1 h with h|h;·exact AD h
  rcases ja c (d::r) b h with h|⟨x,hx,s⟩;·exact AD h
  exact AJ ⟨x,Jd _ hx,s⟩
def yT:∀(l:zx),(pieces 47 l).tail.all (·!=[])=A3->clean l=A3/\l.getLast?≠Y 47
 |[],_=>⟨rfl,by simp⟩
 |b::r,h=>by
  have I:=eZ 47 r;rw[pieces]at h;cases y:pieces 47 r with
  |nil=>exact absurd y I
  |cons q K=>
   rw[y]at h;by_cases z:b=47
   ·subst z;rw[if_pos (by decide)]at h;simp only[aHA,List.all_cons,G0]at h;have ih:=yT r (by rw[y];exact h.2);cases r with
    |nil=>rw[pieces]at y;cases y;simp at h
    |cons d s=>
     have H:d≠47:=by intro e;subst e;rw[pieces,if_pos (by decide)]at y;cases y;simp at h
     refine⟨?_,by simpa using ih.2⟩;unfold clean;rw[ih.1,qp,Qw];simp[gq];intro e;exact absurd e.symm H
   rw[if_neg (by simpa using z)]at h;have ih:=yT r (by rw[y];exact h);refine⟨?_,?_⟩;·have:=hR [] r b z rfl ih.1;simpa using this
   cases r with|nil=>simpa using z|cons d s=>simpa using ih.2
def aUE(c:UInt8):∀(l:zx)(b:UInt8),b∈l->b=c∨∃q∈pieces c l,b∈q:=by intro l b h;have:=ja c (pieces c l) b;rw[oi]at this;exact this h
def aTu(b:UInt8)(h:OS b=A3):blank b=A9/\b≠10/\b≠40/\b≠41/\b≠61/\b≠47:=by have:=a3f (p:=λb=>!OS b||!blank b&&b !=10&&b !=40&&b !=41&&b !=61&&b !=47) (q:=λ_=>A3) (by decide+kernel) b;simp only[h,Tn,aCw,G0,Qw,bne_iff_ne]at this;obtain⟨⟨⟨⟨⟨s,h2⟩,h3⟩,h4⟩,y⟩,z⟩:=this;exact⟨s,h2,h3,h4,y,z⟩
def aSD(b:UInt8)(h:Mw b=A3):blank b=A9/\b≠10/\b≠40/\b≠41/\b≠61/\b≠47:=by have:=a3f (p:=λb=>!Mw b||!blank b&&b !=10&&b !=40&&b !=41&&b !=61&&b !=47) (q:=λ_=>A3) (by decide+kernel) b;simp only[h,Tn,aCw,G0,Qw,bne_iff_ne]at this;obtain⟨⟨⟨⟨⟨s,h2⟩,h3⟩,h4⟩,y⟩,z⟩:=this;exact⟨s,h2,h3,h4,y,z⟩
structure a2f(x:zx):Prop where
 Wi:hD x
 kind:kind x=0
 last:x.getLast?≠Y 47
 short:x.length<=60
def oq(hn:x≠[])(h:∀b∈x,b≠40/\b≠41/\b≠61):kind x=0:=by unfold kind;cases x with|nil=>exact absurd rfl hn|cons a r=>have AB:=h a (by simp);rw[if_neg (by simp;intro e;exact absurd e AB.1),if_neg (by simp;intro e;exact absurd e AB.2.1),if_neg (by simp;intro e;exact absurd e AB.2.2)]
def Uz(h:path p=A3):a2f p:=by
 unfold path at h;rw[G0,decide_eq_true_eq,XS]at h;have I:∀q∈pieces 47 p,q≠[]/\∀b∈q,OS b=A3:=by intro q y;have:=h.2 q y;unfold Ru at this;simp only[G0,XS,bne_iff_ne]at this;exact⟨this.2.1,this.1⟩
 have K:p≠[]:=by intro e;subst e;exact(I [] (by simp[pieces])).1 rfl
 have s:∀b∈p,blank b=A9/\b≠10/\b≠40/\b≠41/\b≠61:=by
  intro b s;rcases aUE 47 p b s with rfl|⟨q,y,H⟩;·decide
  have:=aTu b ((I q y).2 b H);exact⟨this.1,this.2.1,this.2.2.1,this.2.2.2.1,this.2.2.2.2.1⟩
 have AP:=yT p (by rw[XS];intro q y;have:=(I q (aH3 y)).1;simpa using this);exact⟨⟨K,λb z=>⟨(s b z).1,(s b z).2.1⟩,AP.1⟩,oq K λb z=>(s b z).2.2,AP.2,h.1⟩
def aSE(h:mark l=A3):∀b∈l,Mw b=A3:=by
 unfold mark at h;split at h;·rename_i AS;unfold digits at AS;simp only[G0,XS]at AS;intro b s;unfold Mw;rw[AS.1 b s];rfl
 simp only[G0,XS]at h;exact h.1
def aT8(h:number l=A3):∀b∈l,Mw b=A3:=by unfold number digits at h;simp only[G0,XS]at h;intro b s;unfold Mw;rw[h.1.1 b s];rfl
def aYk(h:AY l=A3):∀b∈l,b=118∨b=45∨b=46∨Mw b=A3:=by
 intro b s;rw[aYl h]at s;have hv:=h;unfold AY at hv;simp only[G0,XS]at hv;rcases List.mem_cons.1 s with s|s;·exact AD s
 rcases List.mem_append.1 s with s|s
 ·rcases ja 46 _ b s with s|⟨q,y,s⟩;·exact AJ (AJ (AD s))
  exact AJ (AJ (AJ (aT8 (hv.2.2.1.2 q y) b s)))
 split at s;·simp at s
 rcases List.mem_cons.1 s with s|s;·exact AJ (AD s)
 rcases ja 46 _ b s with s|⟨q,y,s⟩;·exact AJ (AJ (AD s))
 exact AJ (AJ (AJ (aSE (hv.2.2.2 q y) b s)))
def Yl{v:zx}(h:AY v=A3):a2f v:=by
 have s:∀b∈v,blank b=A9/\b≠10/\b≠40/\b≠41/\b≠61/\b≠47:=by
  intro b s;rcases aYk h b s with rfl|rfl|rfl|s;·decide
  ·decide
  ·decide
  exact aSD b s
 have z:v≠[]:=by intro e;subst e;exact absurd (aCM h) (by simp)
 have H:v.length<=40:=by unfold AY at h;simp only[G0,decide_eq_true_eq]at h;exact h.1
 refine⟨⟨z,λb y=>⟨(s b y).1,(s b y).2.1⟩,a47 v λb y=>(s b y).2.2.2.2.2⟩,oq z λb y=>⟨(s b y).2.2.1,(s b y).2.2.2.1,(s b y).2.2.2.2.1⟩,?_,by omega⟩;intro e;exact(s 47 (aH2 e)).2.2.2.2.2 rfl
def wd(fs:List zz)(i:Nat):zx:=(fs.getD i B8).data.toList
def Oa(t:Nat)(fs:List zz):List (zx):=if t==123 then[[109,111,100,117,108,101],wd fs 0]else if t==221 then[[114,101,113,117,105,114,101],wd fs 0,wd fs 1]else if t==222 then[[101,120,99,108,117,100,101],wd fs 0,wd fs 1]else if wd fs 1==[]then[[114,101,112,108,97,99,101],wd fs 0,[61,62],wd fs 2,wd fs 3]else[[114,101,112,108,97,99,101],wd fs 0,wd fs 1,[61,62],wd fs 2,wd fs 3]
def PQ(t:Nat)(fs:List zz):zx:=join 32 (Oa t fs)
def K9(l:List (Nat×List zz)):zx:=l.flatMap λx=>PQ x.1 x.2++[10]
def Valid(t:Nat)(fs:List zz):Prop:=RB (0,t,fs)/\da t fs=Z
def ua{p:zz}(h:M4 p=Z):path p.data.toList=A3:=by
 unfold M4 at h;split at h;·assumption
 cases h
def aKm{p:zz}(h:Sm p=Z):AY p.data.toList=A3:=by
 unfold Sm at h;split at h;·assumption
 cases h
def hg{p:zz}(h:JN p v=Z):path p.data.toList=A3/\AY v.data.toList=A3:=by unfold JN at h;cases b:M4 p with|some f=>rw[b]at h;cases h|none=>rw[b]at h;exact⟨ua b,aKm h⟩
def toList_nil(h:v.toList=[]):v.data.toList=[]:=by rwa[a'D]at h
def aKl{p:zz}(h:UM p v=Z):path p.data.toList=A3/\(v.data.toList=[]∨AY v.data.toList=A3):=by
 unfold UM at h;split at h;·rename_i hv;exact⟨ua h,AD (toList_nil (gm hv))⟩
 exact⟨(hg h).1,AJ (hg h).2⟩
def zS(h:Valid t fs):(t=123/\∃a,fs=[a]/\path a.data.toList=A3)∨(t=221/\∃a b,fs=[a,b]/\path a.data.toList=A3/\AY b.data.toList=A3)∨(t=222/\∃a b,fs=[a,b]/\path a.data.toList=A3/\AY b.data.toList=A3)∨t=224/\∃a b c d,fs=[a,b,c,d]/\path a.data.toList=A3/\(b.data.toList=[]∨AY b.data.toList=A3)/\path c.data.toList=A3/\AY d.data.toList=A3:=by
 obtain⟨hs,y⟩:=h;rcases hs with⟨h1,a,h2⟩|⟨h1,a,b,h2⟩|⟨h1,a,b,h2⟩|⟨h1,a,b,c,d,h2⟩;all_goals simp only at h1 h2;subst h1 h2
 ·exact AD ⟨rfl,a,rfl,ua y⟩
 ·exact AJ (AD ⟨rfl,a,b,rfl,hg y⟩)
 ·exact AJ (AJ (AD ⟨rfl,a,b,rfl,hg y⟩))
 have s:Xn a b c d=Z:=y;unfold Xn at s;cases z:UM a b with|some f=>rw[z]at s;cases s|none=>rw[z]at s;have h1:=aKl z;have h2:=hg s;exact AJ (AJ (AJ ⟨rfl,a,b,c,d,rfl,h1.1,h1.2,h2.1,h2.2⟩))
def kR(h:(x !=[]&&x.all (λb=>!blank b&&b !=10)&&clean x)=A3):hD x:=by simp only[G0,XS,bne_iff_ne,Qw]at h;exact⟨h.1.1,h.1.2,h.2⟩
def aCJ(h:Valid t fs):∀x∈Oa t fs,hD x:=by
 rcases zS h with⟨rfl,a,rfl,s⟩|⟨rfl,a,b,rfl,s,h2⟩|⟨rfl,a,b,rfl,s,h2⟩|⟨rfl,a,b,c,d,rfl,s,h2,h3,h4⟩
 ·intro x hx;have y:x=[109,111,100,117,108,101]∨x=a.data.toList:=by simpa[Oa,wd]using hx
  rcases y with rfl|rfl;·exact kR (by decide)
  exact(Uz s).Wi
 ·intro x hx;have y:x=[114,101,113,117,105,114,101]∨x=a.data.toList∨x=b.data.toList:=by simpa[Oa,wd]using hx
  rcases y with rfl|rfl|rfl;·exact kR (by decide)
  ·exact(Uz s).Wi
  exact(Yl h2).Wi
 ·intro x hx;have y:x=[101,120,99,108,117,100,101]∨x=a.data.toList∨x=b.data.toList:=by simpa[Oa,wd]using hx
  rcases y with rfl|rfl|rfl;·exact kR (by decide)
  ·exact(Uz s).Wi
  exact(Yl h2).Wi
 intro x hx;have y:x=[114,101,112,108,97,99,101]∨x=a.data.toList∨x=b.data.toList/\b.data.toList≠[]∨x=[61,62]∨x=c.data.toList∨x=d.data.toList:=by
  unfold Oa at hx;simp only[show(224==123)=A9 from rfl,show(224==221)=A9 from rfl,show(224==222)=A9 from rfl,EJ,if_false]at hx;split at hx
  ·simp only[wd,JG,He,or_false]at hx;rcases hx with h|h|h|h|h;·exact AD h
   ·exact AJ (AD h)
   ·exact AJ (AJ (AJ (AD h)))
   ·exact AJ (AJ (AJ (AJ (AD h))))
   exact AJ (AJ (AJ (AJ (AJ h))))
  rename_i z;simp only[wd,JG,He,or_false]at hx;rcases hx with h|h|h|h|h|h;·exact AD h
  ·exact AJ (AD h)
  ·exact AJ (AJ (AD ⟨h,λe=>z (by rw[beq_iff_eq];exact e)⟩))
  ·exact AJ (AJ (AJ (AD h)))
  ·exact AJ (AJ (AJ (AJ (AD h))))
  exact AJ (AJ (AJ (AJ (AJ h))))
 rcases y with rfl|rfl|⟨rfl,z⟩|rfl|rfl|rfl;·exact kR (by decide)
 ·exact(Uz s).Wi
 ·rcases h2 with h2|h2;·exact absurd h2 z
  exact(Yl h2).Wi
 ·exact kR (by decide)
 ·exact(Uz h3).Wi
 exact(Yl h4).Wi
def back(a:zz):(⟨a.data.toList.toArray⟩:zz)=a:=by cases a;simp
def aKL{b:zz}(h:b.data.toList=[]):b=⟨#[]⟩:=by rw[<-back b,h]
def et(n:Nat)(x:zz)(rest:List zz)(st b:Int)(l:List (Nat×Nat×List zz)):EA n (x::rest) st b l=if st==2 then Nk n (x::rest) b l else if HX x.data.toList==1&&st !=0 then(A9,st,b,l)else if opens (HX x.data.toList) rest then(A3,2,HX x.data.toList,l)else((added n (HX x.data.toList) rest l).1,1,b,(added n (HX x.data.toList) rest l).2):=rfl
def aCE(n t:Nat)(fs:List zz)(st z:Int)(l:List (Nat×Nat×List zz))(h:Valid t fs)(Bm:st=0∨st=1)(hm:t=123->st=0):EA n (texts (Oa t fs)) st z l=(A3,1,z,l++[(n,t,fs)]):=by
 have I:(st==2)=A9:=by rcases Bm with rfl|rfl<;>rfl
 rcases zS h with⟨rfl,a,rfl,y⟩|⟨rfl,a,b,rfl,y,h2⟩|⟨rfl,a,b,rfl,y,h2⟩|⟨rfl,a,b,c,d,rfl,y,h2,h3,h4⟩
 ·have s:=(Uz y).kind;have:=hm rfl;subst this;have e:texts (Oa 123 [a])=[⟨#[109,111,100,117,108,101]⟩,a]:=by show[_,(⟨a.data.toList.toArray⟩:zz)]=_;rw[back]
  rw[e];rw[et,show HX (⟨#[109,111,100,117,108,101]⟩:zz).data.toList=1 from by decide];have f:fit [a] [0]=A3:=by unfold fit;simp[s]
  have m:Ff 1 [a]=Y (123,[a]):=by unfold Ff;rw[f];rfl
  simp[added,m,opens]
 ·have s:=(Uz y).kind;have H:=(Yl h2).kind;have e:texts (Oa 221 [a,b])=[⟨#[114,101,113,117,105,114,101]⟩,a,b]:=by show[_,(⟨a.data.toList.toArray⟩:zz),(⟨b.data.toList.toArray⟩:zz)]=_;rw[back,back]
  rw[e];rw[et,show HX (⟨#[114,101,113,117,105,114,101]⟩:zz).data.toList=2 from by decide];have f:fit [a,b] [0,0]=A3:=by unfold fit;simp[s,H]
  have g:fit [a,b] [1]=A9:=by unfold fit;simp
  have m:Ff 2 [a,b]=Y (221,[a,b]):=by unfold Ff;rw[f];rfl
  simp[added,m,opens,g,I]
 ·have s:=(Uz y).kind;have H:=(Yl h2).kind;have e:texts (Oa 222 [a,b])=[⟨#[101,120,99,108,117,100,101]⟩,a,b]:=by show[_,(⟨a.data.toList.toArray⟩:zz),(⟨b.data.toList.toArray⟩:zz)]=_;rw[back,back]
  rw[e];rw[et,show HX (⟨#[101,120,99,108,117,100,101]⟩:zz).data.toList=3 from by decide];have f:fit [a,b] [0,0]=A3:=by unfold fit;simp[s,H]
  have g:fit [a,b] [1]=A9:=by unfold fit;simp
  have m:Ff 3 [a,b]=Y (222,[a,b]):=by unfold Ff;rw[f];rfl
  simp[added,m,opens,g,I]
 have s:=(Uz y).kind;have M:=(Uz h3).kind;have N:=(Yl h4).kind;have Q:kind [61,62]=3:=by decide
 by_cases K:b.data.toList=[]
 ·have U:=aKL K;subst U;have e:texts (Oa 224 [a,⟨#[]⟩,c,d])=[⟨#[114,101,112,108,97,99,101]⟩,a,⟨#[61,62]⟩,c,d]:=by show[_,(⟨a.data.toList.toArray⟩:zz),_,(⟨c.data.toList.toArray⟩:zz),(⟨d.data.toList.toArray⟩:zz)]=_;rw[back,back,back]
  rw[e];rw[et,show HX (⟨#[114,101,112,108,97,99,101]⟩:zz).data.toList=4 from by decide];have f:fit [a,⟨#[61,62]⟩,c,d] [0,3,0,0]=A3:=by unfold fit;simp[s,M,N,Q]
  have g:fit [a,⟨#[61,62]⟩,c,d] [1]=A9:=by unfold fit;simp
  have m:Ff 4 [a,⟨#[61,62]⟩,c,d]=Y (224,[a,⟨#[]⟩,c,d]):=by unfold Ff;rw[f];rfl
  simp[added,m,opens,g,I]
 have H:kind b.data.toList=0:=by
  rcases h2 with h2|h2;·exact absurd h2 K
  exact(Yl h2).kind
 have e:texts (Oa 224 [a,b,c,d])=[⟨#[114,101,112,108,97,99,101]⟩,a,b,⟨#[61,62]⟩,c,d]:=by
  have:Oa 224 [a,b,c,d]=[[114,101,112,108,97,99,101],a.data.toList,b.data.toList,[61,62],c.data.toList,d.data.toList]:=by
   unfold Oa;have:(wd [a,b,c,d] 1==[])=A9:=by rw[beq_eq_false_iff_ne];exact K
   rw[this];rfl
  rw[this];show[_,(⟨a.data.toList.toArray⟩:zz),(⟨b.data.toList.toArray⟩:zz),_,(⟨c.data.toList.toArray⟩:zz),(⟨d.data.toList.toArray⟩:zz)]=_;rw[back,back,back,back]
 rw[e];rw[et,show HX (⟨#[114,101,112,108,97,99,101]⟩:zz).data.toList=4 from by decide];have f:fit [a,b,⟨#[61,62]⟩,c,d] [0,0,3,0,0]=A3:=by unfold fit;simp[s,H,M,N,Q]
 have f':fit [a,b,⟨#[61,62]⟩,c,d] [0,3,0,0]=A9:=by unfold fit;simp
 have g:fit [a,b,⟨#[61,62]⟩,c,d] [1]=A9:=by unfold fit;simp
 have m:Ff 4 [a,b,⟨#[61,62]⟩,c,d]=Y (224,[a,b,c,d]):=by unfold Ff;rw[f,f'];rfl
 simp[added,m,opens,g,I]
def aCD(h:Valid t fs):I_ ⟨(PQ t fs).toArray⟩=texts (Oa t fs):=by have b:=aCJ h;unfold I_;show texts (words (said (PQ t fs).toArray.toList))=_;rw[XY,PQ,aBa _ (a43 _ b),aCX _ b]
def a8o(h:Valid t fs)(k:Nat):(PQ t fs)[k]?≠Y 10:=by
 intro e;have y:=U8 e;rcases ja 32 _ _ y with b|⟨x,hx,s⟩;·cases b
 exact((aCJ h x hx).2.1 10 s).2 rfl
def zM:∀(l:List (Nat×List zz)),(∀x∈l,Valid x.1 x.2)->pieces 10 (K9 l)=l.map (λx=>PQ x.1 x.2)++[[]]
 |[],_=>rfl
 |x::xs,h=>by
  have b:=zM xs λy hy=>h y (Jd _ hy);have e:K9 (x::xs)=PQ x.1 x.2++10::K9 xs:=by unfold K9;rw[List.flatMap_cons,SV];rfl
  rw[e,pv 10 _ _ (a8o (h x (Je ..))),b];rfl
def num:Nat->List (Nat×List zz)->List (Nat×Nat×List zz)|_,[]=>[]|n,x::xs=>(n,x)::num (n+1) xs
def aA5:∀(n:Nat)(l:List (Nat×List zz)),(num n l).map (·.2)=l|_,[]=>rfl|n,x::xs=>by rw[num,Gd,aA5]
def aAY:∀(l:List (Nat×List zz))(n:Nat)(b:Int)(s:List (Nat×Nat×List zz)),(∀x∈l,Valid x.1 x.2/\x.1≠123)->may 1 s=A3->GX n (texts (l.map (λx=>PQ x.1 x.2)++[[]])) 1 b s=(s++num (n+1) l,0)
 |[],n,b,s,_,hm=>by
  show GX n [⟨#[]⟩] 1 b s=(s++[],0);rw[GX,GX];have e:I_ ⟨#[]⟩=[]:=by rfl
  rw[e,EA];simp[hm]
 |x::xs,n,b,s,h,hm=>by
  have hx:=h x (Je ..);show GX n (⟨(PQ x.1 x.2).toArray⟩::texts (xs.map (λx=>PQ x.1 x.2)++[[]])) 1 b s=_;rw[GX,aCD hx.1,aCE (n+1) x.1 x.2 1 b s hx.1 (AJ rfl) λe=>absurd e hx.2];simp only[if_true];rw[aAY xs (n+1) b (s++[(n+1,x.1,x.2)]) λy hy=>h y (Jd _ hy)];·rw[SV];rfl
  cases s with|nil=>cases hm|cons y z=>exact hm
def aTr(p:zz)(l:List (Nat×List zz))(b:Valid 123 [p])(h:∀x∈l,Valid x.1 x.2/\x.1≠123):parse ⟨(K9 ((123,[p])::l)).toArray⟩=(num 1 ((123,[p])::l),0):=by
 unfold parse lines;show GX 0 (texts (pieces 10 (K9 ((123,[p])::l)).toArray.toList)) 0 0 []=_;rw[XY,zM _ (by
  intro x hx;rcases List.mem_cons.1 hx with rfl|hx;·exact b
  exact(h x hx).1)];show GX 0 (⟨(PQ 123 [p]).toArray⟩::texts (l.map (λx=>PQ x.1 x.2)++[[]])) 0 0 []=_;rw[GX,aCD b,aCE 1 123 [p] 0 0 [] b (AD rfl) λ_=>rfl];simp only[if_true];rw[aAY l 1 0 _ h rfl];rfl
def aJd:IM VL:=by
 refine⟨λx y=>?_,λx y=>?_,λx y z=>?_⟩
 ·unfold VL;split;·exact AD rfl
  split;·exact AJ (AJ rfl)
  exact AJ (AD rfl)
 ·unfold VL;repeat' split
  all_goals first|omega|rfl
 unfold VL;repeat' split
 all_goals omega
def kO(a b:zx):Int:=if a==[]||b==[]then GJ a.length b.length else order a b
def aYu(a b:zx):kO a b=KA (λx y=>GJ (if x==[]then 0 else 1) (if y==[]then 0 else 1)) order a b:=by
 unfold kO KA;cases a with
 |nil=>
  cases b with
  |nil=>
   have:order [] []=0:=by rw[jz];exact pq.1.refl _
   simp[GJ,this]
  |cons c cs=>simp[GJ]
 |cons d h=>cases b with|nil=>simp[GJ]|cons c cs=>simp[GJ]
def aTe:IM order:=⟨aAL,aAM,aAK⟩
def aYv:IM kO:=by rw[show kO=KA (λx y:zx=>GJ (if x==[]then 0 else 1) (if y==[]then 0 else 1)) order from funext λa=>funext λb=>aYu a b];exact IM.then (aJ.back λx:zx=>if x==[]then 0 else 1) aTe
def ord(p q:Int×zz×zz):Int:=KA (λx y=>VL x.1 y.1) (KA (λx y=>IJ x.2.1.data.toList y.2.1.data.toList) λx y=>kO x.2.2.data.toList y.2.2.data.toList) p q
def aTb:IM ord:=IM.then (aJd.back λx:Int×zz×zz=>x.1) (IM.then (n1.1.back λx:Int×zz×zz=>x.2.1.data.toList) (aYv.back λx:Int×zz×zz=>x.2.2.data.toList))
def bytes_inj{a b:zz}(h:a.data.toList=b.data.toList):a=b:=by rw[<-back a,<-back b,h]
def tz:∀(l:List (Nat×Nat×List zz))(seen:List ((Int×zz×zz)×Nat)),KS l seen=Z↔(∀x∈l,da x.2.1 x.2.2=Z)/\(l.map λx=>place x.2.1 x.2.2).Nodup/\∀x∈l,∀y∈seen,y.1≠place x.2.1 x.2.2
 |[],seen=>by simp[KS]
 |x::xs,seen=>by
  rw[KS];cases I:da x.2.1 x.2.2 with
  |some f=>
   constructor;·intro h;cases h
   intro h;have:=h.1 x (Je ..);rw[I]at this;cases this
  |none=>
   by_cases s:seen.any (λy=>Bz (y.1=place x.2.1 x.2.2))=A3
   ·simp only[s,if_true];constructor;·intro h;cases h
    intro h;obtain⟨y,hy,he⟩:=List.any_eq_true.1 s;exact absurd (of_decide_eq_true he) (h.2.2 x (Je ..) y hy)
   simp only[s,EJ,if_false];rw[tz xs];have K:∀y∈seen,y.1≠place x.2.1 x.2.2:=by intro y hy e;exact s (List.any_eq_true.2 ⟨y,hy,decide_eq_true e⟩)
   constructor
   ·rintro⟨H,h2,h3⟩;refine⟨?_,?_,?_⟩
    ·intro z b;rcases List.mem_cons.1 b with rfl|b;·exact I
     exact H z b
    ·rw[Gd,aH7];refine⟨?_,h2⟩;intro M;obtain⟨z,b,he⟩:=List.mem_map.1 M;exact h3 z b (place x.2.1 x.2.2,x.1) (by simp) he.symm
    intro z b y hy;rcases List.mem_cons.1 b with rfl|b;·exact K y hy
    exact h3 z b y (List.mem_append_left _ hy)
   rintro⟨H,h2,h3⟩;rw[Gd,aH7]at h2;refine⟨λz b=>H z (Jd _ b),h2.2,?_⟩;intro z b y hy;rcases List.mem_append.1 hy with hy|hy;·exact h3 z (Jd _ b) y hy
   rw[List.mem_singleton.1 hy];intro e;exact h2.1 (List.mem_map.2 ⟨z,b,e.symm⟩)
structure Whole(l:List (Nat×List zz)):Prop where
 valid:∀x∈l,Valid x.1 x.2
 nodup:(l.map λx=>place x.1 x.2).Nodup
 first:∃p r,l=(123,[p])::r/\∀x∈r,x.1≠123
def aZ4{l:List (Nat×List zz)}(h:Whole l):(parse ⟨(K9 l).toArray⟩).2=0/\KS (parse ⟨(K9 l).toArray⟩).1 []=Z/\(parse ⟨(K9 l).toArray⟩).1.map (·.2)=l:=by
 obtain⟨p,s,rfl,hs⟩:=h.first;have e:=aTr p s (h.valid _ (Je ..)) λx hx=>⟨h.valid x (Jd _ hx),hs x hx⟩;have b:=aA5 1 ((123,[p])::s);rw[e];refine⟨rfl,?_,b⟩;rw[tz];refine⟨?_,?_,λ_ _ _ hy=>absurd hy (He)⟩
 ·intro x hx;have:x.2∈((123,[p])::s:List (Nat×List zz)):=by rw[<-b];exact List.mem_map.2 ⟨x,hx,rfl⟩
  exact(h.valid _ this).2
 have:((num 1 ((123,[p])::s)).map λx=>place x.2.1 x.2.2)=((123,[p])::s:List (Nat×List zz)).map λx=>place x.1 x.2:=by
  conv=>rhs;rw[<-b]
  rw[SY];rfl
 rw[this];exact h.nodup
def qX(M:Nat):∀(l d:zx),d.length+l.length<=M->∀w∈Jv d l,w.length<=M
 |[],d,h,w,s=>by
  rw[Jv]at s;split at s;·simp at s
  rw[List.mem_singleton.1 s];simpa using h
 |b::r,d,h,w,s=>by
  rw[Kr]at h;rw[Jv]at s;split at s
  ·split at s;·exact qX M r [] (by simp;omega) w s
   rcases List.mem_cons.1 s with rfl|s;·omega
   exact qX M r [] (by simp;omega) w s
  exact qX M r (d++[b]) (by simp;omega) w s
def aWo(l:zx):(said l).length<=l.length:=by
 unfold said Gr;split;·simp only[Zo];omega
 exact Ae _
def aYM(h:s.size<=M):∀w∈I_ s,w.size<=M:=by
 intro w b;unfold I_ texts at b;obtain⟨x,hx,rfl⟩:=List.mem_map.1 b;have e:s.data.toList.length=s.size:=by simp
 have y:=aWo s.data.toList;have:=qX M (said s.data.toList) [] (by simp;omega) x hx;show x.toArray.size<=M;rw[I7];exact this
def aLZ(h:∀w∈ws,w.size<=M)(i:Nat):(ws.getD i B8).size<=M:=by
 by_cases hi:i<ws.length;·rw[getD_at _ _ hi];exact h _ (DU hi)
 rw[mZ,List.getElem?_eq_none (by omega)];exact Jf _
def Zj(M:Nat)(x:Nat×Nat×List zz):Prop:=RB x/\x.1≠0/\∀a∈x.2.2,a.size<=M
def aSO(hn:n≠0)(s:∀w∈ws,w.size<=M)(h:Ff kw ws=Y (t,fs)):Zj M (n,t,fs)/\(kw≠1->t≠123):=by
 have g:=aLZ s;unfold Ff at h;split at h
 ·rename_i hk;cases h;refine⟨⟨AD ⟨rfl,_,rfl⟩,hn,?_⟩,?_⟩;·intro a b;rw[List.mem_singleton.1 b];exact g 0
  intro e;exfalso;apply e;simp only[G0,beq_iff_eq]at hk;exact hk.1
 split at h
 ·cases h;refine⟨⟨AJ (AD ⟨rfl,_,_,rfl⟩),hn,?_⟩,λ_=>by decide⟩;intro a b;simp only[JG,He,or_false]at b;rcases b with rfl|rfl;·exact g 0
  exact g 1
 split at h
 ·cases h;refine⟨⟨AJ (AJ (AD ⟨rfl,_,_,rfl⟩)),hn,?_⟩,λ_=>by decide⟩;intro a b;simp only[JG,He,or_false]at b;rcases b with rfl|rfl;·exact g 0
  exact g 1
 split at h
 ·cases h;refine⟨⟨AJ (AJ (AJ ⟨rfl,_,_,_,_,rfl⟩)),hn,?_⟩,λ_=>by decide⟩;intro a b;simp only[JG,He,or_false]at b;rcases b with rfl|rfl|rfl|rfl;·exact g 0
  ·exact Jf _
  ·exact g 2
  exact g 3
 split at h
 ·cases h;refine⟨⟨AJ (AJ (AJ ⟨rfl,_,_,_,_,rfl⟩)),hn,?_⟩,λ_=>by decide⟩;intro a b;simp only[JG,He,or_false]at b;rcases b with rfl|rfl|rfl|rfl;·exact g 0
  ·exact g 1
  ·exact g 3
  exact g 4
 cases h
def a9z:¬(1:Int)=0:=by decide
def aA':¬(1:Int)=2:=by decide
def aA0:¬(2:Int)=0:=by decide
def Stood(M:Nat)(st b:Int)(l:List (Nat×Nat×List zz)):Prop:=(st=0->l=[])/\(st=2->b≠1)/\(∀x∈l.tail,x.2.1≠123)/\∀x∈l,Zj M x
def aXs{l:List bv}{x y:bv}(h:y∈(l++[x]).tail):y∈l.tail∨y=x/\l≠[]:=by
 cases l with
 |nil=>simp at h
 |cons a r=>
  simp only[Kq,aHA,List.mem_append,cz]at h;rcases h with h|h;·exact AD h
  exact AJ ⟨h,by simp⟩
def a3G{l:List (Nat×Nat×List zz)}(hn:n≠0)(z:∀w∈ws,w.size<=M)(h:kw=1->l=[])(b:∀x∈l.tail,x.2.1≠123)(h2:∀x∈l,Zj M x):(∀x∈(added n kw ws l).2.tail,x.2.1≠123)/\∀x∈(added n kw ws l).2,Zj M x:=by
 unfold added;split
 ·rename_i y hy;have hm:=aSO (t:=y.1) (fs:=y.2) hn z hy;refine⟨λx hx=>?_,λx hx=>?_⟩
  ·rcases aXs hx with hx|⟨rfl,s⟩;·exact b x hx
   exact hm.2 λe=>s (h e)
  rcases List.mem_append.1 hx with hx|hx;·exact h2 x hx
  rw[List.mem_singleton.1 hx];exact hm.1
 exact⟨b,h2⟩
def aYR{st blk:Int}{l:List (Nat×Nat×List zz)}(hn:n≠0)(I:∀w∈ws,w.size<=M)(h:Stood M st blk l):Stood M (EA n ws st blk l).2.1 (EA n ws st blk l).2.2.1 (EA n ws st blk l).2.2.2:=by
 obtain⟨y,s,b,h2⟩:=h;cases ws with
 |nil=>exact⟨y,s,b,h2⟩
 |cons x rest=>
  have K:∀w∈rest,w.size<=M:=λw N=>I w (Jd _ N);rw[et];split
  ·rename_i hs;unfold Nk;split;·exact⟨λe=>absurd e a9z,λe=>absurd e aA',b,h2⟩
   have:=a3G (kw:=blk) hn I (λe=>absurd e (s (by simpa using hs))) b h2;exact⟨λe=>absurd e aA0,λ_=>s (by simpa using hs),this.1,this.2⟩
  split;·exact⟨y,s,b,h2⟩
  rename_i H;split;·rename_i z;refine⟨λe=>absurd e aA0,λ_ e=>?_,b,h2⟩;unfold opens at z;simp only at e;rw[e]at z;simp at z
  have:=a3G (kw:=HX x.data.toList) hn K (λe=>by apply y;rw[e]at H;simpa using H) b h2;exact⟨λe=>absurd e a9z,λe=>absurd e aA',this.1,this.2⟩
def yQ{M:Nat}:∀(s:List zz)(n:Nat)(st b:Int)(l:List (Nat×Nat×List zz)),(∀x∈s,x.size<=M)->Stood M st b l->(∀x∈(GX n s st b l).1.tail,x.2.1≠123)/\(∀x∈(GX n s st b l).1,Zj M x)/\((GX n s st b l).2=0->n≠0∨s≠[]->∃y H,(GX n s st b l).1=y::H/\y.2.1=123)
 |[],n,st,b,l,_,h=>by
  refine⟨h.2.2.1,h.2.2.2,λe z=>?_⟩;rw[GX]at e⊢;simp only at e⊢;cases hm:may st l
  ·rw[hm]at e;simp at e;rcases z with z|z;·exact absurd e z
   exact absurd rfl z
  cases l with|nil=>cases hm|cons y H=>unfold may at hm;simp only[G0,beq_iff_eq]at hm;exact⟨y,H,rfl,hm.2⟩
 |x::xs,n,st,b,l,hs,h=>by
  have I:=aYM (hs x (Je ..));have AP:=aYR (n:=n+1) (ws:=I_ x) (by omega) I h;rw[GX];split;·have ih:=yQ xs (n+1) _ _ _ (λy hy=>hs y (Jd _ hy)) AP;exact⟨ih.1,ih.2.1,λe _=>ih.2.2 e (AD (by omega))⟩
  exact⟨AP.2.2.1,AP.2.2.2,λe _=>absurd e (by simp)⟩
def aAe(c:UInt8):∀(l:zx),(pieces c l).length<=l.length+1
 |[]=>by simp[pieces]
 |b::r=>by
  have h:=aAe c r;rw[pieces];split;·simp;omega
  simp;have:=eZ c r;have:=List.length_pos_iff.2 this;omega
def a8p(s:zz):∀x∈lines s,x.size<=s.size:=by
 intro x hx;unfold lines texts at hx;obtain⟨q,b,rfl⟩:=List.mem_map.1 hx;have:=k3 10 _ _ b;have e:s.data.toList.length=s.size:=by simp
 show q.toArray.size<=s.size;rw[I7];omega
def aQq(s:zz):(lines s).length<=s.size+1:=by
 unfold lines texts;rw[Ks];have:=aAe 10 s.data.toList;have e:s.data.toList.length=s.size:=by simp
 omega
def aYN(n:Nat)(ws:List zz)(st h:Int)(l:List (Nat×Nat×List zz)):(EA n ws st h l).2.2.2.length<=l.length+1:=by
 have y:∀s b,(added n s b l).2.length<=l.length+1:=by intro s b;unfold added;split<;>simp
 unfold EA Nk;repeat' split
 all_goals first|exact aHM _|exact y _ _
def aAW:∀(h:List zz)(n:Nat)(st b:Int)(l:List (Nat×Nat×List zz)),(GX n h st b l).1.length<=l.length+h.length
 |[],n,st,b,l=>by rw[GX];simp
 |x::xs,n,st,b,l=>by
  have:=aYN (n+1) (I_ x) st b l;rw[GX,Kr];split;·have:=aAW xs (n+1) (EA (n+1) (I_ x) st b l).2.1 (EA (n+1) (I_ x) st b l).2.2.1 (EA (n+1) (I_ x) st b l).2.2.2;omega
  show(EA (n+1) (I_ x) st b l).2.2.2.length<=_;omega
def aTp(s:zz):∀x∈(parse s).1,Zj s.size x:=(yQ (lines s) 0 0 0 [] (a8p s) ⟨λ_=>rfl,λe=>absurd e (by decide),λx hx=>absurd hx (by simp),λx hx=>absurd hx (by simp)⟩).2.1
def aTo(s:zz):(parse s).1.length<=s.size+1:=by have:=aAW (lines s) 0 0 0 [];have:=aQq s;unfold parse;simp at*;omega
def aQr(s:zz):lines s≠[]:=by unfold lines texts;intro e;exact eZ 10 _ (List.map_eq_nil_iff.1 e)
def aTs(Q:(parse s).2=0)(U:KS (parse s).1 []=Z):Whole ((parse s).1.map (·.2)):=by
 have hp:=yQ (M:=s.size) (lines s) 0 0 0 [] (a8p s) ⟨λ_=>rfl,λe=>absurd e (by decide),λx hx=>absurd hx (by simp),λx hx=>absurd hx (by simp)⟩;obtain⟨d,hn,_⟩:=(tz _ _).1 U;obtain⟨y,N,hy,I⟩:=hp.2.2 Q (AJ (aQr s));have hv:∀x∈(parse s).1.map (·.2),Valid x.1 x.2:=by intro x hx;obtain⟨z,b,rfl⟩:=List.mem_map.1 hx;have hs:=(hp.2.1 z b).1;exact⟨hs,d z b⟩
 refine⟨hv,?_,?_⟩;·rw[SY];exact hn
 have H:(parse s).1=y::N:=hy;rw[H,Gd];have K:Valid y.2.1 y.2.2:=hv y.2 (by rw[H];simp);obtain⟨f,i,j⟩:=y;simp only at I K;subst I;rcases zS K with⟨_,a,rfl,_⟩|⟨h,_⟩|⟨h,_⟩|⟨h,_⟩;·refine⟨a,N.map (·.2),rfl,λx hx=>?_⟩;obtain⟨z,b,rfl⟩:=List.mem_map.1 hx;exact hp.1 z (by show z∈(parse s).1.tail;rw[H];exact b)
 ·exact absurd h (by decide)
 ·exact absurd h (by decide)
 exact absurd h (by decide)
def It(q:Nat):zx:=[109,47,Vf (97+q)]
def K7(n:Nat):zx:=if n%3==0 then[118,49,46,KT (n/3),46,48,45,114,99]else[118,49,46,KT (n/3),46,KT (n%3-1)]
def mp(q:Nat):zz:=⟨(It q).toArray⟩
def E9(n:Nat):zz:=⟨(K7 n).toArray⟩
def Nc(x:Nat×Nat):Nat×List zz:=(221,[mp x.1,E9 x.2])
def W_:zz:=⟨#[114,111,111,116]⟩
def dD(l:List (Nat×Nat)):Prop:=(∀x∈l,x.1<5/\x.2<30)/\l.Pairwise λx y=>x.1<y.1
def ji(h:q<5):path (It q)=A3:=by
 have:∀n:Fin 5,path (It n.val)=A3:=by decide
 exact this ⟨q,h⟩
def y5(h:n<30):AY (K7 n)=A3:=by
 have:∀n:Fin 30,AY (K7 n.val)=A3:=by decide+kernel
 exact this ⟨n,h⟩
def PT(q:Nat):(mp q).data.toList=It q:=by show(It q).toArray.toList=_;rw[XY]
def WQ(q:Nat):(E9 q).data.toList=K7 q:=by show(K7 q).toArray.toList=_;rw[XY]
def aSx{x:Nat×Nat}(h:x.1<5/\x.2<30):Valid (Nc x).1 (Nc x).2:=by refine⟨AJ (AD ⟨rfl,_,_,rfl⟩),?_⟩;show JN (mp x.1) (E9 x.2)=Z;unfold JN M4 Sm;rw[PT,WQ,ji h.1,y5 h.2];rfl
def aSj{r:Nat}(s:q<5)(y:r<5)(h:q<r):IJ (It q) (It r)=-1:=by
 have:∀a b:Fin 5,a.val<b.val->IJ (It a.val) (It b.val)=-1:=by decide
 exact this ⟨q,s⟩ ⟨r,y⟩ h
def aSw{x y:Nat×Nat}(hx:x.1<5)(hy:y.1<5)(h:x.1<y.1):ord (place (Nc x).1 (Nc x).2) (place (Nc y).1 (Nc y).2)=-1:=by
 have:IJ (mp x.1).data.toList (mp y.1).data.toList=-1:=by rw[PT,PT];exact aSj hx hy h
 unfold ord KA;show(if VL 1 1 !=0 then VL 1 1 else if IJ (mp x.1).data.toList (mp y.1).data.toList !=0 then IJ (mp x.1).data.toList (mp y.1).data.toList else _)=-1;rw[this];rfl
def aYa(x:Nat×Nat):zx:=[9]++It x.1++[32,32]++K7 x.2++[47,47,122,10,10]
def abO(l:List (Nat×Nat)):zx:=[47,47,32,120,10,109,111,100,117,108,101,32,9,32,114,111,111,116,32,47,47,32,121,10,114,101,113,117,105,114,101,32,40,10]++l.flatMap aYa++[32,41,32]
end V
def Gv(b:A1->Prop)(w:A0)(s:Nat)(v:A1)(n:Nat):Prop:=∀g cap d e p,v=A4 (Y ⟨g,0,Z⟩) n cap->w.heap[g]?=Y (AF d e p)->∀j u,n*s<=j->d[j]?=Y u->b u
def Gv.nil(b:A1->Prop)(w:A0)(s:Nat):Gv b w s (A4 Z 0 0) 0:=λg cap d e p h=>by cases h
def Gv.same{GI:A1->Prop}{w w':A0}{s:Nat}{v:A1}(h:Gv GI w s v n)(b:∀g cap,v=A4 (Y ⟨g,0,Z⟩) n cap->w'.heap[g]?=w.heap[g]?):Gv GI w' s v n:=λg cap d e p hv hc=>h g cap d e p hv (by rw[<-b g cap hv];exact hc)
section
variable{P:Ap}(w:A0)
def aBV(K:A1->Prop)(base:Nat)(t ty e:Aj)(i:LJ)(z:A1)(size bytes:Nat)(AP:P.underlying t=Y (.slice e))(hi:P.info? e=Y i)(E:i.zero=Y z)(L6:i.size=size)(M9:i.bytes=bytes)(F:z.cells.size=size)(rg:0<size)(ae:∀u∈z.cells.toList,K u)(v:A1)(n:Nat)(xs:List A1)(Aa:w.ownsRow base e size v n xs)(Fx:Gv K w size v n)(a:Ak)(m c:Nat)(b:List A1)(y:b.length=m*size)(f:∀j u,b[j]?=Y u->w.cell? (a.add j)=Y u)(h1:∀u∈b,u.oneCell'=A3)(RS:0<m)(S:n+m<=BH)(X:(n+m)*bytes<=140737488355328)(KU:base<=w.heap.size):∃v' w',(VF #[t,t] ty #[v,A4 (Y a) m c]).run P w=Ac v' w'/\w'.ownsRow base e size v' (n+m) (xs++b)/\w.grownBy w' v.ownBlock/\Gv K w' size v' (n+m):=by
 subst L6;subst M9;have jL:n+m<=9223372036854775807:=by simp only[BH]at S;omega
 have H:(xs++b).length=(n+m)*i.size:=by rw[H7,Aa.1,y,a2g]
 have h:∀(old:Nat),old<n+m->∀(row:Option Nat),(w.drew.alloc (AF (xs.toArray++b.toArray++Nv z.cells (cj w (n+m) old e-(n+m))) e)).ownsRow base e i.size (A4 (Y ⟨w.heap.size,0,Z⟩) (n+m) (cj w (n+m) old e)) (n+m) (xs++b)/\w.grownBy (w.drew.alloc (AF (xs.toArray++b.toArray++Nv z.cells (cj w (n+m) old e-(n+m))) e)) row/\Gv K (w.drew.alloc (AF (xs.toArray++b.toArray++Nv z.cells (cj w (n+m) old e-(n+m))) e)) i.size (A4 (Y ⟨w.heap.size,0,Z⟩) (n+m) (cj w (n+m) old e)) (n+m):=by
  intro old AA row;have OF:=grownCap_ge w (n+m) old e;have Q:cj w (n+m) old e<=BH:=grownCap_le_maxLen w (n+m) old e S;refine⟨⟨H,AJ ⟨w.heap.size,_,_,rfl,KU,Pz w.drew _,OF,Q,?_,?_⟩⟩,⟨rfl,rfl,rfl,by simp,λk hk _=>heap_alloc_old w.drew _ (h:=hk)⟩,?_⟩;·simp only[fO,I7,size_zeroCells,F,Aa.1,y,<-a2g];congr 1;omega
  ·simp only[Array.toList_append,SV];rw[<-SV,<-H];exact tT
  intro g cap d e' p hv hc j u r hu;injection hv with h2 _ _;injection h2 with h2;injection h2 with h2;subst h2;have h3:=Pz w.drew (AF (xs.toArray++b.toArray++Nv z.cells (cj w (n+m) old e-(n+m))) e);have h4:w.drew.heap.size=w.heap.size:=rfl;rw[h4,hc]at h3;injection h3 with h3;injection h3 with h3 _ _;subst h3;rw[Array.getElem?_append_right (by simp only[fO,I7,<-H7,H];exact r)]at hu;have A:=Array.mem_of_getElem? hu;simp only[Nv]at A;rw[Array.mem_iff_getElem]at A;obtain⟨x,hx,rfl⟩:=A;refine ae _ ?_;simp at hx⊢;have hlt:x%z.cells.size<z.cells.size:=Nat.mod_lt _ (by rw[F];exact rg);rw[getElem!_pos z.cells (x%z.cells.size) hlt];exact Array.getElem_mem hlt
 rcases Aa.2 with⟨rfl,rfl⟩|⟨g,cap,d,rfl,N,M,wh,Q,Fb,bF⟩;·have hx:xs=[]:=tO (by simpa using Aa.1);subst hx;have I:=run_append_nil (P:=P) w t ty e i z AP hi E a m c b y f (by omega) (by omega) (by have hb:=X;simp only[LO]at hb;omega);have L2:=h 0 (by omega) (Tx (A4 Z 0 0));simp only[LO,U9,Array.empty_append]at L2⊢;exact⟨_,_,I,L2.1,L2.2⟩
 by_cases D:n+m<=cap
 ·have U:n*i.size+b.length<=d.size:=by rw[y,Fb,<-a2g];exact Nat.mul_le_mul_right _ D
  have I:=run_append_room (P:=P) w t ty e i AP hi g n cap d M a m c b y f h1 D U;refine⟨_,_,I,⟨H,AJ ⟨g,cap,_,rfl,N,aFa w g d _ e _ M,D,Q,?_,?_⟩⟩,⟨rfl,rfl,rfl,by simp,λk _ hk=>setRow_other w g k _ λe=>hk (by simp[Tx,e])⟩,?_⟩;·simp only[I7,H7,Zo,cy,Nq];omega
  ·rw[bF,<-H];exact tT
  intro g' aG a4O e' p hv hc j u r hu;injection hv with h2 _ _;injection h2 with h2;injection h2 with h2;subst h2;rw[aFa w g d _ e _ M]at hc;injection hc with hc;injection hc with hc _ _;subst hc;rw[bF,VY,SX (by rw[H];exact r),List.getElem?_drop]at hu;refine Fx g cap d e (0,0) rfl M (n*i.size+b.length+(j-(xs++b).length)) u (by omega) ?_;rw[<-Oi];exact hu
 have s:∀j u,xs[j]?=Y u->w.cell? ((⟨g,0,Z⟩:Ak).add j)=Y u:=Aa.cells (g:=g) rfl;have I:=run_append_grow (P:=P) w t ty e i z AP hi E ⟨g,0,Z⟩ n cap xs Aa.1 s a m c b y f (by omega) (by omega) (growslice_fits (by omega) X);have L2:=h cap (by omega) (Tx (A4 (Y ⟨g,0,Z⟩) n cap));exact⟨_,_,I,L2.1,L2.2⟩
def aCZ{ops:Array BR}{rest:List BR}{o:BR}{a:Act}{Q:Exit->Act->A0->Prop}(H:A1->Prop)(d:o.guard=Z)(s x:C')(t:Aj)(AA:o.op=If {callee:=Kj f_,args:=#[s,x],argTypes:=#[t,t]})(base:Nat)(e:Aj)(i:LJ)(z:A1)(size bytes:Nat)(AP:P.underlying t=Y (.slice e))(hi:P.info? e=Y i)(f:i.zero=Y z)(r:i.size=size)(A:i.bytes=bytes)(D:z.cells.size=size)(E:0<size)(U:∀u∈z.cells.toList,H u)(v:A1)(n:Nat)(xs:List A1)(hs:a.eval s=v)(Aa:w.ownsRow base e size v n xs)(F:Gv H w size v n)(ad:Ak)(m c:Nat)(b:List A1)(hx:a.eval x=A4 (Y ad) m c)(AE:b.length=m*size)(S:∀j u,b[j]?=Y u->w.cell? (ad.add j)=Y u)(I:∀u∈b,u.oneCell'=A3)(X:0<m)(M:n+m<=BH)(Y0:(n+m)*bytes<=140737488355328)(KU:base<=w.heap.size)(h:∀y w',w'.ownsRow base e size y (n+m) (xs++b)->w.grownBy w' v.ownBlock->Gv H w' size y (n+m)->wpList P ops Q rest (a.put o.dst y) w'):wpList P ops Q (o::rest) a w:=by refine wpList_plain d λK N=>?_;obtain⟨y,w',A2,h2,h3,h4⟩:=aBV (P:=P) w H base t o.type e i z size bytes AP hi f r A D E U v n xs Aa F ad m c b AE S I X M Y0 KU;unfold Oper.wp Ab;simp only[AA,resolve,invoke,builtin,Sem.run_bind,Sem.run_pure,Result.andThen_ok,M',Gd,Kt,hs,hx,A2];exact N _ _ (h y w' h2 h3 h4)
end
section
open Go.RowKit
def A5{p:Prop}(h:p):AL p:=h
def Eb{a b:Bool}(h:a=b):AZ (Af a)=AZ (Af b):=by rw[h]
def Js{k:IntKind}{a b:Int}(h:a=b):AZ (A7 k a)=AZ (A7 k b):=by rw[h]
def eI(b:UInt8)(w:A0):Ai A6 243 #[A7 F1 (b.toNat:Int)] w λe w'=>e=AZ (Af (V.TJ b))/\w'=w:=by by_cases h:48<=(b.toNat:Int)<;>by_cases h2:(b.toNat:Int)<=57;all_goals go_enter Tryz.func243,Tryz.ntmps243;go_wp2;go_ret;exact⟨Eb (by simp[V.TJ];omega),rfl⟩
def og(b:UInt8)(w:A0):Ai A6 244 #[A7 F1 (b.toNat:Int)] w λe w'=>e=AZ (Af (V.isLet b))/\w'=w:=by by_cases h:97<=(b.toNat:Int)<;>by_cases h2:(b.toNat:Int)<=122<;>by_cases h3:65<=(b.toNat:Int)<;>by_cases h4:(b.toNat:Int)<=90;all_goals first|omega|(go_enter Tryz.func244,Tryz.ntmps244;go_wp2;go_ret;exact⟨Eb (by simp[V.isLet];omega),rfl⟩)
def kN(s:zz)(k:Nat)(h:k<s.size):s.data.toList.take (k+1)=s.data.toList.take k++[s[k]]:=by rw[dA (by simpa using h)];rfl
def eJ(s:zz)(w:A0)(hs:s.size<=BH):Ai A6 176 #[J s] w λe w'=>e=AZ (Af (V.digits s.data.toList))/\w'=w:=by
 unfold BH at hs;go_enter Tryz.func176,Tryz.ntmps176;go_wp2;go_loop[6]λi=>∃k:Nat,k<=s.size/\i=A7 A8 k/\AL ((s.data.toList.take k).all V.TJ=A3)(λi=>s.size-(Mc i).toNat);case atStart=>exact⟨0,Jf _,rfl,A5 (by simp)⟩
 case round=>
  obtain⟨k,h,rfl,H⟩:=hrel;by_cases hlt:k<s.size
  ·cases b:V.TJ s[k];·go_wp2_with(go_at_call 243;refine(eI _ _).mono ?_;rintro e w'⟨rfl,rfl⟩);go_ret;exact⟨Eb (V.aK6 s.data.toList k (by simpa using hlt) b).symm,rfl⟩
   go_wp2_with(go_at_call 243;refine(eI _ _).mono ?_;rintro e w'⟨rfl,rfl⟩);go_round;case rel=>exact⟨k+1,by omega,by go_num,A5 (by rw[kN s k hlt,mU,H.out];simp[b])⟩
   case measure=>simp[Mc];omega
  go_wp2;go_ret;exact⟨Eb (by rw[V.digits,VO,<-XX (l:=s.data.toList) (i:=k) (by simp;omega),H.out];simp),rfl⟩
def aNB(s:zz)(h:0<s.size):s.data.toList.head?=Y s[0]:=by have:=Lib.data_getElem? s 0 h;rw[<-this,List.head?_eq_getElem?]
def a9p(b:UInt8)(n:Nat)(c:UInt8)(h:c.toNat=n):((b.toNat:Int)!=(n:Int))=(b !=c):=by
 subst h;rw[VA];simp only[bne_iff_ne,ne_eq];constructor;·intro h e;subst e;exact h rfl
 intro h e;exact h (UInt8.toNat_inj.1 (by omega))
def xV(s:zz)(w:A0)(hs:s.size<=BH):Ai A6 170 #[J s] w λe w'=>e=AZ (Af (V.number s.data.toList))/\w'=w:=by
 cases b:V.digits s.data.toList;·go_enter Tryz.func170,Tryz.ntmps170;go_wp2_with(go_at_call 176;refine(eJ _ _ hs).mono ?_;rintro e w'⟨rfl,rfl⟩;rw[b]);go_ret;exact⟨Eb (by simp[V.number,b]),rfl⟩
 have H:0<s.size:=by have:=V.aK5 b;have:=List.length_pos_iff.2 this;simpa using this
 have h:=aNB s H;have y:AL (V.number s.data.toList=(s.toList==[48]||(s[0].toNat:Int)!=48)):=by refine A5 ?_;unfold V.number;rw[b,h,VO,show(48:Int)=((48:Nat):Int)from rfl,a9p s[0] 48 48 rfl];simp[bne]
 clear h;cases z:s.toList==[48];all_goals go_enter Tryz.func170,Tryz.ntmps170;go_wp2_with(go_at_call 176;refine(eJ _ _ hs).mono ?_;rintro e w'⟨rfl,rfl⟩;rw[b]);go_ret;exact⟨Eb (by rw[y.out,z];simp),rfl⟩
def a8J(s:zz)(w:A0)(hs:s.size<=BH):Ai A6 171 #[J s] w λe w'=>e=AZ (Af (V.mark s.data.toList))/\w'=w:=by
 have Q:=hs;unfold BH at Q;cases z:V.digits s.data.toList
 ·have h:AL (V.mark s.data.toList=(s.data.toList.all V.Mw&&!s.data.toList.isEmpty)):=by unfold V.mark;rw[z];rfl
  go_enter Tryz.func171,Tryz.ntmps171;go_wp2_with(go_at_call 176;refine(eJ _ _ hs).mono ?_;rintro e w'⟨rfl,rfl⟩;rw[z]);go_loop[10]λi=>∃k:Nat,k<=s.size/\i=A7 A8 k/\AL ((s.data.toList.take k).all V.Mw=A3)(λi=>s.size-(Mc i).toNat);case atStart=>exact⟨0,Jf _,rfl,A5 (by simp)⟩
  case round=>
   obtain⟨k,hk,rfl,H⟩:=hrel;by_cases hlt:k<s.size
   ·have b:AL (V.Mw s[k]=(V.TJ s[k]||V.isLet s[k]||!(s[k].toNat:Int)!=45)):=by refine A5 ?_;unfold V.Mw;rw[show(45:Int)=((45:Nat):Int)from rfl,a9p s[k] 45 45 rfl];simp[bne]
    have K:AL (V.Mw s[k]=A9->s.data.toList.all V.Mw=A9):=by intro N;rw[mV];exact⟨s[k],by rw[show s[k]=s.data.toList[k]'(by simpa using hlt)from rfl];exact DU _,by simp[N]⟩
    have I:AL (V.Mw s[k]=A3->(s.data.toList.take (k+1)).all V.Mw=A3):=by intro U;rw[kN s k hlt,mU,H.out];simp[U]
    cases y:V.TJ s[k]
    ·cases h2:V.isLet s[k]
     ·cases h3:(s[k].toNat:Int)!=45
      ·go_wp2_with(first|(go_at_call 243;refine(eI _ _).mono ?_;rintro e w'⟨rfl,rfl⟩)|(go_at_call 244;refine(og _ _).mono ?_;rintro e w'⟨rfl,rfl⟩));go_round;case rel=>exact⟨k+1,by omega,by go_num,A5 (I.out (by rw[b.out,y,h2,h3];rfl))⟩
       case measure=>simp[Mc];omega
      go_wp2_with(first|(go_at_call 243;refine(eI _ _).mono ?_;rintro e w'⟨rfl,rfl⟩)|(go_at_call 244;refine(og _ _).mono ?_;rintro e w'⟨rfl,rfl⟩));go_ret;exact⟨Eb (by rw[h.out,K.out (by rw[b.out,y,h2,h3];rfl)];rfl),rfl⟩
     go_wp2_with(first|(go_at_call 243;refine(eI _ _).mono ?_;rintro e w'⟨rfl,rfl⟩)|(go_at_call 244;refine(og _ _).mono ?_;rintro e w'⟨rfl,rfl⟩));go_round;case rel=>exact⟨k+1,by omega,by go_num,A5 (I.out (by rw[b.out,y,h2];rfl))⟩
     case measure=>simp[Mc];omega
    go_wp2_with(first|(go_at_call 243;refine(eI _ _).mono ?_;rintro e w'⟨rfl,rfl⟩)|(go_at_call 244;refine(og _ _).mono ?_;rintro e w'⟨rfl,rfl⟩));go_round;case rel=>exact⟨k+1,by omega,by go_num,A5 (I.out (by rw[b.out,y];rfl))⟩
    case measure=>simp[Mc];omega
   have M:AL (s.data.toList.all V.Mw=A3):=by rw[<-XX (l:=s.data.toList) (i:=k) (by simp;omega)];exact H.out
   go_wp2;go_ret;exact⟨Eb (by rw[h.out,M.out,VO];simp),rfl⟩
 have h:AL (V.mark s.data.toList=V.number s.data.toList):=by unfold V.mark;rw[z];rfl
 go_enter Tryz.func171,Tryz.ntmps171;go_wp2_with(first|(go_at_call 176;refine(eJ _ _ hs).mono ?_;rintro e w'⟨rfl,rfl⟩;rw[z])|(go_at_call 170;refine(xV _ _ hs).mono ?_;rintro e w'⟨rfl,rfl⟩));go_ret;exact⟨Eb h.out.symm,rfl⟩
end
section
open Go Go.RowKit
def aXm:List Int:=[0,1,56,2,57,49,28,3,61,58,42,50,38,29,17,4,62,47,59,36,45,43,51,22,53,39,33,30,24,18,12,5,63,55,48,27,60,41,37,16,46,35,44,21,52,32,23,11,54,26,40,15,34,20,31,10,25,14,19,9,13,8,7,6]
def aXn{W:A0}(h:laidMet A6 SM.laid W):W.cell? ⟨5,15,Z⟩=Y (A7 F1 4):=by
 obtain⟨g,t,cs,s,p,I,K,hv,H⟩:=aZy h (n:= "math/bits.deBruijn64tab") (d:=Rows.laid_math_bits_deBruijn64tab) (by simp[SM]);have b:A6.globalNamed "math/bits.deBruijn64tab"=Y 5:=by kernel_rfl
 obtain rfl:=CH (b.symm.trans I);have y:A6.globals[5]?.map (·.type)=Y 538:=by kernel_rfl
 obtain rfl:=CH (y.symm.trans K);have z:A6.underlying 538=Y (.array 64 5):=by kernel_rfl
 have hu:A6.underlying 5=Y (.int F1):=by kernel_rfl
 have e:=Lib.cells_of_tab (k:=F1) (zs:=aXm) z hu (by kernel_rfl) (by kernel_rfl) H;have hc:=World.var?_cell b hv 15;rw[hc];have e2:cs[15]?=cs.toList[15]?:=by simp
 rw[e2,e];rfl
end
section
open Go
def both{a b:Bool}(h:a=A3)(s:b=A3):(a&&b)=A3:=by rw[h,s];rfl
def aIx:(SM.inPlace==A6.inPlace 8)=A3:=by kernel_rfl
def aJ3:(SM.unfollowed==A6.unfollowed 8)=A3:=by kernel_rfl
def aJ0:(SM.recurses==A6.recurses 8)=A3:=by kernel_rfl
def aJ':(SM.named==A6.varsNamed 8)=A3:=by kernel_rfl
def aIv:aFX A6 8 Tryz.f8 Rows.checkedSpec SM=A3:=by
 unfold aFX;refine both (both (both (both (both (both (both (both (both (both (both (both (both (both (both (both (both (both (both (both (both (both (both (both (both (both (both (both (both (both (both ?_ ?_) ?_) ?_) ?_) ?_) ?_) ?_) ?_) ?_) ?_) ?_) ?_) ?_) ?_) ?_) ?_) ?_) ?_) ?_) ?_) ?_) ?_) ?_) ?_) ?_) ?_) ?_) ?_) ?_) ?_) ?_;case refine_10=>exact aIx
 case refine_11=>exact aJ3
 case refine_12=>exact aJ0
 case refine_13=>exact aJ'
 all_goals as_aux_lemma=>kernel_rfl
end
end Go.Proofs.YtcfhleenecfghaaGreatDoor
namespace Go.Proofs
section
open Go.Shelf
open YtcfhleenecfghaaGreatDoor(zz zx zw)
def Tryz.aQS:Oz:=⟨λ|106=>153|213=>225|265=>328|n=>n,λ|9=>9|3=>3|n=>n,λ|n=>n⟩
def Tryz.aQR:a_4 A6 Tryz.aQS:={
 mixed:=by kernel_rfl
 f106:=Tryz.func153.trans (congrArg Y (by kernel_rfl))
 f213:=Tryz.func225.trans (congrArg Y (by kernel_rfl))
 f265:=Tryz.func328.trans (congrArg Y (by kernel_rfl))
 t3:=Lx
 a3:=Ow
 z3:=Ox
 v3:=Oy
 t9:=LI
 a9:=Pv
 z9:=Pw
 v9:=Px}
open Go.RowKit in def Tryz.strings_Compare(a b:zz)(w:A0):Ai A6 153 #[J a,J b] w λe w'=>e=AZ (A7 A8 (IJ a.data.toList b.data.toList))/\w'=w:=Any.strings_Compare Tryz.aQR a b w
def Tryz.aQU:Oz:=⟨λ|122=>90|215=>175|n=>n,λ|3=>3|4=>4|n=>n,λ|n=>n⟩
def Tryz.aQT:a_5 A6 Tryz.aQU:={
 mixed:=by kernel_rfl
 f122:=Tryz.func90.trans (congrArg Y (by kernel_rfl))
 f215:=Tryz.func175.trans (congrArg Y (by kernel_rfl))
 t3:=Lx
 a3:=Ow
 z3:=Ox
 v3:=Oy
 t4:=O'
 a4:=R2
 z4:=R3
 v4:=R4}
open Go.RowKit in def Tryz.cmp_Compare_int(x y:Int)(w:A0):Ai A6 90 #[A7 A8 x,A7 A8 y] w λe w'=>e=AZ (A7 A8 (VL x y))/\w'=w:=Any.cmp_Compare_int Tryz.aQT x y w
def Tryz.aQh:Oz:=⟨λ|316=>172|n=>n,λ|9=>9|3=>3|4=>4|37=>188|0=>0|127=>307|5=>5|n=>n,λ|n=>n⟩
def Tryz.aQg:a_E A6 Tryz.aQh:={
 mixed:=by kernel_rfl
 f316:=Tryz.func172.trans (congrArg Y (by kernel_rfl))
 t0:=X4
 a0:=X0
 z0:=X2
 v0:=X7
 t3:=Lx
 a3:=Ow
 z3:=Ox
 v3:=Oy
 t4:=O'
 a4:=R2
 z4:=R3
 v4:=R4
 t9:=LI
 a9:=Pv
 z9:=Pw
 v9:=Px
 t37:=sB
 a37:=aEf
 z37:=aEo
 v37:=aF4
 t127:=aEw
 a127:=aEg
 z127:=aEp
 v127:=aF5
 t5:=X5
 a5:=X1
 z5:=X3
 v5:=X8
 i0:=by kernel_rfl
 i3:=by kernel_rfl
 i4:=by kernel_rfl
 i5:=by kernel_rfl
 i9:=by kernel_rfl
 i37:=by kernel_rfl
 i127:=by kernel_rfl}
open Go.RowKit in def Tryz.stringslite_Clone(s:zz)(w:A0)(b:s.size<=281474976710656):Ai A6 172 #[J s] w λe w'=>e=AZ (J s)/\Below w.heap.size w w':=Any.stringslite_Clone Tryz.aQg s w b
def Tryz.aQY:Oz:=⟨λ|145=>118|220=>194|219=>273|217=>350|225=>351|224=>352|267=>353|266=>409|314=>410|n=>n,λ|9=>9|4=>4|59=>214|3=>3|5=>5|46=>305|146=>482|51=>323|n=>n,λ|1=>0|n=>n⟩
def Tryz.aQX:a_7 A6 Tryz.aQY:={
 mixed:=by kernel_rfl
 f145:=Tryz.func118.trans (congrArg Y (by kernel_rfl))
 f217:=a0K.trans (congrArg Y (by kernel_rfl))
 f219:=a0H.trans (congrArg Y (by kernel_rfl))
 f220:=Tryz.func194.trans (congrArg Y (by kernel_rfl))
 f224:=a0L.trans (congrArg Y (by kernel_rfl))
 f225:=cQ.trans (congrArg Y (by kernel_rfl))
 f266:=cR.trans (congrArg Y (by kernel_rfl))
 f267:=a0M.trans (congrArg Y (by kernel_rfl))
 f314:=a0N.trans (congrArg Y (by kernel_rfl))
 t3:=Lx
 a3:=Ow
 z3:=Ox
 v3:=Oy
 t4:=O'
 a4:=R2
 z4:=R3
 v4:=R4
 t5:=X5
 a5:=X1
 z5:=X3
 v5:=X8
 t9:=LI
 a9:=Pv
 z9:=Pw
 v9:=Px
 t46:=cW
 a46:=cS
 z46:=cU
 v46:=cY
 t51:=cX
 a51:=cT
 z51:=cV
 v51:=cZ
 t59:=Tryz.underlying214
 a59:=Tryz.isAgg214
 z59:=Tryz.sizeOf214
 v59:=Tryz.zeroValue214
 t146:=a0q
 a146:=a0U
 z146:=a0d
 v146:=a1'
 g1:=by kernel_rfl}
open Go.RowKit Go.Lib in def Tryz.strings_Cut(s b:zz)(m:Int)(w:A0)(hs:s.size<4294967281)(h:w.cell? ⟨0,0,Z⟩=Y (A7 A8 m)):Ai A6 118 #[J s,J b] w λe w'=>e=AZ (Ay #[J ⟨(Gr s.data.toList b.data.toList).1.toArray⟩,J ⟨(Gr s.data.toList b.data.toList).2.1.toArray⟩,Af (Gr s.data.toList b.data.toList).2.2])/\∃n,w'=w.drewN n:=Any.strings_Cut Tryz.aQX s b m w hs h
def Tryz.aQd:Oz:=⟨λ|99=>168|206=>242|n=>n,λ|9=>9|4=>4|3=>3|n=>n,λ|n=>n⟩
def Tryz.aQc:a_B A6 Tryz.aQd:={
 mixed:=by kernel_rfl
 f99:=Tryz.func168.trans (congrArg Y (by kernel_rfl))
 f206:=aER.trans (congrArg Y (by kernel_rfl))
 t3:=Lx
 a3:=Ow
 z3:=Ox
 v3:=Oy
 t4:=O'
 a4:=R2
 z4:=R3
 v4:=R4
 t9:=LI
 a9:=Pv
 z9:=Pw
 v9:=Px}
open Go.RowKit Go.Lib in def Tryz.strings_HasPrefix(s p:zz)(w:A0):Ai A6 168 #[J s,J p] w λe w'=>e=AZ (Af (Wy s.data.toList p.data.toList))/\w'=w:=Any.strings_HasPrefix Tryz.aQc s p w
def Tryz.aQQ:Oz:=⟨λ|101=>173|208=>245|206=>242|n=>n,λ|9=>9|4=>4|3=>3|n=>n,λ|n=>n⟩
def Tryz.aQP:a_3 A6 Tryz.aQQ:={
 mixed:=by kernel_rfl
 f101:=Tryz.func173.trans (congrArg Y (by kernel_rfl))
 f206:=aER.trans (congrArg Y (by kernel_rfl))
 f208:=Tryz.func245.trans (congrArg Y (by kernel_rfl))
 t3:=Lx
 a3:=Ow
 z3:=Ox
 v3:=Oy
 t4:=O'
 a4:=R2
 z4:=R3
 v4:=R4
 t9:=LI
 a9:=Pv
 z9:=Pw
 v9:=Px}
open Go.RowKit Go.Lib in def Tryz.strings_TrimPrefix(s p:zz)(w:A0):Ai A6 173 #[J s,J p] w λe w'=>e=AZ (J ⟨(SI s.data.toList p.data.toList).toArray⟩)/\w'=w:=Any.strings_TrimPrefix Tryz.aQP s p w
def Tryz.aQ_:Oz:=⟨λ|146=>174|221=>246|268=>339|138=>340|143=>341|195=>405|197=>406|218=>407|219=>273|260=>434|217=>350|225=>351|224=>352|267=>353|266=>409|314=>410|n=>n,λ|9=>9|31=>50|3=>3|4=>4|0=>0|105=>500|21=>21|5=>5|46=>305|119=>533|139=>536|138=>535|146=>482|51=>323|n=>n,λ|1=>0|3=>2|4=>3|n=>n⟩
def Tryz.aQZ:a_8 A6 Tryz.aQ_:={
 mixed:=by kernel_rfl
 f138:=aEX.trans (congrArg Y (by kernel_rfl))
 f143:=aEY.trans (congrArg Y (by kernel_rfl))
 f146:=aEL.trans (congrArg Y (by kernel_rfl))
 f195:=aEZ.trans (congrArg Y (by kernel_rfl))
 f197:=aE_.trans (congrArg Y (by kernel_rfl))
 f217:=a0K.trans (congrArg Y (by kernel_rfl))
 f218:=gG.trans (congrArg Y (by kernel_rfl))
 f219:=a0H.trans (congrArg Y (by kernel_rfl))
 f221:=aES.trans (congrArg Y (by kernel_rfl))
 f224:=a0L.trans (congrArg Y (by kernel_rfl))
 f225:=cQ.trans (congrArg Y (by kernel_rfl))
 f260:=aEb.trans (congrArg Y (by kernel_rfl))
 f266:=cR.trans (congrArg Y (by kernel_rfl))
 f267:=a0M.trans (congrArg Y (by kernel_rfl))
 f268:=aEW.trans (congrArg Y (by kernel_rfl))
 f314:=a0N.trans (congrArg Y (by kernel_rfl))
 t0:=X4
 a0:=X0
 z0:=X2
 v0:=X7
 t3:=Lx
 a3:=Ow
 z3:=Ox
 v3:=Oy
 t4:=O'
 a4:=R2
 z4:=R3
 v4:=R4
 t5:=X5
 a5:=X1
 z5:=X3
 v5:=X8
 t9:=LI
 a9:=Pv
 z9:=Pw
 v9:=Px
 t21:=a0h
 a21:=a0O
 z21:=a0Y
 v21:=a0u
 t31:=a0r
 a31:=a0V
 z31:=a0e
 v31:=a10
 t46:=cW
 a46:=cS
 z46:=cU
 v46:=cY
 t51:=cX
 a51:=cT
 z51:=cV
 v51:=cZ
 t105:=aEy
 a105:=aEh
 z105:=aEq
 v105:=aF6
 t119:=aF'
 a119:=aEi
 z119:=aEr
 t138:=aF0
 a138:=aEj
 z138:=aEs
 v138:=aF7
 t139:=aF1
 a139:=aEk
 z139:=aEt
 v139:=aF8
 t146:=a0q
 a146:=a0U
 z146:=a0d
 v146:=a1'
 g1:=by kernel_rfl
 g3:=by kernel_rfl
 g4:=by kernel_rfl}
open Go.RowKit Go.Lib in def Tryz.strings_Split(s b:zz)(m:Int)(w:A0)(hs:s.size<4294967281)(y:w.cell? ⟨0,0,Z⟩=Y (A7 A8 m))(h:1<=b.size):Ai A6 174 #[J s,J b] w λe w'=>e=AZ (A4 (Y ⟨w.heap.size,0,Z⟩) (VM s b+1) (VM s b+1))/\w'=w.alloc (AF ((lC b 0 (VM s b) s).map J).toArray 9):=Any.strings_Split Tryz.aQZ (by kernel_rfl) s b m w hs y h
def Tryz.aQf:Oz:=⟨λ|146=>174|221=>246|268=>339|138=>340|143=>341|195=>405|197=>406|218=>407|219=>273|260=>434|217=>350|225=>351|224=>352|267=>353|266=>409|314=>410|n=>n,λ|9=>9|31=>50|3=>3|4=>4|0=>0|105=>500|21=>21|5=>5|46=>305|119=>533|139=>536|138=>535|146=>482|51=>323|n=>n,λ|1=>0|3=>2|4=>3|n=>n⟩
def Tryz.aQe:a_D A6 Tryz.aQf:={
 mixed:=by kernel_rfl
 f138:=aEX.trans (congrArg Y (by kernel_rfl))
 f143:=aEY.trans (congrArg Y (by kernel_rfl))
 f146:=aEL.trans (congrArg Y (by kernel_rfl))
 f195:=aEZ.trans (congrArg Y (by kernel_rfl))
 f197:=aE_.trans (congrArg Y (by kernel_rfl))
 f217:=a0K.trans (congrArg Y (by kernel_rfl))
 f218:=gG.trans (congrArg Y (by kernel_rfl))
 f219:=a0H.trans (congrArg Y (by kernel_rfl))
 f221:=aES.trans (congrArg Y (by kernel_rfl))
 f224:=a0L.trans (congrArg Y (by kernel_rfl))
 f225:=cQ.trans (congrArg Y (by kernel_rfl))
 f260:=aEb.trans (congrArg Y (by kernel_rfl))
 f266:=cR.trans (congrArg Y (by kernel_rfl))
 f267:=a0M.trans (congrArg Y (by kernel_rfl))
 f268:=aEW.trans (congrArg Y (by kernel_rfl))
 f314:=a0N.trans (congrArg Y (by kernel_rfl))
 t0:=X4
 a0:=X0
 z0:=X2
 v0:=X7
 t3:=Lx
 a3:=Ow
 z3:=Ox
 v3:=Oy
 t4:=O'
 a4:=R2
 z4:=R3
 v4:=R4
 t5:=X5
 a5:=X1
 z5:=X3
 v5:=X8
 t9:=LI
 a9:=Pv
 z9:=Pw
 v9:=Px
 t21:=a0h
 a21:=a0O
 z21:=a0Y
 v21:=a0u
 t31:=a0r
 a31:=a0V
 z31:=a0e
 v31:=a10
 t46:=cW
 a46:=cS
 z46:=cU
 v46:=cY
 t51:=cX
 a51:=cT
 z51:=cV
 v51:=cZ
 t105:=aEy
 a105:=aEh
 z105:=aEq
 v105:=aF6
 t119:=aF'
 a119:=aEi
 z119:=aEr
 t138:=aF0
 a138:=aEj
 z138:=aEs
 v138:=aF7
 t139:=aF1
 a139:=aEk
 z139:=aEt
 v139:=aF8
 t146:=a0q
 a146:=a0U
 z146:=a0d
 v146:=a1'
 g1:=by kernel_rfl
 g3:=by kernel_rfl
 g4:=by kernel_rfl
 i0:=by kernel_rfl
 i3:=by kernel_rfl
 i4:=by kernel_rfl
 i5:=by kernel_rfl
 i9:=by kernel_rfl
 i21:=by kernel_rfl
 i31:=by kernel_rfl
 i46:=by kernel_rfl
 i51:=by kernel_rfl
 i105:=by kernel_rfl
 i138:=by kernel_rfl
 i139:=by kernel_rfl
 i146:=by kernel_rfl
 m1:=by kernel_rfl
 s1_3:=λw h=>a_F (zero:=#[A7 A8 0]) (t:=3) h (of_decide_eq_true (by kernel_rfl)) (by kernel_rfl) rfl (by kernel_rfl) (by kernel_rfl) Lx
 m3:=by kernel_rfl
 m4:=by kernel_rfl}
def Tryz.a8f:Oz:=⟨λ|169=>103|n=>n,λ|70=>187|9=>9|0=>0|72=>190|37=>188|127=>307|3=>3|5=>5|n=>n,λ|n=>n⟩
def Tryz.a8e:a_9 A6 Tryz.a8f:={
 mixed:=by kernel_rfl
 f169:=Tryz.func103.trans (congrArg Y (by kernel_rfl))
 t0:=X4
 a0:=X0
 z0:=X2
 v0:=X7
 t3:=Lx
 a3:=Ow
 z3:=Ox
 v3:=Oy
 t9:=LI
 a9:=Pv
 z9:=Pw
 v9:=Px
 t37:=sB
 a37:=aEf
 z37:=aEo
 v37:=aF4
 t70:=sA
 a70:=Tryz.isAgg187
 z70:=Tryz.sizeOf187
 v70:=Tryz.zeroValue187
 t72:=Tryz.underlying190
 a72:=Tryz.isAgg190
 z72:=Tryz.sizeOf190
 v72:=Tryz.zeroValue190
 t127:=aEw
 a127:=aEg
 z127:=aEp
 v127:=aF5}
def Tryz.a'':a_2 A6 Tryz.a8f:={
 sizeBuilder:=by kernel_rfl
 liesBuilder:=by kernel_rfl
 t5:=X5
 a5:=X1
 z5:=X3
 v5:=X8
 infoByte:=by kernel_rfl
 cellsByte:=by kernel_rfl
 sizeByte:=by kernel_rfl
 neB5:=by decide}
open Go.RowKit in def Tryz.Builder_String(B b:Nat)(l:zx)(w:A0)(h:SH 190 5 B b (Lib.byteCells l) w)(s:l≠[]):Ai A6 103 #[Ad (Y ⟨b,0,Z⟩)] w λe w'=>e=AZ (J ⟨l.toArray⟩)/\Below B w w':=Any.Builder_String Tryz.a8e Tryz.a'' B b l w h s
def Tryz.aQW:Oz:=⟨λ|125=>182|128=>264|129=>265|n=>n,λ|46=>305|3=>3|51=>323|53=>242|4=>4|5=>5|9=>9|n=>n,λ|n=>n⟩
def Tryz.aQV:a_6 A6 Tryz.aQW:={
 mixed:=by kernel_rfl
 f125:=s0.trans (congrArg Y (by kernel_rfl))
 f128:=s4.trans (congrArg Y (by kernel_rfl))
 f129:=s5.trans (congrArg Y (by kernel_rfl))
 t3:=Lx
 a3:=Ow
 z3:=Ox
 v3:=Oy
 t4:=O'
 a4:=R2
 z4:=R3
 v4:=R4
 t5:=X5
 a5:=X1
 z5:=X3
 v5:=X8
 t9:=LI
 a9:=Pv
 z9:=Pw
 v9:=Px
 t46:=cW
 a46:=cS
 z46:=cU
 v46:=cY
 t51:=cX
 a51:=cT
 z51:=cV
 v51:=cZ
 t53:=sC
 a53:=s6
 z53:=s8
 v53:=sD}
def Tryz.bits_Len(x:Int)(w:A0)(b:0<=x)(h:x<=18446744073709551615):Ai A6 182 #[A7 .u64 x] w λe w'=>e=AZ (A7 A8 (Lib.bitLen x.toNat))/\w'=w:=Any.bits_Len Tryz.aQV x w b h
def Tryz.aQb:Oz:=⟨λ|229=>251|n=>n,λ|9=>9|40=>375|31=>50|152=>452|3=>3|0=>0|4=>4|21=>21|154=>454|n=>n,λ|n=>n⟩
def Tryz.aQa:a_A A6 Tryz.aQb:={
 mixed:=by kernel_rfl
 f229:=Tryz.func251.trans (congrArg Y (by kernel_rfl))
 t0:=X4
 a0:=X0
 z0:=X2
 v0:=X7
 t3:=Lx
 a3:=Ow
 z3:=Ox
 v3:=Oy
 t4:=O'
 a4:=R2
 z4:=R3
 v4:=R4
 t9:=LI
 a9:=Pv
 z9:=Pw
 v9:=Px
 t21:=a0h
 a21:=a0O
 z21:=a0Y
 v21:=a0u
 t31:=a0r
 a31:=a0V
 z31:=a0e
 v31:=a10
 t40:=Tryz.underlying375
 a40:=Tryz.isAgg375
 z40:=Tryz.sizeOf375
 v40:=Tryz.zeroValue375
 t152:=Tryz.underlying452
 a152:=Tryz.isAgg452
 z152:=Tryz.sizeOf452
 v152:=Tryz.zeroValue452
 t154:=Tryz.underlying454
 a154:=Tryz.isAgg454
 z154:=Tryz.sizeOf454
 v154:=Tryz.zeroValue454}
open Go.RowKit Go.Lib in def Tryz.strings_FieldsFunc_runes(g:Nat)(h:zw)(y:∀b w,(callFunc g b).run A6 w=Ac (.enter g b) w)(p:Nat->Bool)(s:zz)(w:A0)(hs:s.size<=4294967296)(z:aED A6 g h p w):Ai A6 251 #[J s,FU (Ek g) #[] h] w λe w'=>∃A,e=AZ (A4 (Y ⟨A,0,Z⟩) (VN p s).length (VN p s).length)/\w.heap.size<=A/\w'.ownsRow w.heap.size 9 1 (A4 (Y ⟨A,0,Z⟩) (VN p s).length (VN p s).length) (VN p s).length ((VN p s).map J)/\Below w.heap.size w w':=Any.strings_FieldsFunc_runes Tryz.aQa g h y p s w hs z (by kernel_rfl) (by kernel_rfl)
def Tryz.z8:Oz:=⟨λ|6=>128|15=>182|14=>202|28=>264|29=>265|20=>295|21=>296|22=>297|23=>298|24=>299|25=>300|26=>301|27=>302|46=>360|47=>345|48=>346|49=>361|50=>362|57=>412|n=>n,λ|22=>130|24=>234|25=>235|3=>3|39=>305|0=>0|53=>323|55=>242|4=>4|46=>382|45=>381|50=>227|5=>5|9=>9|66=>455|70=>458|76=>503|77=>504|n=>n,λ|n=>n⟩
def Tryz.aBu:lP A6 Tryz.z8:={
 mixed:=by kernel_rfl
 f6:=⟨aEE.name,by decide,lR.trans (congrArg Y (by kernel_rfl))⟩
 f14:=⟨Tryz.f202.name,by decide,Tryz.func202.trans (congrArg Y (by kernel_rfl))⟩
 f15:=s0.trans (congrArg Y (by kernel_rfl))
 f20:=⟨Tryz.f295.name,by decide,Tryz.func295.trans (congrArg Y (by kernel_rfl))⟩
 f21:=⟨Tryz.f296.name,by decide,Tryz.func296.trans (congrArg Y (by kernel_rfl))⟩
 f22:=⟨Tryz.f297.name,by decide,Tryz.func297.trans (congrArg Y (by kernel_rfl))⟩
 f23:=⟨Tryz.f298.name,by decide,Tryz.func298.trans (congrArg Y (by kernel_rfl))⟩
 f24:=⟨Tryz.f299.name,by decide,Tryz.func299.trans (congrArg Y (by kernel_rfl))⟩
 f25:=⟨Tryz.f300.name,by decide,Tryz.func300.trans (congrArg Y (by kernel_rfl))⟩
 f26:=⟨Tryz.f301.name,by decide,Tryz.func301.trans (congrArg Y (by kernel_rfl))⟩
 f27:=⟨Tryz.f302.name,by decide,Tryz.func302.trans (congrArg Y (by kernel_rfl))⟩
 f28:=s4.trans (congrArg Y (by kernel_rfl))
 f29:=s5.trans (congrArg Y (by kernel_rfl))
 f46:=⟨Tryz.f360.name,by decide,Tryz.func360.trans (congrArg Y (by kernel_rfl))⟩
 f47:=a0I.trans (congrArg Y (by kernel_rfl))
 f48:=a0J.trans (congrArg Y (by kernel_rfl))
 f49:=⟨Tryz.f361.name,by decide,Tryz.func361.trans (congrArg Y (by kernel_rfl))⟩
 f50:=⟨Tryz.f362.name,by decide,Tryz.func362.trans (congrArg Y (by kernel_rfl))⟩
 f57:=⟨Tryz.f412.name,by decide,Tryz.func412.trans (congrArg Y (by kernel_rfl))⟩
 t0:=X4
 a0:=X0
 z0:=X2
 v0:=X7
 t3:=Lx
 a3:=Ow
 z3:=Ox
 v3:=Oy
 t4:=O'
 a4:=R2
 z4:=R3
 v4:=R4
 t5:=X5
 a5:=X1
 z5:=X3
 v5:=X8
 t9:=LI
 a9:=Pv
 z9:=Pw
 v9:=Px
 t22:=Tryz.underlying130
 a22:=Tryz.isAgg130
 z22:=Tryz.sizeOf130
 v22:=Tryz.zeroValue130
 t25:=Tryz.underlying235
 a25:=Tryz.isAgg235
 z25:=Tryz.sizeOf235
 v25:=Tryz.zeroValue235
 t39:=cW
 a39:=cS
 z39:=cU
 v39:=cY
 t45:=a0l
 a45:=a0Q
 z45:=a0_
 v45:=a0w
 t46:=a0m
 a46:=a0R
 z46:=a0a
 v46:=a0x
 t50:=a0i
 a50:=a0P
 z50:=a0Z
 v50:=a0v
 t53:=cX
 a53:=cT
 z53:=cV
 v53:=cZ
 t55:=sC
 a55:=s6
 z55:=s8
 v55:=sD
 t66:=a0n
 a66:=a0S
 z66:=a0b
 v66:=a0y
 t70:=a0o
 a70:=a0T
 z70:=a0c
 v70:=a0z
 t76:=a0s
 a76:=a0W
 z76:=a0f
 v76:=a11
 t77:=a0t
 a77:=a0X
 z77:=a0g
 v77:=a13}
def Tryz.z1:Oz:=⟨λ|6=>206|15=>182|14=>311|28=>264|29=>265|20=>366|21=>367|22=>368|23=>369|24=>370|25=>371|26=>372|27=>373|46=>414|47=>345|48=>346|49=>415|50=>416|57=>435|n=>n,λ|22=>47|24=>75|25=>333|3=>3|39=>305|0=>0|53=>323|55=>242|4=>4|46=>382|45=>381|50=>227|5=>5|9=>9|66=>455|70=>458|76=>503|77=>504|n=>n,λ|n=>n⟩
def Tryz.aX2:lP A6 Tryz.z1:={
 mixed:=by kernel_rfl
 f6:=⟨Tryz.f206.name,by decide,Tryz.func206.trans (congrArg Y (by kernel_rfl))⟩
 f14:=⟨Tryz.f311.name,by decide,Tryz.func311.trans (congrArg Y (by kernel_rfl))⟩
 f15:=s0.trans (congrArg Y (by kernel_rfl))
 f20:=⟨Tryz.f366.name,by decide,Tryz.func366.trans (congrArg Y (by kernel_rfl))⟩
 f21:=⟨Tryz.f367.name,by decide,Tryz.func367.trans (congrArg Y (by kernel_rfl))⟩
 f22:=⟨Tryz.f368.name,by decide,Tryz.func368.trans (congrArg Y (by kernel_rfl))⟩
 f23:=⟨Tryz.f369.name,by decide,Tryz.func369.trans (congrArg Y (by kernel_rfl))⟩
 f24:=⟨Tryz.f370.name,by decide,Tryz.func370.trans (congrArg Y (by kernel_rfl))⟩
 f25:=⟨Tryz.f371.name,by decide,Tryz.func371.trans (congrArg Y (by kernel_rfl))⟩
 f26:=⟨Tryz.f372.name,by decide,Tryz.func372.trans (congrArg Y (by kernel_rfl))⟩
 f27:=⟨Tryz.f373.name,by decide,Tryz.func373.trans (congrArg Y (by kernel_rfl))⟩
 f28:=s4.trans (congrArg Y (by kernel_rfl))
 f29:=s5.trans (congrArg Y (by kernel_rfl))
 f46:=⟨Tryz.f414.name,by decide,Tryz.func414.trans (congrArg Y (by kernel_rfl))⟩
 f47:=a0I.trans (congrArg Y (by kernel_rfl))
 f48:=a0J.trans (congrArg Y (by kernel_rfl))
 f49:=⟨Tryz.f415.name,by decide,Tryz.func415.trans (congrArg Y (by kernel_rfl))⟩
 f50:=⟨Tryz.f416.name,by decide,Tryz.func416.trans (congrArg Y (by kernel_rfl))⟩
 f57:=⟨Tryz.f435.name,by decide,Tryz.func435.trans (congrArg Y (by kernel_rfl))⟩
 t0:=X4
 a0:=X0
 z0:=X2
 v0:=X7
 t3:=Lx
 a3:=Ow
 z3:=Ox
 v3:=Oy
 t4:=O'
 a4:=R2
 z4:=R3
 v4:=R4
 t5:=X5
 a5:=X1
 z5:=X3
 v5:=X8
 t9:=LI
 a9:=Pv
 z9:=Pw
 v9:=Px
 t22:=Tryz.underlying47
 a22:=Tryz.isAgg47
 z22:=Tryz.sizeOf47
 v22:=Tryz.zeroValue47
 t25:=Tryz.underlying333
 a25:=Tryz.isAgg333
 z25:=Tryz.sizeOf333
 v25:=Tryz.zeroValue333
 t39:=cW
 a39:=cS
 z39:=cU
 v39:=cY
 t45:=a0l
 a45:=a0Q
 z45:=a0_
 v45:=a0w
 t46:=a0m
 a46:=a0R
 z46:=a0a
 v46:=a0x
 t50:=a0i
 a50:=a0P
 z50:=a0Z
 v50:=a0v
 t53:=cX
 a53:=cT
 z53:=cV
 v53:=cZ
 t55:=sC
 a55:=s6
 z55:=s8
 v55:=sD
 t66:=a0n
 a66:=a0S
 z66:=a0b
 v66:=a0y
 t70:=a0o
 a70:=a0T
 z70:=a0c
 v70:=a0z
 t76:=a0s
 a76:=a0W
 z76:=a0f
 v76:=a11
 t77:=a0t
 a77:=a0X
 z77:=a0g
 v77:=a13}
def Tryz.z7:Oz:=⟨λ|6=>132|15=>182|14=>205|28=>264|29=>265|20=>303|21=>304|22=>305|23=>306|24=>307|25=>308|26=>309|27=>310|46=>363|47=>345|48=>346|49=>364|50=>365|57=>413|n=>n,λ|22=>119|24=>217|25=>239|3=>3|39=>305|0=>0|53=>323|55=>242|4=>4|46=>382|45=>381|50=>227|5=>5|9=>9|66=>455|70=>458|76=>503|77=>504|n=>n,λ|n=>n⟩
def Tryz.z6:lP A6 Tryz.z7:={
 mixed:=by kernel_rfl
 f6:=⟨Tryz.f132.name,by decide,Tryz.func132.trans (congrArg Y (by kernel_rfl))⟩
 f14:=⟨Tryz.f205.name,by decide,Tryz.func205.trans (congrArg Y (by kernel_rfl))⟩
 f15:=s0.trans (congrArg Y (by kernel_rfl))
 f20:=⟨Tryz.f303.name,by decide,Tryz.func303.trans (congrArg Y (by kernel_rfl))⟩
 f21:=⟨Tryz.f304.name,by decide,Tryz.func304.trans (congrArg Y (by kernel_rfl))⟩
 f22:=⟨Tryz.f305.name,by decide,Tryz.func305.trans (congrArg Y (by kernel_rfl))⟩
 f23:=⟨Tryz.f306.name,by decide,Tryz.func306.trans (congrArg Y (by kernel_rfl))⟩
 f24:=⟨Tryz.f307.name,by decide,Tryz.func307.trans (congrArg Y (by kernel_rfl))⟩
 f25:=⟨Tryz.f308.name,by decide,Tryz.func308.trans (congrArg Y (by kernel_rfl))⟩
 f26:=⟨Tryz.f309.name,by decide,Tryz.func309.trans (congrArg Y (by kernel_rfl))⟩
 f27:=⟨Tryz.f310.name,by decide,Tryz.func310.trans (congrArg Y (by kernel_rfl))⟩
 f28:=s4.trans (congrArg Y (by kernel_rfl))
 f29:=s5.trans (congrArg Y (by kernel_rfl))
 f46:=⟨Tryz.f363.name,by decide,Tryz.func363.trans (congrArg Y (by kernel_rfl))⟩
 f47:=a0I.trans (congrArg Y (by kernel_rfl))
 f48:=a0J.trans (congrArg Y (by kernel_rfl))
 f49:=⟨Tryz.f364.name,by decide,Tryz.func364.trans (congrArg Y (by kernel_rfl))⟩
 f50:=⟨Tryz.f365.name,by decide,Tryz.func365.trans (congrArg Y (by kernel_rfl))⟩
 f57:=⟨Tryz.f413.name,by decide,Tryz.func413.trans (congrArg Y (by kernel_rfl))⟩
 t0:=X4
 a0:=X0
 z0:=X2
 v0:=X7
 t3:=Lx
 a3:=Ow
 z3:=Ox
 v3:=Oy
 t4:=O'
 a4:=R2
 z4:=R3
 v4:=R4
 t5:=X5
 a5:=X1
 z5:=X3
 v5:=X8
 t9:=LI
 a9:=Pv
 z9:=Pw
 v9:=Px
 t22:=VR
 a22:=aEe
 z22:=aEn
 v22:=aF3
 t25:=Tryz.underlying239
 a25:=Tryz.isAgg239
 z25:=Tryz.sizeOf239
 v25:=Tryz.zeroValue239
 t39:=cW
 a39:=cS
 z39:=cU
 v39:=cY
 t45:=a0l
 a45:=a0Q
 z45:=a0_
 v45:=a0w
 t46:=a0m
 a46:=a0R
 z46:=a0a
 v46:=a0x
 t50:=a0i
 a50:=a0P
 z50:=a0Z
 v50:=a0v
 t53:=cX
 a53:=cT
 z53:=cV
 v53:=cZ
 t55:=sC
 a55:=s6
 z55:=s8
 v55:=sD
 t66:=a0n
 a66:=a0S
 z66:=a0b
 v66:=a0y
 t70:=a0o
 a70:=a0T
 z70:=a0c
 v70:=a0z
 t76:=a0s
 a76:=a0W
 z76:=a0f
 v76:=a11
 t77:=a0t
 a77:=a0X
 z77:=a0g
 v77:=a13}
def Tryz.a5S:Oz:=⟨λ|4=>204|n=>n,λ|22=>119|25=>217|0=>0|3=>3|4=>4|9=>9|20=>20|n=>n,λ|n=>n⟩
def Tryz.a5R:a_C A6 Tryz.a5S:={
 mixed:=by kernel_rfl
 f4:=⟨Tryz.f204.name,by decide,Tryz.func204.trans (congrArg Y (by kernel_rfl))⟩
 t0:=X4
 a0:=X0
 z0:=X2
 v0:=X7
 t3:=Lx
 a3:=Ow
 z3:=Ox
 v3:=Oy
 t4:=O'
 a4:=R2
 z4:=R3
 v4:=R4
 t9:=LI
 a9:=Pv
 z9:=Pw
 v9:=Px
 t20:=Tryz.underlying20
 a20:=Tryz.isAgg20
 z20:=Tryz.sizeOf20
 v20:=Tryz.zeroValue20
 t22:=VR
 a22:=aEe
 z22:=aEn
 v22:=aF3}
end
end Go.Proofs
namespace Go.Proofs.YtcfhleenecfghaaGreatDoor
section
open Go.RowKit
variable{W w w':A0}{v:A1}{GI:A1->Prop}{e:Aj}{a:Df}{blk kw st:Int}{L:List (zx)}{l:List (Nat×Nat×List zz)}{xs:List A1}{ws:List zz}{ks:List Int}{B b g i1 k n o s:Nat}{x:Nat×Nat×List zz}
def u2(a b:Nat):VL (a:Int) (b:Int)=V.GJ a b:=by
 unfold VL V.GJ;by_cases h:a<b
 ·have h2:(a:Int)<b:=by omega
  simp[h,h2]
 by_cases h3:b<a
 ·have h2:¬(a:Int)<b:=by omega
  have h4:(b:Int)<a:=by omega
  simp[h,h2,h3,h4]
 have h2:¬(a:Int)<b:=by omega
 have h4:¬(b:Int)<a:=by omega
 simp[h,h2,h3,h4]
def u3(a b:zz)(w:A0):Ai A6 89 #[J a,J b] w λe w'=>e=AZ (A7 A8 (V.Kx a.data.toList b.data.toList))/\w'=w:=by
 have s:AL (V.Kx a.data.toList b.data.toList=if V.GJ a.size b.size !=0 then V.GJ a.size b.size else IJ a.data.toList b.data.toList):=by refine A5 ?_;unfold V.Kx;rw[show a.size=a.data.toList.length from by simp,show b.size=b.data.toList.length from by simp]
 cases h:V.GJ a.size b.size !=0;all_goals go_enter Tryz.func89,Tryz.ntmps89;go_wp2_with(first|(go_at_call 90;refine(Tryz.cmp_Compare_int _ _ _).mono ?_;rintro e w'⟨rfl,rfl⟩;rw[u2])|(go_at_call 153;refine(Tryz.strings_Compare _ _ _).mono ?_;rintro e w'⟨rfl,rfl⟩));go_ret;exact⟨Js (by rw[s.out,h];rfl),rfl⟩
def a4E(a b:zz)(w:A0)(s:a.size<=BH)(y:b.size<=BH):Ai A6 91 #[J a,J b] w λe w'=>e=AZ (A7 A8 (V.O8 a.data.toList b.data.toList))/\w'=w:=by cases h:V.digits a.data.toList<;>cases h2:V.digits b.data.toList;all_goals go_enter Tryz.func91,Tryz.ntmps91;go_wp2_with fail;refine(eJ _ _ s).mono ?_;rintro e w'⟨rfl,rfl⟩;rw[h];go_wp2_with fail;refine(eJ _ _ y).mono ?_;rintro e w'⟨rfl,rfl⟩;rw[h2];go_wp2_with(first|(go_at_call 89;refine(u3 _ _ _).mono ?_;rintro e w'⟨rfl,rfl⟩)|(go_at_call 153;refine(Tryz.strings_Compare _ _ _).mono ?_;rintro e w'⟨rfl,rfl⟩));go_ret;exact⟨Js (by unfold V.O8;rw[h,h2];rfl),rfl⟩
def mn(b c:Nat)(h:List zz)(w:A0)(M:h.length<=BH)(I:∀x∈h,x.size<=BH)(hc:∀j,j<h.length->w.cell? ⟨b,j,Z⟩=Y (J (h.getD j B8))):Ai A6 169 #[A4 (Y ⟨b,0,Z⟩) h.length c,FU (Ek 170) #[] #[]] w λe w'=>e=AZ (Af (V.O7 V.number h))/\w'=w:=by
 unfold BH at M;go_enter Tryz.func169,Tryz.ntmps169;go_wp2;go_loop[9]λi=>∃k:Nat,k<=h.length/\i=A7 A8 k/\AL (V.O7 V.number (h.take k)=A3)(λi=>h.length-(Mc i).toNat);case atStart=>exact⟨0,Jf _,rfl,A5 rfl⟩
 case round=>
  obtain⟨k,N,rfl,H⟩:=hrel;by_cases hlt:k<h.length
  ·have K:=hc k hlt;have y:(h.getD k B8).size<=BH:=by rw[V.getD_at _ _ hlt];exact I _ (DU hlt)
   generalize hx:h.getD k B8=x at K y;have z:AL (h.getD k B8=x):=A5 hx;clear hx hc I;cases s:V.number x.data.toList;·go_wp2_with(go_at_call 170;refine(xV _ _ y).mono ?_;rintro e w'⟨rfl,rfl⟩;rw[s]);go_ret;exact⟨Eb (V.a3K _ h k hlt (by rw[z.out,s])).symm,rfl⟩
   go_wp2_with(go_at_call 170;refine(xV _ _ y).mono ?_;rintro e w'⟨rfl,rfl⟩;rw[s]);go_round;case rel=>exact⟨k+1,by omega,by go_num,A5 (V.a3L _ h k hlt H.out (by rw[z.out,s]))⟩
   case measure=>simp[Mc];omega
  go_wp2;go_ret;exact⟨Eb (by rw[<-XX (l:=h) (i:=k) (by omega)];exact H.out.symm),rfl⟩
def aHn(b c:Nat)(h:List zz)(w:A0)(M:h.length<=BH)(I:∀x∈h,x.size<=BH)(hc:∀j,j<h.length->w.cell? ⟨b,j,Z⟩=Y (J (h.getD j B8))):Ai A6 169 #[A4 (Y ⟨b,0,Z⟩) h.length c,FU (Ek 171) #[] #[]] w λe w'=>e=AZ (Af (V.O7 V.mark h))/\w'=w:=by
 unfold BH at M;go_enter Tryz.func169,Tryz.ntmps169;go_wp2;go_loop[9]λi=>∃k:Nat,k<=h.length/\i=A7 A8 k/\AL (V.O7 V.mark (h.take k)=A3)(λi=>h.length-(Mc i).toNat);case atStart=>exact⟨0,Jf _,rfl,A5 rfl⟩
 case round=>
  obtain⟨k,N,rfl,H⟩:=hrel;by_cases hlt:k<h.length
  ·have K:=hc k hlt;have y:(h.getD k B8).size<=BH:=by rw[V.getD_at _ _ hlt];exact I _ (DU hlt)
   generalize hx:h.getD k B8=x at K y;have z:AL (h.getD k B8=x):=A5 hx;clear hx hc I;cases s:V.mark x.data.toList;·go_wp2_with(go_at_call 171;refine(a8J _ _ y).mono ?_;rintro e w'⟨rfl,rfl⟩;rw[s]);go_ret;exact⟨Eb (V.a3K _ h k hlt (by rw[z.out,s])).symm,rfl⟩
   go_wp2_with(go_at_call 171;refine(a8J _ _ y).mono ?_;rintro e w'⟨rfl,rfl⟩;rw[s]);go_round;case rel=>exact⟨k+1,by omega,by go_num,A5 (V.a3L _ h k hlt H.out (by rw[z.out,s]))⟩
   case measure=>simp[Mc];omega
  go_wp2;go_ret;exact⟨Eb (by rw[<-XX (l:=h) (i:=k) (by omega)];exact H.out.symm),rfl⟩
def aHo(w:A0):Ai A6 169 #[A4 Z 0 0,FU (Ek 171) #[] #[]] w λe w'=>e=AZ (Af A3)/\w'=w:=by go_enter Tryz.func169,Tryz.ntmps169;go_wp2;refine U1 1 ?_;rw[LL];go_wp2;go_ret;exact⟨rfl,rfl⟩
def a4D(U c1 b2 c2:Nat)(b h:List zz)(w:A0)(r:b.length<=BH)(u:h.length<=BH)(N:∀x∈b,x.size<=BH)(Q:∀x∈h,x.size<=BH)(K:∀j,j<b.length->w.cell? ⟨U,j,Z⟩=Y (J (b.getD j B8)))(M:∀j,j<h.length->w.cell? ⟨b2,j,Z⟩=Y (J (h.getD j B8))):Ai A6 88 #[A4 (Y ⟨U,0,Z⟩) b.length c1,A4 (Y ⟨b2,0,Z⟩) h.length c2,FU (Ek 89) #[] #[]] w λe w'=>e=AZ (A7 A8 (V.lexB V.Kx b h))/\w'=w:=by
 unfold BH at r u;go_enter Tryz.func88,Tryz.ntmps88;go_wp2;go_loop[13]λi=>∃k:Nat,k<=b.length/\k<=h.length/\i=A7 A8 k/\AL (V.lexB V.Kx b h=V.lexB V.Kx (b.drop k) (h.drop k))(λi=>b.length-(Mc i).toNat);case atStart=>exact⟨0,Jf _,Jf _,rfl,A5 rfl⟩
 case round=>
  obtain⟨k,S,X,rfl,H⟩:=hrel;by_cases s:k<b.length
  ·have A:=K k s;have D:(b.getD k B8).size<=BH:=by rw[V.getD_at _ _ s];exact N _ (DU s)
   generalize d:b.getD k B8=AM at A D;have z:AL (b.getD k B8=AM):=A5 d;clear d;by_cases y:k<h.length
   ·have E:=M k y;have F:(h.getD k B8).size<=BH:=by rw[V.getD_at _ _ y];exact Q _ (DU y)
    generalize f:h.getD k B8=m at E F;have I:AL (h.getD k B8=m):=A5 f;clear f K M N Q;cases AS:V.Kx AM.data.toList m.data.toList !=0
    ·go_wp2_with(go_at_call 89;refine(u3 _ _ _).mono ?_;rintro e w'⟨rfl,rfl⟩);go_round;case rel=>exact⟨k+1,by omega,by omega,by go_num,A5 (H.out.trans (V.a8k _ b h k s y (by rw[z.out,I.out];exact AS)))⟩
     case measure=>simp[Mc];omega
    go_wp2_with(go_at_call 89;refine(u3 _ _ _).mono ?_;rintro e w'⟨rfl,rfl⟩);go_ret;exact⟨Js (by rw[H.out,V.a8g _ b h k s y (by rw[z.out,I.out];exact AS),z.out,I.out]),rfl⟩
   clear K M N Q;go_wp2;go_ret;exact⟨Js (by rw[H.out,V.a8i _ b h k s (by omega)]),rfl⟩
  by_cases y:b.length<h.length;·go_wp2;go_ret;exact⟨Js (by rw[H.out,V.a8h _ b h k (by omega) (by omega)]),rfl⟩
  go_wp2;go_ret;exact⟨Js (by rw[H.out,V.a8j _ b h k (by omega) (by omega)]),rfl⟩
def aJc(Cc c1 b2 c2:Nat)(b h:List zz)(w:A0)(u:b.length<=BH)(A:h.length<=BH)(N:∀x∈b,x.size<=BH)(Q:∀x∈h,x.size<=BH)(K:∀j,j<b.length->w.cell? ⟨Cc,j,Z⟩=Y (J (b.getD j B8)))(M:∀j,j<h.length->w.cell? ⟨b2,j,Z⟩=Y (J (h.getD j B8))):Ai A6 88 #[A4 (Y ⟨Cc,0,Z⟩) b.length c1,A4 (Y ⟨b2,0,Z⟩) h.length c2,FU (Ek 91) #[] #[]] w λe w'=>e=AZ (A7 A8 (V.lexB V.O8 b h))/\w'=w:=by
 unfold BH at u A;go_enter Tryz.func88,Tryz.ntmps88;go_wp2;go_loop[13]λi=>∃k:Nat,k<=b.length/\k<=h.length/\i=A7 A8 k/\AL (V.lexB V.O8 b h=V.lexB V.O8 (b.drop k) (h.drop k))(λi=>b.length-(Mc i).toNat);case atStart=>exact⟨0,Jf _,Jf _,rfl,A5 rfl⟩
 case round=>
  obtain⟨k,F,S,rfl,H⟩:=hrel;by_cases s:k<b.length
  ·have D:=K k s;have U:(b.getD k B8).size<=BH:=by rw[V.getD_at _ _ s];exact N _ (DU s)
   generalize f:b.getD k B8=AM at D U;have z:AL (b.getD k B8=AM):=A5 f;clear f;by_cases y:k<h.length
   ·have E:=M k y;have d:(h.getD k B8).size<=BH:=by rw[V.getD_at _ _ y];exact Q _ (DU y)
    generalize m:h.getD k B8=r at E d;have I:AL (h.getD k B8=r):=A5 m;clear m K M N Q;cases AS:V.O8 AM.data.toList r.data.toList !=0
    ·go_wp2_with(go_at_call 91;refine(a4E _ _ _ U d).mono ?_;rintro e w'⟨rfl,rfl⟩);go_round;case rel=>exact⟨k+1,by omega,by omega,by go_num,A5 (H.out.trans (V.a8k _ b h k s y (by rw[z.out,I.out];exact AS)))⟩
     case measure=>simp[Mc];omega
    go_wp2_with(go_at_call 91;refine(a4E _ _ _ U d).mono ?_;rintro e w'⟨rfl,rfl⟩);go_ret;exact⟨Js (by rw[H.out,V.a8g _ b h k s y (by rw[z.out,I.out];exact AS),z.out,I.out]),rfl⟩
   clear K M N Q;go_wp2;go_ret;exact⟨Js (by rw[H.out,V.a8i _ b h k s (by omega)]),rfl⟩
  by_cases y:b.length<h.length;·go_wp2;go_ret;exact⟨Js (by rw[H.out,V.a8h _ b h k (by omega) (by omega)]),rfl⟩
  go_wp2;go_ret;exact⟨Js (by rw[H.out,V.a8j _ b h k (by omega) (by omega)]),rfl⟩
def KO(B:Nat)(w:A0)(v:A1)(L:List (zx)):Prop:=∃(b c:Nat)(h:List zz),v=A4 (Y ⟨b,0,Z⟩) h.length c/\h.map (·.data.toList)=L/\B<=b/\b<w.heap.size/\h.length<=BH/\(∀x∈h,x.size<=BH)/\∀j,j<h.length->w.cell? ⟨b,j,Z⟩=Y (J (h.getD j B8))
def KO.later(h:KO B w v L)(s:AX w.heap.size w w'):KO B w' v L:=by
 obtain⟨b,c,I,e1,e2,z,hlt,y,h2,h3⟩:=h;refine⟨b,c,I,e1,e2,z,?_,y,h2,λj H=>?_⟩;·have:=s.size;omega
 rw[<-h3 j H];exact s.cell (p:=⟨b,j,Z⟩) hlt
def KO.mono{B':Nat}(h:KO B w v L)(H:B'<=B):KO B' w v L:=by obtain⟨b,c,y,e1,e2,z,s⟩:=h;exact⟨b,c,y,e1,e2,by omega,s⟩
def KO.setCell{B:Nat}{w:A0}{v:A1}{L:List (zx)}(h:KO B w v L)(a o:Nat)(u:A1)(I:a<B):KO B (w.setCell ⟨a,o,Z⟩ u) v L:=by
 obtain⟨b,c,H,e1,e2,y,hlt,s,h2,h3⟩:=h;refine⟨b,c,H,e1,e2,y,?_,s,h2,λj z=>?_⟩;·have:=((BF 0 w).setCell (p:=⟨a,o,Z⟩) (Jf _) u).size;omega
 rw[<-h3 j z];exact Kn w ⟨a,o,Z⟩ ⟨b,j,Z⟩ u λe=>by injection e;omega
def KO.alloc{B:Nat}{w:A0}{v:A1}{L:List (zx)}(h:KO B w v L)(o:Df):KO B (w.alloc o) v L:=h.later ((BF _ _).alloc (Ae _) _)
def aYY(s:zz)(w:A0):Ai A6 173 #[J s,J ⟨#[118]⟩] w λe w'=>∃t:zz,e=AZ (J t)/\t.data.toList=SI s.data.toList [118]/\w'=w:=by refine(Tryz.strings_TrimPrefix s ⟨#[118]⟩ w).mono ?_;rintro e w'⟨rfl,rfl⟩;exact⟨_,rfl,rfl,rfl⟩
def aJm(s:zz)(m:Int)(w:A0)(hs:s.size<4294967281)(b:w.cell? ⟨0,0,Z⟩=Y (A7 A8 m)):Ai A6 118 #[J s,J ⟨#[45]⟩] w λe w'=>∃(x y:zz)(f:Bool),e=AZ (Ay #[J x,J y,Af f])/\x.data.toList=(Gr s.data.toList [45]).1/\y.data.toList=(Gr s.data.toList [45]).2.1/\f=(Gr s.data.toList [45]).2.2/\AX w.heap.size w w'/\w.drawn<=w'.drawn:=by refine(Tryz.strings_Cut s ⟨#[45]⟩ m w hs b).mono ?_;rintro e w'⟨rfl,n,rfl⟩;exact⟨_,_,_,rfl,rfl,rfl,rfl,IK (BF _ _) n,Nat.le_add_right _ _⟩
def aBy(s:zz)(m:Int)(w:A0)(hs:s.size<=40)(b:w.cell? ⟨0,0,Z⟩=Y (A7 A8 m)):Ai A6 174 #[J s,J ⟨#[46]⟩] w λe w'=>∃v:A1,e=AZ v/\KO w.heap.size w' v (V.pieces 46 s.data.toList)/\AX w.heap.size w w'/\w.drawn<=w'.drawn:=by
 refine(Tryz.strings_Split s ⟨#[46]⟩ m w (by omega) b (by decide)).mono ?_;rintro e w'⟨rfl,rfl⟩;have z:=V.qF s ⟨#[46]⟩ 46 rfl;have y:=a't ⟨#[46]⟩ (by decide) 0 _ s rfl;refine⟨_,rfl,⟨w.heap.size,VM s ⟨#[46]⟩+1,lC ⟨#[46]⟩ 0 (VM s ⟨#[46]⟩) s,?_,z,Ae _,by simp,?_,?_,?_⟩,(BF _ _).alloc (Ae _) _,Ae _⟩;·rw[y]
 ·have:=a's ⟨#[46]⟩ (by decide) s.size s (Ae _);rw[y];unfold BH;omega
 ·intro x hx;have b:x.data.toList∈V.pieces 46 s.data.toList:=by rw[<-z];exact List.mem_map.2 ⟨x,hx,rfl⟩
  have:=V.k3 46 _ _ b;have e1:x.data.toList.length=x.size:=by simp
  have e2:s.data.toList.length=s.size:=by simp
  unfold BH;omega
 intro j h;rw[a1K _ _ _ _ rfl,VY,XU,K1 h,V.getD_at _ _ h];rfl
def drawn_alloc(w:A0)(o:Df):(w.alloc o).drawn=w.drawn:=rfl
def drawn_setCell(w:A0)(a:Ak)(v:A1):(w.setCell a v).drawn=w.drawn:=by unfold LK;split<;>rfl
def KO.len(h:KO B w v L):∃(b c:Nat),v=A4 (Y ⟨b,0,Z⟩) L.length c:=by obtain⟨b,c,s,e1,e2,_⟩:=h;exact⟨b,c,by rw[e1,<-e2,Ks]⟩
def Am{w1:A0}(s:AX W.heap.size W w1)(h:W.cell? ⟨b,o,Z⟩=Y v):w1.cell? ⟨b,o,Z⟩=Y v:=by rw[s.cell (p:=⟨b,o,Z⟩) (FA (h:=h))];exact h
def WK{w1:A0}(s:AX W.heap.size W w1)(hlt:b<W.heap.size)(h:W.frozen? ⟨b,o,Z⟩=A9):w1.frozen? ⟨b,o,Z⟩=A9:=by rw[s.frozen (p:=⟨b,o,Z⟩) hlt];exact h
def BL(h:W.cell? ⟨b,o,Z⟩=Y v)(x:Df):(W.alloc x).cell? ⟨b,o,Z⟩=Y v:=Am ((BF _ W).alloc (Ae _) x) h
def a8U(hlt:b<W.heap.size)(h:W.frozen? ⟨b,o,Z⟩=A9)(x:Df):(W.alloc x).frozen? ⟨b,o,Z⟩=A9:=WK ((BF _ W).alloc (Ae _) x) hlt h
def aYb{f d:A1}(s:w.cell? ⟨n,0,Z⟩=Y f)(h2:w.cell? ⟨n,1,Z⟩=Y d)(x y:A1):((w.setCell ⟨n,0,Z⟩ x).setCell ⟨n,1,Z⟩ y).cell? ⟨n,0,Z⟩=Y x/\((w.setCell ⟨n,0,Z⟩ x).setCell ⟨n,1,Z⟩ y).cell? ⟨n,1,Z⟩=Y y:=by
 have b:(w.setCell ⟨n,0,Z⟩ x).cell? ⟨n,0,Z⟩=Y x:=la _ _ _ s;have e1:(w.setCell ⟨n,0,Z⟩ x).cell? ⟨n,1,Z⟩=Y d:=by rw[Kn (h:=λe=>by injection e;omega)];exact h2
 refine⟨?_,la _ _ _ e1⟩;rw[Kn (h:=λe=>by injection e;omega)];exact b
def aAf(h:w.cell? ⟨0,o,Z⟩=Y v):0<w.heap.size:=by
 by_cases b:0<w.heap.size;·exact b
 have s:w.heap.size=0:=by omega
 have:w.heap[0]?=Z:=by rw[Array.getElem?_eq_none_iff];omega
 simp[FB,this]at h
def zB(s:zz)(m:Int)(w:A0)(hs:s.size<=40)(hm:w.cell? ⟨0,0,Z⟩=Y (A7 A8 m)):Ai A6 87 #[J s] w λe w'=>∃X D:A1,e=AZ (A_ #[X,D])/\KO w.heap.size w' X (V.parts s.data.toList).1/\(D=A4 Z 0 0/\(V.parts s.data.toList).2=[]∨KO w.heap.size w' D (V.parts s.data.toList).2)/\AX w.heap.size w w'/\w.drawn<=w'.drawn:=by
 have AV:=aAf hm;have EM:AL (V.parts s.data.toList=(V.pieces 46 (Gr (SI s.data.toList [118]) [45]).1,if(Gr (SI s.data.toList [118]) [45]).2.2 then V.pieces 46 (Gr (SI s.data.toList [118]) [45]).2.1 else[])):=A5 rfl;go_enter Tryz.func87,Tryz.ntmps87;go_wp2_with fail;refine(aYY _ _).mono ?_;rintro e K⟨t,rfl,AP,rfl⟩;have oS:t.size<=40:=V.aYZ AP hs;have CY:=A5 AP;clear AP;go_wp2_with fail;refine(aJm t m _ (by omega) (by rw[l_ _ _ _ AV];exact hm)).mono ?_;rintro e K⟨x,y,f,rfl,hx,hy,AK,I,Y3⟩;have d:w.drawn<=K.drawn:=Y3;have si:=A5 d;clear Y3 d;obtain⟨aPh,aPl⟩:=V.uA hx hy oS;have Dv:=A5 hx;have FD:=A5 hy;have FV:=A5 AK;clear hx hy AK;have M:w.heap.size<K.heap.size:=by have:=I.size;simp at this;omega
 have i:K.cell? ⟨0,0,Z⟩=Y (A7 A8 m):=Am I (by rw[l_ _ _ _ AV];exact hm);have j:K.cell? ⟨w.heap.size,0,Z⟩=Y (A4 Z 0 0):=Am I (by simp);have r:K.cell? ⟨w.heap.size,1,Z⟩=Y (A4 Z 0 0):=Am I (by simp);have E:K.frozen? ⟨w.heap.size,0,Z⟩=A9:=WK I (by simp) (by simp);have F:K.frozen? ⟨w.heap.size,1,Z⟩=A9:=WK I (by simp) (by simp);have f3:=A5 I;clear I;go_wp2_with fail;refine(aBy x m _ aPh i).mono ?_;rintro e b⟨X,rfl,Lk,H,QQ⟩;have ZY:=A5 (G3 si.out QQ);clear QQ;obtain⟨Cc,c1,e1⟩:=Lk.len;have U:=A5 Lk;clear Lk;subst e1;have S:w.heap.size<b.heap.size:=by have:=H.size;omega
 have u:AX w.heap.size w b:=(((BF _ w).alloc (Ae _) _).trans (f3.out.mono (by simp))).trans (H.mono (a2i M));have Q:=A5 u;clear u;replace i:=Am H i;replace j:=Am H j;replace r:=Am H r;replace E:=WK H M E;replace F:=WK H M F;have C6:=A5 H;clear H;cases f
 ·obtain⟨Bp,C8⟩:=aYb j r (A4 (Y ⟨Cc,0,Z⟩) (V.pieces 46 x.data.toList).length c1) (A4 Z 0 0);replace Bp:=λo=>BL Bp o;replace C8:=λo=>BL C8 o;go_wp2;refine Md (v:=A_ #[A4 (Y ⟨Cc,0,Z⟩) (V.pieces 46 x.data.toList).length c1,A4 Z 0 0]) (by simp[D_,aEm,go_sem,Bp,C8]) rfl ⟨_,_,rfl,?_,AD ⟨rfl,?_⟩,?_,?_⟩;·rw[EM.out,<-CY.out,<-Dv.out];exact(((U.out.setCell _ 0 _ M).setCell _ 1 _ M).alloc _).mono (by omega)
  ·rw[EM.out,<-CY.out,<-FV.out];rfl
  ·exact((Q.out.setCell (p:=⟨w.heap.size,0,Z⟩) (Ae _) _).setCell (p:=⟨w.heap.size,1,Z⟩) (Ae _) _).alloc (by simp;omega) _
  rw[drawn_alloc,drawn_setCell,drawn_setCell];exact ZY.out
 go_wp2_with fail;refine(aBy y m _ aPl (by rw[l_ _ _ _ (by omega)];exact i)).mono ?_;rintro e z⟨D,rfl,Jn,h,aj⟩;have aG0:=A5 (G3 ZY.out (show b.drawn<=z.drawn from aj));clear aj;obtain⟨b2,c2,e2⟩:=Jn.len;have aGX:=A5 Jn;clear Jn;subst e2;have oX:w.heap.size<z.heap.size:=by have:=h.size;simp at this;omega
 have ab4:b.heap.size<z.heap.size:=by have:=h.size;simp at this;omega
 have aak:z.frozen? ⟨w.heap.size,0,Z⟩=A9:=WK h (by simp;omega) (a8U S E _);have aal:z.frozen? ⟨w.heap.size,1,Z⟩=A9:=WK h (by simp;omega) (a8U S F _);have aOh:z.cell? ⟨w.heap.size,0,Z⟩=Y (A4 Z 0 0):=Am h (by rw[l_ _ _ _ S];exact j);have aOj:z.cell? ⟨w.heap.size,1,Z⟩=Y (A4 Z 0 0):=Am h (by rw[l_ _ _ _ S];exact r);have GL:z.cell? ⟨b.heap.size,0,Z⟩=Y (A4 (Y ⟨Cc,0,Z⟩) (V.pieces 46 x.data.toList).length c1):=Am h (by simp);have GV:z.cell? ⟨b.heap.size,1,Z⟩=Y (A4 Z 0 0):=Am h (by simp);have a7n:z.frozen? ⟨b.heap.size,0,Z⟩=A9:=WK h (by simp) (by simp);have YG:z.frozen? ⟨b.heap.size,1,Z⟩=A9:=WK h (by simp) (by simp);have Fg:=A5 h;clear h j r E F i;have A:AX b.heap.size b z:=((BF _ b).alloc (Ae _) _).trans (Fg.out.mono (by simp));have N:=A5 A;clear A;go_wp2;refine Md (v:=A_ #[A4 (Y ⟨Cc,0,Z⟩) (V.pieces 46 x.data.toList).length c1,A4 (Y ⟨b2,0,Z⟩) (V.pieces 46 y.data.toList).length c2]) (by simp[D_,aEm,go_sem,aOh,aOj]) rfl ⟨_,_,rfl,?_,AJ ?_,?_,?_⟩;·rw[EM.out,<-CY.out,<-Dv.out];exact(((U.out.later (N.out.setCell (p:=⟨b.heap.size,1,Z⟩) (Ae _) _)).setCell _ 0 _ M).setCell _ 1 _ M).mono (by omega)
 ·rw[EM.out,<-CY.out,<-FV.out,if_pos rfl,<-FD.out];exact(((aGX.out.setCell _ 1 _ (by simp)).setCell _ 0 _ (by simp;omega)).setCell _ 1 _ (by simp;omega)).mono (by simp;omega)
 ·exact(((Q.out.trans (N.out.mono (by omega))).setCell (p:=⟨b.heap.size,1,Z⟩) (by simp;omega) _).setCell (p:=⟨w.heap.size,0,Z⟩) (Ae _) _).setCell (p:=⟨w.heap.size,1,Z⟩) (Ae _) _
 rw[drawn_setCell,drawn_setCell,drawn_setCell];exact aG0.out
def aXH(s:zz)(m:Int)(w:A0)(hs:s.size<=40)(y:w.cell? ⟨0,0,Z⟩=Y (A7 A8 m)):Ai A6 87 #[J s] w λe w'=>∃h b:A1,e=AZ (A_ #[h,b])/\KO w.heap.size w' h (V.parts s.data.toList).1/\(b=A4 Z 0 0/\(V.parts s.data.toList).2=[]∨KO w.heap.size w' b (V.parts s.data.toList).2)/\AX w.heap.size w w':=(zB s m w hs y).mono λ_ _⟨h,b,h1,h2,h3,h4,_⟩=>⟨h,b,h1,h2,h3,h4⟩
def zT{l:zx}(h:40<l.length):V.AY l=A9:=by unfold V.AY;rw[decide_eq_false (by omega)];rfl
def aYn{l:zx}(h:l.length<=40):V.AY l=(Wy l [118]&&((V.parts l).1.length==3&&(V.parts l).1.all V.number&&(V.parts l).2.all V.mark)):=by unfold V.AY;rw[decide_eq_true h];simp
def a8P(s:zz)(m:Int)(w:A0)(F:s.size<=BH)(hm:w.cell? ⟨0,0,Z⟩=Y (A7 A8 m)):Ai A6 85 #[J s] w λe w'=>e=AZ (Af (V.AY s.data.toList))/\AX w.heap.size w w':=by
 have f:s.data.toList.length=s.size:=by simp
 by_cases S:40<s.size;·have h:=A5 (zT (l:=s.data.toList) (by omega));clear f;go_enter Tryz.func85,Tryz.ntmps85;go_wp2;go_ret;exact⟨Eb h.out.symm,BF _ _⟩
 have h:=A5 (aYn (l:=s.data.toList) (by omega));clear f;cases z:Wy s.data.toList [118];·go_enter Tryz.func85,Tryz.ntmps85;go_wp2_with(go_at_call 168;refine(Tryz.strings_HasPrefix _ _ _).mono ?_;rintro e w'⟨rfl,rfl⟩;rw[show Wy s.data.toList _=A9 from z]);go_ret;exact⟨Eb (by rw[h.out,z];rfl),BF _ _⟩
 go_enter Tryz.func85,Tryz.ntmps85;go_wp2_with(go_at_call 168;refine(Tryz.strings_HasPrefix _ _ _).mono ?_;rintro e w'⟨rfl,rfl⟩;rw[show Wy s.data.toList _=A3 from z]);refine(aXH s m _ (by omega) hm).mono ?_;rintro e w1⟨GZ,F9,rfl,X,Jn,hb⟩;have H:=A5 hb;obtain⟨Q,c1,b,e1,i,aM7,Mr,U,r,u⟩:=X;have A:=A5 i;have M:=A5 u;have N:=A5 r;clear i u r hb;subst e1;have Ev:AL (((V.parts s.data.toList).1.length==3)=((b.length:Int)==3)/\(V.parts s.data.toList).1.all V.number=V.O7 V.number b):=by
  refine A5 ⟨?_,?_⟩;·rw[<-A.out,Ks,VA,beq_iff_eq,beq_iff_eq];omega
  rw[<-A.out,V.a3J]
 rcases Jn with⟨rfl,I⟩|⟨b2,c2,K,e2,I,nW,OH,e0,D,E⟩
 ·have d:=A5 I;clear I;cases h3:(b.length:Int)==3;·go_wp2;go_ret;exact⟨Eb (by rw[h.out,Ev.out.1,h3,z];rfl),H.out.alloc (by omega) _⟩
  cases hn:V.O7 V.number b;·go_wp2_with(go_at_call 169;refine(mn Q c1 b _ U N.out λj y=>BL (M.out j y) _).mono ?_;rintro e w'⟨rfl,rfl⟩;rw[hn]);go_ret;exact⟨Eb (by rw[h.out,Ev.out.1,Ev.out.2,h3,hn,z];rfl),H.out.alloc (by omega) _⟩
  go_wp2_with fail;refine(mn Q c1 b _ U N.out λj y=>BL (M.out j y) _).mono ?_;rintro e w'⟨rfl,rfl⟩;rw[hn];go_wp2_with fail;refine(aHo _).mono ?_;rintro e w'⟨rfl,rfl⟩;go_wp2;go_ret;exact⟨Eb (by rw[h.out,Ev.out.1,Ev.out.2,h3,hn,d.out,z];rfl),H.out.alloc (by omega) _⟩
 have Bs:AL ((V.parts s.data.toList).2.all V.mark=V.O7 V.mark K):=by refine A5 ?_;rw[<-I,V.a3J]
 have mE:=A5 E;have XP:=A5 D;clear I E D;subst e2;cases h3:(b.length:Int)==3;·go_wp2;go_ret;exact⟨Eb (by rw[h.out,Ev.out.1,h3,z];rfl),H.out.alloc (by omega) _⟩
 cases hn:V.O7 V.number b;·go_wp2_with(go_at_call 169;refine(mn Q c1 b _ U N.out λj y=>BL (M.out j y) _).mono ?_;rintro e w'⟨rfl,rfl⟩;rw[hn]);go_ret;exact⟨Eb (by rw[h.out,Ev.out.1,Ev.out.2,h3,hn,z];rfl),H.out.alloc (by omega) _⟩
 go_wp2_with fail;refine(mn Q c1 b _ U N.out λj y=>BL (M.out j y) _).mono ?_;rintro e w'⟨rfl,rfl⟩;rw[hn];go_wp2_with fail;refine(aHn b2 c2 K _ e0 XP.out λj y=>BL (mE.out j y) _).mono ?_;rintro e w'⟨rfl,rfl⟩;go_wp2;go_ret;exact⟨Eb (by rw[h.out,Ev.out.1,Ev.out.2,h3,hn,Bs.out,z];rfl),H.out.alloc (by omega) _⟩
def u0(s:zz)(m:Int)(w:A0)(hs:s.size<=BH)(y:w.cell? ⟨0,0,Z⟩=Y (A7 A8 m))(hv:V.AY s.data.toList=A3):Ai A6 43 #[J s] w λe w'=>e=AZ (Ad Z)/\AX w.heap.size w w':=by go_enter Tryz.func43,Tryz.ntmps43;go_wp2_with fail;refine(a8P s m _ hs y).mono ?_;rintro e z⟨rfl,b⟩;have h:=A5 b;clear b;rw[hv];go_wp2;go_ret;exact⟨rfl,h.out⟩
def n'(s:zz)(w:A0)(y:s.size<=281474976710656):Ai A6 86 #[J s] w λe w'=>e=AZ (J s)/\AX w.heap.size w w':=by go_enter Tryz.func86,Tryz.ntmps86;go_wp2_with fail;refine(Tryz.stringslite_Clone s _ y).mono ?_;rintro e z⟨rfl,b⟩;have h:=A5 b;clear b;go_wp2;go_ret;exact⟨rfl,h.out⟩
def aTc{a b:zx}(h:(V.lex V.Kx (V.parts a).1 (V.parts b).1 !=0)=A3):V.order a b=V.lex V.Kx (V.parts a).1 (V.parts b).1:=by unfold V.order;rw[if_pos h]
def aTf{a b:zx}(h:(V.lex V.Kx (V.parts a).1 (V.parts b).1 !=0)=A9):V.order a b=if(V.parts a).2.isEmpty||(V.parts b).2.isEmpty then V.GJ (V.parts b).2.length (V.parts a).2.length else V.lex V.O8 (V.parts a).2 (V.parts b).2:=by unfold V.order;rw[if_neg (by rw[h];simp)]
def a4c(L:List (zx)):L.isEmpty=((L.length:Int)==0):=by
 cases L with
 |nil=>rfl
 |cons x r=>
  have:(((x::r).length:Int)==0)=A9:=by rw[beq_eq_false_iff_ne];simp only[Kr];omega
  rw[this];rfl
def a9P(h:v=A4 Z 0 0/\L=[]∨KO B w v L):∃(a:Option Ak)(c:Nat)(s:List zz),v=A4 a s.length c/\s.map (·.data.toList)=L/\s.length<=BH/\(∀x∈s,x.size<=BH)/\(s.length≠0->∃b,a=Y ⟨b,0,Z⟩/\∀j,j<s.length->w.cell? ⟨b,j,Z⟩=Y (J (s.getD j B8))):=by
 rcases h with⟨rfl,rfl⟩|⟨b,c,s,e1,e2,_,_,y,h2,h3⟩;·exact⟨Z,0,[],rfl,rfl,Jf _,by simp,λh=>absurd rfl h⟩
 exact⟨Y ⟨b,0,Z⟩,c,s,e1,e2,y,h2,λ_=>⟨b,rfl,h3⟩⟩
def aCK(a b:zz)(m:Int)(w:A0)(AB:a.size<=40)(hb:b.size<=40)(hm:w.cell? ⟨0,0,Z⟩=Y (A7 A8 m)):Ai A6 44 #[J a,J b] w λe w'=>e=AZ (A7 A8 (V.order a.data.toList b.data.toList))/\AX w.heap.size w w'/\w.drawn<=w'.drawn:=by
 go_enter Tryz.func44,Tryz.ntmps44;go_wp2_with fail;refine(zB a m _ AB hm).mono ?_;rintro e w1⟨GZ,F9,rfl,A,d,Au,Y3⟩;have si:=A5 Y3;clear Y3;have B_:=A5 Au;have Fj:=Am Au hm;clear Au;go_wp2_with fail;refine(zB b m _ hb Fj).mono ?_;rintro e w2⟨Yj,Qr,rfl,D,K,U,QQ⟩;have N:=A5 (G3 si.out QQ);clear QQ;have C6:=A5 U;replace A:=A.later U;replace d:F9=A4 Z 0 0/\(V.parts a.data.toList).2=[]∨KO w.heap.size w2 F9 (V.parts a.data.toList).2:=by
  rcases d with h|h;·exact AD h
  exact AJ (h.later U)
 clear U Fj hm;have E:AX w.heap.size w w2:=B_.out.trans (C6.out.mono B_.out.size);have sd:=A5 E;have rg:w.heap.size<=w2.heap.size:=E.size;clear E;obtain⟨Cc,c1,f,e1,iJ,aM7,Mr,T5,DF,GA⟩:=A;obtain⟨b2,c2,i,e2,UR,nW,OH,e0,CO,MA⟩:=D;have Dv:AL (V.lex V.Kx (V.parts a.data.toList).1 (V.parts b.data.toList).1=V.lexB V.Kx f i):=by refine A5 ?_;rw[<-iJ,<-UR];rfl
 have ZX:=A5 GA;have mE:=A5 MA;have Zg:=A5 DF;have XP:=A5 CO;clear iJ UR GA MA DF CO;subst e1 e2;have Q:AL (∀o1 o2,AX w.heap.size w ((w2.alloc o1).alloc o2)):=A5 λo1 o2=>(sd.out.alloc rg _).alloc (by simp;omega) _;obtain⟨a3,c3,r,F,z,Jl,oX,H⟩:=a9P d;obtain⟨a4,c4,u,S,iK,X,M,I⟩:=a9P K;have gX:=A5 z;have sq:=A5 iK;have aFv:=A5 H;have aFx:=A5 I;have aGZ:=A5 oX;have aG_:=A5 M;clear d K z iK H I oX M;subst F S;have Lz:AL (((V.parts a.data.toList).2.isEmpty||(V.parts b.data.toList).2.isEmpty)=((r.length:Int)==0||(u.length:Int)==0)):=by refine A5 ?_;rw[a4c,a4c,<-gX.out,<-sq.out,Ks,Ks]
 have mH:AL (V.GJ (V.parts b.data.toList).2.length (V.parts a.data.toList).2.length=V.GJ u.length r.length):=by refine A5 ?_;rw[<-gX.out,<-sq.out,Ks,Ks]
 cases hx:V.lexB V.Kx f i !=0
 ·have y:=A5 (aTf (a:=a.data.toList) (b:=b.data.toList) (by rw[Dv.out];exact hx));go_wp2_with fail;refine(a4D Cc c1 b2 c2 f i _ T5 e0 Zg.out XP.out (λj s=>BL (BL (ZX.out j s) _) _) λj s=>BL (BL (mE.out j s) _) _).mono ?_;rintro e w'⟨rfl,rfl⟩;cases h3:(r.length:Int)==0
  ·cases h4:(u.length:Int)==0;·obtain⟨J5,F,H⟩:=aFv.out (by have:=beq_eq_false_iff_ne.1 h3;omega);obtain⟨aI2,S,I⟩:=aFx.out (by have:=beq_eq_false_iff_ne.1 h4;omega);have aFw:=A5 H;have aFy:=A5 I;clear H I;subst F S;go_wp2_with fail;refine(aJc J5 c3 aI2 c4 r u _ Jl X aGZ.out aG_.out (λj s=>BL (BL (aFw.out j s) _) _) λj s=>BL (BL (aFy.out j s) _) _).mono ?_;rintro e w'⟨rfl,rfl⟩;go_wp2;go_ret;exact⟨Js (by rw[y.out,Lz.out,h3,h4,if_neg (by decide),<-gX.out,<-sq.out];rfl),Q.out _ _,N.out⟩
   go_wp2_with(go_at_call 90;refine(Tryz.cmp_Compare_int _ _ _).mono ?_;rintro e w'⟨rfl,rfl⟩;rw[u2]);go_ret;exact⟨Js (by rw[y.out,Lz.out,h3,h4,if_pos (by decide),mH.out]),Q.out _ _,N.out⟩
  go_wp2_with(go_at_call 90;refine(Tryz.cmp_Compare_int _ _ _).mono ?_;rintro e w'⟨rfl,rfl⟩;rw[u2]);go_ret;exact⟨Js (by rw[y.out,Lz.out,h3,if_pos (by simp),mH.out]),Q.out _ _,N.out⟩
 have y:=A5 (aTc (a:=a.data.toList) (b:=b.data.toList) (by rw[Dv.out];exact hx));go_wp2_with fail;refine(a4D Cc c1 b2 c2 f i _ T5 e0 Zg.out XP.out (λj s=>BL (BL (ZX.out j s) _) _) λj s=>BL (BL (mE.out j s) _) _).mono ?_;rintro e w'⟨rfl,rfl⟩;go_wp2;go_ret;exact⟨Js (by rw[y.out,Dv.out]),Q.out _ _,N.out⟩
def aYi(a b:zz)(m:Int)(w:A0)(h:a.size<=40)(s:b.size<=40)(y:w.cell? ⟨0,0,Z⟩=Y (A7 A8 m)):Ai A6 44 #[J a,J b] w λe w'=>e=AZ (A7 A8 (V.order a.data.toList b.data.toList))/\AX w.heap.size w w':=(aCK a b m w h s y).mono λ_ _⟨h1,h2,_⟩=>⟨h1,h2⟩
def aCL{s:zz}(h:V.AY s.data.toList=A3):s.size<=40:=by
 have y:s.data.toList.length=s.size:=by simp
 by_cases b:s.data.toList.length<=40;·omega
 rw[zT (by omega)]at h;cases h
def aY1(a b:zz)(m:Int)(w:A0)(K:w.cell? ⟨0,0,Z⟩=Y (A7 A8 m))(N:V.AY a.data.toList=A3)(h:V.AY b.data.toList=A3):Ai A6 14 #[J a,J b] w λe w'=>e=AZ (Ay #[A7 A8 (V.order a.data.toList b.data.toList),DS])/\AX w.heap.size w w':=by have U:=aCL N;have hb:=aCL h;go_enter Tryz.func14,Tryz.ntmps14;go_wp2_with fail;refine(u0 a m _ (by unfold BH;omega) K N).mono ?_;rintro e w1⟨rfl,y⟩;have s:=A5 y;have M:=Am y K;clear y;go_wp2_with fail;refine(u0 b m _ (by unfold BH;omega) M h).mono ?_;rintro e w2⟨rfl,z⟩;have H:=A5 z;have d:=Am z M;clear z;go_wp2_with fail;refine(aYi a b m _ U hb d).mono ?_;rintro e w3⟨rfl,I⟩;have Q:=A5 I;clear I;go_wp2;go_ret2;exact⟨rfl,(s.out.trans (H.out.mono s.out.size)).trans (Q.out.mono (G3 s.out.size H.out.size))⟩
def sizeBuilder:(A6.info? 190).map (·.size)=Y 2:=by kernel_rfl
def liesBuilder:liesAt A6 A6.depth 190 (2/A6.cellsOf 190) 0 190 1=A3:=by kernel_rfl
def infoByte:(A6.info? 5).map (λi=>(i.zero,i.size,i.bytes))=Y (Y (A7 F1 0),1,1):=by kernel_rfl
def aJh(b:Nat)(w:A0)(s:w.cell? ⟨b,0,Z⟩=Y (Ad (Y ⟨b,0,Z⟩))):Ai A6 184 #[Ad (Y ⟨b,0,Z⟩)] w λe w'=>e=AZ (Ay #[])/\w'=w:=by obtain⟨j,h,_⟩:=Option.map_eq_some_iff.1 sizeBuilder;go_enter Tryz.func184,Tryz.ntmps184;go_wp2;rw[Lib.run_neq_ptr_same w _ sA h];go_wp2;go_end0;exact⟨rfl,rfl⟩
def aJg(b:Nat)(w:A0)(z:w.cell? ⟨b,0,Z⟩=Y (Ad Z))(y:w.shape? b=Y (190,2))(H:w.frozen? ⟨b,0,Z⟩=A9):Ai A6 184 #[Ad (Y ⟨b,0,Z⟩)] w λe w'=>e=AZ (Ay #[])/\w'=w.setCell ⟨b,0,Z⟩ (Ad (Y ⟨b,0,Z⟩)):=by obtain⟨j,s,h⟩:=Option.map_eq_some_iff.1 sizeBuilder;go_enter Tryz.func184,Tryz.ntmps184;go_wp2;rw[Lib.run_to_unsafe w ⟨b,0,Z⟩ sA aEx s (by rw[h];decide) y (Nat.zero_lt_succ 1)];simp only[Ly];rw[a07];go_wp2;rw[run_callFunc_extern Tryz.func267 (by kernel_rfl) (by kernel_rfl) (by kernel_rfl) (e:=kz) (by kernel_rfl)];rw[Lib.run_noEscape];simp only[Ly];rw[a07];go_wp2;rw[Lib.run_from_unsafe w ⟨b,0,Z⟩ aEx sA s y liesBuilder];simp only[Ly];rw[a07];go_wp2;go_end0;exact⟨rfl,rfl⟩
def a4I(B b:Nat)(s:List A1)(w:A0)(h:SH 190 5 B b s w):Ai A6 184 #[Ad (Y ⟨b,0,Z⟩)] w λe w'=>e=AZ (Ay #[])/\cM 190 5 B b (Ad (Y ⟨b,0,Z⟩)) s w'/\AX B w w':=by
 rcases h with h|h;·refine(aJg b w h.cell0 h.shape h.frozen0).mono ?_;rintro e w'⟨rfl,rfl⟩;exact⟨rfl,h.used _,(BF B w).setCell (p:=⟨b,0,Z⟩) h.1 _⟩
 refine(aJh b w h.cell0).mono ?_;rintro e w'⟨rfl,rfl⟩;exact⟨rfl,h,BF B _⟩
def aZI(B b:Nat)(s:List A1)(c:Int)(w:A0)(h:SH 190 5 B b s w)(A:s.length+1<=140737488355328)(d:B<=w.heap.size):Ai A6 102 #[Ad (Y ⟨b,0,Z⟩),A7 F1 c] w λe w'=>e=AZ DS/\cM 190 5 B b (Ad (Y ⟨b,0,Z⟩)) (s++[A7 F1 c]) w'/\AX B w w':=by
 obtain⟨i0,hi,f,i,m⟩:=Ko infoByte;go_enter Tryz.func102,Tryz.ntmps102;go_wp2_with(go_at_call 184;refine(a4I B b s _ h).mono ?_);rintro e y⟨rfl,h1,z⟩;obtain⟨Q,v,I,Aa,r⟩:=h1;have c0:y.cell? ⟨b,0,Z⟩=Y (Ad (Y ⟨b,0,Z⟩)):=by rw[Ao I];rfl
 have c1:y.cell? ⟨b,1,Z⟩=Y v:=by rw[Ao I];rfl
 go_wp2_with(at_builtin;refine NB _ rfl _ _ 188 rfl B 5 i0 (A7 F1 0) 1 1 sB hi f i m rfl (by decide) _ _ _ rfl (Aa.alloc _) ⟨y.heap.size,0,Z⟩ 1 1 [A7 F1 c] rfl rfl ?c1 ?c2 ?c3 ?c4 ?c5 ?_);case c1=>intro j u K;match j,K with|0,K=>simp at K;subst K;simp[Qy]
 case c2=>intro u hu;simp at hu;subst hu;rfl
 case c3=>unfold BH;omega
 case c4=>omega
 case c5=>have:=z.size;simp;omega
 intro v' M Cz U _;have hlt:b<y.heap.size:=by
  rcases J2 b y.heap.size with N|N;·exact N
  simp[Np N]at I
 have H:M.heap[b]?=Y (AF #[Ad (Y ⟨b,0,Z⟩),v] 190 (0,0)):=by rw[U.block b (by simp;omega) λe=>r e.symm,lA y _ b hlt];exact I
 have D:M.cell? ⟨b,0,Z⟩=Y (Ad (Y ⟨b,0,Z⟩)):=by rw[Ao H];rfl
 have d1:M.cell? ⟨b,1,Z⟩=Y v:=by rw[Ao H];rfl
 have E:M.frozen? ⟨b,1,Z⟩=A9:=E6 H 1;obtain⟨g,cap,rfl⟩:∃g cap,v'=A4 (Y ⟨g,0,Z⟩) (s.length+1) cap:=by
  rcases Cz.2 with⟨_,AV⟩|⟨g,cap,F,hv,_⟩;·omega
  exact⟨_,_,hv⟩
 go_wp2;go_ret;refine⟨rfl,?_,?_⟩;·exact aDu (T:=190) (e:=5) Q H (bs':=s++[A7 F1 c]) (by simpa using Cz) (by decide)
 exact((z.alloc (by have:=z.size;omega) _).grown U (by have:=z.size;simp;omega) λk hk=>(Aa.lt k hk).1).setCell (p:=⟨b,1,Z⟩) Q _
def aC_(B b:Nat)(z:List A1)(s:zz)(w:A0)(h:SH 190 5 B b z w)(u:z.length+s.size<=140737488355328)(f:B<=w.heap.size):Ai A6 101 #[Ad (Y ⟨b,0,Z⟩),J s] w λe w'=>e=AZ (Ay #[A7 A8 s.size,DS])/\cM 190 5 B b (Ad (Y ⟨b,0,Z⟩)) (z++ZM s) w'/\AX B w w':=by
 obtain⟨i0,hi,i,j,m⟩:=Ko infoByte;go_enter Tryz.func101,Tryz.ntmps101;go_wp2_with(go_at_call 184;refine(a4I B b z _ h).mono ?_);rintro e K⟨rfl,h1,Q⟩;obtain⟨U,v,I,Aa,r⟩:=h1;have c0:K.cell? ⟨b,0,Z⟩=Y (Ad (Y ⟨b,0,Z⟩)):=by rw[Ao I];rfl
 have c1:K.cell? ⟨b,1,Z⟩=Y v:=by rw[Ao I];rfl
 go_wp2_with(at_builtin;refine Lib.wpList_append_own_string _ rfl _ _ 188 9 rfl B 5 i0 sB LI hi i j m _ _ _ rfl Aa s rfl ?c3 ?c4 ?c5 ?_);case c3=>unfold BH;omega
 case c4=>omega
 case c5=>have:=Q.size;omega
 intro v' M Cz CF _;have hlt:b<K.heap.size:=by
  rcases J2 b K.heap.size with N|N;·exact N
  simp[Np N]at I
 have H:M.heap[b]?=Y (AF #[Ad (Y ⟨b,0,Z⟩),v] 190 (0,0)):=by rw[CF.block b hlt λe=>r e.symm];exact I
 have A:M.cell? ⟨b,0,Z⟩=Y (Ad (Y ⟨b,0,Z⟩)):=by rw[Ao H];rfl
 have d1:M.cell? ⟨b,1,Z⟩=Y v:=by rw[Ao H];rfl
 have D:M.frozen? ⟨b,1,Z⟩=A9:=E6 H 1;obtain⟨y,d,cap,rfl⟩:∃y d cap,v'=A4 y d cap:=by
  rcases Cz.2 with⟨hv,_⟩|⟨g,cap,E,hv,_⟩;·exact⟨_,_,_,hv⟩
  exact⟨_,_,_,hv⟩
 go_wp2;go_ret2;refine⟨rfl,?_,?_⟩;·exact aDu (T:=190) (e:=5) U H (bs':=z++ZM s) (by simpa[Lib.strCells_length]using Cz) (by decide)
 exact(Q.grown CF (by have:=Q.size;omega) λk hk=>(Aa.lt k hk).1).setCell (p:=⟨b,1,Z⟩) U _
def qB:zz:=⟨#[109,111,100,117,108,101,32,97]⟩
def V3:zz:=⟨#[97]⟩
def aC(x:Nat):Bool:=x==32||x==9
def aQB(x:Nat)(w:A0):Ai A6 252 #[A7 .i32 (x:Int)] w λe w'=>e=AZ (Af (aC x))/\w'=w:=by
 cases h:(x:Int)==32<;>cases h2:(x:Int)==9;all_goals
  have b:AL (aC x=((x:Int)==32||(x:Int)==9)):=by refine A5 ?_;unfold aC;rw[VA];simp;omega
  go_enter Tryz.func252,Tryz.ntmps252;go_wp2;go_ret;exact⟨Eb (by rw[b.out,h,h2];rfl),rfl⟩
def aIL(w:A0):aED A6 252 #[] aC w:=by intro W x _ _;refine(aQB x W).mono ?_;rintro e w'⟨rfl,rfl⟩;exact⟨rfl,0,rfl⟩
def aKQ:∀b w,(callFunc 252 b).run A6 w=Ac (.enter 252 b) w:=by intro b w;exact enters_of Tryz.func252 (by kernel_rfl) rfl b w
def aQ2:(A6.info? 371).map (λi=>(i.zero,i.size,i.bytes))=Y (Y (A_ #[A7 A8 0,J B8]),2,24):=by kernel_rfl
def aQI(s:zz)(w:A0):Ai A6 253 #[J s] w λe w'=>e=AZ (A7 A8 (V.kind s.data.toList))/\w'=w:=by
 have b:AL (V.kind s.data.toList=if s.toList==[40]then 1 else if s.toList==[41]then 2 else if s.toList==[61,62]then 3 else 0):=by refine A5 ?_;rw[VO];rfl
 cases h:s.toList==[40]<;>cases h2:s.toList==[41]<;>cases h3:s.toList==[61,62];all_goals go_enter Tryz.func253,Tryz.ntmps253;go_wp2;go_ret;exact⟨Js (by rw[b.out,h,h2,h3];rfl),rfl⟩
def a8X(s:zz)(w:A0):Ai A6 248 #[J s] w λe w'=>e=AZ (A7 A8 (V.HX s.data.toList))/\w'=w:=by
 have b:AL (V.HX s.data.toList=if s.toList==[109,111,100,117,108,101]then 1 else if s.toList==[114,101,113,117,105,114,101]then 2 else if s.toList==[101,120,99,108,117,100,101]then 3 else if s.toList==[114,101,112,108,97,99,101]then 4 else 0):=by refine A5 ?_;rw[VO];rfl
 cases h:s.toList==[109,111,100,117,108,101]
 ·cases h2:s.toList==[114,101,113,117,105,114,101]
  ·cases h3:s.toList==[101,120,99,108,117,100,101];·cases h4:s.toList==[114,101,112,108,97,99,101];all_goals go_enter Tryz.func248,Tryz.ntmps248;go_wp2;go_ret;exact⟨Js (by rw[b.out,h,h2,h3,h4];rfl),rfl⟩
   go_enter Tryz.func248,Tryz.ntmps248;go_wp2;go_ret;exact⟨Js (by rw[b.out,h,h2,h3];rfl),rfl⟩
  go_enter Tryz.func248,Tryz.ntmps248;go_wp2;go_ret;exact⟨Js (by rw[b.out,h,h2];rfl),rfl⟩
 go_enter Tryz.func248,Tryz.ntmps248;go_wp2;go_ret;exact⟨Js (by rw[b.out,h];rfl),rfl⟩
def V.qW:∀(l d:zx),(V.Jv d l).length<=l.length+if d.isEmpty then 0 else 1
 |[],d=>by rw[V.Jv];split<;>simp
 |b::r,d=>by
  rw[V.Jv];split
  ·split;·have:=V.qW r [];simp at this⊢;omega
   have:=V.qW r [];simp at this⊢;omega
  have:=V.qW r (d++[b]);simp at this⊢;omega
def V.aCY(l:zx):(V.words l).length<=l.length:=by have:=V.qW l [];simpa[V.words]using this
def aJo(s:zz)(m:Int)(w:A0)(hs:s.size<4294967281)(b:w.cell? ⟨0,0,Z⟩=Y (A7 A8 m)):Ai A6 118 #[J s,J ⟨#[47,47]⟩] w λe w'=>∃(x y:zz)(f:Bool),e=AZ (Ay #[J x,J y,Af f])/\x.data.toList=V.said s.data.toList/\x.size<=s.size/\AX w.heap.size w w':=by refine(Tryz.strings_Cut s ⟨#[47,47]⟩ m w hs b).mono ?_;rintro e w'⟨rfl,n,rfl⟩;have h:=(V.uA (t:=s) (x:=⟨(Gr s.data.toList [47,47]).1.toArray⟩) (y:=⟨(Gr s.data.toList [47,47]).2.1.toArray⟩) (p:=[47,47]) rfl rfl (Ae _)).1;exact⟨_,_,_,rfl,rfl,h,IK (BF _ _) n⟩
def Gw(A j:Nat):(⟨A,0,Z⟩:Ak).add j=⟨A,j,Z⟩:=by cases j<;>simp[Qy]
def aL1(s:zz)(w:A0)(hs:s.size<=4294967296):Ai A6 251 #[J s,FU (Ek 252) #[] #[]] w λe w'=>∃(A:Nat)(b:List zz),e=AZ (A4 (Y ⟨A,0,Z⟩) b.length b.length)/\b.map (·.data.toList)=V.words s.data.toList/\(∀j,j<b.length->w'.cell? ⟨A,j,Z⟩=Y (J (b.getD j B8)))/\AX w.heap.size w w':=by refine(Tryz.strings_FieldsFunc_runes 252 #[] aKQ aC s w hs (aIL w)).mono ?_;rintro e w'⟨A,rfl,H,z,y⟩;have hc:=z.cells (g:=A) rfl;refine⟨A,VN aC s,rfl,V.aL2 s,λj h=>?_,y⟩;have:=hc j (J ((VN aC s).getD j B8)) (by rw[XU,K1 h,V.getD_at _ _ h];rfl);rw[Gw]at this;exact this
def V5(ws:List zz):List A1:=ws.flatMap λs=>[A7 A8 (V.kind s.data.toList),J s]
def aYJ(ws:List zz)(k:Nat)(h:k<ws.length):V5 (ws.take (k+1))=V5 (ws.take k)++[A7 A8 (V.kind (ws.getD k B8).data.toList),J (ws.getD k B8)]:=by unfold V5;rw[dA h,XT,V.getD_at _ _ h];rfl
def aYK(s:zz)(m:Int)(w:A0)(hs:s.size<4294967281)(hm:w.cell? ⟨0,0,Z⟩=Y (A7 A8 m)):Ai A6 178 #[J s] w λe w'=>∃(v:A1)(b:List zz),e=AZ v/\b.map (·.data.toList)=V.words (V.said s.data.toList)/\w'.ownsRow w.heap.size 371 2 v b.length (V5 b)/\AX w.heap.size w w':=by
 obtain⟨i0,hi,E,F,S⟩:=Ko aQ2;go_enter Tryz.func178,Tryz.ntmps178;go_wp2_with fail;refine(aJo s m _ hs hm).mono ?_;rintro e w1⟨x,y,f,rfl,hx,X,Au⟩;have M:=A5 Au;have Dv:=A5 hx;clear Au hx;go_wp2_with fail;refine(aL1 x _ (by omega)).mono ?_;rintro e I⟨A,b,rfl,N,d,r⟩;have Q:=A5 (M.out.trans (r.mono M.out.size));have a7x:b.length<=4294967281:=by
  have h1:=V.aCY x.data.toList;rw[<-N,Ks]at h1;have e:x.data.toList.length=x.size:=by simp
  omega
 have GQ:AL (b.map (·.data.toList)=V.words (V.said s.data.toList)):=A5 (by rw[N,Dv.out]);have Eu:=A5 d;clear r M N d;have oR:=Q.out.size;go_wp2;go_loopw[6,18]λv i wr=>∃k:Nat,k<=b.length/\i=A7 A8 k/\wr.ownsRow I.heap.size 371 2 v k (V5 (b.take k))/\AX I.heap.size I wr(λ_ i _=>b.length-(BJ i).toNat);case atStart=>exact⟨0,by omega,rfl,⟨rfl,AD ⟨rfl,rfl⟩⟩,BF _ _⟩
 case round=>
  obtain⟨k,hk,rfl,Aa,K⟩:=hrel;have rg:I.heap.size<=wr.heap.size:=K.size;by_cases hlt:k<b.length
  ·have QP:=Am K (Eu.out k hlt);have U:=A5 (aYJ b k hlt);generalize hx:b.getD k B8=z at QP U;clear hx;go_wp2_with(first|(go_at_call 253;refine(aQI _ _).mono ?_;rintro e w'⟨rfl,D⟩;rw[D];clear D w')|(at_builtin;refine NB _ rfl _ _ 297 rfl I.heap.size 371 i0 (A_ #[A7 A8 0,J B8]) 2 24 Tryz.underlying297 hi E F S rfl (by decide) _ _ _ rfl (Aa.alloc _) ⟨wr.heap.size,0,Z⟩ 1 1 [A7 A8 (V.kind z.data.toList),J z] rfl rfl ?c1 ?c2 ?c3 ?c4 ?c5 ?_));case c1=>intro j u H;match j,H with|0,H=>simp at H;subst H;simp[Qy]|1,H=>simp at H;subst H;simp[Qy]
   case c2=>intro u hu;simp at hu;rcases hu with rfl|rfl<;>rfl
   case c3=>unfold BH;omega
   case c4=>omega
   case c5=>simp;omega
   intro v' w3 Cz CF _;have Ca:AX I.heap.size I w3:=(K.alloc rg _).grown CF (by simp;omega) λj H=>(Aa.lt j H).1;clear CF;go_wp2;go_roundw;case rel=>exact⟨k+1,by omega,by go_num,by rw[U.out];exact Cz,Ca⟩
   case measure=>simp[BJ];omega
  have Gi:k=b.length:=by omega
  go_wp2;go_ret;rw[Gi,O3]at Aa;refine⟨_,b,rfl,GQ.out,⟨Aa.1,?_⟩,Q.out.trans (K.mono oR)⟩;rcases Aa.2 with h|⟨g,cap,g6,e,hb,A2⟩;·exact AD h
  exact AJ ⟨g,cap,g6,e,by omega,A2⟩
def aQ1:(A6.info? 301).map (λi=>(i.zero,i.size,i.bytes))=Y (Y (A_ #[A7 A8 0,DS]),2,24):=by kernel_rfl
def Ij(w:A0)(g off:Nat)(ws:List zz):Prop:=∀j,j<ws.length->w.cell? ⟨g,off+j*2,Z⟩=Y (A7 A8 (V.kind (ws.getD j B8).data.toList))/\w.cell? ⟨g,off+j*2+1,Z⟩=Y (J (ws.getD j B8))
def Ij.later{off:Nat}(h:Ij w g off ws)(b:AX w.heap.size w w'):Ij w' g off ws:=λj s=>⟨Am b (h j s).1,Am b (h j s).2⟩
def Ij.alloc{w:A0}{g off:Nat}{ws:List zz}(h:Ij w g off ws)(o:Df):Ij (w.alloc o) g off ws:=h.later ((BF _ _).alloc (Ae _) _)
def aLD(h:ws.length≠ks.length):V.fit ws ks=A9:=by unfold V.fit;rw[beq_eq_false_iff_ne];intro e;exact h (by rw[<-e,Ks])
def aLC(b:k<ws.length)(y:k<ks.length)(h:V.kind (ws.getD k B8).data.toList≠ks.getD k 0):V.fit ws ks=A9:=by
 unfold V.fit;rw[beq_eq_false_iff_ne];intro e;apply h;have this:(ws.map λs=>V.kind s.data.toList).getD k 0=ks.getD k 0:=by rw[e]
 rw[<-this,V.getD_at _ _ b,V.getD_at _ _ (by simpa using b)];simp
def aLB(b:ws.length=ks.length)(h:∀j,j<ks.length->V.kind (ws.getD j B8).data.toList=ks.getD j 0):V.fit ws ks=A3:=by
 unfold V.fit;rw[beq_iff_eq];apply List.ext_getElem;·simpa using b
 intro j s h2;have:=h j h2;rw[V.getD_at _ _ (by omega),V.getD_at _ _ h2]at this;simpa using this
def NM(g off c b I:Nat)(ws:List zz)(ks:List Int)(w:A0)(d:ws.length<=1000000000000)(f:ks.length<=100)(Q:Ij w g off ws)(z:∀j,j<ks.length->w.cell? ⟨b,j,Z⟩=Y (A7 A8 (ks.getD j 0))):Ai A6 342 #[A4 (Y ⟨g,off,Z⟩) ws.length c,A4 (Y ⟨b,0,Z⟩) ks.length I] w λe w'=>e=AZ (Af (V.fit ws ks))/\w'=w:=by
 cases N:(ws.length:Int)!=(ks.length:Int)
 ·have M:ws.length=ks.length:=by have:=bne_eq_false_iff_eq.1 N;omega
  have m:=A5 M;have CY:=A5 Q;have FW:=A5 z;have i0:ws.length<=ks.length:=by omega
  have u:ks.length<=ws.length:=by omega
  clear M Q z;go_enter Tryz.func342,Tryz.ntmps342;go_wp2;go_loop[14]λi=>∃k:Nat,k<=ks.length/\i=A7 A8 k/\AL (∀j,j<k->V.kind (ws.getD j B8).data.toList=ks.getD j 0)(λi=>ks.length-(BJ i).toNat);case atStart=>exact⟨0,by omega,rfl,A5 λj K=>by omega⟩
  case round=>
   obtain⟨k,z,rfl,H⟩:=hrel;by_cases hlt:k<ks.length
   ·have t0:=(CY.out k (by omega)).1;have r:=FW.out k hlt;generalize hx:V.kind (ws.getD k B8).data.toList=x at t0;generalize hy:ks.getD k 0=y at r;have h:=A5 hx;have s:=A5 hy;clear hx hy;cases U:x !=y
    ·go_wp2;go_round;case rel=>
      refine⟨k+1,by omega,by go_num,A5 λj K=>?_⟩;by_cases e:j=k;·subst e;rw[h.out,s.out];exact bne_eq_false_iff_eq.1 U
      exact H.out j (by omega)
     case measure=>simp[BJ];omega
    go_wp2;go_ret;exact⟨Eb (aLC (by omega) hlt (by rw[h.out,s.out];exact bne_iff_ne.1 U)).symm,rfl⟩
   go_wp2;go_ret;exact⟨Eb (aLB m.out λj K=>H.out j (by omega)).symm,rfl⟩
 have FV:=A5 (aLD (ws:=ws) (ks:=ks) (by have:=bne_iff_ne.1 N;omega));go_enter Tryz.func342,Tryz.ntmps342;go_wp2;go_ret;exact⟨Eb FV.out.symm,rfl⟩
def Yd:Option (Nat×List zz)->A1|Y (t,fs)=>Ay #[EL t (A_ (fs.map J).toArray),Af A3]|Z=>Ay #[DS,Af A9]
def hl(h:V.fit ws ks=A3):ws.length=ks.length:=by unfold V.fit at h;have:=gm h;rw[<-this,Ks]
def aSS(g off c:Nat)(ws:List zz)(w:A0)(M:ws.length<=1000000000000)(b:Ij w g off ws):Ai A6 343 #[A7 A8 2,A4 (Y ⟨g,off,Z⟩) ws.length c] w λe w'=>e=AZ (Yd (V.Ff 2 ws))/\AX w.heap.size w w':=by
 cases s:V.fit ws [0,0]
 ·have h:AL (V.Ff 2 ws=Z):=by refine A5 ?_;unfold V.Ff;rw[s];rfl
  have H:=A5 b;clear b;go_enter Tryz.func343,Tryz.ntmps343;go_wp2_with fail;refine(NM g off c _ 2 ws [0,0] _ M (by decide) (H.out.alloc _) λj I=>by match j,I with|0,_=>simp|1,_=>simp).mono ?_;rintro e K⟨rfl,y⟩;rw[y,s];clear y K;go_wp2;go_ret2;exact⟨by rw[h.out];rfl,(BF _ _).alloc (Ae _) _⟩
 have z:=hl s;have h:AL (V.Ff 2 ws=Y (221,[ws.getD 0 B8,ws.getD 1 B8])):=by refine A5 ?_;unfold V.Ff;rw[s];rfl
 have U:(2:Int)<=(ws.length:Int):=by rw[z];decide
 have N:=λo=>BL (b 0 (by rw[z];decide)).2 o;have Q:=λo=>BL (b 1 (by rw[z];decide)).2 o;have H:=A5 b;clear b z;generalize ws.getD 0 B8=d at h N;generalize ws.getD 1 B8=AM at h Q;go_enter Tryz.func343,Tryz.ntmps343;go_wp2_with fail;refine(NM g off c _ 2 ws [0,0] _ M (by decide) (H.out.alloc _) λj I=>by match j,I with|0,_=>simp|1,_=>simp).mono ?_;rintro e K⟨rfl,y⟩;rw[y,s];clear y K;go_wp2_with fail;go_quiet(fail);go_wp2;go_ret2;exact⟨by rw[h.out];rfl,IK ((BF _ _).alloc (Ae _) _) _⟩
def aSN(g off c:Nat)(ws:List zz)(w:A0)(M:ws.length<=1000000000000)(b:Ij w g off ws):Ai A6 343 #[A7 A8 3,A4 (Y ⟨g,off,Z⟩) ws.length c] w λe w'=>e=AZ (Yd (V.Ff 3 ws))/\AX w.heap.size w w':=by
 cases s:V.fit ws [0,0]
 ·have h:AL (V.Ff 3 ws=Z):=by refine A5 ?_;unfold V.Ff;rw[s];rfl
  have H:=A5 b;clear b;go_enter Tryz.func343,Tryz.ntmps343;go_wp2_with fail;refine(NM g off c _ 2 ws [0,0] _ M (by decide) (H.out.alloc _) λj I=>by match j,I with|0,_=>simp|1,_=>simp).mono ?_;rintro e K⟨rfl,y⟩;rw[y,s];clear y K;go_wp2;go_ret2;exact⟨by rw[h.out];rfl,(BF _ _).alloc (Ae _) _⟩
 have z:=hl s;have h:AL (V.Ff 3 ws=Y (222,[ws.getD 0 B8,ws.getD 1 B8])):=by refine A5 ?_;unfold V.Ff;rw[s];rfl
 have U:(2:Int)<=(ws.length:Int):=by rw[z];decide
 have N:=λo=>BL (b 0 (by rw[z];decide)).2 o;have Q:=λo=>BL (b 1 (by rw[z];decide)).2 o;have H:=A5 b;clear b z;generalize ws.getD 0 B8=d at h N;generalize ws.getD 1 B8=AM at h Q;go_enter Tryz.func343,Tryz.ntmps343;go_wp2_with fail;refine(NM g off c _ 2 ws [0,0] _ M (by decide) (H.out.alloc _) λj I=>by match j,I with|0,_=>simp|1,_=>simp).mono ?_;rintro e K⟨rfl,y⟩;rw[y,s];clear y K;go_wp2_with fail;go_quiet(fail);go_wp2;go_ret2;exact⟨by rw[h.out];rfl,IK ((BF _ _).alloc (Ae _) _) _⟩
def aSP(g off c:Nat)(ws:List zz)(w:A0)(M:ws.length<=1000000000000)(h:Ij w g off ws):Ai A6 343 #[A7 A8 1,A4 (Y ⟨g,off,Z⟩) ws.length c] w λe w'=>e=AZ (Yd (V.Ff 1 ws))/\AX w.heap.size w w':=by
 cases b:V.fit ws [0]
 ·have y:AL (V.Ff 1 ws=Z):=by refine A5 ?_;unfold V.Ff;rw[b];rfl
  have z:=A5 h;clear h;go_enter Tryz.func343,Tryz.ntmps343;go_wp2_with fail;refine(NM g off c _ 1 ws [0] _ M (by decide) (z.out.alloc _) λj H=>by match j,H with|0,_=>simp).mono ?_;rintro e K⟨rfl,s⟩;rw[s,b];clear s K;go_wp2;go_ret2;exact⟨by rw[y.out];rfl,(BF _ _).alloc (Ae _) _⟩
 have I:=hl b;have y:AL (V.Ff 1 ws=Y (123,[ws.getD 0 B8])):=by refine A5 ?_;unfold V.Ff;rw[b];rfl
 have Q:(1:Int)<=(ws.length:Int):=by rw[I];decide
 have N:=λo=>BL (h 0 (by rw[I];decide)).2 o;have z:=A5 h;clear h I;generalize ws.getD 0 B8=d at y N;go_enter Tryz.func343,Tryz.ntmps343;go_wp2_with fail;refine(NM g off c _ 1 ws [0] _ M (by decide) (z.out.alloc _) λj H=>by match j,H with|0,_=>simp).mono ?_;rintro e K⟨rfl,s⟩;rw[s,b];clear s K;go_wp2;go_ret2;exact⟨by rw[y.out];rfl,(BF _ _).alloc (Ae _) _⟩
def aSQ(v:A1)(ws:List zz)(w:A0):Ai A6 343 #[A7 A8 0,v] w λe w'=>e=AZ (Yd (V.Ff 0 ws))/\AX w.heap.size w w':=by go_enter Tryz.func343,Tryz.ntmps343;go_wp2;go_ret2;exact⟨rfl,BF _ _⟩
def aSR(g off c:Nat)(ws:List zz)(w:A0)(U:ws.length<=1000000000000)(y:Ij w g off ws):Ai A6 343 #[A7 A8 4,A4 (Y ⟨g,off,Z⟩) ws.length c] w λe w'=>e=AZ (Yd (V.Ff 4 ws))/\AX w.heap.size w w':=by
 have N:=A5 y;cases I:V.fit ws [0,3,0,0]
 ·cases Q:V.fit ws [0,0,3,0,0]
  ·have h:AL (V.Ff 4 ws=Z):=by refine A5 ?_;unfold V.Ff;rw[I,Q];rfl
   clear y;go_enter Tryz.func343,Tryz.ntmps343;go_wp2_with fail;refine(NM g off c _ 4 ws [0,3,0,0] _ U (by decide) (N.out.alloc _) λj z=>by match j,z with|0,_=>simp|1,_=>simp|2,_=>simp|3,_=>simp).mono ?_;rintro e H⟨rfl,b⟩;rw[b,I];clear b H;go_wp2_with fail;refine(NM g off c _ 5 ws [0,0,3,0,0] _ U (by decide) ((N.out.alloc _).alloc _) λj z=>by match j,z with|0,_=>simp|1,_=>simp|2,_=>simp|3,_=>simp|4,_=>simp).mono ?_;rintro e H⟨rfl,b⟩;rw[b,Q];clear b H;go_wp2;go_ret2;exact⟨by rw[h.out];rfl,((BF _ _).alloc (Ae _) _).alloc (by simp) _⟩
  have s:=hl Q;have h:AL (V.Ff 4 ws=Y (224,[ws.getD 0 B8,ws.getD 1 B8,ws.getD 3 B8,ws.getD 4 B8])):=by refine A5 ?_;unfold V.Ff;rw[I,Q];rfl
  have i:(5:Int)<=(ws.length:Int):=by rw[s];decide
  have t0:=λK M=>BL (BL (y 0 (by rw[s];decide)).2 K) M;have t1:=λK M=>BL (BL (y 1 (by rw[s];decide)).2 K) M;have t3:=λK M=>BL (BL (y 3 (by rw[s];decide)).2 K) M;have t4:=λK M=>BL (BL (y 4 (by rw[s];decide)).2 K) M;clear y s;generalize ws.getD 0 B8=d at h t0;generalize ws.getD 1 B8=AM at h t1;generalize ws.getD 3 B8=f at h t3;generalize ws.getD 4 B8=m at h t4;go_enter Tryz.func343,Tryz.ntmps343;go_wp2_with fail;refine(NM g off c _ 4 ws [0,3,0,0] _ U (by decide) (N.out.alloc _) λj z=>by match j,z with|0,_=>simp|1,_=>simp|2,_=>simp|3,_=>simp).mono ?_;rintro e H⟨rfl,b⟩;rw[b,I];clear b H;go_wp2_with fail;refine(NM g off c _ 5 ws [0,0,3,0,0] _ U (by decide) ((N.out.alloc _).alloc _) λj z=>by match j,z with|0,_=>simp|1,_=>simp|2,_=>simp|3,_=>simp|4,_=>simp).mono ?_;rintro e H⟨rfl,b⟩;rw[b,Q];clear b H;go_wp2_with fail;go_quiet(fail);go_wp2;go_ret2;exact⟨by rw[h.out];rfl,IK (((BF _ _).alloc (Ae _) _).alloc (by simp) _) _⟩
 have s:=hl I;have h:AL (V.Ff 4 ws=Y (224,[ws.getD 0 B8,⟨#[]⟩,ws.getD 2 B8,ws.getD 3 B8])):=by refine A5 ?_;unfold V.Ff;rw[I];rfl
 have r:(4:Int)<=(ws.length:Int):=by rw[s];decide
 have t0:=λo=>BL (y 0 (by rw[s];decide)).2 o;have t2:=λo=>BL (y 2 (by rw[s];decide)).2 o;have t3:=λo=>BL (y 3 (by rw[s];decide)).2 o;clear y s;generalize ws.getD 0 B8=d at h t0;generalize ws.getD 2 B8=u at h t2;generalize ws.getD 3 B8=f at h t3;go_enter Tryz.func343,Tryz.ntmps343;go_wp2_with fail;refine(NM g off c _ 4 ws [0,3,0,0] _ U (by decide) (N.out.alloc _) λj z=>by match j,z with|0,_=>simp|1,_=>simp|2,_=>simp|3,_=>simp).mono ?_;rintro e H⟨rfl,b⟩;rw[b,I];clear b H;go_wp2_with fail;go_quiet(fail);go_wp2;go_ret2;exact⟨by rw[h.out];rfl,IK ((BF _ _).alloc (Ae _) _) _⟩
def Ti(l:List (Nat×Nat×List zz)):List A1:=l.flatMap λx=>[A7 A8 (x.1:Int),EL x.2.1 (A_ (x.2.2.map J).toArray)]
def aXZ(l:List (Nat×Nat×List zz))(x:Nat×Nat×List zz):Ti (l++[x])=Ti l++[A7 A8 (x.1:Int),EL x.2.1 (A_ (x.2.2.map J).toArray)]:=by unfold Ti;rw[XT];rfl
structure Fq(i1 base:Nat)(w w':A0):Prop where
 below:AX i1 w w'
 xz:∀k,i1<k->k<base->w'.heap[k]?=w.heap[k]?
def Fq.refl(b base:Nat)(w:A0):Fq b base w w:=⟨BF _ _,λ_ _ _=>rfl⟩
def Fq.trans{i1 base:Nat}{a b c:A0}(h:Fq i1 base a b)(k:Fq i1 base b c):Fq i1 base a c:=⟨h.below.trans k.below,λi s h2=>(k.xz i s h2).trans (h.xz i s h2)⟩
def Fq.new{base:Nat}(b:i1<base)(h2:base<=B)(h:AX B w w'):Fq i1 base w w':=⟨h.mono (by omega),λi _ hi=>h.block i (by omega)⟩
def Fq.alloc{i1 base:Nat}{a w:A0}(h:Fq i1 base a w)(b:i1<base)(h2:base<=w.heap.size)(o:Df):Fq i1 base a (w.alloc o):=h.trans (Fq.new b h2 ((BF _ _).alloc (Ae _) o))
def Fq.setCell{i1 base:Nat}{a w:A0}(h:Fq i1 base a w)(k:Nat)(v:A1):Fq i1 base a (w.setCell ⟨i1,k,Z⟩ v):=h.trans ⟨(BF _ _).setCell (p:=⟨i1,k,Z⟩) (Ae _) v,λi hi _=>HP _ _ _ _ (by show i≠i1;omega)⟩
def Fq.grown{i1 base:Nat}{a w w':A0}{row:Option Nat}(h:Fq i1 base a w)(s:w.grownBy w' row)(b:i1<base)(h2:base<=w.heap.size)(y:∀k,row=Y k->base<=k):Fq i1 base a w':=h.trans (Fq.new b (Ae _) ((BF base w).grown s h2 y))
def H8(w:A0)(h base:Nat)(st b:Int)(l:List (Nat×Nat×List zz)):Prop:=h<base/\base<=w.heap.size/\∃v,w.heap[h]?=Y (AF #[A7 A8 st,A7 A8 b,v] 295 (0,0))/\w.ownsRow base 301 2 v l.length (Ti l)
def a9W(kw:Int)(s:kw=0∨kw=1∨kw=2∨kw=3∨kw=4)(g off c:Nat)(ws:List zz)(w:A0)(b:ws.length<=1000000000000)(h:Ij w g off ws):Ai A6 343 #[A7 A8 kw,A4 (Y ⟨g,off,Z⟩) ws.length c] w λe w'=>e=AZ (Yd (V.Ff kw ws))/\AX w.heap.size w w':=by
 rcases s with rfl|rfl|rfl|rfl|rfl;·exact aSQ _ ws w
 ·exact aSP g off c ws w b h
 ·exact aSS g off c ws w b h
 ·exact aSN g off c ws w b h
 exact aSR g off c ws w b h
def hF(n:Nat)(kw st y:Int)(D:kw=0∨kw=1∨kw=2∨kw=3∨kw=4)(g off c b base:Nat)(ws:List zz)(l:List (Nat×Nat×List zz))(w:A0)(AE:ws.length<=1000000000000)(H0:l.length<=1000000000000)(AP:Ij w g off ws)(hp:H8 w b base st y l):Ai A6 250 #[Ad (Y ⟨b,0,Z⟩),A7 A8 (n:Int),A7 A8 kw,A4 (Y ⟨g,off,Z⟩) ws.length c] w λe w'=>e=AZ (Af (V.added n kw ws l).1)/\H8 w' b base st y (V.added n kw ws l).2/\Fq b base w w':=by
 obtain⟨i0,hi,F,S,X⟩:=Ko aQ1;obtain⟨I,m,v,U,N⟩:=hp;have E:b<w.heap.size:=(Array.getElem?_eq_some_iff.1 U).1;cases d:V.Ff kw ws with
 |none=>
  have f:AL (V.added n kw ws l=(A9,l)):=by refine A5 ?_;unfold V.added;rw[d]
  have r:=A5 U;have CQ:=A5 N;clear U N;go_enter Tryz.func250,Tryz.ntmps250;go_wp2_with fail;refine(a9W kw D g off c ws _ AE AP).mono ?_;rintro e K⟨rfl,z⟩;rw[d,Yd];have M:=A5 z;clear z;go_wp2;go_ret;refine⟨Eb (by rw[f.out]),?_,Fq.new I m M.out⟩;rw[f.out];refine⟨I,G3 m M.out.size,v,by rw[M.out.block b E];exact r.out,CQ.out.1,?_⟩;rcases CQ.out.2 with h|⟨s,cap,i,e,hb,Q,A2⟩;·exact AD h
  exact AJ ⟨s,cap,i,e,hb,by rw[M.out.block s (Array.getElem?_eq_some_iff.1 Q).1];exact Q,A2⟩
 |some x=>
  obtain⟨t,fs⟩:=x;have f:AL (V.added n kw ws l=(A3,l++[(n,t,fs)])):=by refine A5 ?_;unfold V.added;rw[d]
  have r:=A5 U;have CQ:=A5 N;clear U N;go_enter Tryz.func250,Tryz.ntmps250;go_wp2_with fail;refine(a9W kw D g off c ws _ AE AP).mono ?_;rintro e K⟨rfl,z⟩;rw[d,Yd];have Ir:K.heap[b]?=Y (AF #[A7 A8 st,A7 A8 y,v] 295 (0,0)):=by rw[z.block b E];exact r.out
  have N:K.ownsRow base 301 2 v l.length (Ti l):=by
   refine⟨CQ.out.1,?_⟩;rcases CQ.out.2 with h|⟨s,cap,i,e,hb,Q,A2⟩;·exact AD h
   exact AJ ⟨s,cap,i,e,hb,by rw[z.block s (Array.getElem?_eq_some_iff.1 Q).1];exact Q,A2⟩
  have el:w.heap.size<=K.heap.size:=z.size;have M:=A5 z;clear z;have c2:K.cell? ⟨b,2,Z⟩=Y v:=by rw[Ao Ir];rfl
  have J':=A5 N;go_wp2_with(at_builtin;refine NB _ rfl _ _ 171 rfl base 301 i0 (A_ #[A7 A8 0,DS]) 2 24 Tryz.underlying171 hi F S X rfl (by decide) _ _ _ rfl (J'.out.alloc _) ⟨K.heap.size,0,Z⟩ 1 1 [A7 A8 (n:Int),EL t (A_ (fs.map J).toArray)] rfl rfl ?c1 ?c2 ?c3 ?c4 ?c5 ?_);case c1=>intro j u H;match j,H with|0,H=>simp at H;subst H;simp[Qy]|1,H=>simp at H;subst H;simp[Qy]
  case c2=>intro u hu;simp at hu;rcases hu with rfl|rfl<;>rfl
  case c3=>unfold BH;omega
  case c4=>omega
  case c5=>simp;omega
  intro v' w2 Cz CF _;have hlt:=J'.out.lt;have A:w2.heap[b]?=Y (AF #[A7 A8 st,A7 A8 y,v] 295 (0,0)):=by rw[CF.block b (by simp;omega) λe=>by have:=(hlt b e.symm).1;omega,lA K _ b (by omega)];exact Ir
  have d2:w2.cell? ⟨b,2,Z⟩=Y v:=by rw[Ao A];rfl
  have F4:w2.frozen? ⟨b,2,Z⟩=A9:=E6 A 2;obtain⟨s,cap,rfl⟩:∃s cap,v'=A4 (Y ⟨s,0,Z⟩) (l.length+1) cap:=by
   rcases Cz.2 with⟨_,AV⟩|⟨s,cap,i,hv,_⟩;·omega
   exact⟨_,_,hv⟩
  go_wp2;go_ret;rw[f.out];have NR:=CF.size;refine⟨rfl,⟨I,by simp at NR;simp[LK];omega,A4 (Y ⟨s,0,Z⟩) (l.length+1) cap,?_,?_⟩,?_⟩;·rw[F2 _ _ _ _ _ _ A];rfl
  ·rw[aXZ,H7];exact a18 Cz I _
  exact(((Fq.new I m M.out).alloc I (by omega) _).grown CF I (by simp;omega) λk hk=>(hlt k hk).1).setCell 2 _
def H8.lt{base:Nat}(h:H8 w i1 base st blk l):i1<w.heap.size:=by obtain⟨_,_,v,b,_⟩:=h;exact(Array.getElem?_eq_some_iff.1 b).1
def H8.later{base:Nat}(h:H8 w i1 base st blk l)(b:AX w.heap.size w w'):H8 w' i1 base st blk l:=by
 have I:=h.lt;obtain⟨M,z,v,K,AA⟩:=h;refine⟨M,G3 z b.size,v,by rw[b.block i1 I];exact K,AA.1,?_⟩;rcases AA.2 with h|⟨s,cap,d,e,H,y,N⟩;·exact AD h
 exact AJ ⟨s,cap,d,e,H,by rw[b.block s (Array.getElem?_eq_some_iff.1 y).1];exact y,N⟩
def H8.state{base:Nat}(h:H8 w i1 base st blk l)(x:Int):H8 (w.setCell ⟨i1,0,Z⟩ (A7 A8 x)) i1 base x blk l:=by obtain⟨b,s,v,z,y⟩:=h;refine⟨b,by simpa[LK]using s,v,?_,a18 y b _⟩;rw[F2 _ _ _ _ _ _ z];rfl
def H8.block{base:Nat}(h:H8 w i1 base st blk l)(x:Int):H8 (w.setCell ⟨i1,1,Z⟩ (A7 A8 x)) i1 base st x l:=by obtain⟨b,s,v,z,y⟩:=h;refine⟨b,by simpa[LK]using s,v,?_,a18 y b _⟩;rw[F2 _ _ _ _ _ _ z];rfl
def H8.cell0{base:Nat}(h:H8 w i1 base st blk l):w.cell? ⟨i1,0,Z⟩=Y (A7 A8 st):=by obtain⟨_,_,v,b,_⟩:=h;rw[Ao b];rfl
def H8.cell1{base:Nat}(h:H8 w i1 base st blk l):w.cell? ⟨i1,1,Z⟩=Y (A7 A8 blk):=by obtain⟨_,_,v,b,_⟩:=h;rw[Ao b];rfl
def H8.soft{base:Nat}(h:H8 w i1 base st blk l)(k:Nat):w.frozen? ⟨i1,k,Z⟩=A9:=by obtain⟨_,_,v,b,_⟩:=h;exact E6 b k
def Ij.set{off:Nat}(h:Ij w g off ws)(s:i1≠g):Ij (w.setCell ⟨i1,k,Z⟩ v) g off ws:=by
 intro j b;refine⟨?_,?_⟩;·rw[Kn _ _ _ _ λe=>by injection e;omega];exact(h j b).1
 rw[Kn _ _ _ _ λe=>by injection e;omega];exact(h j b).2
def pc(kw:Int)(I:kw=0∨kw=1∨kw=2∨kw=3∨kw=4)(g off c:Nat)(ws:List zz)(w:A0)(z:ws.length<=1000000000000)(H:Ij w g off ws):Ai A6 249 #[A7 A8 kw,A4 (Y ⟨g,off,Z⟩) ws.length c] w λe w'=>e=AZ (Af (V.opens kw ws))/\AX w.heap.size w w':=by
 have y:=A5 H;clear H;have KM:AL (V.opens 2 ws=V.fit ws [1]/\V.opens 3 ws=V.fit ws [1]/\V.opens 4 ws=V.fit ws [1]):=A5 ⟨rfl,rfl,rfl⟩;rcases I with rfl|rfl|rfl|rfl|rfl;·go_enter Tryz.func249,Tryz.ntmps249;go_wp2;go_ret;exact⟨rfl,BF _ _⟩
 ·go_enter Tryz.func249,Tryz.ntmps249;go_wp2;go_ret;exact⟨rfl,BF _ _⟩
 ·go_enter Tryz.func249,Tryz.ntmps249;go_wp2_with fail;refine(NM g off c _ 1 ws [1] _ z (by decide) (y.out.alloc _) λj h=>by match j,h with|0,_=>simp).mono ?_;rintro e s⟨rfl,b⟩;rw[b];clear b s;go_wp2;go_ret;exact⟨Eb KM.out.1.symm,(BF _ _).alloc (Ae _) _⟩
 ·go_enter Tryz.func249,Tryz.ntmps249;go_wp2_with fail;refine(NM g off c _ 1 ws [1] _ z (by decide) (y.out.alloc _) λj h=>by match j,h with|0,_=>simp).mono ?_;rintro e s⟨rfl,b⟩;rw[b];clear b s;go_wp2;go_ret;exact⟨Eb KM.out.2.1.symm,(BF _ _).alloc (Ae _) _⟩
 go_enter Tryz.func249,Tryz.ntmps249;go_wp2_with fail;refine(NM g off c _ 1 ws [1] _ z (by decide) (y.out.alloc _) λj h=>by match j,h with|0,_=>simp).mono ?_;rintro e s⟨rfl,b⟩;rw[b];clear b s;go_wp2;go_ret;exact⟨Eb KM.out.2.2.symm,(BF _ _).alloc (Ae _) _⟩
def aXt(n:Nat)(b:Int)(d:b=0∨b=1∨b=2∨b=3∨b=4)(g c h base:Nat)(ws:List zz)(l:List (Nat×Nat×List zz))(w:A0)(K:ws.length<=1000000000000)(f:l.length<=1000000000000)(AP:Ij w g 0 ws)(Q:H8 w h base 2 b l):Ai A6 247 #[Ad (Y ⟨h,0,Z⟩),A7 A8 (n:Int),A4 (Y ⟨g,0,Z⟩) ws.length c] w λe w'=>e=AZ (Af (V.Nk n ws b l).1)/\H8 w' h base (V.Nk n ws b l).2.1 (V.Nk n ws b l).2.2.1 (V.Nk n ws b l).2.2.2/\Fq h base w w':=by
 have H:=A5 AP;have EM:=A5 Q;clear AP Q;cases y:V.fit ws [2]
 ·have z:AL (V.Nk n ws b l=((V.added n b ws l).1,2,b,(V.added n b ws l).2)):=by refine A5 ?_;unfold V.Nk;rw[y];rfl
  have c1:∀o,(w.alloc o).cell? ⟨h,1,Z⟩=Y (A7 A8 b):=λo=>BL EM.out.cell1 o;go_enter Tryz.func247,Tryz.ntmps247;go_wp2_with fail;refine(NM g 0 c _ 1 ws [2] _ K (by decide) (H.out.alloc _) λj I=>by match j,I with|0,_=>simp).mono ?_;rintro e M⟨rfl,s⟩;rw[s,y];clear s M;go_wp2_with fail;refine(hF n b 2 b d g 0 c h base ws l _ K f (H.out.alloc _) (EM.out.later ((BF _ _).alloc (Ae _) _))).mono ?_;rintro e w2⟨rfl,U,N⟩;have i:=A5 U;have m:=A5 N;clear U N;go_wp2;go_ret;rw[z.out];exact⟨rfl,i.out,((Fq.refl _ _ _).alloc EM.out.1 EM.out.2.1 _).trans m.out⟩
 have z:AL (V.Nk n ws b l=(A3,1,b,l)):=by refine A5 ?_;unfold V.Nk;rw[y];rfl
 have c0:∀o,(w.alloc o).cell? ⟨h,0,Z⟩=Y (A7 A8 2):=λo=>BL EM.out.cell0 o;have f0:∀o,(w.alloc o).frozen? ⟨h,0,Z⟩=A9:=λo=>(EM.out.later ((BF _ _).alloc (Ae _) o)).soft 0;go_enter Tryz.func247,Tryz.ntmps247;go_wp2_with fail;refine(NM g 0 c _ 1 ws [2] _ K (by decide) (H.out.alloc _) λj I=>by match j,I with|0,_=>simp).mono ?_;rintro e M⟨rfl,s⟩;rw[s,y];clear s M;go_wp2;go_ret;rw[z.out];exact⟨rfl,(EM.out.later ((BF _ _).alloc (Ae _) _)).state 1,((Fq.refl _ _ _).alloc EM.out.1 EM.out.2.1 _).setCell 0 _⟩
def a8W(l:zx):V.HX l=0∨V.HX l=1∨V.HX l=2∨V.HX l=3∨V.HX l=4:=by
 unfold V.HX;repeat' split
 all_goals decide
def Ij.tail{x:zz}{rest:List zz}(h:Ij w g 0 (x::rest)):Ij w g 2 rest:=by intro j b;have:=h (j+1) (by simp;omega);simp only[a2U]at this;rw[show 2+j*2=0+(j+1)*2 by omega];exact this
def aC8(n:Nat)(st b:Int)(Bm:st=0∨st=1)(g c s base:Nat)(x:zz)(rest:List zz)(l:List (Nat×Nat×List zz))(w:A0)(AE:rest.length<=100000000000)(hc:rest.length+1<=c)(S:l.length<=1000000000000)(D:s≠g)(AP:Ij w g 0 (x::rest))(hp:H8 w s base st b l):Ai A6 177 #[Ad (Y ⟨s,0,Z⟩),A7 A8 (n:Int),A4 (Y ⟨g,0,Z⟩) (rest.length+1) c] w λe w'=>e=AZ (Af (V.EA n (x::rest) st b l).1)/\H8 w' s base (V.EA n (x::rest) st b l).2.1 (V.EA n (x::rest) st b l).2.2.1 (V.EA n (x::rest) st b l).2.2.2/\Fq s base w w':=by
 have TC:=hp.lt;have h1:w.cell? ⟨g,1,Z⟩=Y (J x):=by simpa using(AP 0 (by simp)).2
 have BC:=hp.cell0;have CY:=A5 AP.tail;have EM:=A5 hp;clear AP hp;have hk:=a8W x.data.toList;have FW:=A5 hk;have N:AL (V.EA n (x::rest) st b l=if V.HX x.data.toList==1&&st !=0 then(A9,st,b,l)else if V.opens (V.HX x.data.toList) rest then(A3,2,V.HX x.data.toList,l)else((V.added n (V.HX x.data.toList) rest l).1,1,b,(V.added n (V.HX x.data.toList) rest l).2)):=by refine A5 ?_;rcases Bm with rfl|rfl<;>rfl
 have jO:(st==2)=A9:=by rcases Bm with rfl|rfl<;>rfl
 have Bp:(c:Int)≥(rest.length:Int)+1:=by omega
 clear hk;by_cases GA:c=1
 ·subst GA;have C2:AL (rest=[]):=A5 (tO (by omega));go_enter Tryz.func177,Tryz.ntmps177;go_wp2_with fail;go_quiet((go_at_call 248;exact fa (a8X _ _)));have J0:AL (H8 (w.drewN nq) s base st b l):=A5 (EM.out.later (IK (BF _ w) nq));have i:(w.drewN nq).cell? ⟨s,0,Z⟩=Y (A7 A8 st):=J0.out.cell0;have M:AL (Ij (w.drewN nq) g 2 rest):=A5 (CY.out.later (IK (BF _ w) nq));have K:=A5 (Fq.new EM.out.1 EM.out.2.1 (IK (BF _ w) nq));have X:s<(w.drewN nq).heap.size:=J0.out.lt;clear h1 BC CY EM TC;generalize w.drewN nq=bm at J0 i M K X⊢;generalize V.HX x.data.toList=h at FW N⊢;cases m:h==1
  ·have U:AL ((h==1&&st !=0)=A9):=A5 (by rw[m];rfl);go_wp2_with fail;refine(pc h FW.out g 0 0 [] _ (by first|decide|omega) λj r=>absurd r (gv j)).mono ?_;rintro e I⟨rfl,H⟩;have y:=A5 (J0.out.later H);have E:=A5 (M.out.later H);have F3:I.cell? ⟨s,0,Z⟩=Y (A7 A8 st):=y.out.cell0;have e1:I.cell? ⟨s,1,Z⟩=Y (A7 A8 b):=y.out.cell1;have f0:I.frozen? ⟨s,0,Z⟩=A9:=y.out.soft 0;have Ep:I.frozen? ⟨s,1,Z⟩=A9:=y.out.soft 1;have Q:=A5 (K.out.trans (Fq.new J0.out.1 J0.out.2.1 H));clear H i J0 M K;cases AA:V.opens h []
   ·have z:AL (V.EA n (x::rest) st b l=((V.added n h [] l).1,1,b,(V.added n h [] l).2)):=by refine A5 ?_;rw[N.out,C2.out,AA,U.out];rfl
    go_wp2_with fail;refine(hF n h 1 b FW.out g 0 0 s base [] l _ (by first|decide|omega) S (λj r=>absurd r (gv j)) (y.out.state 1)).mono ?_;rintro e w3⟨rfl,d,f⟩;have u:=A5 d;have A:=A5 ((Q.out.setCell 0 (A7 A8 1)).trans f);clear d f;go_wp2;go_ret;rw[z.out];exact⟨rfl,u.out,A.out⟩
   have z:AL (V.EA n (x::rest) st b l=(A3,2,h,l)):=by refine A5 ?_;rw[N.out,C2.out,AA,U.out];rfl
   go_wp2;go_ret;rw[z.out];exact⟨rfl,(y.out.state 2).block h,(Q.out.setCell 0 (A7 A8 2)).setCell 1 (A7 A8 h)⟩
  cases F:st !=0
  ·have U:AL ((h==1&&st !=0)=A9):=A5 (by rw[m,F];rfl);go_wp2_with fail;refine(pc h FW.out g 0 0 [] _ (by first|decide|omega) λj r=>absurd r (gv j)).mono ?_;rintro e I⟨rfl,H⟩;have y:=A5 (J0.out.later H);have E:=A5 (M.out.later H);have F3:I.cell? ⟨s,0,Z⟩=Y (A7 A8 st):=y.out.cell0;have e1:I.cell? ⟨s,1,Z⟩=Y (A7 A8 b):=y.out.cell1;have f0:I.frozen? ⟨s,0,Z⟩=A9:=y.out.soft 0;have Ep:I.frozen? ⟨s,1,Z⟩=A9:=y.out.soft 1;have Q:=A5 (K.out.trans (Fq.new J0.out.1 J0.out.2.1 H));clear H i J0 M K;cases AA:V.opens h []
   ·have z:AL (V.EA n (x::rest) st b l=((V.added n h [] l).1,1,b,(V.added n h [] l).2)):=by refine A5 ?_;rw[N.out,C2.out,AA,U.out];rfl
    go_wp2_with fail;refine(hF n h 1 b FW.out g 0 0 s base [] l _ (by first|decide|omega) S (λj r=>absurd r (gv j)) (y.out.state 1)).mono ?_;rintro e w3⟨rfl,d,f⟩;have u:=A5 d;have A:=A5 ((Q.out.setCell 0 (A7 A8 1)).trans f);clear d f;go_wp2;go_ret;rw[z.out];exact⟨rfl,u.out,A.out⟩
   have z:AL (V.EA n (x::rest) st b l=(A3,2,h,l)):=by refine A5 ?_;rw[N.out,C2.out,AA,U.out];rfl
   go_wp2;go_ret;rw[z.out];exact⟨rfl,(y.out.state 2).block h,(Q.out.setCell 0 (A7 A8 2)).setCell 1 (A7 A8 h)⟩
  have z:AL (V.EA n (x::rest) st b l=(A9,st,b,l)):=by refine A5 ?_;rw[N.out,m,F];rfl
  go_wp2;go_ret;rw[z.out];exact⟨rfl,J0.out,K.out⟩
 skip;go_enter Tryz.func177,Tryz.ntmps177;go_wp2_with fail;go_quiet((go_at_call 248;exact fa (a8X _ _)));have J0:AL (H8 (w.drewN nq) s base st b l):=A5 (EM.out.later (IK (BF _ w) nq));have i:(w.drewN nq).cell? ⟨s,0,Z⟩=Y (A7 A8 st):=J0.out.cell0;have M:AL (Ij (w.drewN nq) g 2 rest):=A5 (CY.out.later (IK (BF _ w) nq));have K:=A5 (Fq.new EM.out.1 EM.out.2.1 (IK (BF _ w) nq));have X:s<(w.drewN nq).heap.size:=J0.out.lt;clear h1 BC CY EM TC;generalize w.drewN nq=bm at J0 i M K X⊢;generalize V.HX x.data.toList=h at FW N⊢;cases m:h==1
 ·have U:AL ((h==1&&st !=0)=A9):=A5 (by rw[m];rfl);go_wp2_with fail;refine(pc h FW.out g 2 (c-1) rest _ (by first|decide|omega) M.out).mono ?_;rintro e I⟨rfl,H⟩;have y:=A5 (J0.out.later H);have E:=A5 (M.out.later H);have F3:I.cell? ⟨s,0,Z⟩=Y (A7 A8 st):=y.out.cell0;have e1:I.cell? ⟨s,1,Z⟩=Y (A7 A8 b):=y.out.cell1;have f0:I.frozen? ⟨s,0,Z⟩=A9:=y.out.soft 0;have Ep:I.frozen? ⟨s,1,Z⟩=A9:=y.out.soft 1;have Q:=A5 (K.out.trans (Fq.new J0.out.1 J0.out.2.1 H));clear H i J0 M K;cases AA:V.opens h rest
  ·have z:AL (V.EA n (x::rest) st b l=((V.added n h rest l).1,1,b,(V.added n h rest l).2)):=by refine A5 ?_;rw[N.out,AA,U.out];rfl
   go_wp2_with fail;refine(hF n h 1 b FW.out g 2 (c-1) s base rest l _ (by first|decide|omega) S (E.out.set D) (y.out.state 1)).mono ?_;rintro e w3⟨rfl,d,f⟩;have u:=A5 d;have A:=A5 ((Q.out.setCell 0 (A7 A8 1)).trans f);clear d f;go_wp2;go_ret;rw[z.out];exact⟨rfl,u.out,A.out⟩
  have z:AL (V.EA n (x::rest) st b l=(A3,2,h,l)):=by refine A5 ?_;rw[N.out,AA,U.out];rfl
  go_wp2;go_ret;rw[z.out];exact⟨rfl,(y.out.state 2).block h,(Q.out.setCell 0 (A7 A8 2)).setCell 1 (A7 A8 h)⟩
 cases F:st !=0
 ·have U:AL ((h==1&&st !=0)=A9):=A5 (by rw[m,F];rfl);go_wp2_with fail;refine(pc h FW.out g 2 (c-1) rest _ (by first|decide|omega) M.out).mono ?_;rintro e I⟨rfl,H⟩;have y:=A5 (J0.out.later H);have E:=A5 (M.out.later H);have F3:I.cell? ⟨s,0,Z⟩=Y (A7 A8 st):=y.out.cell0;have e1:I.cell? ⟨s,1,Z⟩=Y (A7 A8 b):=y.out.cell1;have f0:I.frozen? ⟨s,0,Z⟩=A9:=y.out.soft 0;have Ep:I.frozen? ⟨s,1,Z⟩=A9:=y.out.soft 1;have Q:=A5 (K.out.trans (Fq.new J0.out.1 J0.out.2.1 H));clear H i J0 M K;cases AA:V.opens h rest
  ·have z:AL (V.EA n (x::rest) st b l=((V.added n h rest l).1,1,b,(V.added n h rest l).2)):=by refine A5 ?_;rw[N.out,AA,U.out];rfl
   go_wp2_with fail;refine(hF n h 1 b FW.out g 2 (c-1) s base rest l _ (by first|decide|omega) S (E.out.set D) (y.out.state 1)).mono ?_;rintro e w3⟨rfl,d,f⟩;have u:=A5 d;have A:=A5 ((Q.out.setCell 0 (A7 A8 1)).trans f);clear d f;go_wp2;go_ret;rw[z.out];exact⟨rfl,u.out,A.out⟩
  have z:AL (V.EA n (x::rest) st b l=(A3,2,h,l)):=by refine A5 ?_;rw[N.out,AA,U.out];rfl
  go_wp2;go_ret;rw[z.out];exact⟨rfl,(y.out.state 2).block h,(Q.out.setCell 0 (A7 A8 2)).setCell 1 (A7 A8 h)⟩
 have z:AL (V.EA n (x::rest) st b l=(A9,st,b,l)):=by refine A5 ?_;rw[N.out,m,F];rfl
 go_wp2;go_ret;rw[z.out];exact⟨rfl,J0.out,K.out⟩
def aXv(n:Nat)(b:Int)(U:b=0∨b=1∨b=2∨b=3∨b=4)(g c h base:Nat)(x:zz)(rest:List zz)(l:List (Nat×Nat×List zz))(w:A0)(AE:rest.length<=100000000000)(d:l.length<=1000000000000)(H:Ij w g 0 (x::rest))(s:H8 w h base 2 b l):Ai A6 177 #[Ad (Y ⟨h,0,Z⟩),A7 A8 (n:Int),A4 (Y ⟨g,0,Z⟩) (rest.length+1) c] w λe w'=>e=AZ (Af (V.EA n (x::rest) 2 b l).1)/\H8 w' h base (V.EA n (x::rest) 2 b l).2.1 (V.EA n (x::rest) 2 b l).2.2.1 (V.EA n (x::rest) 2 b l).2.2.2/\Fq h base w w':=by have f:=s.cell0;have N:=A5 H;have K:=A5 s;clear H s;have Q:AL (V.EA n (x::rest) 2 b l=V.Nk n (x::rest) b l):=A5 rfl;go_enter Tryz.func177,Tryz.ntmps177;go_wp2_with fail;refine(aXt n b U g c h base (x::rest) l w (by simp;omega) d N.out K.out).mono ?_;rintro e w1⟨rfl,z,y⟩;have M:=A5 z;have I:=A5 y;clear z y;go_wp2;go_ret;rw[Q.out];exact⟨rfl,M.out,I.out⟩
def aXw(n h:Nat)(b:Option Ak)(cap:Nat)(w:A0):Ai A6 177 #[Ad (Y ⟨h,0,Z⟩),A7 A8 (n:Int),A4 b 0 cap] w λe w'=>e=AZ (Af A3)/\w'=w:=by go_enter Tryz.func177,Tryz.ntmps177;go_wp2;go_ret;exact⟨rfl,rfl⟩
def V.aST{t:Nat}{fs:List zz}(h:V.Ff kw ws=Y (t,fs)):V.RB (n,t,fs):=by
 unfold V.Ff at h;split at h;·cases h;exact AD ⟨rfl,_,rfl⟩
 split at h;·cases h;exact AJ (AD ⟨rfl,_,_,rfl⟩)
 split at h;·cases h;exact AJ (AJ (AD ⟨rfl,_,_,rfl⟩))
 split at h;·cases h;exact AJ (AJ (AJ ⟨rfl,_,_,_,_,rfl⟩))
 split at h;·cases h;exact AJ (AJ (AJ ⟨rfl,_,_,_,_,rfl⟩))
 cases h
def V.aHk(h:∀x∈l,V.RB x):∀x∈(V.added n kw ws l).2,V.RB x:=by
 unfold V.added;split
 ·rename_i y hy;intro x hx;rcases List.mem_append.1 hx with hx|hx;·exact h x hx
  rw[List.mem_singleton.1 hx];exact V.aST (t:=y.1) (fs:=y.2) hy
 exact h
def V.aHj(n:Nat)(kw:Int)(ws:List zz)(l:List (Nat×Nat×List zz)):(V.added n kw ws l).2.length<=l.length+1:=by unfold V.added;split<;>simp
def V.aYP(h:∀x∈l,V.RB x):∀x∈(V.EA n ws st blk l).2.2.2,V.RB x:=by
 unfold V.EA V.Nk;repeat' split
 all_goals first|exact h|exact V.aHk h
def V.aYO(n:Nat)(ws:List zz)(st b:Int)(l:List (Nat×Nat×List zz)):(V.EA n ws st b l).2.2.2.length<=l.length+1:=by
 unfold V.EA V.Nk;repeat' split
 all_goals first|exact aHM _|exact V.aHj _ _ _ _
def V.aYQ(h:V.h9 st blk):V.h9 (V.EA n ws st blk l).2.1 (V.EA n ws st blk l).2.2.1:=by
 unfold V.EA V.Nk;repeat' split
 all_goals first|exact h|exact⟨AJ (AD rfl),h.2⟩|exact⟨AJ (AJ rfl),h.2⟩|exact⟨AJ (AJ rfl),a8W _⟩
def mo(v:A1)(w:A0):(Pq (EL 123 v) 179 123 A3).run A6 w=Ac (Ay #[v,Af A3]) w:=by kernel_rfl
def mq(v:A1)(w:A0):(Pq (EL 221 v) 179 123 A3).run A6 w=Ac (Ay #[A_ #[J ⟨#[]⟩],Af A9]) w:=by kernel_rfl
def tu(v:A1)(w:A0):(Pq (EL 222 v) 179 123 A3).run A6 w=Ac (Ay #[A_ #[J ⟨#[]⟩],Af A9]) w:=by kernel_rfl
def tv(v:A1)(w:A0):(Pq (EL 224 v) 179 123 A3).run A6 w=Ac (Ay #[A_ #[J ⟨#[]⟩],Af A9]) w:=by kernel_rfl
def aSF(i1 base:Nat)(st H:Int)(l:List (Nat×Nat×List zz))(w:A0)(i:V.h9 st H)(I:∀x∈l,V.RB x)(K:l.length<=1000000000000)(hp:H8 w i1 base st H l):Ai A6 179 #[Ad (Y ⟨i1,0,Z⟩)] w λe w'=>e=AZ (Af (V.may st l))/\AX w.heap.size w w':=by
 have u:=hp.cell0;obtain⟨_,_,v,f,Aa⟩:=hp;have d2:w.cell? ⟨i1,2,Z⟩=Y v:=by rw[Ao f];rfl
 clear f;cases hs:st==2
 ·match l,I,K,Aa with
  |[],_,_,Aa=>
   obtain⟨a,cap,rfl⟩:∃a cap,v=A4 a 0 cap:=by
    rcases Aa.2 with⟨h,_⟩|⟨z,cap,j,h,_⟩;·exact⟨_,_,h⟩
    exact⟨_,_,h⟩
   clear Aa;go_enter Tryz.func179,Tryz.ntmps179;go_wp2;go_ret;exact⟨rfl,BF _ _⟩
  |x::xs,I,K,Aa=>
   obtain⟨z,cap,rfl,A⟩:∃z cap,v=A4 (Y ⟨z,0,Z⟩) (xs.length+1) cap/\w.cell? ⟨z,1,Z⟩=Y (EL x.2.1 (A_ (x.2.2.map J).toArray)):=by
    have hc:=λg=>Aa.cells (g:=g);rcases Aa.2 with⟨_,h⟩|⟨z,cap,j,h,_⟩;·simp at h
    refine⟨z,cap,h,?_⟩;have:=hc z (by rw[h];rfl) 1 (EL x.2.1 (A_ (x.2.2.map J).toArray)) rfl;simpa[Qy]using this
   have m:=A5 (I x (Je ..));have r:xs.length<=1000000000000:=by simp at K;omega
   clear Aa I K;obtain⟨N,Q,M⟩:=x;rcases m.out with⟨s,a,h2⟩|⟨s,a,b,h2⟩|⟨s,a,b,h2⟩|⟨s,a,b,c,d,h2⟩;·have y:AL (V.may st ((N,Q,M)::xs)=A3):=A5 (by unfold V.may;simp only at s;simp only[hs,s];rfl);simp only at s h2;subst s h2;have U:=mo;go_enter Tryz.func179,Tryz.ntmps179;go_wp2;go_ret;exact⟨Eb y.out.symm,(BF _ _).alloc (Ae _) _⟩
   ·have y:AL (V.may st ((N,Q,M)::xs)=A9):=A5 (by unfold V.may;simp only at s;simp only[hs,s];rfl);simp only at s h2;subst s h2;have U:=mq;go_enter Tryz.func179,Tryz.ntmps179;go_wp2;go_ret;exact⟨Eb y.out.symm,(BF _ _).alloc (Ae _) _⟩
   ·have y:AL (V.may st ((N,Q,M)::xs)=A9):=A5 (by unfold V.may;simp only at s;simp only[hs,s];rfl);simp only at s h2;subst s h2;have U:=tu;go_enter Tryz.func179,Tryz.ntmps179;go_wp2;go_ret;exact⟨Eb y.out.symm,(BF _ _).alloc (Ae _) _⟩
   have y:AL (V.may st ((N,Q,M)::xs)=A9):=A5 (by unfold V.may;simp only at s;simp only[hs,s];rfl);simp only at s h2;subst s h2;have U:=tv;go_enter Tryz.func179,Tryz.ntmps179;go_wp2;go_ret;exact⟨Eb y.out.symm,(BF _ _).alloc (Ae _) _⟩
 have y:AL (V.may st l=A9):=by
  refine A5 ?_;unfold V.may;split;·rfl
  rw[hs];rfl
 clear Aa;go_enter Tryz.func179,Tryz.ntmps179;go_wp2;go_ret;exact⟨Eb y.out.symm,BF _ _⟩
def V.qK{d:List (zx)}(h:ws.map (·.data.toList)=d):ws=V.texts d:=by
 subst h;unfold V.texts;rw[SY];have:((λl=>(⟨l.toArray⟩:zz))∘λx:zz=>x.data.toList)=id:=by funext x;cases x;simp
 rw[this,List.map_id]
def V.aWn(l:zx):(V.said l).length<=l.length:=by have h:=(V.uA (t:=⟨l.toArray⟩) (x:=⟨(Gr l [47,47]).1.toArray⟩) (y:=⟨(Gr l [47,47]).2.1.toArray⟩) (p:=[47,47]) rfl rfl (Ae _)).1;simpa[V.said,aCx]using h
def V.aYL(s:zz):(V.I_ s).length<=s.size:=by
 have b:=V.aCY (V.said s.data.toList);have h2:=V.aWn s.data.toList;have e:s.data.toList.length=s.size:=by simp
 unfold V.I_ V.texts;rw[Ks];omega
def V.aQs(s:zz):∀x∈V.lines s,x.size<=s.size:=by
 intro x hx;unfold V.lines V.texts at hx;obtain⟨q,b,rfl⟩:=List.mem_map.1 hx;have:=V.k3 10 _ _ b;have e:s.data.toList.length=s.size:=by simp
 show q.toArray.size<=s.size;rw[I7];omega
def aXF(s:zz)(m:Int)(w:A0)(hs:s.size<4294967281)(y:w.cell? ⟨0,0,Z⟩=Y (A7 A8 m)):Ai A6 174 #[J s,J ⟨#[10]⟩] w λe w'=>e=AZ (A4 (Y ⟨w.heap.size,0,Z⟩) (V.lines s).length (V.lines s).length)/\(V.lines s).length<=s.size+1/\(∀j,j<(V.lines s).length->w'.cell? ⟨w.heap.size,j,Z⟩=Y (J ((V.lines s).getD j B8)))/\w'.heap.size=w.heap.size+1/\AX w.heap.size w w':=by refine(Tryz.strings_Split s ⟨#[10]⟩ m w (by omega) y (by decide)).mono ?_;rintro e w'⟨rfl,rfl⟩;have z:lC ⟨#[10]⟩ 0 (VM s ⟨#[10]⟩) s=V.lines s:=V.qK (V.qF s ⟨#[10]⟩ 10 rfl);have h:=a't ⟨#[10]⟩ (by decide) 0 _ s rfl;have hc:=a's ⟨#[10]⟩ (by decide) s.size s (Ae _);rw[z]at h⊢;refine⟨by rw[h],by omega,?_,by simp,(BF _ _).alloc (Ae _) _⟩;intro j b;rw[a1K _ _ _ _ rfl,VY,XU,K1 b,V.getD_at _ _ b];rfl
def aYI(ws:List zz):∀j,j<ws.length->(V5 ws)[j*2]?=Y (A7 A8 (V.kind (ws.getD j B8).data.toList))/\(V5 ws)[j*2+1]?=Y (J (ws.getD j B8)):=by
 induction ws with
 |nil=>intro j b;simp at b
 |cons x h s=>
  intro j b;have e:V5 (x::h)=[A7 A8 (V.kind x.data.toList),J x]++V5 h:=rfl;match j with
  |0=>exact⟨rfl,rfl⟩
  |j+1=>
   have:=s j (by simp at b;omega);rw[e];refine⟨?_,?_⟩;·rw[SX (by simp;omega),a2U,<-this.1];congr 1;simp;omega
   rw[SX (by simp;omega),a2U,<-this.2];congr 1;simp;omega
def aXu(n:Nat)(st b:Int)(Bm:V.h9 st b)(d s base:Nat)(N:A1)(ws:List zz)(l:List (Nat×Nat×List zz))(w:A0)(H:ws.length<=100000000000)(K:l.length<=1000000000000)(AI:s<d)(Aa:w.ownsRow d 371 2 N ws.length (V5 ws))(z:H8 w s base st b l):Ai A6 177 #[Ad (Y ⟨s,0,Z⟩),A7 A8 (n:Int),N] w λe w'=>e=AZ (Af (V.EA n ws st b l).1)/\H8 w' s base (V.EA n ws st b l).2.1 (V.EA n ws st b l).2.2.1 (V.EA n ws st b l).2.2.2/\Fq s base w w':=by
 have hc:=λg=>Aa.cells (g:=g);match ws,H,Aa,hc with
 |[],_,Aa,_=>
  obtain⟨a,cap,rfl⟩:∃a cap,N=A4 a 0 cap:=by
   rcases Aa.2 with⟨h,_⟩|⟨m,cap,f,h,_⟩;·exact⟨_,_,h⟩
   exact⟨_,_,h⟩
  refine(aXw n s a cap w).mono ?_;rintro e w'⟨rfl,rfl⟩;exact⟨rfl,z,Fq.refl _ _ _⟩
 |x::rest,H,Aa,hc=>
  rcases Aa.2 with⟨_,h⟩|⟨g,cap,f,h,r,_,y,_⟩;·simp at h
  have M:Ij w g 0 (x::rest):=by intro j i;have h1:=aYI (x::rest) j i;have h2:=hc g (by rw[h];rfl);have Q:=h2 _ _ h1.1;have U:=h2 _ _ h1.2;rw[Gw]at Q U;rw[LO];exact⟨Q,U⟩
  rw[h];have I:rest.length<=100000000000:=by simp at H;omega
  rcases Bm.1 with rfl|rfl|rfl;·exact aC8 n 0 b (AD rfl) g cap s base x rest l w I (by simpa using y) K (by omega) M z
  ·exact aC8 n 1 b (AJ rfl) g cap s base x rest l w I (by simpa using y) K (by omega) M z
  exact aXv n b Bm.2 g cap s base x rest l w I K M z
def a2p(s:Nat)(b:List zz)(w1:A0)(k:Nat)(wr:A0):Prop:=∃(st h:Int)(l:List (Nat×Nat×List zz)),V.h9 st h/\(∀x∈l,V.RB x)/\l.length<=k/\H8 wr s (s+2) st h l/\Fq s (s+2) w1 wr/\V.GX 0 b 0 0 []=V.GX k (b.drop k) st h l
def drop_at(b:List zz)(k:Nat)(h:k<b.length):b.drop k=b.getD k B8::b.drop (k+1):=by rw[mW h,V.getD_at _ _ h]
def aTn(s:zz)(m:Int)(w:A0)(hs:s.size<4294967281)(hm:w.cell? ⟨0,0,Z⟩=Y (A7 A8 m)):Ai A6 92 #[J s] w λe w'=>∃v,e=AZ (Ay #[v,A7 A8 ((V.parse s).2:Int)])/\w'.ownsRow (w.heap.size+2) 301 2 v (V.parse s).1.length (Ti (V.parse s).1)/\AX w.heap.size w w':=by
 have AV:=aAf hm;have Cm:=A5 (V.aQs s);have u:AL (V.parse s=V.GX 0 (V.lines s) 0 0 []):=A5 rfl;go_enter Tryz.func92,Tryz.ntmps92;go_wp2_with fail;refine(aXF s m _ hs (BL hm _)).mono ?_;rintro e z⟨rfl,H0,nm,rg,Au⟩;have Ir:z.heap[w.heap.size]?=Y (AF #[A7 A8 0,A7 A8 0,A4 Z 0 0] 295 (0,0)):=by rw[Au.block w.heap.size (by simp)];exact Pz w _
 have Fj:=Am Au (BL hm _);have TG:z.heap.size=w.heap.size+2:=by rw[rg];simp
 have sw:=A5 Fj;have B_:=A5 (((BF _ w).alloc (Ae _) _).trans (Au.mono (by simp)));have Eu:AL (∀j,j<(V.lines s).length->z.cell? ⟨w.heap.size+1,j,Z⟩=Y (J ((V.lines s).getD j B8))):=by refine A5 λj H1=>?_;simpa using nm j H1
 have t':AL (H8 z w.heap.size (w.heap.size+2) 0 0 []):=A5 ⟨by omega,by omega,_,Ir,XA _ _ _ _⟩;have Zf:=A5 TG;clear Au nm rg Fj Ir TG;generalize Ar:V.lines s=L at H0 Eu Cm u⊢;clear Ar;have aMO:L.length<=5000000000:=by omega
 clear H0;go_wp2;go_loopw[12]λi wr=>∃k:Nat,k<=L.length/\i=A7 A8 k/\AL (a2p w.heap.size L z k wr)(λi _=>L.length-(BJ i).toNat);case atStart=>exact⟨0,by omega,rfl,A5 ⟨0,0,[],⟨AD rfl,AD rfl⟩,λx hx=>absurd hx (He),Ae _,t'.out,Fq.refl _ _ _,by rw[aGq]⟩⟩
 case round=>
  obtain⟨k,hk,rfl,H⟩:=hrel;obtain⟨st,h,l,Bm,MD,Bv,U,Y',m0⟩:=H.out;have A:=A5 Bm;have K:=A5 MD;have Zd:=A5 U;have f:=A5 Y';have D:=A5 m0;clear H Bm MD U Y' m0;have M:l.length<=1000000000000:=by omega
  by_cases hlt:k<L.length
  ·have c0:wr.cell? ⟨w.heap.size+1,k,Z⟩=Y (J (L.getD k B8)):=by rw[<-Eu.out k hlt];exact World.cell?_of_block (w:=z) (f.out.xz _ (by show w.heap.size<w.heap.size+1;omega) (by show w.heap.size+1<w.heap.size+2;omega))
   have E:=A5 (drop_at L k hlt);have J1:AL ((L.getD k B8).size<=s.size):=A5 (by rw[V.getD_at _ _ hlt];exact Cm.out _ (DU hlt));generalize L.getD k B8=b at c0 E J1;have F:AL (wr.cell? ⟨0,0,Z⟩=Y (A7 A8 m)):=by refine A5 ?_;rw[<-sw.out];exact f.out.below.cell (p:=⟨0,0,Z⟩) AV
   go_wp2_with fail;refine(aYK b m wr (by have:=J1.out;omega) F.out).mono ?_;rintro e w2⟨Pa,ws,rfl,F6,Aa,kc⟩;have bi:=V.qK F6;have GQ:AL (ws=V.I_ b):=A5 bi;have CQ:=A5 Aa;have C6:=A5 kc;clear F6 bi Aa kc;go_wp2_with fail;have S:ws.length<=100000000000:=by rw[GQ.out];have:=V.aYL b;have:=J1.out;omega
   have T:=aXu (k+1) st h A.out wr.heap.size w.heap.size (w.heap.size+2) Pa ws l w2 S M Zd.out.lt CQ.out (Zd.out.later C6.out);rw[show((k+1:Nat):Int)=(k:Int)+1 from by omega]at T;refine T.mono ?_;rintro e w3⟨rfl,Lh,Ca⟩;have X:=A5 Lh;have Fg:=A5 ((f.out.trans (Fq.new Zd.out.1 Zd.out.2.1 C6.out)).trans Ca);clear Lh Ca T;rw[GQ.out]at X⊢;cases AP:(V.EA (k+1) (V.I_ b) st h l).1
   ·have y:AL (V.parse s=((V.EA (k+1) (V.I_ b) st h l).2.2.2,k+1)):=by refine A5 ?_;rw[u.out,D.out,E.out];unfold V.GX;rw[AP];rfl
    obtain⟨_,_,I,d,Q⟩:=X.out;have d2:w3.cell? ⟨w.heap.size,2,Z⟩=Y I:=by rw[Ao d];rfl
    have r:=A5 Q;clear d Q;go_wp2;go_ret2;refine⟨I,?_,?_,B_.out.trans Fg.out.below⟩;·rw[y.out];rfl
    rw[y.out];exact r.out
   have y:AL (V.GX 0 L 0 0 []=V.GX (k+1) (L.drop (k+1)) (V.EA (k+1) (V.I_ b) st h l).2.1 (V.EA (k+1) (V.I_ b) st h l).2.2.1 (V.EA (k+1) (V.I_ b) st h l).2.2.2):=by refine A5 ?_;rw[D.out,E.out,V.GX,if_pos AP]
   have R:∃k':Nat,k'<=L.length/\A7 A8 ((k:Int)+1)=A7 A8 k'/\AL (a2p w.heap.size L z k' w3):=by refine⟨k+1,by omega,by go_num,A5 ⟨_,_,_,V.aYQ A.out,V.aYP K.out,?_,X.out,Fg.out,y.out⟩⟩;have:=V.aYO (k+1) (V.I_ b) st h l;omega
   have C2:=A5 R;clear R;go_wp2;first
   |exact⟨C2.out,by simp[BJ];omega⟩
   |
    (
     go_roundw;case rel=>exact C2.out
     case measure=>simp[BJ];omega)
  have Gi:k=L.length:=by omega
  have mI:=A5 Gi;clear Gi;go_wp2_with fail;refine(aSF w.heap.size (w.heap.size+2) st h l wr A.out K.out M Zd.out).mono ?_;rintro e w4⟨rfl,EE⟩;have mM:=A5 (Zd.out.later EE);have Hc:=A5 (B_.out.trans (f.out.below.trans (EE.mono (a2i Zd.out.lt))));have y:AL (V.parse s=(l,if V.may st l then 0 else L.length)):=by refine A5 ?_;rw[u.out,D.out,mI.out,a2R,V.GX]
  clear EE;obtain⟨_,_,I,d,Q⟩:=mM.out;have d2:w4.cell? ⟨w.heap.size,2,Z⟩=Y I:=by rw[Ao d];rfl
  have r:=A5 Q;clear d Q;cases N:V.may st l
  ·rw[N]at y;go_wp2;go_ret2;refine⟨I,?_,?_,Hc.out⟩;·rw[y.out];rfl
   rw[y.out];exact r.out
  rw[N]at y;go_wp2;go_ret2;refine⟨I,?_,?_,Hc.out⟩;·rw[y.out];rfl
  rw[y.out];exact r.out
def oe(a b:Nat):((a:Int)==(b:Int))=(a==b):=by rw[VA];simp only[beq_iff_eq];omega
def a8K(b:UInt8)(w:A0):Ai A6 411 #[A7 F1 (b.toNat:Int)] w λe w'=>e=AZ (Af (V.OS b))/\w'=w:=by
 have h:AL (V.OS b=((b.toNat:Int)==46||(b.toNat:Int)==45||(b.toNat:Int)==95||Bz (97<=(b.toNat:Int))&&Bz ((b.toNat:Int)<=122)||Bz (48<=(b.toNat:Int))&&Bz ((b.toNat:Int)<=57))):=by
  refine A5 ?_;unfold V.OS;rw[show(46:Int)=((46:Nat):Int)from rfl,show(45:Int)=((45:Nat):Int)from rfl,show(95:Int)=((95:Nat):Int)from rfl,oe,oe,oe];congr 2;·congr 1<;>rw[decide_eq_decide]<;>omega
  ·rw[decide_eq_decide];omega
  rw[decide_eq_decide];omega
 generalize(b.toNat:Int)=x at h⊢;cases s:x==46
 ·cases h2:x==45
  ·cases h3:x==95;·by_cases h4:97<=x<;>by_cases y:x<=122<;>by_cases z:48<=x<;>by_cases H:x<=57;all_goals go_enter Tryz.func411,Tryz.ntmps411;go_wp2;go_ret;exact⟨Eb (by rw[h.out,s,h2,h3];simp[h4,y,z,H]),rfl⟩
   go_enter Tryz.func411,Tryz.ntmps411;go_wp2;go_ret;exact⟨Eb (by rw[h.out,s,h2,h3];rfl),rfl⟩
  go_enter Tryz.func411,Tryz.ntmps411;go_wp2;go_ret;exact⟨Eb (by rw[h.out,s,h2];rfl),rfl⟩
 go_enter Tryz.func411,Tryz.ntmps411;go_wp2;go_ret;exact⟨Eb (by rw[h.out,s];rfl),rfl⟩
def a8M(s:zz)(w:A0)(hs:s.size<=BH):Ai A6 354 #[J s] w λe w'=>e=AZ (Af (V.Ru s.data.toList))/\w'=w:=by
 have N:=hs;unfold BH at N;have h:AL (V.Ru s.data.toList=(s.data.toList.all V.OS&&(!s.toList==[]&&(!s.toList==[46]&&!s.toList==[46,46])))):=by refine A5 ?_;rw[VO];rfl
 go_enter Tryz.func354,Tryz.ntmps354;go_wp2;go_loop[6]λi=>∃k:Nat,k<=s.size/\i=A7 A8 k/\AL ((s.data.toList.take k).all V.OS=A3)(λi=>s.size-(BJ i).toNat);case atStart=>exact⟨0,Jf _,rfl,A5 (by simp)⟩
 case round=>
  obtain⟨k,U,rfl,H⟩:=hrel;by_cases hlt:k<s.size
  ·have I:AL (V.OS s[k]=A9->s.data.toList.all V.OS=A9):=by intro M;rw[mV];exact⟨s[k],by rw[show s[k]=s.data.toList[k]'(by simpa using hlt)from rfl];exact DU _,by simp[M]⟩
   have K:AL (V.OS s[k]=A3->(s.data.toList.take (k+1)).all V.OS=A3):=by intro Q;rw[kN s k hlt,mU,H.out];simp[Q]
   cases b:V.OS s[k];·go_wp2_with(go_at_call 411;refine(a8K _ _).mono ?_;rintro e w'⟨rfl,rfl⟩);go_ret;exact⟨Eb (by rw[h.out,I.out b];rfl),rfl⟩
   go_wp2_with(go_at_call 411;refine(a8K _ _).mono ?_;rintro e w'⟨rfl,rfl⟩);go_round;case rel=>exact⟨k+1,by omega,by go_num,A5 (K.out b)⟩
   case measure=>simp[BJ];omega
  have y:AL (s.data.toList.all V.OS=A3):=by refine A5 ?_;rw[<-XX (l:=s.data.toList) (i:=k) (by simp;omega)];exact H.out
  cases z:s.toList==[]
  ·cases b:s.toList==[46];·cases h2:s.toList==[46,46];all_goals go_wp2;go_ret;exact⟨Eb (by rw[h.out,y.out,z,b,h2];rfl),rfl⟩
   go_wp2;go_ret;exact⟨Eb (by rw[h.out,y.out,z,b];rfl),rfl⟩
  go_wp2;go_ret;exact⟨Eb (by rw[h.out,y.out,z];rfl),rfl⟩
def V.Rv(s:zz):List zz:=V.texts (V.pieces 47 s.data.toList)
def V.aWs(s:zz):∀x∈V.Rv s,x.size<=s.size:=by
 intro x hx;unfold V.Rv V.texts at hx;obtain⟨q,b,rfl⟩:=List.mem_map.1 hx;have:=V.k3 47 _ _ b;have e:s.data.toList.length=s.size:=by simp
 show q.toArray.size<=s.size;rw[I7];omega
def V.aTw(s:zz):V.path s.data.toList=(Bz (s.size<=60)&&(V.Rv s).all λx=>V.Ru x.data.toList):=by unfold V.path V.Rv V.texts;rw[aGj];rfl
def aXG(s:zz)(m:Int)(w:A0)(hs:s.size<4294967281)(y:w.cell? ⟨0,0,Z⟩=Y (A7 A8 m)):Ai A6 174 #[J s,J ⟨#[47]⟩] w λe w'=>e=AZ (A4 (Y ⟨w.heap.size,0,Z⟩) (V.Rv s).length (V.Rv s).length)/\(V.Rv s).length<=s.size+1/\(∀j,j<(V.Rv s).length->w'.cell? ⟨w.heap.size,j,Z⟩=Y (J ((V.Rv s).getD j B8)))/\AX w.heap.size w w':=by refine(Tryz.strings_Split s ⟨#[47]⟩ m w (by omega) y (by decide)).mono ?_;rintro e w'⟨rfl,rfl⟩;have z:lC ⟨#[47]⟩ 0 (VM s ⟨#[47]⟩) s=V.Rv s:=V.qK (V.qF s ⟨#[47]⟩ 47 rfl);have h:=a't ⟨#[47]⟩ (by decide) 0 _ s rfl;have hc:=a's ⟨#[47]⟩ (by decide) s.size s (Ae _);rw[z]at h⊢;refine⟨by rw[h],by omega,?_,(BF _ _).alloc (Ae _) _⟩;intro j b;rw[a1K _ _ _ _ rfl,VY,XU,K1 b,V.getD_at _ _ b];rfl
def a8L(s:zz)(m:Int)(w:A0)(hs:s.size<=281474976710656)(hm:w.cell? ⟨0,0,Z⟩=Y (A7 A8 m)):Ai A6 275 #[J s] w λe w'=>e=AZ (Af (V.path s.data.toList))/\AX w.heap.size w w':=by
 have N:=A5 (V.aTw s);by_cases j:(s.size:Int)<=60
 ·have CN:¬(s.size:Int)>60:=by omega
  have M:=A5 (V.aWs s);have b:AL (V.path s.data.toList=(V.Rv s).all λx=>V.Ru x.data.toList):=by refine A5 ?_;rw[N.out,decide_eq_true (by omega)];rfl
  go_enter Tryz.func275,Tryz.ntmps275;go_wp2_with fail;refine(aXG s m _ (by omega) hm).mono ?_;rintro e w1⟨rfl,d,f,U⟩;have y:=A5 U;have z:=A5 f;clear U f;generalize V.Rv s=L at d z M b⊢;have r:L.length<=100:=by omega
  clear d;go_wp2;go_loop[11]λi=>∃k:Nat,k<=L.length/\i=A7 A8 k/\AL ((L.take k).all (λx=>V.Ru x.data.toList)=A3)(λi=>L.length-(BJ i).toNat);case atStart=>exact⟨0,by omega,rfl,A5 (by simp)⟩
  case round=>
   obtain⟨k,hk,rfl,H⟩:=hrel;by_cases hlt:k<L.length
   ·have c0:=z.out k hlt;have h:AL ((L.getD k B8).size<=s.size):=A5 (by rw[V.getD_at _ _ hlt];exact M.out _ (DU hlt));have I:AL (V.Ru (L.getD k B8).data.toList=A9->(L.all λx=>V.Ru x.data.toList)=A9):=by intro AK;rw[V.getD_at _ _ hlt]at AK;rw[mV];exact⟨L[k],DU _,by simp[AK]⟩
    have K:AL (V.Ru (L.getD k B8).data.toList=A3->((L.take (k+1)).all λx=>V.Ru x.data.toList)=A3):=by intro AP;rw[V.getD_at _ _ hlt]at AP;rw[dA hlt,mU,H.out];simp[AP]
    generalize L.getD k B8=x at c0 h I K;cases Q:V.Ru x.data.toList;·go_wp2_with(go_at_call 354;refine(a8M _ _ (by have:=h.out;unfold BH;omega)).mono ?_;rintro e w'⟨rfl,rfl⟩);go_ret;exact⟨Eb (by rw[b.out,I.out Q]),y.out⟩
    go_wp2_with(go_at_call 354;refine(a8M _ _ (by have:=h.out;unfold BH;omega)).mono ?_;rintro e w'⟨rfl,rfl⟩);go_round;case rel=>exact⟨k+1,by omega,by go_num,A5 (K.out Q)⟩
    case measure=>simp[BJ];omega
   go_wp2;go_ret;exact⟨Eb (by rw[b.out,<-H.out,XX (by omega)]),y.out⟩
 have CN:(s.size:Int)>60:=by omega
 have b:AL (V.path s.data.toList=A9):=by refine A5 ?_;rw[N.out,decide_eq_false (by omega)];rfl
 go_enter Tryz.func275,Tryz.ntmps275;go_wp2;go_ret;exact⟨Eb b.out.symm,BF _ _⟩
def aTv(s:zz)(m:Int)(w:A0)(hs:s.size<=281474976710656)(y:w.cell? ⟨0,0,Z⟩=Y (A7 A8 m))(hv:V.path s.data.toList=A3):Ai A6 196 #[J s] w λe w'=>e=AZ (Ad Z)/\AX w.heap.size w w':=by go_enter Tryz.func196,Tryz.ntmps196;go_wp2_with fail;refine(a8L s m _ hs y).mono ?_;rintro e z⟨rfl,b⟩;have h:=A5 b;clear b;rw[hv];go_wp2;go_ret;exact⟨rfl,h.out⟩
def KF(B:Nat)(w:A0)(v:A1):Option (Int×Int×zz×zz)->Prop|Z=>v=Ad Z|Y (k,n,p,q)=>∃b,B<=b/\v=Ad (Y ⟨b,0,Z⟩)/\w.heap[b]?=Y (AF #[A7 A8 k,A7 A8 n,J p,J q] 150 (0,0))
def KF.mono{B':Nat}{f:Option (Int×Int×zz×zz)}(h:KF B w v f)(y:B'<=B):KF B' w v f:=by cases f with|none=>exact h|some x=>obtain⟨b,s,h2⟩:=h;exact⟨b,by omega,h2⟩
def pt(s:zz)(m:Int)(w:A0)(hs:s.size<=281474976710656)(z:w.cell? ⟨0,0,Z⟩=Y (A7 A8 m)):Ai A6 196 #[J s] w λe w'=>∃v,e=AZ v/\KF w.heap.size w' v (V.M4 s)/\AX w.heap.size w w':=by
 cases hv:V.path s.data.toList;·have I:AL (V.M4 s=Y (3,0,s,⟨#[]⟩)):=A5 (by unfold V.M4;rw[hv];rfl);go_enter Tryz.func196,Tryz.ntmps196;go_wp2_with fail;refine(a8L s m _ hs z).mono ?_;rintro e K⟨rfl,b⟩;have h:=A5 b;clear b;rw[hv];go_wp2_with fail;refine(n' s _ hs).mono ?_;rintro e H⟨rfl,b⟩;have y:=A5 b;clear b;go_wp2;go_ret;refine⟨_,rfl,?_,(h.out.trans (y.out.mono h.out.size)).alloc (by have:=h.out.size;have:=y.out.size;omega) _⟩;rw[I.out];exact⟨H.heap.size,G3 h.out.size y.out.size,rfl,Pz H _⟩
 refine(aTv s m w hs z hv).mono ?_;rintro e K⟨rfl,b⟩;exact⟨_,rfl,by unfold V.M4;rw[hv];rfl,b⟩
def aYj(s:zz)(m:Int)(w:A0)(hs:s.size<=281474976710656)(z:w.cell? ⟨0,0,Z⟩=Y (A7 A8 m)):Ai A6 43 #[J s] w λe w'=>∃v,e=AZ v/\KF w.heap.size w' v (V.Sm s)/\AX w.heap.size w w':=by
 cases hv:V.AY s.data.toList;·have I:AL (V.Sm s=Y (2,0,⟨#[]⟩,s)):=A5 (by unfold V.Sm;rw[hv];rfl);go_enter Tryz.func43,Tryz.ntmps43;go_wp2_with fail;refine(a8P s m _ (by unfold BH;omega) z).mono ?_;rintro e K⟨rfl,b⟩;have h:=A5 b;clear b;rw[hv];go_wp2_with fail;refine(n' s _ hs).mono ?_;rintro e H⟨rfl,b⟩;have y:=A5 b;clear b;go_wp2;go_ret;refine⟨_,rfl,?_,(h.out.trans (y.out.mono h.out.size)).alloc (by have:=h.out.size;have:=y.out.size;omega) _⟩;rw[I.out];exact⟨H.heap.size,G3 h.out.size y.out.size,rfl,Pz H _⟩
 refine(u0 s m w (by unfold BH;omega) z hv).mono ?_;rintro e K⟨rfl,b⟩;exact⟨_,rfl,by unfold V.Sm;rw[hv];rfl,b⟩
def xt(p v:zz)(m:Int)(w:A0)(N:p.size<=281474976710656)(hv:v.size<=281474976710656)(I:w.cell? ⟨0,0,Z⟩=Y (A7 A8 m)):Ai A6 123 #[A_ #[J p,J v]] w λe w'=>∃r,e=AZ r/\KF w.heap.size w' r (V.JN p v)/\AX w.heap.size w w':=by cases y:V.M4 p with|none=>have z:AL (V.JN p v=V.Sm v):=A5 (by unfold V.JN;rw[y]);go_enter Tryz.func123,Tryz.ntmps123;go_wp2_with fail;refine(pt p m _ N (BL I _)).mono ?_;rintro e Q⟨r,rfl,b,h⟩;rw[y]at b;obtain rfl:r=Ad Z:=b;have j:Q.cell? ⟨w.heap.size,1,Z⟩=Y (J v):=Am h (by simp);have d:=Am h (BL I _);have s:=A5 (((BF _ w).alloc (Ae _) _).trans (h.mono (by simp)));clear h;go_wp2_with fail;refine(aYj v m _ hv d).mono ?_;rintro e w2⟨r,rfl,b,M⟩;have H:=A5 b;have U:=A5 M;clear b M;go_wp2;go_ret;exact⟨r,rfl,by rw[z.out];exact H.out.mono s.out.size,s.out.trans (U.out.mono s.out.size)⟩|some f=>have z:AL (V.JN p v=Y f):=A5 (by unfold V.JN;rw[y]);obtain⟨k,n,u,A⟩:=f;go_enter Tryz.func123,Tryz.ntmps123;go_wp2_with fail;refine(pt p m _ N (BL I _)).mono ?_;rintro e Q⟨r,rfl,b,h⟩;rw[y]at b;obtain⟨bb,K,rfl,h3⟩:=b;have s:=A5 (((BF _ w).alloc (Ae _) _).trans (h.mono (by simp)));have H:=A5 h3;have i:AL (w.heap.size<=bb):=A5 (by simp at K;omega);clear h K h3;go_wp2;go_ret;exact⟨_,rfl,by rw[z.out];exact⟨bb,i.out,rfl,H.out⟩,s.out⟩
def mz(p v:zz)(m:Int)(w:A0)(H:p.size<=281474976710656)(hv:v.size<=281474976710656)(z:w.cell? ⟨0,0,Z⟩=Y (A7 A8 m)):Ai A6 254 #[J p,J v] w λe w'=>∃r,e=AZ r/\KF w.heap.size w' r (V.JN p v)/\AX w.heap.size w w':=by go_enter Tryz.func254,Tryz.ntmps254;go_wp2_with fail;refine(xt p v m _ H hv z).mono ?_;rintro e I⟨r,rfl,h,b⟩;have y:=A5 h;have s:=A5 b;clear h b;go_wp2;go_ret;exact⟨r,rfl,y.out,s.out⟩
def a3P(v:A1)(w:A0):(Pq (EL 221 v) 179 221 A3).run A6 w=Ac (Ay #[v,Af A3]) w:=by kernel_rfl
def a3Q(v:A1)(w:A0):(Pq (EL 222 v) 179 221 A3).run A6 w=Ac (Ay #[A_ #[J ⟨#[]⟩,J ⟨#[]⟩],Af A9]) w:=by kernel_rfl
def a3R(v:A1)(w:A0):(Pq (EL 222 v) 179 222 A3).run A6 w=Ac (Ay #[v,Af A3]) w:=by kernel_rfl
def a3S(v:A1)(w:A0):(Pq (EL 224 v) 179 221 A3).run A6 w=Ac (Ay #[A_ #[J ⟨#[]⟩,J ⟨#[]⟩],Af A9]) w:=by kernel_rfl
def a3T(v:A1)(w:A0):(Pq (EL 224 v) 179 222 A3).run A6 w=Ac (Ay #[A_ #[J ⟨#[]⟩,J ⟨#[]⟩],Af A9]) w:=by kernel_rfl
def a3U(v:A1)(w:A0):(Pq (EL 224 v) 179 224 A3).run A6 w=Ac (Ay #[v,Af A3]) w:=by kernel_rfl
def a4'(a b c d:zz)(m:Int)(w:A0)(I:a.size<=281474976710656)(M:b.size<=281474976710656)(K:w.cell? ⟨0,0,Z⟩=Y (A7 A8 m)):Ai A6 255 #[A_ #[J a,J b,J c,J d]] w λe w'=>∃r,e=AZ r/\KF w.heap.size w' r (V.UM a b)/\AX w.heap.size w w':=by
 cases he:b.toList==[];·have z:AL (V.UM a b=V.JN a b):=A5 (by unfold V.UM;rw[he];rfl);go_enter Tryz.func255,Tryz.ntmps255;go_wp2_with fail;refine(mz a b m _ I M (BL K _)).mono ?_;rintro e N⟨r,rfl,s,h⟩;have H:=A5 (s.mono (B':=w.heap.size) (by simp));have y:=A5 (((BF _ w).alloc (Ae _) _).trans (h.mono (by simp)));clear s h;go_wp2;go_ret;exact⟨r,rfl,by rw[z.out];exact H.out,y.out⟩
 have z:AL (V.UM a b=V.M4 a):=A5 (by unfold V.UM;rw[he];rfl);go_enter Tryz.func255,Tryz.ntmps255;go_wp2_with fail;refine(pt a m _ I (BL K _)).mono ?_;rintro e N⟨r,rfl,s,h⟩;have H:=A5 (s.mono (B':=w.heap.size) (by simp));have y:=A5 (((BF _ w).alloc (Ae _) _).trans (h.mono (by simp)));clear s h;go_wp2;go_ret;exact⟨r,rfl,by rw[z.out];exact H.out,y.out⟩
def aZA(a:zz)(m:Int)(w:A0)(z:a.size<=281474976710656)(H:w.cell? ⟨0,0,Z⟩=Y (A7 A8 m)):Ai A6 180 #[EL 123 (A_ #[J a])] w λe w'=>∃r,e=AZ r/\KF w.heap.size w' r (V.M4 a)/\AX w.heap.size w w':=by have I:=mo;go_enter Tryz.func180,Tryz.ntmps180;go_wp2_with fail;refine(pt a m _ z (BL H _)).mono ?_;rintro e K⟨r,rfl,h,b⟩;have y:=A5 (h.mono (B':=w.heap.size) (by simp));have s:=A5 (((BF _ w).alloc (Ae _) _).trans (b.mono (by simp)));clear h b;go_wp2;go_ret;exact⟨r,rfl,y.out,s.out⟩
def aZB(a b:zz)(m:Int)(w:A0)(H:a.size<=281474976710656)(I:b.size<=281474976710656)(K:w.cell? ⟨0,0,Z⟩=Y (A7 A8 m)):Ai A6 180 #[EL 221 (A_ #[J a,J b])] w λe w'=>∃r,e=AZ r/\KF w.heap.size w' r (V.JN a b)/\AX w.heap.size w w':=by have M:=mq;have h2:=a3P;go_enter Tryz.func180,Tryz.ntmps180;go_wp2_with fail;refine(mz a b m _ H I (BL K _)).mono ?_;rintro e N⟨r,rfl,s,h⟩;have z:=A5 (s.mono (B':=w.heap.size) (by simp));have y:=A5 (((BF _ w).alloc (Ae _) _).trans (h.mono (by simp)));clear s h;go_wp2;go_ret;exact⟨r,rfl,z.out,y.out⟩
def aZC(a b:zz)(m:Int)(w:A0)(H:a.size<=281474976710656)(I:b.size<=281474976710656)(K:w.cell? ⟨0,0,Z⟩=Y (A7 A8 m)):Ai A6 180 #[EL 222 (A_ #[J a,J b])] w λe w'=>∃r,e=AZ r/\KF w.heap.size w' r (V.JN a b)/\AX w.heap.size w w':=by have M:=tu;have h2:=a3Q;have h3:=a3R;go_enter Tryz.func180,Tryz.ntmps180;go_wp2_with fail;refine(mz a b m _ H I (BL K _)).mono ?_;rintro e N⟨r,rfl,s,h⟩;have z:=A5 (s.mono (B':=w.heap.size) (by simp));have y:=A5 (((BF _ w).alloc (Ae _) _).trans (h.mono (by simp)));clear s h;go_wp2;go_ret;exact⟨r,rfl,z.out,y.out⟩
def aZD(a b c d:zz)(m:Int)(w:A0)(U:a.size<=281474976710656)(hb:b.size<=281474976710656)(hc:c.size<=281474976710656)(AS:d.size<=281474976710656)(K:w.cell? ⟨0,0,Z⟩=Y (A7 A8 m)):Ai A6 180 #[EL 224 (A_ #[J a,J b,J c,J d])] w λe w'=>∃r,e=AZ r/\KF w.heap.size w' r (V.Xn a b c d)/\AX w.heap.size w w':=by have h1:=tv;have h2:=a3S;have h3:=a3T;have h4:=a3U;cases z:V.UM a b with|none=>have H:AL (V.Xn a b c d=V.JN c d):=A5 (by unfold V.Xn;rw[z]);go_enter Tryz.func180,Tryz.ntmps180;go_wp2_with fail;refine(a4' a b c d m _ U hb (BL K _)).mono ?_;rintro e M⟨r,rfl,s,h⟩;rw[z]at s;obtain rfl:r=Ad Z:=s;have D:M.cell? ⟨w.heap.size,2,Z⟩=Y (J c):=Am h (by simp);have E:M.cell? ⟨w.heap.size,3,Z⟩=Y (J d):=Am h (by simp);have j:=Am h (BL K _);have y:=A5 (((BF _ w).alloc (Ae _) _).trans (h.mono (by simp)));clear h;go_wp2_with fail;refine(mz c d m _ hc AS j).mono ?_;rintro e w2⟨r,rfl,s,i⟩;have I:=A5 (s.mono y.out.size);have u:=A5 (y.out.trans (i.mono y.out.size));clear s i;go_wp2;go_ret;exact⟨r,rfl,by rw[H.out];exact I.out,u.out⟩|some f=>have H:AL (V.Xn a b c d=Y f):=A5 (by unfold V.Xn;rw[z]);obtain⟨k,n,F,S⟩:=f;go_enter Tryz.func180,Tryz.ntmps180;go_wp2_with fail;refine(a4' a b c d m _ U hb (BL K _)).mono ?_;rintro e M⟨r,rfl,s,h⟩;rw[z]at s;obtain⟨bb,N,rfl,Q⟩:=s;have y:=A5 (((BF _ w).alloc (Ae _) _).trans (h.mono (by simp)));have I:=A5 Q;have A:AL (w.heap.size<=bb):=A5 (by simp at N;omega);clear h Q N;go_wp2;go_ret;exact⟨_,rfl,by rw[H.out];exact⟨bb,A.out,rfl,I.out⟩,y.out⟩
def aIs(n t:Nat)(fs:List zz)(m:Int)(w:A0)(hx:V.RB (n,t,fs))(hs:∀a∈fs,a.size<=281474976710656)(s:w.cell? ⟨0,0,Z⟩=Y (A7 A8 m)):Ai A6 180 #[EL t (A_ (fs.map J).toArray)] w λe w'=>∃r,e=AZ r/\KF w.heap.size w' r (V.da t fs)/\AX w.heap.size w w':=by
 rcases hx with⟨h,a,h2⟩|⟨h,a,b,h2⟩|⟨h,a,b,h2⟩|⟨h,a,b,c,d,h2⟩;·simp only at h h2;subst h h2;exact aZA a m w (hs a (by simp)) s
 ·simp only at h h2;subst h h2;exact aZB a b m w (hs a (by simp)) (hs b (by simp)) s
 ·simp only at h h2;subst h h2;exact aZC a b m w (hs a (by simp)) (hs b (by simp)) s
 simp only at h h2;subst h h2;exact aZD a b c d m w (hs a (by simp)) (hs b (by simp)) (hs c (by simp)) (hs d (by simp)) s
def Ls(p:Int×zz×zz):A1:=A_ #[A7 A8 p.1,J p.2.1,J p.2.2]
def aUF(n t:Nat)(fs:List zz)(w:A0)(hx:V.RB (n,t,fs)):Ai A6 100 #[EL t (A_ (fs.map J).toArray)] w λe w'=>e=AZ (Ls (V.place t fs))/\AX w.heap.size w w'/\w.drawn<=w'.drawn:=by
 rcases hx with⟨h,a,h2⟩|⟨h,a,b,h2⟩|⟨h,a,b,h2⟩|⟨h,a,b,c,d,h2⟩;·simp only at h h2;subst h h2;have s:=mo;go_enter Tryz.func100,Tryz.ntmps100;go_wp2;refine Md (v:=A_ #[A7 A8 0,J a,J ⟨#[]⟩]) (by simp[D_,s7,go_sem]) rfl ⟨rfl,?_,Ae _⟩;exact((BF _ _).alloc (Ae _) _).alloc (by simp) _
 ·simp only at h h2;subst h h2;have s:=mq;have y:=a3P;go_enter Tryz.func100,Tryz.ntmps100;go_wp2;refine Md (v:=A_ #[A7 A8 1,J a,J ⟨#[]⟩]) (by simp[D_,s7,go_sem]) rfl ⟨rfl,?_,Ae _⟩;exact((BF _ _).alloc (Ae _) _).alloc (by simp) _
 ·simp only at h h2;subst h h2;have s:=tu;have y:=a3Q;have hc:=a3R;go_enter Tryz.func100,Tryz.ntmps100;go_wp2;refine Md (v:=A_ #[A7 A8 2,J a,J b]) (by simp[D_,s7,go_sem]) rfl ⟨rfl,?_,Ae _⟩;exact((BF _ _).alloc (Ae _) _).alloc (by simp) _
 simp only at h h2;subst h h2;have s:=tv;have y:=a3S;have hc:=a3T;have z:=a3U;go_enter Tryz.func100,Tryz.ntmps100;go_wp2;refine Md (v:=A_ #[A7 A8 3,J a,J b]) (by simp[D_,s7,go_sem]) rfl ⟨rfl,?_,Ae _⟩;exact((BF _ _).alloc (Ae _) _).alloc (by simp) _
def aHu:A6.keyTypeAt 3 184=A3:=by kernel_rfl
def aY7:A6.tiled 3 184=A3:=by kernel_rfl
def a8d:aFP A6 184:=deep_law (m:=3) (by omega) aHu aY7 (by rw[s9])
def aQE:A6.keyType 184=A3:=by kernel_rfl
def a3v:A6.cellsOf 184=3:=by kernel_rfl
def aLL(a b c:A1):(A_ #[a,b,c]).formed A6 184=A3:=by simp[aFM,s9,a3v]
def V.U5(p:Int×zz×zz):Prop:=(lD A8 p.1).wf=A3/\p.2.1.size<=BH/\p.2.2.size<=BH
def aIo:A6.cellsOf 182=1:=by kernel_rfl
def a3u:A6.cellsOf 9=1:=by kernel_rfl
def size_pos:0<A6.types.size:=of_decide_eq_true (by kernel_rfl)
def xY(p:Int×zz×zz)(h:V.U5 p):∃l,sT A6 184 (Ls p)=Y l:=by
 obtain⟨y,h2,h3⟩:=h;have b:∃s,A6.keyLits (A6.types.size+1) 184 [A7 A8 p.1,J p.2.1,J p.2.2]=Y s:=by obtain⟨d,z⟩:∃d,A6.types.size=d+1:=⟨A6.types.size-1,by have:=size_pos;omega⟩;rw[z];simp only[aEC,s9,a3v];simp[Tryz.underlying182,LI,aIo,a3u,y,h2,h3]
 obtain⟨s,b⟩:=b;refine⟨.string (keyBytes s),?_⟩;unfold sT Ls;rw[s9];simp only[aQE,aLL,aCv,if_true];show(A6.keyLits (A6.types.size+1) 184 [A7 A8 p.1,J p.2.1,J p.2.2]).map _=_;rw[b];rfl
def aUG{p q:Int×zz×zz}(h:Ls p=Ls q):p=q:=by obtain⟨a,b,c⟩:=p;obtain⟨x,y,z⟩:=q;simp[Ls]at h;obtain⟨rfl,rfl,rfl⟩:=h;rfl
def N4(l:List ((Int×zz×zz)×Nat)):Array G1:=(l.zipIdx.map λx=>({key:=Ls x.1.1,val:=A7 A8 (x.1.2:Int),born:=x.2}:G1)).toArray
def a3Z{a:A0}(h:AX B a w)(s:B<=k)(o:Df):AX B a {w with heap:=w.heap.setIfInBounds k o}:=⟨h.os,h.tape,h.output,by simpa using h.size,λj b=>by rw[<-h.block j b];show(w.heap.setIfInBounds k o)[j]?=w.heap[j]?;rw[Array.getElem?_setIfInBounds_ne (by omega)]⟩
def a8E:(A6.info? 179).map (λi=>(i.zero,i.size,i.bytes))=Y (Y DS,1,16):=by kernel_rfl
def aCA{l:List ((Int×zz×zz)×Nat)}{e:G1}(h:e∈(N4 l).toList):∃x∈l,e.key=Ls x.1/\e.val=A7 A8 (x.2:Int):=by unfold N4 at h;rw[XY]at h;obtain⟨x,hx,rfl⟩:=List.mem_map.1 h;exact⟨x.1,(aH6 hx).2▸DU _,rfl,rfl⟩
def aXz{l:List ((Int×zz×zz)×Nat)}{x:(Int×zz×zz)×Nat}(h:x∈l):∃e∈(N4 l).toList,e.key=Ls x.1:=by unfold N4;rw[XY];obtain⟨k,b,rfl⟩:=List.mem_iff_getElem.1 h;exact⟨_,List.mem_map.2 ⟨(l[k],k),by rw[List.mem_zipIdx_iff_getElem?];exact K1 b,rfl⟩,rfl⟩
def aY'(l:List ((Int×zz×zz)×Nat))(p:Int×zz×zz)(n:Nat):N4 (l++[(p,n)])=(N4 l).push {key:=Ls p,val:=A7 A8 (n:Int),born:=l.length}:=by unfold N4;rw[aHD,U7];simp
def a57(l:List ((Int×zz×zz)×Nat))(p:Int×zz×zz)(w:A0)(z:V.U5 p)(s:∀x∈l,V.U5 x.1):((ZH 184 (Ls p) (N4 l).toList).run A6 w=Ac Z w/\∀x∈l,x.1≠p)∨∃x∈l,x.1=p/\∃j,(ZH 184 (Ls p) (N4 l).toList).run A6 w=Ac (Y (j,A7 A8 (x.2:Int))) w:=by
 obtain⟨I,y⟩:=xY p z;rcases a8d.find w y (N4 l).toList λe he=>by obtain⟨x,hx,b,_⟩:=aCA he;rw[b];exact xY _ (s x hx)with⟨h,h2⟩|⟨j,e,h,h2,h3⟩;·refine AD ⟨h,λx hx H=>?_⟩;obtain⟨e,he,b⟩:=aXz hx;exact h2 e he (by rw[b,H])
 obtain⟨x,hx,b,hv⟩:=aCA (U8 h2);refine AJ ⟨x,hx,aUG (b.symm.trans h3),j,?_⟩;rw[h,hv]
def u'(p:Int×zz×zz)(h:V.U5 p)(e:Bool)(w:A0):(l3 e 10000 184 (Ls p)).run A6 w=Ac () w:=by obtain⟨s,b⟩:=xY p h;exact a8d.check w e b
def aRH(r c:Nat)(l:List ((Int×zz×zz)×Nat))(p:Int×zz×zz)(w:A0)(h:V.U5 p)(y:∀x∈l,V.U5 x.1)(s:w.heap[r]?=Y (DM (N4 l) c)):((Ix 299 (Ah (Y r)) (Ls p) A9).run A6 w=Ac (A7 A8 0) w/\∀x∈l,x.1≠p)∨∃x∈l,x.1=p/\(Ix 299 (Ah (Y r)) (Ls p) A9).run A6 w=Ac (A7 A8 (x.2:Int)) w:=by
 rcases a57 l p w h y with⟨b,h2⟩|⟨x,hx,z,j,b⟩;·refine AD ⟨?_,h2⟩;simp[Ix,Q' a0j,SJ s,u' p h,b,Ly]
 refine AJ ⟨x,hx,z,?_⟩;simp[Ix,Q' a0j,SJ s,u' p h,b,Ly]
def aUS(r:Nat)(l:List ((Int×zz×zz)×Nat))(p:Int×zz×zz)(n:Nat)(w:A0)(s:V.U5 p)(y:∀x∈l,V.U5 x.1)(hn:∀x∈l,x.1≠p)(h:w.heap[r]?=Y (DM (N4 l) l.length)):(cK 299 (Ah (Y r)) (Ls p) (A7 A8 (n:Int))).run A6 w=Ac () {w with heap:=w.heap.setIfInBounds r (DM (N4 (l++[(p,n)])) (l.length+1))}:=by
 rcases a57 l p w s y with⟨b,h2⟩|⟨x,hx,z,j,b⟩;·rw[aY'];simp[cK,Q' a0j,SJ h,u' p s,b,lE _ h,Ly]
 exact absurd z (hn x hx)
def aHv:A6.keyTypeAt 3 85=A3:=by kernel_rfl
def aY8:A6.tiled 3 85=A3:=by kernel_rfl
def xe:aFP A6 85:=deep_law (m:=3) (by omega) aHv aY8 (by rw[X6])
def aQF:A6.keyType 85=A3:=by kernel_rfl
def a3w:A6.cellsOf 85=2:=by kernel_rfl
def aLM(a b:A1):(A_ #[a,b]).formed A6 85=A3:=by simp[aFM,X6,a3w]
abbrev Az:=zz×zz
def HH(p:Az):A1:=A_ #[J p.1,J p.2]
def Ft(p:Az):Prop:=p.1.size<=BH/\p.2.size<=BH
def om(p:Az)(h:Ft p):∃l,sT A6 85 (HH p)=Y l:=by
 obtain⟨y,h2⟩:=h;have b:∃s,A6.keyLits (A6.types.size+1) 85 [J p.1,J p.2]=Y s:=by obtain⟨d,z⟩:∃d,A6.types.size=d+1:=⟨A6.types.size-1,by have:=size_pos;omega⟩;rw[z];simp only[aEC,X6,a3w];simp[LI,a3u,y,h2]
 obtain⟨s,b⟩:=b;refine⟨.string (keyBytes s),?_⟩;unfold sT HH;rw[X6];simp only[aQF,aLM,aCv,if_true];show(A6.keyLits (A6.types.size+1) 85 [J p.1,J p.2]).map _=_;rw[b];rfl
def aSK{p q:Az}(h:HH p=HH q):p=q:=by obtain⟨a,b⟩:=p;obtain⟨x,y⟩:=q;simp[HH]at h;obtain⟨rfl,rfl⟩:=h;rfl
def Xj(p:Az)(h:Ft p)(e:Bool)(w:A0):(l3 e 10000 85 (HH p)).run A6 w=Ac () w:=by obtain⟨s,b⟩:=om p h;exact xe.check w e b
def EY(l:List (Az×Nat)):Array G1:=(l.zipIdx.map λx=>({key:=HH x.1.1,val:=A7 A8 (x.1.2:Int),born:=x.2}:G1)).toArray
def a9R{l:List (Az×Nat)}{e:G1}(h:e∈(EY l).toList):∃x∈l,e.key=HH x.1/\e.val=A7 A8 (x.2:Int):=by unfold EY at h;rw[XY]at h;obtain⟨x,hx,rfl⟩:=List.mem_map.1 h;exact⟨x.1,(aH6 hx).2▸DU _,rfl,rfl⟩
def jg(l:List (Az×Nat)):(EY l).size=l.length:=by simp[EY]
def bL{l:List (Az×Nat)}(j:Nat)(b:j<l.length):(EY l)[j]?=Y {key:=HH l[j].1,val:=A7 A8 (l[j].2:Int),born:=j}:=by unfold EY;rw[VY,XU,List.getElem?_zipIdx,K1 b];simp
def a9S(l:List (Az×Nat))(p:Az)(n:Nat):EY (l++[(p,n)])=(EY l).push {key:=HH p,val:=A7 A8 (n:Int),born:=l.length}:=by unfold EY;rw[aHD,U7];simp
def db(l:List (Az×Nat))(p:Az)(w:A0)(H:Ft p)(y:∀x∈l,Ft x.1):((ZH 85 (HH p) (EY l).toList).run A6 w=Ac Z w/\∀x∈l,x.1≠p)∨∃j,∃b:j<l.length,l[j].1=p/\(ZH 85 (HH p) (EY l).toList).run A6 w=Ac (Y (j,A7 A8 (l[j].2:Int))) w:=by
 obtain⟨K,z⟩:=om p H;rcases xe.find w z (EY l).toList λe he=>by obtain⟨x,hx,s,_⟩:=a9R he;rw[s];exact om _ (y x hx)with⟨h,h2⟩|⟨j,e,h,h2,h3⟩;·refine AD ⟨h,λx hx I=>?_⟩;obtain⟨j,b,rfl⟩:=List.mem_iff_getElem.1 hx;have h4:=bL (l:=l) j b;rw[<-Oi]at h4;exact h2 _ (U8 h4) (by rw[I])
 have b:j<l.length:=by have:=(List.getElem?_eq_some_iff.1 h2).1;rw[Nq,jg]at this;exact this
 have h4:=bL (l:=l) j b;rw[<-Oi,h2]at h4;injection h4 with h4;subst h4;exact AJ ⟨j,b,aSK h3,h⟩
def xi(r c:Nat)(l:List (Az×Nat))(p:Az)(w:A0)(h:Ft p)(H:∀x∈l,Ft x.1)(s:w.heap[r]?=Y (DM (EY l) c)):((Ix 131 (Ah (Y r)) (HH p) A9).run A6 w=Ac (A7 A8 0) w/\∀x∈l,x.1≠p)∨∃x∈l,x.1=p/\(Ix 131 (Ah (Y r)) (HH p) A9).run A6 w=Ac (A7 A8 (x.2:Int)) w:=by
 rcases db l p w h H with⟨b,h2⟩|⟨j,y,z,b⟩;·refine AD ⟨?_,h2⟩;simp[Ix,Q' ZQ,SJ s,Xj p h,b,Ly]
 refine AJ ⟨l[j],DU y,z,?_⟩;simp[Ix,Q' ZQ,SJ s,Xj p h,b,Ly]
def a8r(r c:Nat)(l:List (Az×Nat))(p:Az)(w:A0)(h:Ft p)(H:∀x∈l,Ft x.1)(s:w.heap[r]?=Y (DM (EY l) c)):((Ix 131 (Ah (Y r)) (HH p) A3).run A6 w=Ac (Ay #[A7 A8 0,Af A9]) w/\∀x∈l,x.1≠p)∨∃x∈l,x.1=p/\(Ix 131 (Ah (Y r)) (HH p) A3).run A6 w=Ac (Ay #[A7 A8 (x.2:Int),Af A3]) w:=by
 rcases db l p w h H with⟨b,h2⟩|⟨j,y,z,b⟩;·refine AD ⟨?_,h2⟩;simp[Ix,Q' ZQ,SJ s,Xj p h,b,Ly]
 refine AJ ⟨l[j],DU y,z,?_⟩;simp[Ix,Q' ZQ,SJ s,Xj p h,b,Ly]
def aUR(r:Nat)(l:List (Az×Nat))(p:Az)(n:Nat)(w:A0)(s:Ft p)(H:∀x∈l,Ft x.1)(hn:∀x∈l,x.1≠p)(h:w.heap[r]?=Y (DM (EY l) l.length)):(cK 131 (Ah (Y r)) (HH p) (A7 A8 (n:Int))).run A6 w=Ac () {w with heap:=w.heap.setIfInBounds r (DM (EY (l++[(p,n)])) (l.length+1))}:=by
 rcases db l p w s H with⟨b,_⟩|⟨j,y,z,b⟩;·rw[a9S];simp[cK,Q' ZQ,SJ h,Xj p s,b,lE _ h,Ly]
 exact absurd z (hn _ (DU y))
def aRG(r c:Nat)(p:Az)(w:A0)(s:Ft p)(b:w.heap[r]?=Y (DM #[] c)):(Ix 131 (Ah (Y r)) (HH p) A9).run A6 w=Ac (A7 A8 0) w:=by
 rcases xi r c [] p w s (λx hx=>absurd hx He) b with⟨h,_⟩|⟨x,hx,_⟩;·exact h
 cases hx
def a8s(r c:Nat)(p:Az)(w:A0)(h:Ft p)(s:w.heap[r]?=Y (DM #[] c)):(Ix 132 (Ah (Y r)) (HH p) A3).run A6 w=Ac (Ay #[A_ #[J ⟨#[]⟩,J ⟨#[]⟩],Af A9]) w:=by
 rcases db [] p w h λx hx=>absurd hx He with⟨b,_⟩|⟨j,y,_⟩;·have b:(ZH 85 (HH p) []).run A6 w=Ac Z w:=b;simp[Ix,Q' Tryz.underlying132,SJ s,Xj p h,b,Ly]
 cases y
def dH(w:A0)(b:Nat)(l:List (Nat×Nat×List zz)):Prop:=∀j(h:j<l.length),w.cell? ⟨b,j*2,Z⟩=Y (A7 A8 (l[j].1:Int))/\w.cell? ⟨b,j*2+1,Z⟩=Y (EL l[j].2.1 (A_ (l[j].2.2.map J).toArray))
def V.fY(x:Nat×Nat×List zz):Prop:=V.RB x/\x.1≠0/\∀a∈x.2.2,a.size<=281474976710656
def V.fY.aQG(h:V.fY x):V.U5 (V.place x.2.1 x.2.2):=by
 obtain⟨hx,_,hs⟩:=h;obtain⟨n,t,z⟩:=x;have y:(⟨#[]⟩:zz).size<=BH:=by decide
 rcases hx with⟨s,a,h2⟩|⟨s,a,b,h2⟩|⟨s,a,b,h2⟩|⟨s,a,b,c,d,h2⟩;all_goals simp only at s h2;subst s h2
 ·exact⟨by show(lD A8 0).wf=A3;decide,by have:=hs a (by simp);show a.size<=BH;unfold BH;omega,y⟩
 ·exact⟨by show(lD A8 1).wf=A3;decide,by have:=hs a (by simp);show a.size<=BH;unfold BH;omega,y⟩
 ·exact⟨by show(lD A8 2).wf=A3;decide,by have:=hs a (by simp);show a.size<=BH;unfold BH;omega,by have:=hs b (by simp);show b.size<=BH;unfold BH;omega⟩
 exact⟨by show(lD A8 3).wf=A3;decide,by have:=hs a (by simp);show a.size<=BH;unfold BH;omega,by have:=hs b (by simp);show b.size<=BH;unfold BH;omega⟩
def a'1(l:List (Nat×Nat×List zz))(w:A0)(k:Nat)(wr:A0):Prop:=∃seen:List ((Int×zz×zz)×Nat),wr.heap[w.heap.size]?=Y (DM (N4 seen) seen.length)/\(∀y∈seen,V.U5 y.1/\y.2≠0)/\AX w.heap.size w wr/\V.KS l []=V.KS (l.drop k) seen
def aIt(C3 c:Nat)(m:Int)(l:List (Nat×Nat×List zz))(w:A0)(hm:w.cell? ⟨0,0,Z⟩=Y (A7 A8 m))(AE:l.length<=1000000000000)(AP:dH w C3 l)(AK:∀x∈l,V.fY x):Ai A6 93 #[A4 (Y ⟨C3,0,Z⟩) l.length c] w λe w'=>∃r,e=AZ r/\KF w.heap.size w' r (V.KS l [])/\AX w.heap.size w w':=by
 have j4:=@aFE A6;have CY:=A5 AP;have FV:=A5 AK;clear AP AK;go_enter Tryz.func93,Tryz.ntmps93;go_wp2;go_loopw[11]λi wr=>∃k:Nat,k<=l.length/\i=A7 A8 k/\AL (a'1 l w k wr)(λi _=>l.length-(BJ i).toNat);case atStart=>exact⟨0,by omega,rfl,A5 ⟨[],Pz w _,λy hy=>absurd hy (He),(BF _ _).alloc (Ae _) _,by rw[aGq]⟩⟩
 case round=>
  obtain⟨k,hk,rfl,H⟩:=hrel;obtain⟨seen,W5,d,hb,m0⟩:=H.out;have mK:=A5 W5;have S:=A5 d;have j:=A5 hb;have Z_:=A5 m0;have u:w.heap.size<wr.heap.size:=(Array.getElem?_eq_some_iff.1 W5).1;clear H W5 d hb m0;by_cases hlt:k<l.length
  ·have c0:=Am j.out (CY.out k hlt).1;have c1:=Am j.out (CY.out k hlt).2;have cp:=A5 (FV.out l[k] (DU hlt));have GP:AL (l.drop k=l[k]::l.drop (k+1)):=A5 (mW hlt);have aaL:C3<wr.heap.size:=FA (h:=c0);generalize l[k]=x at c0 c1 cp GP;obtain⟨n,t,N⟩:=x;simp only at c0 c1;go_wp2_with fail;refine(aIs n t N m _ cp.out.1 cp.out.2.2 (BL (Am j.out hm) _)).mono ?_;rintro e Q⟨r,rfl,A2,U⟩;have N1:Q.cell? ⟨wr.heap.size,0,Z⟩=Y (A7 A8 (n:Int)):=Am U (by simp);have JX:Q.cell? ⟨wr.heap.size,1,Z⟩=Y (EL t (A_ (N.map J).toArray)):=Am U (by simp);have GV:wr.heap.size+1<=Q.heap.size:=by have:=U.size;simpa using this
   have aGA:AL (Q.heap[w.heap.size]?=Y (DM (N4 seen) seen.length)):=by refine A5 ?_;rw[U.block w.heap.size (by simp;omega),aFD _ _ _ u];exact mK.out
   have C6:=A5 ((j.out.alloc (a2i u) _).trans (U.mono (by simp;omega)));clear U c0 c1;cases A:V.da t N with
   |some f=>
    obtain⟨aLE,fn,nO,nP⟩:=f;have M:AL (V.KS l []=Y (aLE,(n:Int),nO,nP)):=by refine A5 ?_;rw[Z_.out,GP.out,V.KS];simp only[A]
    rw[A]at A2;obtain⟨b,FZ,rfl,X⟩:=A2;have d1:Q.cell? ⟨b,1,Z⟩=Y (A7 A8 fn):=by rw[Ao X];rfl
    have Ep:Q.frozen? ⟨b,1,Z⟩=A9:=E6 X 1;have Eu:=A5 X;have aaD:wr.heap.size+1<=b:=by simpa using FZ
    clear X FZ;go_wp2;go_ret;refine⟨_,rfl,?_,C6.out.setCell (p:=⟨b,1,Z⟩) (by show w.heap.size<=b;omega) _⟩;rw[M.out];refine⟨b,by omega,rfl,?_⟩;rw[F2 _ _ _ _ _ _ Eu.out];rfl
   |none=>
    rw[A]at A2;obtain rfl:r=Ad Z:=A2;have GQ:=A5 A;clear A;go_wp2_with fail;refine(aUF n t N _ cp.out.1).mono ?_;rintro e K⟨rfl,D,_⟩;have E:=A5 cp.out.aQG;have aOR:n≠0:=cp.out.2.1;have P1:AL (V.KS l []=if seen.any λy=>Bz (y.1=V.place t N)then Y (4,(n:Int),⟨#[]⟩,⟨#[]⟩)else V.KS (l.drop (k+1)) (seen++[(V.place t N,n)])):=by refine A5 ?_;rw[Z_.out,GP.out,V.KS];simp only[GQ.out]
    simp only at E;generalize V.place t N=pl at E P1⊢;obtain⟨z,s,I⟩:=pl;rw[Ls];simp only;have K5:Q.heap.size<=K.heap.size:=D.size;have F:(K.alloc (AF #[A7 A8 z,J s,J I] 184)).heap[w.heap.size]?=Y (DM (N4 seen) seen.length):=by rw[aFD _ _ _ (by omega),D.block w.heap.size (by omega)];exact aGA.out
    have aWl:=Am D N1;have abF:=BL aWl (AF #[A7 A8 z,J s,J I] 184);have Fg:=A5 (C6.out.trans (D.mono C6.out.size));have Hc:=A5 (Fg.out.alloc Fg.out.size (AF #[A7 A8 z,J s,J I] 184));clear D N1 JX;rcases aRH w.heap.size seen.length seen (z,s,I) _ E.out (λy hy=>(S.out y hy).1) F with⟨OG,b5⟩|⟨y,hy,oV,OG⟩
    ·have jR:=aUS w.heap.size seen (z,s,I) n _ E.out (λy hy=>(S.out y hy).1) b5 F;have M:AL (V.KS l []=V.KS (l.drop (k+1)) (seen++[((z,s,I),n)])):=by refine A5 ?_;rw[P1.out,if_neg];rw[Bool.not_eq_true,List.any_eq_false];intro y hy;simpa using b5 y hy
     have R:AL (a'1 l w (k+1) {K.alloc (AF #[A7 A8 z,J s,J I] 184)with heap:=(K.alloc (AF #[A7 A8 z,J s,J I] 184)).heap.setIfInBounds w.heap.size (DM (N4 (seen++[((z,s,I),n)])) (seen.length+1))}):=by
      refine A5 ⟨seen++[((z,s,I),n)],?_,?_,a3Z Hc.out (Ae _) _,M.out⟩;·rw[H7];exact Array.getElem?_setIfInBounds_self_of_lt (Array.getElem?_eq_some_iff.1 F).1
      intro y hy;rcases List.mem_append.1 hy with hy|hy;·exact S.out y hy
      rw[List.mem_singleton.1 hy];exact⟨E.out,aOR⟩
     simp only[Ls]at OG jR;clear b5 F;go_wp2;first
     |exact⟨⟨k+1,by omega,by go_num,R⟩,by simp[BJ];omega⟩
     |
      (
       go_roundw;case rel=>exact⟨k+1,by omega,by go_num,R⟩
       case measure=>simp[BJ];omega)
    have a8':((y.2:Int)!=0)=A3:=by have:=(S.out y hy).2;rw[bne_iff_ne];omega
    have M:AL (V.KS l []=Y (4,(n:Int),⟨#[]⟩,⟨#[]⟩)):=by refine A5 ?_;rw[P1.out,if_pos];rw[List.any_eq_true];exact⟨y,hy,by simpa using oV⟩
    simp only[Ls]at OG;clear F oV hy;go_wp2;go_ret;refine⟨_,rfl,?_,Hc.out.alloc Hc.out.size _⟩;rw[M.out];refine⟨K.heap.size+1,Nat.le_succ_of_le Fg.out.size,rfl,?_⟩;have h:=Pz (K.alloc (AF #[A7 A8 z,J s,J I] 184)) (AF #[A7 A8 4,A7 A8 (n:Int),J ⟨#[]⟩,J ⟨#[]⟩] 150);rw[show(K.alloc (AF #[A7 A8 z,J s,J I] 184)).heap.size=K.heap.size+1 from by simp]at h;exact h
  have M:AL (V.KS l []=Z):=by refine A5 ?_;rw[Z_.out,List.drop_of_length_le (by omega)];rfl
  go_wp2;go_ret;exact⟨_,rfl,by rw[M.out];rfl,j.out⟩
def aZ7(s c n:Nat)(l:List (Nat×Nat×List zz))(w:A0)(M:l.length<=1000000000000)(hc:l.length<=c)(N:l≠[])(H:dH w s l):Ai A6 94 #[A4 (Y ⟨s,0,Z⟩) l.length c,A7 A8 (n:Int)] w λe w'=>e=AZ (A4 (Y ⟨s,0,Z⟩) (V.MT l n).length c)/\w'=w:=by
 obtain⟨q,y⟩:∃q,l.length=q+1:=⟨l.length-1,by have:=List.length_pos_iff.2 N;omega⟩;have hlt:q<l.length:=by omega
 have c0:=(H q hlt).1;have h:AL (V.MT l n=if l[q].1=n then l.dropLast else l):=by refine A5 ?_;unfold V.MT;rw[List.getLast?_eq_getElem?,show l.length-1=q by omega,K1 hlt]
 have I:AL (l.dropLast.length=q):=A5 (by rw[List.length_dropLast];omega);have K:=A5 y;clear H;generalize l[q].1=k at c0 h;rw[y]at M hc hlt⊢;clear y;cases z:(k:Int)==(n:Int)
 ·have b:AL ((V.MT l n).length=q+1):=by refine A5 ?_;rw[h.out,if_neg (by intro e;subst e;simp at z)];exact K.out
  rw[b.out];go_enter Tryz.func94,Tryz.ntmps94;go_wp2;go_ret;exact⟨rfl,rfl⟩
 have b:AL ((V.MT l n).length=q):=by refine A5 ?_;rw[h.out,if_pos (by have:=gm z;omega)];exact I.out
 rw[b.out];go_enter Tryz.func94,Tryz.ntmps94;go_wp2;go_ret;exact⟨rfl,rfl⟩
def jd(x:Nat×List zz):A1:=EL x.1 (A_ (x.2.map J).toArray)
def Lo(l:List (Nat×Nat×List zz)):List A1:=l.map λx=>jd x.2
def aQo(l:List (Nat×Nat×List zz))(k:Nat)(h:k<l.length):Lo (l.take (k+1))=Lo (l.take k)++[jd l[k].2]:=by unfold Lo;rw[dA h,U7];rfl
def aQp(N c:Nat)(l:List (Nat×Nat×List zz))(w:A0)(AE:l.length<=1000000000000)(AP:dH w N l):Ai A6 95 #[A4 (Y ⟨N,0,Z⟩) l.length c] w λe w'=>∃v,e=AZ v/\w'.ownsRow w.heap.size 179 1 v l.length (Lo l)/\AX w.heap.size w w':=by
 obtain⟨i0,hi,d,f,m⟩:=Ko a8E;obtain⟨w1,S,z,r⟩:=run_make_own (P:=A6) w w.heap.size 99 179 i0 DS 1 aF2 hi d f A8 A8 l.length (by rw[m];omega) (by unfold BH;omega) (Ae _);have M:=A5 AP;have A:=A5 z;have D:AL (AX w.heap.size w w1):=A5 ((BF _ w).grown r (Ae _) λk y=>by cases y);have X:w.heap.size<w1.heap.size:=(z.lt _ rfl).2;clear AP z r;go_enter Tryz.func95,Tryz.ntmps95;go_wp2;go_loopw[3,11]λv i wr=>∃k:Nat,k<=l.length/\i=A7 A8 k/\AL (wr.ownsRow w.heap.size 179 1 v k (Lo (l.take k))/\AX w.heap.size w wr)(λ_ i _=>l.length-(BJ i).toNat);case atStart=>exact⟨0,by omega,rfl,A5 ⟨A.out,D.out⟩⟩
 case round=>
  obtain⟨k,y,rfl,H⟩:=hrel;obtain⟨Aa,Q⟩:=H.out;have h:=A5 Aa;have b:=A5 Q;clear H Aa Q;by_cases hlt:k<l.length
  ·have c0:=Am b.out (M.out k hlt).1;have c1:=Am b.out (M.out k hlt).2;have K:=A5 (aQo l k hlt);have E:w.heap.size<=wr.heap.size:=b.out.size;generalize l[k]=x at c0 c1 K;obtain⟨n,t,fs⟩:=x;simp only at c0 c1;go_wp2_with(at_builtin;refine NB _ rfl _ _ 99 rfl w.heap.size 179 i0 DS 1 16 aF2 hi d f m rfl (by decide) _ _ _ rfl ((h.out.alloc _).alloc _) ⟨wr.heap.size+1,0,Z⟩ 1 1 [jd (t,fs)] rfl rfl ?c1 ?c2 ?c3 ?c4 ?c5 ?_);case c1=>intro j u s;match j,s with|0,s=>simp at s;subst s;rfl
   case c2=>rfl
   case c3=>unfold BH;omega
   case c4=>omega
   case c5=>omega
   intro v' I Cz CF _;have U:AX w.heap.size w I:=((b.out.alloc E _).alloc (by simp;omega) _).grown CF (by simp;omega) λk y=>(h.out.lt k y).1;have R:AL (I.ownsRow w.heap.size 179 1 v' (k+1) (Lo (l.take (k+1)))/\AX w.heap.size w I):=by refine A5 ⟨?_,U⟩;rw[K.out];exact Cz
   clear CF Cz U;go_wp2;first
   |exact⟨⟨k+1,by omega,by go_num,R⟩,by simp[BJ];omega⟩
   |
    (
     go_roundw;case rel=>exact⟨k+1,by omega,by go_num,R⟩
     case measure=>simp[BJ];omega)
  have F:k=l.length:=by omega
  subst F;rw[O3]at h;go_wp2;go_ret;exact⟨_,rfl,h.out,b.out⟩
def aXY(l:List (Nat×Nat×List zz)):∀j(h:j<l.length),(Ti l)[j*2]?=Y (A7 A8 (l[j].1:Int))/\(Ti l)[j*2+1]?=Y (EL l[j].2.1 (A_ (l[j].2.2.map J).toArray)):=by
 induction l with
 |nil=>intro j b;simp at b
 |cons x s y=>
  intro j b;have e:Ti (x::s)=[A7 A8 (x.1:Int),EL x.2.1 (A_ (x.2.2.map J).toArray)]++Ti s:=rfl;match j with
  |0=>exact⟨rfl,rfl⟩
  |j+1=>
   have:=y j (by simp at b;omega);rw[e];refine⟨?_,?_⟩;·rw[SX (by simp;omega),gn,<-this.1];congr 1;simp;omega
   rw[SX (by simp;omega),gn,<-this.2];congr 1;simp;omega
def aX_(h:w.ownsRow B 301 2 v l.length (Ti l)):v=A4 Z 0 0/\l=[]∨∃b c,v=A4 (Y ⟨b,0,Z⟩) l.length c/\l.length<=c/\dH w b l:=by
 have hc:=λg=>h.cells (g:=g);rcases h.2 with⟨s,h2⟩|⟨b,c,d,s,_,_,h4,_⟩;·exact AD ⟨s,List.length_eq_zero_iff.1 h2⟩
 refine AJ ⟨b,c,s,h4,λj H=>?_⟩;have h2:=hc b (by rw[s];rfl);have h3:=aXY l j H;have y:=h2 _ _ h3.1;have z:=h2 _ _ h3.2;rw[Gw]at y z;exact⟨y,z⟩
def aZ6(a:Option Ak)(c:Nat)(n:Int)(w:A0):Ai A6 94 #[A4 a 0 c,A7 A8 n] w λe w'=>e=AZ (A4 a 0 c)/\w'=w:=by go_enter Tryz.func94,Tryz.ntmps94;go_wp2;go_ret;exact⟨rfl,rfl⟩
def aIu(a:Option Ak)(c:Nat)(w:A0):Ai A6 93 #[A4 a 0 c] w λe w'=>e=AZ (Ad Z)/\AX w.heap.size w w':=by have b:=@aFE A6;go_enter Tryz.func93,Tryz.ntmps93;go_wp2;refine U1 1 ?_;rw[LL];go_wp2;go_ret;exact⟨rfl,(BF _ _).alloc (Ae _) _⟩
def V.Hy(s:zz):Prop:=(V.parse s).2=0/\V.KS (V.parse s).1 []=Z
def a2y(s:zz)(w:A0)(e:Ending)(w':A0):Prop:=(V.Hy s/\∃v,e=AZ (Ay #[v,DS])/\w'.ownsRow w.heap.size 179 1 v (V.parse s).1.length (Lo (V.parse s).1))∨¬V.Hy s/\∃b,e=AZ (Ay #[A4 Z 0 0,EL 96 (Ad (Y ⟨b,0,Z⟩))])
def V.aNF{M:Nat}(b:M<=281474976710656)(h:V.Zj M x):V.fY x:=⟨h.1,h.2.1,λa s=>G3 (h.2.2 a s) b⟩
def V.aCU(l:List (Nat×Nat×List zz))(n:Nat):V.MT l n=l∨V.MT l n=l.dropLast:=by
 unfold V.MT;split
 ·split;·exact AJ rfl
  exact AD rfl
 exact AD rfl
def V.zX(l:List (Nat×Nat×List zz))(n:Nat):(V.MT l n).length<=l.length:=by
 rcases V.aCU l n with e|e<;>rw[e];·exact Ae _
 simp
def V.aCV(l:List (Nat×Nat×List zz))(n:Nat)(j:Nat)(h:j<(V.MT l n).length):(V.MT l n)[j]=l[j]'(Ku h (V.zX l n)):=by
 rcases V.aCU l n with e|e;·exact aGy e h
 rw[aGy e h,List.getElem_dropLast]
def V.aZ5(l:List (Nat×Nat×List zz))(n:Nat):∀x∈V.MT l n,x∈l:=by intro x hx;obtain⟨j,b,rfl⟩:=List.getElem_of_mem hx;rw[V.aCV];exact DU _
def V.aCW(h:∀x∈l,x.1≠0):V.MT l 0=l:=by
 unfold V.MT;split;·rename_i x hx;rw[if_neg (h x (aH2 hx))]
 rfl
def yh(s:zz)(m:Int)(w:A0)(hs:s.size<=1073741824)(hm:w.cell? ⟨0,0,Z⟩=Y (A7 A8 m)):Ai A6 45 #[J s] w λe w'=>a2y s w e w'/\AX w.heap.size w w':=by
 have I:AL (∀x∈(V.parse s).1,V.fY x):=A5 λx hx=>V.aNF (by omega) (V.aTp s x hx);have M:=V.aTo s;have P1:AL (V.Hy s↔(V.parse s).2=0/\V.KS (V.MT (V.parse s).1 (V.parse s).2) []=Z):=by
  refine A5 ⟨λh=>⟨h.1,?_⟩,λh=>⟨h.1,?_⟩⟩;·rw[h.1,V.aCW λx hx=>(I.out x hx).2.1];exact h.2
  have:=h.2;rw[h.1,V.aCW λx hx=>(I.out x hx).2.1]at this;exact this
 have i:AL ((V.parse s).1=[]->(V.parse s).2≠0):=by refine A5 λAV h1=>?_;obtain⟨p,r,AK,_⟩:=(V.aTs h1 (by rw[AV];rfl)).first;rw[AV]at AK;cases AK
 unfold a2y;go_enter Tryz.func45,Tryz.ntmps45;go_wp2_with fail;refine(aTn s m _ (by omega) hm).mono ?_;rintro e w1⟨v,rfl,Aa,Au⟩;obtain⟨l,n,u⟩:∃l n,V.parse s=(l,n):=⟨_,_,rfl⟩;rw[u]at I P1 i M Aa⊢;simp only at I P1 i M Aa⊢;have EM:=A5 u;clear u;have A:l.length<=1000000000000:=by omega
 have N:=A5 Au;have Fj:=Am Au hm;clear Au;by_cases d:l=[]
 ·have hv:∃a c,v=A4 a 0 c:=by
   subst d;rcases Aa.2 with⟨h,_⟩|⟨H,cap,D,h,_⟩;·exact⟨_,_,h⟩
   exact⟨_,_,h⟩
  obtain⟨a,c,rfl⟩:=hv;have E:=i.out d;have i6:((n:Int)!=0)=A3:=by rw[bne_iff_ne];omega
  have K:AL (¬V.Hy s):=A5 λh=>E (P1.out.1 h).1;clear Aa;go_wp2_with fail;refine(aZ6 a c _ _).mono ?_;rintro e w2⟨rfl,rfl⟩;go_wp2_with fail;refine(aIu a c _).mono ?_;rintro e w3⟨rfl,z⟩;have y:=A5 (N.out.trans (z.mono N.out.size));clear z;go_wp2;go_ret2;exact⟨AJ ⟨K.out,_,rfl⟩,y.out.alloc y.out.size _⟩
 rcases aX_ Aa with⟨rfl,h⟩|⟨H,c,rfl,wT,Bm⟩;·exact absurd h d
 have F:=A5 Bm;have S:AL (dH w1 H (V.MT l n)):=by refine A5 λj U=>?_;have:=Bm j (Ku U (V.zX l n));rw[V.aCV];exact this
 clear Bm Aa;go_wp2_with fail;refine(aZ7 H c n l _ A wT d F.out).mono ?_;rintro e w2⟨rfl,rfl⟩;go_wp2_with fail;refine(aIt H c m (V.MT l n) _ Fj (G3 (V.zX l n) A) S.out λx hx=>I.out x (V.aZ5 l n x hx)).mono ?_;rintro e w3⟨r,rfl,A2,z⟩;have y:=A5 (N.out.trans (z.mono N.out.size));have X:AL (dH w3 H l):=A5 λj U=>⟨Am z (F.out j U).1,Am z (F.out j U).2⟩;clear z;cases Q:V.KS (V.MT l n) []with
 |some f=>
  have K:AL (¬V.Hy s):=A5 λh=>by have:=(P1.out.1 h).2;rw[Q]at this;cases this
  rw[Q]at A2;obtain⟨k,q,nO,nP⟩:=f;obtain⟨b,FZ,rfl,DN⟩:=A2;clear DN;go_wp2;go_ret2;exact⟨AJ ⟨K.out,b,rfl⟩,y.out⟩
 |none=>
  rw[Q]at A2;obtain rfl:r=Ad Z:=A2;cases hn:(n:Int)!=0
  ·have E:n=0:=by rw[bne_eq_false_iff_eq]at hn;omega
   have FD:AL (V.Hy s):=A5 (P1.out.2 ⟨E,Q⟩);go_wp2_with fail;refine(aQp H c l _ A X.out).mono ?_;rintro e w4⟨v4,rfl,YD,EE⟩;have aGJ:AL (w4.ownsRow w.heap.size 179 1 v4 l.length (Lo l)):=by
    refine A5 ⟨YD.1,?_⟩;rcases YD.2 with h|⟨g,Hh,D,h1,h2,h3⟩;·exact AD h
    exact AJ ⟨g,Hh,D,h1,G3 y.out.size h2,h3⟩
   have Hc:=A5 (y.out.trans (EE.mono y.out.size));obtain⟨a4,n4,c4,rfl⟩:∃a n c,v4=A4 a n c:=by
    rcases YD.2 with⟨h,_⟩|⟨g,Hh,D,h,_⟩;·exact⟨_,_,_,h⟩
    exact⟨_,_,_,h⟩
   clear YD EE;go_wp2;go_ret2;exact⟨AD ⟨FD.out,_,rfl,by rw[EM.out];exact aGJ.out⟩,Hc.out⟩
  have K:AL (¬V.Hy s):=A5 λh=>by have:=(P1.out.1 h).1;rw[bne_iff_ne]at hn;omega
  go_wp2;go_ret2;exact⟨AJ ⟨K.out,_,rfl⟩,y.out.alloc y.out.size _⟩
def F7(w:A0)(o:Df)(n:Nat)(h:n=w.heap.size):(w.alloc o).heap[n]?=Y o:=by subst h;show(w.heap.push o)[w.heap.size]?=Y o;rw[SD,if_pos rfl]
def EO(w:A0)(o:Df)(n:Nat)(h:n<w.heap.size):(w.alloc o).heap[n]?=w.heap[n]?:=by show(w.heap.push o)[n]?=w.heap[n]?;rw[SD,if_neg (by omega)]
def Fo(w:A0)(o:Df):(w.alloc o).heap.size=w.heap.size+1:=bq _
def xd(w:A0)(a:Df):AX w.heap.size w (w.alloc a):=(BF _ w).alloc (Ae _) _
def NZ(w:A0)(a b:Df):AX w.heap.size w ((w.alloc a).alloc b):=(xd w a).alloc (by simp only[Fo];omega) _
def eL(w:A0)(a b c:Df):AX w.heap.size w (((w.alloc a).alloc b).alloc c):=(NZ w a b).alloc (by simp only[Fo];omega) _
def H2(s:AX w.heap.size w w'){x:Df}(h:w.heap[b]?=Y x):w'.heap[b]?=Y x:=by rw[s.block b (Array.getElem?_eq_some_iff.1 h).1];exact h
def p7{base:Nat}(h:w.ownsRow base e s v n xs)(y:AX w.heap.size w w'):w'.ownsRow base e s v n xs:=by
 refine⟨h.1,?_⟩;rcases h.2 with b|⟨g,cap,d,b,h2,h3,h4⟩;·exact AD b
 exact AJ ⟨g,cap,d,b,h2,H2 y h3,h4⟩
def Ln{base:Nat}(h:w.ownsRow base e s v n xs):∃a c,v=A4 a n c:=by
 rcases h.2 with⟨b,h2⟩|⟨g,cap,d,b,_⟩;·exact⟨Z,0,by rw[b,h2]⟩
 exact⟨_,_,b⟩
def p8{base:Nat}(h:w.ownsRow base e s v n xs)(hn:0<n):∃g cap,v=A4 (Y ⟨g,0,Z⟩) n cap/\base<=g/\g<w.heap.size:=by
 rcases h.2 with⟨_,h2⟩|⟨g,cap,d,b,h2,h3,_⟩;·omega
 exact⟨g,cap,b,h2,(Array.getElem?_eq_some_iff.1 h3).1⟩
def Rb{base cap:Nat}(h:w.ownsRow base e s (A4 (Y ⟨g,0,Z⟩) n cap) n xs)(j:Nat)(u:A1)(b:xs[j]?=Y u):w.cell? ⟨g,j,Z⟩=Y u:=by have:=h.cells (g:=g) rfl j u b;rw[Gw]at this;simpa using this
def aQL{base base':Nat}(h:w.ownsRow base e s v n xs)(y:base'<=base):w.ownsRow base' e s v n xs:=by
 refine⟨h.1,?_⟩;rcases h.2 with b|⟨g,cap,d,b,h2,h3⟩;·exact AD b
 exact AJ ⟨g,cap,d,b,G3 y h2,h3⟩
def F8(l:List Az):List A1:=l.flatMap λp=>[J p.1,J p.2]
def pK(l:List Az)(p:Az):F8 (l++[p])=F8 l++[J p.1,J p.2]:=by simp[F8]
def a9Q(l:List Az):(F8 l).length=l.length*2:=by induction l with|nil=>rfl|cons x h b=>simp[F8]at b⊢;omega
def xu(l:List Az):∀j(h:j<l.length),(F8 l)[j*2]?=Y (J l[j].1)/\(F8 l)[j*2+1]?=Y (J l[j].2):=by
 induction l with
 |nil=>intro j b;simp at b
 |cons x s y=>
  intro j b;have e:F8 (x::s)=[J x.1,J x.2]++F8 s:=rfl;match j with
  |0=>exact⟨rfl,rfl⟩
  |j+1=>
   have:=y j (by simp at b;omega);rw[e];refine⟨?_,?_⟩;·rw[SX (by simp;omega),gn,<-this.1];congr 1;simp;omega
   rw[SX (by simp;omega),gn,<-this.2];congr 1;simp;omega
def Zq(w:A0)(g:Nat)(l:List Az):Prop:=∀j(h:j<l.length),w.cell? ⟨g,j*2,Z⟩=Y (J l[j].1)/\w.cell? ⟨g,j*2+1,Z⟩=Y (J l[j].2)
def Zq.below{l:List Az}(h:Zq w g l)(b:AX w.heap.size w w'):Zq w' g l:=λj s=>⟨Am b (h j s).1,Am b (h j s).2⟩
def eP{e:Nat}{l:List Az}(h:w.ownsRow B e 2 v l.length (F8 l)):v=A4 Z 0 0/\l=[]∨∃g c,v=A4 (Y ⟨g,0,Z⟩) l.length c/\l.length<=c/\Zq w g l/\B<=g:=by
 rcases h.2 with⟨b,h2⟩|⟨s,c,d,b,y,_,h4,_⟩;·exact AD ⟨b,List.length_eq_zero_iff.1 h2⟩
 refine AJ ⟨s,c,b,h4,λj z=>?_,y⟩;rw[b]at h;have h3:=xu l j z;exact⟨Rb h _ _ h3.1,Rb h _ _ h3.2⟩
def Um{bv:Type}(l:List bv)(k:Nat)(h:k<l.length):l.take (k+1)=l.take k++[l[k]]:=dA h
def aQ3:(A6.info? 221).map (λi=>(i.zero,i.size,i.bytes))=Y (Y (A_ #[J ⟨#[]⟩,J ⟨#[]⟩]),2,32):=by kernel_rfl
def od:(A6.info? 85).map (λi=>(i.zero,i.size,i.bytes))=Y (Y (A_ #[J ⟨#[]⟩,J ⟨#[]⟩]),2,32):=by kernel_rfl
def aHt(v:A1)(w:A0):(Pq (EL 221 v) 179 221 A3).run A6 w=Ac (Ay #[v,Af A3]) w:=by kernel_rfl
def MP(x:zz)(l:List Az):List A1:=EL 123 (A_ #[J x])::l.map λp=>EL 221 (A_ #[J p.1,J p.2])
def qx(x:zz)(l:List Az)(w:A0)(k:Nat)(wr:A0):Prop:=∃b,wr.heap[w.heap.size+1]?=Y (AF #[J x,b,A4 Z 0 0,A4 Z 0 0] 128)/\wr.heap[w.heap.size]?=Y (AF #[J ⟨#[]⟩,A4 Z 0 0,A4 Z 0 0,A4 Z 0 0] 128)/\wr.ownsRow (w.heap.size+2) 221 2 b k (F8 (l.take k))/\AX w.heap.size w wr
def a5O(g c:Nat)(x:zz)(l:List Az)(w:A0)(AE:l.length<=1000000000)(h:∀j u,(MP x l)[j]?=Y u->w.cell? ⟨g,j,Z⟩=Y u):Ai A6 58 #[A4 (Y ⟨g,0,Z⟩) (l.length+1) c] w λe w'=>∃B4,e=AZ (A_ #[J x,B4,A4 Z 0 0,A4 Z 0 0])/\w'.ownsRow w.heap.size 221 2 B4 l.length (F8 l)/\AX w.heap.size w w':=by
 have a1:=mo;have FY:=mq;have a3:=aHt;obtain⟨i0,hi,EF,DF,CO⟩:=Ko aQ3;have H:=A5 h;have c0:=h 0 _ rfl;have AI:g<w.heap.size:=FA (h:=c0);clear h;have GQ:AL (AX w.heap.size w ((w.alloc (AF #[J {data:=#[]},A4 Z 0 0,A4 Z 0 0,A4 Z 0 0] 128)).alloc (AF #[J {data:=#[]},A4 Z 0 0,A4 Z 0 0,A4 Z 0 0] 128))):=A5 (NZ _ _ _);have MF:((w.alloc (AF #[J {data:=#[]},A4 Z 0 0,A4 Z 0 0,A4 Z 0 0] 128)).alloc (AF #[J {data:=#[]},A4 Z 0 0,A4 Z 0 0,A4 Z 0 0] 128)).cell? ⟨g,0,Z⟩=Y (EL 123 (A_ #[J x])):=Am GQ.out c0;clear c0;go_enter Tryz.func58,Tryz.ntmps58;go_wp2;go_loopw[12]λi wr=>i=A7 A8 0/\wr=(w.alloc (AF #[J {data:=#[]},A4 Z 0 0,A4 Z 0 0,A4 Z 0 0] 128)).alloc (AF #[J {data:=#[]},A4 Z 0 0,A4 Z 0 0,A4 Z 0 0] 128)∨∃k:Nat,k<=l.length/\i=A7 A8 ((k:Int)+1)/\AL (qx x l w k wr)(λi _=>l.length+1-(BJ i).toNat);case atStart=>exact AD ⟨rfl,rfl⟩
 case round=>
  rcases hrel with⟨rfl,rfl⟩|⟨k,hk,rfl,Q⟩
  ·have R:AL (qx x l w 0 (((w.alloc (AF #[J {data:=#[]},A4 Z 0 0,A4 Z 0 0,A4 Z 0 0] 128)).alloc (AF #[J x,A4 Z 0 0,A4 Z 0 0,A4 Z 0 0] 128)).alloc (AF #[J x] 123))):=by
    refine A5 ⟨A4 Z 0 0,?_,?_,XA _ _ _ _,eL _ _ _ _⟩;·rw[EO _ _ _ (by simp only[Fo];omega)];exact F7 _ _ _ (by simp only[Fo])
    rw[EO _ _ _ (by simp only[Fo];omega),EO _ _ _ (by simp only[Fo];omega)];exact F7 _ _ _ rfl
   go_wp2;first
   |exact⟨AJ ⟨0,by omega,by go_num,R⟩,by simp[BJ]⟩
   |
    (
     go_roundw;case rel=>exact AJ ⟨0,by omega,by go_num,R⟩
     case measure=>simp[BJ])
  obtain⟨B4,y,s,Aa,hb⟩:=Q.out;have CQ:=A5 Aa;have d:=A5 hb;have XK:=A5 y;have A:=A5 s;obtain⟨K,M,rfl⟩:=Ln Aa;have rg:w.heap.size+1<wr.heap.size:=(Array.getElem?_eq_some_iff.1 y).1;clear Q Aa hb s;by_cases hlt:k<l.length
  ·have c1:=Am d.out (H.out (k+1) (EL 221 (A_ #[J l[k].1,J l[k].2])) (by simp[MP,hlt]));have E:=A5 (Um l k hlt);have Cc:wr.cell? ⟨w.heap.size+1,1,Z⟩=Y (A4 K k M):=by rw[Ao y];rfl
   have Ew:wr.frozen? ⟨w.heap.size+1,1,Z⟩=A9:=E6 y 1;generalize l[k]=m at c1 E;obtain⟨p,q⟩:=m;simp only at c1;clear y;go_wp2_with(at_builtin;refine NB _ rfl _ _ 124 rfl (w.heap.size+2) 221 i0 (A_ #[J ⟨#[]⟩,J ⟨#[]⟩]) 2 32 Tryz.underlying124 hi EF DF CO rfl (by decide) _ _ _ rfl ((CQ.out.alloc _).alloc _) ⟨wr.heap.size+1,0,Z⟩ 1 1 [J p,J q] rfl rfl ?c1 ?c2 ?c3 ?c4 ?c5 ?_);case c1=>intro j u I;match j,I with|0,I=>simp at I;subst I;rw[Gw];simp|1,I=>simp at I;subst I;rw[Gw];simp
   case c2=>intro u hu;simp at hu;rcases hu with rfl|rfl<;>rfl
   case c3=>unfold BH;omega
   case c4=>omega
   case c5=>simp;omega
   intro v' N Cz CF _;have f:∀b,b<w.heap.size+2->Y b≠(A4 K k M).ownBlock:=λb hb e=>by have:=(CQ.out.lt b e.symm).1;omega
   have U:N.heap[w.heap.size+1]?=Y (AF #[J x,A4 K k M,A4 Z 0 0,A4 Z 0 0] 128):=by rw[CF.block _ (by simp;omega) (f _ (by omega)),EO _ _ _ (by simp;omega),EO _ _ _ (by omega)];exact XK.out
   have F:N.heap[w.heap.size]?=Y (AF #[J ⟨#[]⟩,A4 Z 0 0,A4 Z 0 0,A4 Z 0 0] 128):=by rw[CF.block _ (by simp;omega) (f _ (by omega)),EO _ _ _ (by simp;omega),EO _ _ _ (by omega)];exact A.out
   have S:AX w.heap.size w N:=((d.out.alloc (by omega) _).alloc (by simp;omega) _).grown CF (by simp;omega) (λk hk=>by have:=(CQ.out.lt k hk).1;omega);have DI:N.cell? ⟨w.heap.size+1,1,Z⟩=Y (A4 K k M):=by rw[Ao U];rfl
   have GF:N.frozen? ⟨w.heap.size+1,1,Z⟩=A9:=E6 U 1;obtain⟨X,pQ,rfl⟩:=Ln Cz;have R:AL (qx x l w (k+1) (N.setCell ⟨w.heap.size+1,1,Z⟩ (A4 X (k+1) pQ))):=by
    refine A5 ⟨A4 X (k+1) pQ,?_,?_,?_,S.setCell (p:=⟨w.heap.size+1,1,Z⟩) (by show _<=w.heap.size+1;omega) _⟩;·rw[F2 _ _ _ _ _ _ U];rfl
    ·rw[HP _ _ _ _ (by show w.heap.size≠w.heap.size+1;omega)];exact F
    rw[E.out,pK];refine⟨Cz.1,?_⟩;rcases Cz.2 with h|⟨z,cap,r,h1,h2,h3,h4⟩;·exact AD h
    refine AJ ⟨z,cap,r,h1,h2,?_,h4⟩;rw[HP _ _ _ _ (by show z≠w.heap.size+1;omega)];exact h3
   clear CF Cz S U F f;go_wp2;first
   |exact⟨AJ ⟨k+1,by omega,by go_num,R⟩,by simp[BJ];omega⟩
   |
    (
     go_roundw;case rel=>exact AJ ⟨k+1,by omega,by go_num,R⟩
     case measure=>simp[BJ];omega)
  have Gi:k=l.length:=by omega
  subst Gi;rw[O3]at CQ;have b0:wr.cell? ⟨w.heap.size+1,0,Z⟩=Y (J x):=by rw[Ao y];rfl
  have Cc:wr.cell? ⟨w.heap.size+1,1,Z⟩=Y (A4 K l.length M):=by rw[Ao y];rfl
  have b2:wr.cell? ⟨w.heap.size+1,2,Z⟩=Y (A4 Z 0 0):=by rw[Ao y];rfl
  have J5:wr.cell? ⟨w.heap.size+1,3,Z⟩=Y (A4 Z 0 0):=by rw[Ao y];rfl
  clear y;have s:=A.out;have r0:wr.cell? ⟨w.heap.size,0,Z⟩=Y (J ⟨#[]⟩):=by rw[Ao s];rfl
  have r1:wr.cell? ⟨w.heap.size,1,Z⟩=Y (A4 Z 0 0):=by rw[Ao s];rfl
  have r2:wr.cell? ⟨w.heap.size,2,Z⟩=Y (A4 Z 0 0):=by rw[Ao s];rfl
  have Ea:wr.cell? ⟨w.heap.size,3,Z⟩=Y (A4 Z 0 0):=by rw[Ao s];rfl
  have f0:wr.frozen? ⟨w.heap.size,0,Z⟩=A9:=E6 s 0;have Ep:wr.frozen? ⟨w.heap.size,1,Z⟩=A9:=E6 s 1;have F4:wr.frozen? ⟨w.heap.size,2,Z⟩=A9:=E6 s 2;have HS:wr.frozen? ⟨w.heap.size,3,Z⟩=A9:=E6 s 3;have D:=F2 _ w.heap.size 3 _ _ (A4 Z 0 0) (F2 _ w.heap.size 2 _ _ (A4 Z 0 0) (F2 _ w.heap.size 1 _ _ (A4 K l.length M) (F2 wr w.heap.size 0 _ _ (J x) s)));clear s;go_wp2;(try simp only[ZE,Exit.then]);refine Md (XE rfl _ _ w.heap.size 128 #[J x,A4 K l.length M,A4 Z 0 0,A4 Z 0 0] (0,0) _ rfl D Tryz.underlying128 rfl (by kernel_rfl)) rfl ?_;refine⟨_,rfl,?_,(((d.out.setCell (p:=⟨w.heap.size,0,Z⟩) (Ae _) _).setCell (p:=⟨w.heap.size,1,Z⟩) (Ae _) _).setCell (p:=⟨w.heap.size,2,Z⟩) (Ae _) _).setCell (p:=⟨w.heap.size,3,Z⟩) (Ae _) _⟩;refine⟨CQ.out.1,?_⟩;rcases CQ.out.2 with h|⟨z,cap,r,h1,h2,h3,h4⟩;·exact AD h
  refine AJ ⟨z,cap,r,h1,by omega,?_,h4⟩;rw[HP _ _ _ _ (by show z≠w.heap.size;omega),HP _ _ _ _ (by show z≠w.heap.size;omega),HP _ _ _ _ (by show z≠w.heap.size;omega),HP _ _ _ _ (by show z≠w.heap.size;omega)];exact h3
def bytes_inj{a b:zz}(h:a.toList=b.toList):a=b:=by rw[VO,VO]at h;have h2:=Array.toList_inj.1 h;cases a;cases b;simp_all
def isStr(u:A1):Prop:=∃s,u=J s
def JH(w:A0)(v:A1)(l:List Az):Prop:=v=A4 Z 0 0/\l=[]∨∃g c,v=A4 (Y ⟨g,0,Z⟩) l.length c/\Zq w g l
def JH.below{w w':A0}{v:A1}{l:List Az}(h:JH w v l)(s:AX w.heap.size w w'):JH w' v l:=by
 rcases h with h|⟨g,c,b,h2⟩;·exact AD h
 exact AJ ⟨g,c,b,h2.below s⟩
def xv{e:Nat}{l:List Az}(h:w.ownsRow B e 2 v l.length (F8 l)):JH w v l:=by
 rcases eP h with h|⟨g,c,b,_,h2,_⟩;·exact AD h
 exact AJ ⟨g,c,b,h2⟩
def zA{e:Nat}(b:w.ownsRow B e s v n xs)(h:Gv GI w s v n):Gv GI (w.alloc a) s v n:=h.same λg cap hv=>by subst hv;exact EO _ _ _ (b.lt g rfl).2
def aXC{e:Nat}{b c:Df}(y:w.ownsRow B e s v n xs)(h:Gv GI w s v n):Gv GI (((w.alloc a).alloc b).alloc c) s v n:=zA ((y.alloc a).alloc b) (zA (y.alloc a) (zA y h))
def a9t(own:zz)(r1 r2 c1:Nat)(v:A1)(l:List Az)(w:A0)(D:w.heap[r1]?=Y (DM #[] c1))(hv:JH w v l)(AE:l.length<=1000000000)(B3:∀m∈l,m.1≠own/\Ft m):Ai A6 125 #[A_ #[J own,Ah (Y r1),Ah (Y r2)],v] w λe w'=>∃B4,e=AZ B4/\w'.ownsRow w.heap.size 85 2 B4 l.length (F8 l)/\Gv isStr w' 2 B4 l.length/\AX w.heap.size w w':=by
 obtain⟨i0,hi,EF,DF,CO⟩:=Ko od;have gZ:=A5 B3;have tC:=A5 D;have d:AL (AX w.heap.size w (w.alloc (AF #[J own,Ah (Y r1),Ah (Y r2)] 134))):=A5 (xd _ _);obtain⟨a,c,rfl,DD⟩:∃a c,v=A4 a l.length c/\AL (∀k(h:k<l.length),∃g,a=Y ⟨g,0,Z⟩/\w.cell? ⟨g,k*2,Z⟩=Y (J l[k].1)/\w.cell? ⟨g,k*2+1,Z⟩=Y (J l[k].2)):=by
  rcases hv with⟨rfl,rfl⟩|⟨g,c,rfl,h⟩;·exact⟨Z,0,rfl,A5 λk h=>by cases h⟩
  exact⟨_,c,rfl,A5 λk Q=>⟨g,rfl,h k Q⟩⟩
 clear B3 D hv;go_enter Tryz.func125,Tryz.ntmps125;go_wp2;generalize N:w.alloc (AF #[J own,Ah (Y r1),Ah (Y r2)] 134)=W at d⊢;have E:W.heap.size=w.heap.size+1:=by rw[<-N];simp
 have N1:W.cell? ⟨w.heap.size,0,Z⟩=Y (J own):=by rw[<-N];simp
 have JX:W.cell? ⟨w.heap.size,1,Z⟩=Y (Ah (Y r1)):=by rw[<-N];simp
 have z:=A5 E;clear E N;go_loopw[5,11]λv i wr=>∃k:Nat,k<=l.length/\i=A7 A8 k/\AL (wr.ownsRow W.heap.size 85 2 v k (F8 (l.take k))/\Gv isStr wr 2 v k/\AX W.heap.size W wr)(λ_ i _=>l.length-(BJ i).toNat);case atStart=>exact⟨0,by omega,rfl,A5 ⟨XA _ _ _ _,Gv.nil _ _ _,BF _ _⟩⟩
 case round=>
  obtain⟨k,Q,rfl,H⟩:=hrel;obtain⟨Aa,F,hb⟩:=H.out;have S:=A5 F;have s:=A5 Aa;have K:=A5 hb;have M:=A5 (d.out.trans (hb.mono d.out.size));clear H Aa hb F;by_cases hlt:k<l.length
  ·obtain⟨g,rfl,X,GA⟩:=DD.out k hlt;have c0:=Am M.out X;have I:=Am M.out GA;have t0:=Am K.out N1;have t1:=Am K.out JX;have Y6:W.heap.size<=wr.heap.size:=K.out.size;have FZ:w.heap.size<wr.heap.size:=by have:=z.out;omega
   have EU:g<wr.heap.size:=FA (h:=c0);have Cm:=A5 (Um l k hlt);obtain⟨f,r⟩:=gZ.out l[k] (DU hlt);generalize l[k]=m at c0 I Cm f r;obtain⟨p,q⟩:=m;simp only at c0 I f;have A:¬p.toList=own.toList:=λh=>f (bytes_inj h);have OG:∀x y,(Ix 131 (Ah (Y r1)) (A_ #[J p,J q]) A9).run A6 ((wr.alloc x).alloc y)=Ac (A7 A8 0) ((wr.alloc x).alloc y):=by intro x y;refine aRG r1 c1 (p,q) _ r ?_;have h1:=H2 M.out tC.out;have h2:=(Array.getElem?_eq_some_iff.1 h1).1;rw[EO _ _ _ (by simp only[Fo];omega),EO _ _ _ h2];exact h1
   clear X GA r;go_wp2_with(at_builtin;refine aCZ _ isStr rfl _ _ 57 rfl W.heap.size 85 i0 (A_ #[J ⟨#[]⟩,J ⟨#[]⟩]) 2 32 Tryz.underlying57 hi EF DF CO rfl (by decide) (λu hu=>by simp[cc]at hu;exact⟨_,hu⟩) _ _ _ rfl (((s.out.alloc _).alloc _).alloc _) (aXC s.out S.out) ⟨wr.heap.size+2,0,Z⟩ 1 1 [J p,J q] rfl rfl ?c1 ?c2 (by omega) ?c3 ?c4 ?c5 ?_);case roundEnd=>rename_i h;simp at h;exact absurd h A
   case c1=>intro j u b;have Jl:=F7 ((wr.alloc (AF #[J p,J q] 221)).alloc (AF #[J p,J q] 85)) (AF #[J p,J q] 85) (wr.heap.size+2) (by simp);match j,b with|0,b=>simp at b;subst b;rw[Gw,Ao Jl];rfl|1,b=>simp at b;subst b;rw[Gw,Ao Jl];rfl
   case c2=>intro u hu;simp at hu;rcases hu with rfl|rfl<;>rfl
   case c3=>unfold BH;omega
   case c4=>omega
   case c5=>simp;omega
   intro v' U Cz CF bE;have kc:AX W.heap.size W U:=(((K.out.alloc Y6 _).alloc (by simp;omega) _).alloc (by simp;omega) _).grown CF (by simp;omega) λk Q=>(s.out.lt k Q).1;have R:AL (U.ownsRow W.heap.size 85 2 v' (k+1) (F8 (l.take (k+1)))/\Gv isStr U 2 v' (k+1)/\AX W.heap.size W U):=by refine A5 ⟨?_,bE,kc⟩;rw[Cm.out,pK];exact Cz
   clear CF Cz kc OG bE;go_wp2;first
   |exact⟨⟨k+1,by omega,by go_num,R⟩,by simp[BJ];omega⟩
   |
    (
     go_roundw;case rel=>exact⟨k+1,by omega,by go_num,R⟩
     case measure=>simp[BJ];omega)
  have Gi:k=l.length:=by omega
  subst Gi;rw[O3]at s;go_wp2;go_ret;exact⟨_,rfl,aQL s.out (by have:=z.out;omega),S.out,M.out⟩
def aQ'(own:zz)(r1 r2 c2:Nat)(m:Az)(w:A0)(b:w.heap[r2]?=Y (DM #[] c2))(hm:Ft m):Ai A6 289 #[A_ #[J own,Ah (Y r1),Ah (Y r2)],A_ #[J m.1,J m.2]] w λe w'=>e=AZ (A_ #[J m.1,J m.2])/\AX w.heap.size w w':=by
 obtain⟨p,q⟩:=m;have h:=A5 b;have hlt:=(Array.getElem?_eq_some_iff.1 b).1;have s:∀x y z,(Ix 132 (Ah (Y r2)) (A_ #[J p,J q]) A3).run A6 (((w.alloc x).alloc y).alloc z)=Ac (Ay #[A_ #[J ⟨#[]⟩,J ⟨#[]⟩],Af A9]) (((w.alloc x).alloc y).alloc z):=by intro x y z;refine a8s r2 c2 (p,q) _ hm ?_;rw[EO _ _ _ (by simp only[Fo];omega),EO _ _ _ (by simp only[Fo];omega),EO _ _ _ hlt];exact h.out
 have H:∀x y z u,(Ix 132 (Ah (Y r2)) (A_ #[J p,J ⟨#[]⟩]) A3).run A6 ((((w.alloc x).alloc y).alloc z).alloc u)=Ac (Ay #[A_ #[J ⟨#[]⟩,J ⟨#[]⟩],Af A9]) ((((w.alloc x).alloc y).alloc z).alloc u):=by intro x y z u;refine a8s r2 c2 (p,⟨#[]⟩) _ ⟨hm.1,by show(0:Nat)<=_;omega⟩ ?_;rw[EO _ _ _ (by simp only[Fo];omega),EO _ _ _ (by simp only[Fo];omega),EO _ _ _ (by simp only[Fo];omega),EO _ _ _ hlt];exact h.out
 clear b hm hlt;go_enter Tryz.func289,Tryz.ntmps289;go_wp2;(try simp only[ZE,Exit.then]);refine Md (XE rfl _ _ (w.heap.size+1+1) 85 #[J p,J q] (0,0) _ rfl ?_ X6 rfl (by kernel_rfl)) rfl ?_;·rw[EO _ _ _ (by simp only[Fo];omega),EO _ _ _ (by simp only[Fo];omega)];exact F7 _ _ _ (by simp only[Fo])
 exact⟨rfl,((eL w _ _ _).alloc (by simp only[Fo];omega) _).alloc (by simp only[Fo];omega) _⟩
end
end Go.Proofs.YtcfhleenecfghaaGreatDoor
