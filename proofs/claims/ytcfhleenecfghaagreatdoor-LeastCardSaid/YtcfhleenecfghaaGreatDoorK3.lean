import Derived.Shelf.Strings.Builder1
import Derived.Shelf.Strings.Builder2
import Derived.Shelf.Small.Bits
import Derived.Shelf.Small.Strs
import Derived.Shelf.Small.Wraps
import Derived.Shelf.Utf8.RuneCount
import Derived.Shelf.Strconv.Itoa0
import Derived.Shelf.Strconv.Itoa1
import Derived.Shelf.LaysM
import Derived.Shelf.Strconv.Itoa2
import Derived.Shelf.Strconv.Clone
import Derived.Shelf.Strings.Search1
import Derived.Shelf.Strings.Search2
import Derived.Shelf.Strings.Search3
import Derived.Shelf.Strings.Cut
import Derived.Shelf.Strings.Count
import Derived.Shelf.Strings.Shaped
import Derived.Shelf.Strings.Prefix
import Derived.Shelf.Strings.Split
import Derived.Shelf.Strings.SplitShaped
import Derived.Shelf.Unicode.Decode
import Derived.Shelf.Strings.RuneCount
import Derived.Shelf.Strings.Explode
import Derived.Shelf.Bits.Mul64
import Derived.Shelf.Unicode.DecodeSlow
import Derived.Shelf.Unicode.DecodeAny
import Derived.Ground.Names2Prog
import Derived.Shelf.Slices.SearchI
import Derived.Shelf.Strings.BuilderF
import Derived.Shelf.Strings.BuilderK
import Derived.Shelf.Strings.FieldsFuncAny
import Derived.Shelf.SlLaysF0
import Derived.Shelf.SlGeneric
import Derived.Ground.SlsfProg
import Derived.Shelf.Spec.SlicesGrow
import Derived.WideMake
import Derived.Lib.SmallJoins
import Derived.Laws.Concat
import Derived.Deep.RegionWith
import Derived.Test.YtcfhleenecfghaaGreatDoorK1
set_option linter.all false
set_option maxHeartbeats 4000000
set_option maxRecDepth 100000
open Array renaming getElem?_eq_none->Pg,getElem?_setIfInBounds_ne->JF,getElem?_setIfInBounds_self_of_lt->XW
open Bool renaming eq_iff_iff->U3,false->A5,true->A0
open ByteArray renaming empty->BS,mk->L0,size->a6t
open Decidable renaming decide->Bn
open Go renaming Addr->Aa,Calls->AZ,TypeId->A_,Value->A1,World->A',below_drewN->Je,bodyPost_ret->L3,heap_alloc_new->No,heap_setCell_same->EV,info_parts->IT,maxLen->BK,results->De,run_slice_string->a_H,run_string_add_sum->aAD,run_underlying->Np,wpList_append_own->L4
open Go.Addr renaming add->Ht
open Go.ByteArray renaming mk_append_mk->a71
open Go.Calls renaming quiet_of->hf,quiet_of_same->Si
open Go.Ending renaming returned->hq
open Go.Extern.AbiNoEscape renaming same->hr
open Go.Instr renaming findKey->UE,lookup->Hv,mapUpdate->Vl,slice->o8,typeAssert->Ob
open Go.IntKind renaming i64->Po,wrap_i64->dM
open Go.Lib renaming BuilderAt->dN,IsBuilder->R9,alloc_old->dO,cell_of_heap->Ad,compareBytes->Hg,compareInt->UG,countB->UH,countB_le->we,cut->Ge,frozen_of_heap->Dv,goFieldsP->Sq,hasPrefix->Vm,splitB->aR,splitB_all->wh,strCells->Xn,toList_data->Xo,trimPrefix->RA
open Go.Lib.BuilderAt renaming put->a7z
open Go.MapKept renaming run_getObj_map->Oc,run_setObj_map->dP
open Go.Obj renaming cells->BE
open Go.Op renaming stringOp->aT
open Go.Oper renaming upon_value->wm
open Go.Proofs renaming PredAtRunes->a8M,cell_of_shapedOpen_int->aUN,intOf->Ay
open Go.Proofs.Builder renaming Extra->aUA
open Go.Proofs.Lays renaming n101->aUB,n106->aUC,n122->aUD,n125->aUE,n145->aUF,n146->aUG,n169->aUH,n229->aUI,n99->aUJ
open Go.Proofs.Lays8 renaming n4->aUK
open Go.Proofs.LaysM renaming n146->aUL,n316->aUM
open Go.Proofs.SlLaysF0 renaming n6->oN
open Go.Proofs.Tryz renaming func174->a8T,func182->a8U,func242->a8Z,func246->a8_,func264->a8a,func265->a8b,func273->x4,func339->a8d,func340->a8e,func341->a8f,func345->a8g,func346->a8h,func350->x5,func351->iU,func352->x6,func353->x7,func405->a8i,func406->a8j,func407->oU,func409->iV,func410->x8,func434->a8k,isAgg0->Xq,isAgg119->a8n,isAgg188->a8o,isAgg21->x9,isAgg227->a8p,isAgg242->a8q,isAgg3->Oe,isAgg305->dS,isAgg307->a8r,isAgg323->dT,isAgg381->a8s,isAgg382->a8t,isAgg4->RB,isAgg455->a8u,isAgg458->a8v,isAgg482->xA,isAgg5->Xr,isAgg50->xB,isAgg500->a8w,isAgg503->a8x,isAgg504->a8y,isAgg533->a8z,isAgg535->a9',isAgg536->a90,isAgg9->Ps,prog->A4,results100->iW,results87->a94,sizeOf0->Xs,sizeOf119->a95,sizeOf188->a96,sizeOf21->xC,sizeOf227->a97,sizeOf242->a98,sizeOf3->Of,sizeOf305->dU,sizeOf307->a99,sizeOf323->dV,sizeOf381->a9A,sizeOf382->a9B,sizeOf4->RD,sizeOf455->a9C,sizeOf458->a9D,sizeOf482->xD,sizeOf5->Xt,sizeOf50->xE,sizeOf500->a9E,sizeOf503->a9F,sizeOf504->a9G,sizeOf533->a9H,sizeOf535->a9I,sizeOf536->a9J,sizeOf9->Pt,underlying0->Xu,underlying119->dW,underlying171->a9K,underlying187->oX,underlying188->oY,underlying21->xF,underlying227->a9L,underlying242->a9M,underlying297->xG,underlying299->iX,underlying3->Nl,underlying305->dX,underlying307->a9N,underlying323->dY,underlying381->a9O,underlying382->a9P,underlying390->a9R,underlying4->RE,underlying455->a9S,underlying458->a9T,underlying482->xI,underlying5->Vn,underlying50->xJ,underlying500->a9U,underlying503->a9V,underlying504->a9W,underlying533->a9Y,underlying535->a9Z,underlying536->a9_,underlying9->L2,zeroValue0->Xw,zeroValue119->a9a,zeroValue188->a9b,zeroValue21->xM,zeroValue227->a9c,zeroValue242->a9d,zeroValue3->Og,zeroValue305->dZ,zeroValue307->a9e,zeroValue323->d_,zeroValue381->a9f,zeroValue382->a9g,zeroValue4->RF,zeroValue455->a9h,zeroValue458->a9i,zeroValue482->xN,zeroValue5->Xx,zeroValue50->xO,zeroValue500->a9j,zeroValue503->a9k,zeroValue504->a9l,zeroValue535->a9m,zeroValue536->a9n,zeroValue9->Pu
open Go.Result renaming andThen->K_,ok->aY6
open Go.RowKit renaming Below->AS,Hid->AP,intOf->L_,ownsRow_setCell_below->ob
open Go.RowKit.Below renaming heap_setCell->F_,refl->B9
open Go.Shelf renaming Ren->Mv
open Go.Value renaming agg->dd,bool->aY5,iface->aYJ,int->IS,nilIface->aYA,pointer->aY4,slice->As,string->AI,tuple->aY8
open Go.World renaming block_lt_of_cell?->Ff,cell?_alloc_at->xS,cell?_alloc_past->ia,cell?_of_block->F4,cell?_setCell_other->Sw,cell?_setCell_same->oe,ownsRow_nil->Vo,setCell->La
open Int renaming eq_ofNat_of_zero_le->aBE,tmod_eq_emod_of_nonneg->aBF,toNat_natCast->jC
open List renaming all_append->jH,all_eq_false->jI,flatMap_append->jJ,getD_cons_succ->yP,getElem?_append_right->T4,getElem?_eq_getElem->Ld,getElem?_map->W',getElem?_toArray->W0,getElem_cons_succ->e5,getElem_mem->EC,length_append->HN,length_cons->Jg,length_map->Mz,mem_cons_self->N',not_mem_nil->H8,size_toArray->Kd,take_length->On,take_of_length_le->e6,take_succ_eq_append_getElem->UU
open List.Pairwise renaming nil->aUT
open Nat renaming le_of_lt->po,le_refl->AX,le_trans->HA,lt_or_ge->IW,lt_succ_of_lt->aBv,not_lt_zero->e9,zero_le->JJ
open Option renaming none->J,some->Z
open Or renaming inl->AA,inr->AF
open UInt8 renaming ofNat->Ub
namespace Go.Proofs
section
open Go.Shelf
def Tryz.aK8:Mv:=⟨λ|106=>153|213=>225|265=>328|n=>n,λ|9=>9|3=>3|n=>n,λ|n=>n⟩
theorem Tryz.aK7:aUC A4 Tryz.aK8:={
 mixed:=by kernel_rfl
 f106:=Tryz.func153.trans (congrArg Z (by kernel_rfl))
 f213:=Tryz.func225.trans (congrArg Z (by kernel_rfl))
 f265:=Tryz.func328.trans (congrArg Z (by kernel_rfl))
 t3:=Nl
 a3:=Oe
 z3:=Of
 v3:=Og
 t9:=L2
 a9:=Ps
 z9:=Pt
 v9:=Pu}
open Go.RowKit in theorem Tryz.strings_Compare(a b:ByteArray)(w:A'):AZ A4 153 #[AI a,AI b] w λe w'=>e=hq (IS Po (Hg a.data.toList b.data.toList))/\w'=w:=Any.strings_Compare Tryz.aK7 a b w
def Tryz.aKA:Mv:=⟨λ|122=>90|215=>175|n=>n,λ|3=>3|4=>4|n=>n,λ|n=>n⟩
theorem Tryz.aK9:aUD A4 Tryz.aKA:={
 mixed:=by kernel_rfl
 f122:=Tryz.func90.trans (congrArg Z (by kernel_rfl))
 f215:=Tryz.func175.trans (congrArg Z (by kernel_rfl))
 t3:=Nl
 a3:=Oe
 z3:=Of
 v3:=Og
 t4:=RE
 a4:=RB
 z4:=RD
 v4:=RF}
open Go.RowKit in theorem Tryz.cmp_Compare_int(x y:Int)(w:A'):AZ A4 90 #[IS Po x,IS Po y] w λe w'=>e=hq (IS Po (UG x y))/\w'=w:=Any.cmp_Compare_int Tryz.aK9 x y w
def Tryz.aKO:Mv:=⟨λ|316=>172|n=>n,λ|9=>9|3=>3|4=>4|37=>188|0=>0|127=>307|5=>5|n=>n,λ|n=>n⟩
theorem Tryz.aKN:aUM A4 Tryz.aKO:={
 mixed:=by kernel_rfl
 f316:=Tryz.func172.trans (congrArg Z (by kernel_rfl))
 t0:=Xu
 a0:=Xq
 z0:=Xs
 v0:=Xw
 t3:=Nl
 a3:=Oe
 z3:=Of
 v3:=Og
 t4:=RE
 a4:=RB
 z4:=RD
 v4:=RF
 t9:=L2
 a9:=Ps
 z9:=Pt
 v9:=Pu
 t37:=oY
 a37:=a8o
 z37:=a96
 v37:=a9b
 t127:=a9N
 a127:=a8r
 z127:=a99
 v127:=a9e
 t5:=Vn
 a5:=Xr
 z5:=Xt
 v5:=Xx
 i0:=by kernel_rfl
 i3:=by kernel_rfl
 i4:=by kernel_rfl
 i5:=by kernel_rfl
 i9:=by kernel_rfl
 i37:=by kernel_rfl
 i127:=by kernel_rfl}
open Go.RowKit in theorem Tryz.stringslite_Clone(s:ByteArray)(w:A')(b:s.size<=281474976710656):AZ A4 172 #[AI s] w λe w'=>e=hq (AI s)/\Below w.heap.size w w':=Any.stringslite_Clone Tryz.aKN s w b
def Tryz.aKE:Mv:=⟨λ|145=>118|220=>194|219=>273|217=>350|225=>351|224=>352|267=>353|266=>409|314=>410|n=>n,λ|9=>9|4=>4|59=>214|3=>3|5=>5|46=>305|146=>482|51=>323|n=>n,λ|1=>0|n=>n⟩
theorem Tryz.aKD:aUF A4 Tryz.aKE:={
 mixed:=by kernel_rfl
 f145:=Tryz.func118.trans (congrArg Z (by kernel_rfl))
 f217:=x5.trans (congrArg Z (by kernel_rfl))
 f219:=x4.trans (congrArg Z (by kernel_rfl))
 f220:=Tryz.func194.trans (congrArg Z (by kernel_rfl))
 f224:=x6.trans (congrArg Z (by kernel_rfl))
 f225:=iU.trans (congrArg Z (by kernel_rfl))
 f266:=iV.trans (congrArg Z (by kernel_rfl))
 f267:=x7.trans (congrArg Z (by kernel_rfl))
 f314:=x8.trans (congrArg Z (by kernel_rfl))
 t3:=Nl
 a3:=Oe
 z3:=Of
 v3:=Og
 t4:=RE
 a4:=RB
 z4:=RD
 v4:=RF
 t5:=Vn
 a5:=Xr
 z5:=Xt
 v5:=Xx
 t9:=L2
 a9:=Ps
 z9:=Pt
 v9:=Pu
 t46:=dX
 a46:=dS
 z46:=dU
 v46:=dZ
 t51:=dY
 a51:=dT
 z51:=dV
 v51:=d_
 t59:=Tryz.underlying214
 a59:=Tryz.isAgg214
 z59:=Tryz.sizeOf214
 v59:=Tryz.zeroValue214
 t146:=xI
 a146:=xA
 z146:=xD
 v146:=xN
 g1:=by kernel_rfl}
open Go.RowKit Go.Lib in theorem Tryz.strings_Cut(s b:ByteArray)(m:Int)(w:A')(hs:s.size<4294967281)(f:w.cell? ⟨0,0,J⟩=Z (IS Po m)):AZ A4 118 #[AI s,AI b] w λe w'=>e=hq (aY8 #[AI ⟨(Ge s.data.toList b.data.toList).1.toArray⟩,AI ⟨(Ge s.data.toList b.data.toList).2.1.toArray⟩,aY5 (Ge s.data.toList b.data.toList).2.2])/\∃n,w'=w.drewN n:=Any.strings_Cut Tryz.aKD s b m w hs f
def Tryz.aKK:Mv:=⟨λ|99=>168|206=>242|n=>n,λ|9=>9|4=>4|3=>3|n=>n,λ|n=>n⟩
theorem Tryz.aKJ:aUJ A4 Tryz.aKK:={
 mixed:=by kernel_rfl
 f99:=Tryz.func168.trans (congrArg Z (by kernel_rfl))
 f206:=a8Z.trans (congrArg Z (by kernel_rfl))
 t3:=Nl
 a3:=Oe
 z3:=Of
 v3:=Og
 t4:=RE
 a4:=RB
 z4:=RD
 v4:=RF
 t9:=L2
 a9:=Ps
 z9:=Pt
 v9:=Pu}
open Go.RowKit Go.Lib in theorem Tryz.strings_HasPrefix(s p:ByteArray)(w:A'):AZ A4 168 #[AI s,AI p] w λe w'=>e=hq (aY5 (Vm s.data.toList p.data.toList))/\w'=w:=Any.strings_HasPrefix Tryz.aKJ s p w
def Tryz.aK6:Mv:=⟨λ|101=>173|208=>245|206=>242|n=>n,λ|9=>9|4=>4|3=>3|n=>n,λ|n=>n⟩
theorem Tryz.aK5:aUB A4 Tryz.aK6:={
 mixed:=by kernel_rfl
 f101:=Tryz.func173.trans (congrArg Z (by kernel_rfl))
 f206:=a8Z.trans (congrArg Z (by kernel_rfl))
 f208:=Tryz.func245.trans (congrArg Z (by kernel_rfl))
 t3:=Nl
 a3:=Oe
 z3:=Of
 v3:=Og
 t4:=RE
 a4:=RB
 z4:=RD
 v4:=RF
 t9:=L2
 a9:=Ps
 z9:=Pt
 v9:=Pu}
open Go.RowKit Go.Lib in theorem Tryz.strings_TrimPrefix(s p:ByteArray)(w:A'):AZ A4 173 #[AI s,AI p] w λe w'=>e=hq (AI ⟨(RA s.data.toList p.data.toList).toArray⟩)/\w'=w:=Any.strings_TrimPrefix Tryz.aK5 s p w
def Tryz.aKG:Mv:=⟨λ|146=>174|221=>246|268=>339|138=>340|143=>341|195=>405|197=>406|218=>407|219=>273|260=>434|217=>350|225=>351|224=>352|267=>353|266=>409|314=>410|n=>n,λ|9=>9|31=>50|3=>3|4=>4|0=>0|105=>500|21=>21|5=>5|46=>305|119=>533|139=>536|138=>535|146=>482|51=>323|n=>n,λ|1=>0|3=>2|4=>3|n=>n⟩
theorem Tryz.aKF:aUG A4 Tryz.aKG:={
 mixed:=by kernel_rfl
 f138:=a8e.trans (congrArg Z (by kernel_rfl))
 f143:=a8f.trans (congrArg Z (by kernel_rfl))
 f146:=a8T.trans (congrArg Z (by kernel_rfl))
 f195:=a8i.trans (congrArg Z (by kernel_rfl))
 f197:=a8j.trans (congrArg Z (by kernel_rfl))
 f217:=x5.trans (congrArg Z (by kernel_rfl))
 f218:=oU.trans (congrArg Z (by kernel_rfl))
 f219:=x4.trans (congrArg Z (by kernel_rfl))
 f221:=a8_.trans (congrArg Z (by kernel_rfl))
 f224:=x6.trans (congrArg Z (by kernel_rfl))
 f225:=iU.trans (congrArg Z (by kernel_rfl))
 f260:=a8k.trans (congrArg Z (by kernel_rfl))
 f266:=iV.trans (congrArg Z (by kernel_rfl))
 f267:=x7.trans (congrArg Z (by kernel_rfl))
 f268:=a8d.trans (congrArg Z (by kernel_rfl))
 f314:=x8.trans (congrArg Z (by kernel_rfl))
 t0:=Xu
 a0:=Xq
 z0:=Xs
 v0:=Xw
 t3:=Nl
 a3:=Oe
 z3:=Of
 v3:=Og
 t4:=RE
 a4:=RB
 z4:=RD
 v4:=RF
 t5:=Vn
 a5:=Xr
 z5:=Xt
 v5:=Xx
 t9:=L2
 a9:=Ps
 z9:=Pt
 v9:=Pu
 t21:=xF
 a21:=x9
 z21:=xC
 v21:=xM
 t31:=xJ
 a31:=xB
 z31:=xE
 v31:=xO
 t46:=dX
 a46:=dS
 z46:=dU
 v46:=dZ
 t51:=dY
 a51:=dT
 z51:=dV
 v51:=d_
 t105:=a9U
 a105:=a8w
 z105:=a9E
 v105:=a9j
 t119:=a9Y
 a119:=a8z
 z119:=a9H
 t138:=a9Z
 a138:=a9'
 z138:=a9I
 v138:=a9m
 t139:=a9_
 a139:=a90
 z139:=a9J
 v139:=a9n
 t146:=xI
 a146:=xA
 z146:=xD
 v146:=xN
 g1:=by kernel_rfl
 g3:=by kernel_rfl
 g4:=by kernel_rfl}
open Go.RowKit Go.Lib in theorem Tryz.strings_Split(s b:ByteArray)(m:Int)(w:A')(hs:s.size<4294967281)(h:w.cell? ⟨0,0,J⟩=Z (IS Po m))(f:1<=b.size):AZ A4 174 #[AI s,AI b] w λe w'=>e=hq (As (Z ⟨w.heap.size,0,J⟩) (UH s b+1) (UH s b+1))/\w'=w.alloc (BE ((aR b 0 (UH s b) s).map AI).toArray 9):=Any.strings_Split Tryz.aKF (by kernel_rfl) s b m w hs h f
def Tryz.aKM:Mv:=⟨λ|146=>174|221=>246|268=>339|138=>340|143=>341|195=>405|197=>406|218=>407|219=>273|260=>434|217=>350|225=>351|224=>352|267=>353|266=>409|314=>410|n=>n,λ|9=>9|31=>50|3=>3|4=>4|0=>0|105=>500|21=>21|5=>5|46=>305|119=>533|139=>536|138=>535|146=>482|51=>323|n=>n,λ|1=>0|3=>2|4=>3|n=>n⟩
theorem Tryz.aKL:aUL A4 Tryz.aKM:={
 mixed:=by kernel_rfl
 f138:=a8e.trans (congrArg Z (by kernel_rfl))
 f143:=a8f.trans (congrArg Z (by kernel_rfl))
 f146:=a8T.trans (congrArg Z (by kernel_rfl))
 f195:=a8i.trans (congrArg Z (by kernel_rfl))
 f197:=a8j.trans (congrArg Z (by kernel_rfl))
 f217:=x5.trans (congrArg Z (by kernel_rfl))
 f218:=oU.trans (congrArg Z (by kernel_rfl))
 f219:=x4.trans (congrArg Z (by kernel_rfl))
 f221:=a8_.trans (congrArg Z (by kernel_rfl))
 f224:=x6.trans (congrArg Z (by kernel_rfl))
 f225:=iU.trans (congrArg Z (by kernel_rfl))
 f260:=a8k.trans (congrArg Z (by kernel_rfl))
 f266:=iV.trans (congrArg Z (by kernel_rfl))
 f267:=x7.trans (congrArg Z (by kernel_rfl))
 f268:=a8d.trans (congrArg Z (by kernel_rfl))
 f314:=x8.trans (congrArg Z (by kernel_rfl))
 t0:=Xu
 a0:=Xq
 z0:=Xs
 v0:=Xw
 t3:=Nl
 a3:=Oe
 z3:=Of
 v3:=Og
 t4:=RE
 a4:=RB
 z4:=RD
 v4:=RF
 t5:=Vn
 a5:=Xr
 z5:=Xt
 v5:=Xx
 t9:=L2
 a9:=Ps
 z9:=Pt
 v9:=Pu
 t21:=xF
 a21:=x9
 z21:=xC
 v21:=xM
 t31:=xJ
 a31:=xB
 z31:=xE
 v31:=xO
 t46:=dX
 a46:=dS
 z46:=dU
 v46:=dZ
 t51:=dY
 a51:=dT
 z51:=dV
 v51:=d_
 t105:=a9U
 a105:=a8w
 z105:=a9E
 v105:=a9j
 t119:=a9Y
 a119:=a8z
 z119:=a9H
 t138:=a9Z
 a138:=a9'
 z138:=a9I
 v138:=a9m
 t139:=a9_
 a139:=a90
 z139:=a9J
 v139:=a9n
 t146:=xI
 a146:=xA
 z146:=xD
 v146:=xN
 g1:=by kernel_rfl
 g3:=by kernel_rfl
 g4:=by kernel_rfl
 i0:=by kernel_rfl
 i3:=by kernel_rfl
 i4:=by kernel_rfl
 i5:=by kernel_rfl
 i9:=by kernel_rfl
 i21:=by kernel_rfl
 i31:=by kernel_rfl
 i46:=by kernel_rfl
 i51:=by kernel_rfl
 i105:=by kernel_rfl
 i138:=by kernel_rfl
 i139:=by kernel_rfl
 i146:=by kernel_rfl
 m1:=by kernel_rfl
 s1_3:=λw h=>aUN (zero:=#[IS Po 0]) (t:=3) h (of_decide_eq_true (by kernel_rfl)) (by kernel_rfl) rfl (by kernel_rfl) (by kernel_rfl) Nl
 m3:=by kernel_rfl
 m4:=by kernel_rfl}
def Tryz.a2K:Mv:=⟨λ|169=>103|n=>n,λ|70=>187|9=>9|0=>0|72=>190|37=>188|127=>307|3=>3|5=>5|n=>n,λ|n=>n⟩
theorem Tryz.a2J:aUH A4 Tryz.a2K:={
 mixed:=by kernel_rfl
 f169:=Tryz.func103.trans (congrArg Z (by kernel_rfl))
 t0:=Xu
 a0:=Xq
 z0:=Xs
 v0:=Xw
 t3:=Nl
 a3:=Oe
 z3:=Of
 v3:=Og
 t9:=L2
 a9:=Ps
 z9:=Pt
 v9:=Pu
 t37:=oY
 a37:=a8o
 z37:=a96
 v37:=a9b
 t70:=oX
 a70:=Tryz.isAgg187
 z70:=Tryz.sizeOf187
 v70:=Tryz.zeroValue187
 t72:=Tryz.underlying190
 a72:=Tryz.isAgg190
 z72:=Tryz.sizeOf190
 v72:=Tryz.zeroValue190
 t127:=a9N
 a127:=a8r
 z127:=a99
 v127:=a9e}
theorem Tryz.vc:aUA A4 Tryz.a2K:={
 sizeBuilder:=by kernel_rfl
 liesBuilder:=by kernel_rfl
 t5:=Vn
 a5:=Xr
 z5:=Xt
 v5:=Xx
 infoByte:=by kernel_rfl
 cellsByte:=by kernel_rfl
 sizeByte:=by kernel_rfl
 neB5:=by decide}
open Go.RowKit in theorem Tryz.Builder_String(B b:Nat)(l:List UInt8)(w:A')(h:R9 190 5 B b (Lib.byteCells l) w)(f:l≠[]):AZ A4 103 #[aY4 (Z ⟨b,0,J⟩)] w λe w'=>e=hq (AI ⟨l.toArray⟩)/\Below B w w':=Any.Builder_String Tryz.a2J Tryz.vc B b l w h f
def Tryz.aKC:Mv:=⟨λ|125=>182|128=>264|129=>265|n=>n,λ|46=>305|3=>3|51=>323|53=>242|4=>4|5=>5|9=>9|n=>n,λ|n=>n⟩
theorem Tryz.aKB:aUE A4 Tryz.aKC:={
 mixed:=by kernel_rfl
 f125:=a8U.trans (congrArg Z (by kernel_rfl))
 f128:=a8a.trans (congrArg Z (by kernel_rfl))
 f129:=a8b.trans (congrArg Z (by kernel_rfl))
 t3:=Nl
 a3:=Oe
 z3:=Of
 v3:=Og
 t4:=RE
 a4:=RB
 z4:=RD
 v4:=RF
 t5:=Vn
 a5:=Xr
 z5:=Xt
 v5:=Xx
 t9:=L2
 a9:=Ps
 z9:=Pt
 v9:=Pu
 t46:=dX
 a46:=dS
 z46:=dU
 v46:=dZ
 t51:=dY
 a51:=dT
 z51:=dV
 v51:=d_
 t53:=a9M
 a53:=a8q
 z53:=a98
 v53:=a9d}
theorem Tryz.bits_Len(x:Int)(w:A')(b:0<=x)(f:x<=18446744073709551615):AZ A4 182 #[IS .u64 x] w λe w'=>e=hq (IS Po (Lib.bitLen x.toNat))/\w'=w:=Any.bits_Len Tryz.aKB x w b f
def Tryz.aKI:Mv:=⟨λ|229=>251|n=>n,λ|9=>9|40=>375|31=>50|152=>452|3=>3|0=>0|4=>4|21=>21|154=>454|n=>n,λ|n=>n⟩
theorem Tryz.aKH:aUI A4 Tryz.aKI:={
 mixed:=by kernel_rfl
 f229:=Tryz.func251.trans (congrArg Z (by kernel_rfl))
 t0:=Xu
 a0:=Xq
 z0:=Xs
 v0:=Xw
 t3:=Nl
 a3:=Oe
 z3:=Of
 v3:=Og
 t4:=RE
 a4:=RB
 z4:=RD
 v4:=RF
 t9:=L2
 a9:=Ps
 z9:=Pt
 v9:=Pu
 t21:=xF
 a21:=x9
 z21:=xC
 v21:=xM
 t31:=xJ
 a31:=xB
 z31:=xE
 v31:=xO
 t40:=Tryz.underlying375
 a40:=Tryz.isAgg375
 z40:=Tryz.sizeOf375
 v40:=Tryz.zeroValue375
 t152:=Tryz.underlying452
 a152:=Tryz.isAgg452
 z152:=Tryz.sizeOf452
 v152:=Tryz.zeroValue452
 t154:=Tryz.underlying454
 a154:=Tryz.isAgg454
 z154:=Tryz.sizeOf454
 v154:=Tryz.zeroValue454}
open Go.RowKit Go.Lib in theorem Tryz.strings_FieldsFunc_runes(g:Nat)(f:Array A1)(h:∀b w,(callFunc g b).run A4 w=aY6 (.enter g b) w)(p:Nat->Bool)(s:ByteArray)(w:A')(hs:s.size<=4294967296)(m:a8M A4 g f p w):AZ A4 251 #[AI s,.func (.func g) #[] f] w λe w'=>∃A,e=hq (As (Z ⟨A,0,J⟩) (Sq p s).length (Sq p s).length)/\w.heap.size<=A/\w'.ownsRow w.heap.size 9 1 (As (Z ⟨A,0,J⟩) (Sq p s).length (Sq p s).length) (Sq p s).length ((Sq p s).map AI)/\Below w.heap.size w w':=Any.strings_FieldsFunc_runes Tryz.aKH g f h p s w hs m (by kernel_rfl) (by kernel_rfl)
def Tryz.ux:Mv:=⟨λ|6=>128|15=>182|14=>202|28=>264|29=>265|20=>295|21=>296|22=>297|23=>298|24=>299|25=>300|26=>301|27=>302|46=>360|47=>345|48=>346|49=>361|50=>362|57=>412|n=>n,λ|22=>130|24=>234|25=>235|3=>3|39=>305|0=>0|53=>323|55=>242|4=>4|46=>382|45=>381|50=>227|5=>5|9=>9|66=>455|70=>458|76=>503|77=>504|n=>n,λ|n=>n⟩
theorem Tryz.a5g:oN A4 Tryz.ux:={
 mixed:=by kernel_rfl
 f6:=⟨Tryz.f128.name,by decide,Tryz.func128.trans (congrArg Z (by kernel_rfl))⟩
 f14:=⟨Tryz.f202.name,by decide,Tryz.func202.trans (congrArg Z (by kernel_rfl))⟩
 f15:=a8U.trans (congrArg Z (by kernel_rfl))
 f20:=⟨Tryz.f295.name,by decide,Tryz.func295.trans (congrArg Z (by kernel_rfl))⟩
 f21:=⟨Tryz.f296.name,by decide,Tryz.func296.trans (congrArg Z (by kernel_rfl))⟩
 f22:=⟨Tryz.f297.name,by decide,Tryz.func297.trans (congrArg Z (by kernel_rfl))⟩
 f23:=⟨Tryz.f298.name,by decide,Tryz.func298.trans (congrArg Z (by kernel_rfl))⟩
 f24:=⟨Tryz.f299.name,by decide,Tryz.func299.trans (congrArg Z (by kernel_rfl))⟩
 f25:=⟨Tryz.f300.name,by decide,Tryz.func300.trans (congrArg Z (by kernel_rfl))⟩
 f26:=⟨Tryz.f301.name,by decide,Tryz.func301.trans (congrArg Z (by kernel_rfl))⟩
 f27:=⟨Tryz.f302.name,by decide,Tryz.func302.trans (congrArg Z (by kernel_rfl))⟩
 f28:=a8a.trans (congrArg Z (by kernel_rfl))
 f29:=a8b.trans (congrArg Z (by kernel_rfl))
 f46:=⟨Tryz.f360.name,by decide,Tryz.func360.trans (congrArg Z (by kernel_rfl))⟩
 f47:=a8g.trans (congrArg Z (by kernel_rfl))
 f48:=a8h.trans (congrArg Z (by kernel_rfl))
 f49:=⟨Tryz.f361.name,by decide,Tryz.func361.trans (congrArg Z (by kernel_rfl))⟩
 f50:=⟨Tryz.f362.name,by decide,Tryz.func362.trans (congrArg Z (by kernel_rfl))⟩
 f57:=⟨Tryz.f412.name,by decide,Tryz.func412.trans (congrArg Z (by kernel_rfl))⟩
 t0:=Xu
 a0:=Xq
 z0:=Xs
 v0:=Xw
 t3:=Nl
 a3:=Oe
 z3:=Of
 v3:=Og
 t4:=RE
 a4:=RB
 z4:=RD
 v4:=RF
 t5:=Vn
 a5:=Xr
 z5:=Xt
 v5:=Xx
 t9:=L2
 a9:=Ps
 z9:=Pt
 v9:=Pu
 t22:=Tryz.underlying130
 a22:=Tryz.isAgg130
 z22:=Tryz.sizeOf130
 v22:=Tryz.zeroValue130
 t25:=Tryz.underlying235
 a25:=Tryz.isAgg235
 z25:=Tryz.sizeOf235
 v25:=Tryz.zeroValue235
 t39:=dX
 a39:=dS
 z39:=dU
 v39:=dZ
 t45:=a9O
 a45:=a8s
 z45:=a9A
 v45:=a9f
 t46:=a9P
 a46:=a8t
 z46:=a9B
 v46:=a9g
 t50:=a9L
 a50:=a8p
 z50:=a97
 v50:=a9c
 t53:=dY
 a53:=dT
 z53:=dV
 v53:=d_
 t55:=a9M
 a55:=a8q
 z55:=a98
 v55:=a9d
 t66:=a9S
 a66:=a8u
 z66:=a9C
 v66:=a9h
 t70:=a9T
 a70:=a8v
 z70:=a9D
 v70:=a9i
 t76:=a9V
 a76:=a8x
 z76:=a9F
 v76:=a9k
 t77:=a9W
 a77:=a8y
 z77:=a9G
 v77:=a9l}
def Tryz.uv:Mv:=⟨λ|6=>206|15=>182|14=>311|28=>264|29=>265|20=>366|21=>367|22=>368|23=>369|24=>370|25=>371|26=>372|27=>373|46=>414|47=>345|48=>346|49=>415|50=>416|57=>435|n=>n,λ|22=>47|24=>75|25=>333|3=>3|39=>305|0=>0|53=>323|55=>242|4=>4|46=>382|45=>381|50=>227|5=>5|9=>9|66=>455|70=>458|76=>503|77=>504|n=>n,λ|n=>n⟩
theorem Tryz.aR7:oN A4 Tryz.uv:={
 mixed:=by kernel_rfl
 f6:=⟨Tryz.f206.name,by decide,Tryz.func206.trans (congrArg Z (by kernel_rfl))⟩
 f14:=⟨Tryz.f311.name,by decide,Tryz.func311.trans (congrArg Z (by kernel_rfl))⟩
 f15:=a8U.trans (congrArg Z (by kernel_rfl))
 f20:=⟨Tryz.f366.name,by decide,Tryz.func366.trans (congrArg Z (by kernel_rfl))⟩
 f21:=⟨Tryz.f367.name,by decide,Tryz.func367.trans (congrArg Z (by kernel_rfl))⟩
 f22:=⟨Tryz.f368.name,by decide,Tryz.func368.trans (congrArg Z (by kernel_rfl))⟩
 f23:=⟨Tryz.f369.name,by decide,Tryz.func369.trans (congrArg Z (by kernel_rfl))⟩
 f24:=⟨Tryz.f370.name,by decide,Tryz.func370.trans (congrArg Z (by kernel_rfl))⟩
 f25:=⟨Tryz.f371.name,by decide,Tryz.func371.trans (congrArg Z (by kernel_rfl))⟩
 f26:=⟨Tryz.f372.name,by decide,Tryz.func372.trans (congrArg Z (by kernel_rfl))⟩
 f27:=⟨Tryz.f373.name,by decide,Tryz.func373.trans (congrArg Z (by kernel_rfl))⟩
 f28:=a8a.trans (congrArg Z (by kernel_rfl))
 f29:=a8b.trans (congrArg Z (by kernel_rfl))
 f46:=⟨Tryz.f414.name,by decide,Tryz.func414.trans (congrArg Z (by kernel_rfl))⟩
 f47:=a8g.trans (congrArg Z (by kernel_rfl))
 f48:=a8h.trans (congrArg Z (by kernel_rfl))
 f49:=⟨Tryz.f415.name,by decide,Tryz.func415.trans (congrArg Z (by kernel_rfl))⟩
 f50:=⟨Tryz.f416.name,by decide,Tryz.func416.trans (congrArg Z (by kernel_rfl))⟩
 f57:=⟨Tryz.f435.name,by decide,Tryz.func435.trans (congrArg Z (by kernel_rfl))⟩
 t0:=Xu
 a0:=Xq
 z0:=Xs
 v0:=Xw
 t3:=Nl
 a3:=Oe
 z3:=Of
 v3:=Og
 t4:=RE
 a4:=RB
 z4:=RD
 v4:=RF
 t5:=Vn
 a5:=Xr
 z5:=Xt
 v5:=Xx
 t9:=L2
 a9:=Ps
 z9:=Pt
 v9:=Pu
 t22:=Tryz.underlying47
 a22:=Tryz.isAgg47
 z22:=Tryz.sizeOf47
 v22:=Tryz.zeroValue47
 t25:=Tryz.underlying333
 a25:=Tryz.isAgg333
 z25:=Tryz.sizeOf333
 v25:=Tryz.zeroValue333
 t39:=dX
 a39:=dS
 z39:=dU
 v39:=dZ
 t45:=a9O
 a45:=a8s
 z45:=a9A
 v45:=a9f
 t46:=a9P
 a46:=a8t
 z46:=a9B
 v46:=a9g
 t50:=a9L
 a50:=a8p
 z50:=a97
 v50:=a9c
 t53:=dY
 a53:=dT
 z53:=dV
 v53:=d_
 t55:=a9M
 a55:=a8q
 z55:=a98
 v55:=a9d
 t66:=a9S
 a66:=a8u
 z66:=a9C
 v66:=a9h
 t70:=a9T
 a70:=a8v
 z70:=a9D
 v70:=a9i
 t76:=a9V
 a76:=a8x
 z76:=a9F
 v76:=a9k
 t77:=a9W
 a77:=a8y
 z77:=a9G
 v77:=a9l}
def Tryz.uw:Mv:=⟨λ|6=>132|15=>182|14=>205|28=>264|29=>265|20=>303|21=>304|22=>305|23=>306|24=>307|25=>308|26=>309|27=>310|46=>363|47=>345|48=>346|49=>364|50=>365|57=>413|n=>n,λ|22=>119|24=>217|25=>239|3=>3|39=>305|0=>0|53=>323|55=>242|4=>4|46=>382|45=>381|50=>227|5=>5|9=>9|66=>455|70=>458|76=>503|77=>504|n=>n,λ|n=>n⟩
theorem Tryz.a5e:oN A4 Tryz.uw:={
 mixed:=by kernel_rfl
 f6:=⟨Tryz.f132.name,by decide,Tryz.func132.trans (congrArg Z (by kernel_rfl))⟩
 f14:=⟨Tryz.f205.name,by decide,Tryz.func205.trans (congrArg Z (by kernel_rfl))⟩
 f15:=a8U.trans (congrArg Z (by kernel_rfl))
 f20:=⟨Tryz.f303.name,by decide,Tryz.func303.trans (congrArg Z (by kernel_rfl))⟩
 f21:=⟨Tryz.f304.name,by decide,Tryz.func304.trans (congrArg Z (by kernel_rfl))⟩
 f22:=⟨Tryz.f305.name,by decide,Tryz.func305.trans (congrArg Z (by kernel_rfl))⟩
 f23:=⟨Tryz.f306.name,by decide,Tryz.func306.trans (congrArg Z (by kernel_rfl))⟩
 f24:=⟨Tryz.f307.name,by decide,Tryz.func307.trans (congrArg Z (by kernel_rfl))⟩
 f25:=⟨Tryz.f308.name,by decide,Tryz.func308.trans (congrArg Z (by kernel_rfl))⟩
 f26:=⟨Tryz.f309.name,by decide,Tryz.func309.trans (congrArg Z (by kernel_rfl))⟩
 f27:=⟨Tryz.f310.name,by decide,Tryz.func310.trans (congrArg Z (by kernel_rfl))⟩
 f28:=a8a.trans (congrArg Z (by kernel_rfl))
 f29:=a8b.trans (congrArg Z (by kernel_rfl))
 f46:=⟨Tryz.f363.name,by decide,Tryz.func363.trans (congrArg Z (by kernel_rfl))⟩
 f47:=a8g.trans (congrArg Z (by kernel_rfl))
 f48:=a8h.trans (congrArg Z (by kernel_rfl))
 f49:=⟨Tryz.f364.name,by decide,Tryz.func364.trans (congrArg Z (by kernel_rfl))⟩
 f50:=⟨Tryz.f365.name,by decide,Tryz.func365.trans (congrArg Z (by kernel_rfl))⟩
 f57:=⟨Tryz.f413.name,by decide,Tryz.func413.trans (congrArg Z (by kernel_rfl))⟩
 t0:=Xu
 a0:=Xq
 z0:=Xs
 v0:=Xw
 t3:=Nl
 a3:=Oe
 z3:=Of
 v3:=Og
 t4:=RE
 a4:=RB
 z4:=RD
 v4:=RF
 t5:=Vn
 a5:=Xr
 z5:=Xt
 v5:=Xx
 t9:=L2
 a9:=Ps
 z9:=Pt
 v9:=Pu
 t22:=dW
 a22:=a8n
 z22:=a95
 v22:=a9a
 t25:=Tryz.underlying239
 a25:=Tryz.isAgg239
 z25:=Tryz.sizeOf239
 v25:=Tryz.zeroValue239
 t39:=dX
 a39:=dS
 z39:=dU
 v39:=dZ
 t45:=a9O
 a45:=a8s
 z45:=a9A
 v45:=a9f
 t46:=a9P
 a46:=a8t
 z46:=a9B
 v46:=a9g
 t50:=a9L
 a50:=a8p
 z50:=a97
 v50:=a9c
 t53:=dY
 a53:=dT
 z53:=dV
 v53:=d_
 t55:=a9M
 a55:=a8q
 z55:=a98
 v55:=a9d
 t66:=a9S
 a66:=a8u
 z66:=a9C
 v66:=a9h
 t70:=a9T
 a70:=a8v
 z70:=a9D
 v70:=a9i
 t76:=a9V
 a76:=a8x
 z76:=a9F
 v76:=a9k
 t77:=a9W
 a77:=a8y
 z77:=a9G
 v77:=a9l}
def Tryz.a'c:Mv:=⟨λ|4=>204|n=>n,λ|22=>119|25=>217|0=>0|3=>3|4=>4|9=>9|20=>20|n=>n,λ|n=>n⟩
theorem Tryz.a'b:aUK A4 Tryz.a'c:={
 mixed:=by kernel_rfl
 f4:=⟨Tryz.f204.name,by decide,Tryz.func204.trans (congrArg Z (by kernel_rfl))⟩
 t0:=Xu
 a0:=Xq
 z0:=Xs
 v0:=Xw
 t3:=Nl
 a3:=Oe
 z3:=Of
 v3:=Og
 t4:=RE
 a4:=RB
 z4:=RD
 v4:=RF
 t9:=L2
 a9:=Ps
 z9:=Pt
 v9:=Pu
 t20:=Tryz.underlying20
 a20:=Tryz.isAgg20
 z20:=Tryz.sizeOf20
 v20:=Tryz.zeroValue20
 t22:=dW
 a22:=a8n
 z22:=a95
 v22:=a9a}
end
end Go.Proofs
namespace Go.Proofs.YtcfhleenecfghaaGreatDoor
section
open Go.RowKit
variable{W w w' w1 wr:A'}{DY v:A1}{e:A_}{C:Array A1}{blk kw p st:Int}{L:List (List UInt8)}{l:List (Nat×Nat×List ByteArray)}{xs:List A1}{ws:List ByteArray}{ks:List Int}{B base bi f2 g i j k n o:Nat}{T:Nat->Prop}
theorem qH(a b:Nat):UG (a:Int) (b:Int)=V.G' a b:=by
 unfold UG V.G';by_cases e:a<b
 ·have h2:(a:Int)<b:=by omega
  simp[e,h2]
 ·by_cases h3:b<a
  ·have h2:¬(a:Int)<b:=by omega
   have h4:(b:Int)<a:=by omega
   simp[e,h2,h3,h4]
  ·have h2:¬(a:Int)<b:=by omega
   have h4:¬(b:Int)<a:=by omega
   simp[e,h2,h3,h4]
theorem qI(a b:ByteArray)(w:A'):AZ A4 89 #[.string a,.string b] w λe w'=>e=.returned (.int .i64 (V.KD a.data.toList b.data.toList))/\w'=w:=by
 have f:AP (V.KD a.data.toList b.data.toList=if V.G' a.size b.size !=0 then V.G' a.size b.size else Hg a.data.toList b.data.toList):=by refine A3 ?_;unfold V.KD;rw[show a.size=a.data.toList.length from by simp,show b.size=b.data.toList.length from by simp]
 cases h:V.G' a.size b.size !=0;all_goals go_enter Tryz.func89,Tryz.ntmps89;go_wp2_with(first|(go_at_call 90;refine(Tryz.cmp_Compare_int _ _ _).mono ?_;rintro e w'⟨rfl,rfl⟩;rw[qH])|(go_at_call 153;refine(Tryz.strings_Compare _ _ _).mono ?_;rintro e w'⟨rfl,rfl⟩));go_ret;exact⟨K0 (by rw[f.out,h];rfl),rfl⟩
theorem zl(a b:ByteArray)(w:A')(h:a.size<=BK)(m:b.size<=BK):AZ A4 91 #[.string a,.string b] w λe w'=>e=.returned (.int .i64 (V.N8 a.data.toList b.data.toList))/\w'=w:=by cases f:V.digits a.data.toList<;>cases h2:V.digits b.data.toList;all_goals go_enter Tryz.func91,Tryz.ntmps91;go_wp2_with fail;refine(bw _ _ h).mono ?_;rintro e w'⟨rfl,rfl⟩;rw[f];go_wp2_with fail;refine(bw _ _ m).mono ?_;rintro e w'⟨rfl,rfl⟩;rw[h2];go_wp2_with(first|(go_at_call 89;refine(qI _ _ _).mono ?_;rintro e w'⟨rfl,rfl⟩)|(go_at_call 153;refine(Tryz.strings_Compare _ _ _).mono ?_;rintro e w'⟨rfl,rfl⟩));go_ret;exact⟨K0 (by unfold V.N8;rw[f,h2];rfl),rfl⟩
theorem jX(b c:Nat)(f:List ByteArray)(w:A')(z:f.length<=BK)(s:∀x∈f,x.size<=BK)(hc:∀j,j<f.length->w.cell? ⟨b,j,J⟩=Z (.string (f.getD j BS))):AZ A4 169 #[.slice (Z ⟨b,0,J⟩) f.length c,.func (.func 170) #[] #[]] w λe w'=>e=.returned (.bool (V.N6 V.number f))/\w'=w:=by
 unfold BK at z;go_enter Tryz.func169,Tryz.ntmps169;go_wp2;go_loop[9]λi=>∃k:Nat,k<=f.length/\i=.int .i64 k/\AP (V.N6 V.number (f.take k)=A0)(λi=>f.length-(L_ i).toNat);case atStart=>exact⟨0,JJ _,rfl,A3 rfl⟩
 case round=>
  obtain⟨k,A,rfl,H⟩:=hrel;by_cases hlt:k<f.length
  ·have y:=hc k hlt;have m:(f.getD k BS).size<=BK:=by rw[V.getD_at _ _ hlt];exact s _ (EC hlt)
   generalize hx:f.getD k BS=x at y m;have p:AP (f.getD k BS=x):=A3 hx;clear hx hc s;cases h:V.number x.data.toList;·go_wp2_with(go_at_call 170;refine(tL _ _ m).mono ?_;rintro e w'⟨rfl,rfl⟩;rw[h]);go_ret;exact⟨Ez (V.yq _ f k hlt (by rw[p.out,h])).symm,rfl⟩
   ·go_wp2_with(go_at_call 170;refine(tL _ _ m).mono ?_;rintro e w'⟨rfl,rfl⟩;rw[h]);go_round;case rel=>exact⟨k+1,by omega,by go_num,A3 (V.yr _ f k hlt H.out (by rw[p.out,h]))⟩
    case measure=>simp[L_];omega
  ·go_wp2;go_ret;exact⟨Ez (by rw[<-e6 (l:=f) (i:=k) (by omega)];exact H.out.symm),rfl⟩
theorem aCN(b c:Nat)(f:List ByteArray)(w:A')(z:f.length<=BK)(s:∀x∈f,x.size<=BK)(hc:∀j,j<f.length->w.cell? ⟨b,j,J⟩=Z (.string (f.getD j BS))):AZ A4 169 #[.slice (Z ⟨b,0,J⟩) f.length c,.func (.func 171) #[] #[]] w λe w'=>e=.returned (.bool (V.N6 V.mark f))/\w'=w:=by
 unfold BK at z;go_enter Tryz.func169,Tryz.ntmps169;go_wp2;go_loop[9]λi=>∃k:Nat,k<=f.length/\i=.int .i64 k/\AP (V.N6 V.mark (f.take k)=A0)(λi=>f.length-(L_ i).toNat);case atStart=>exact⟨0,JJ _,rfl,A3 rfl⟩
 case round=>
  obtain⟨k,A,rfl,H⟩:=hrel;by_cases hlt:k<f.length
  ·have y:=hc k hlt;have m:(f.getD k BS).size<=BK:=by rw[V.getD_at _ _ hlt];exact s _ (EC hlt)
   generalize hx:f.getD k BS=x at y m;have p:AP (f.getD k BS=x):=A3 hx;clear hx hc s;cases h:V.mark x.data.toList;·go_wp2_with(go_at_call 171;refine(a1q _ _ m).mono ?_;rintro e w'⟨rfl,rfl⟩;rw[h]);go_ret;exact⟨Ez (V.yq _ f k hlt (by rw[p.out,h])).symm,rfl⟩
   ·go_wp2_with(go_at_call 171;refine(a1q _ _ m).mono ?_;rintro e w'⟨rfl,rfl⟩;rw[h]);go_round;case rel=>exact⟨k+1,by omega,by go_num,A3 (V.yr _ f k hlt H.out (by rw[p.out,h]))⟩
    case measure=>simp[L_];omega
  ·go_wp2;go_ret;exact⟨Ez (by rw[<-e6 (l:=f) (i:=k) (by omega)];exact H.out.symm),rfl⟩
theorem aCO(w:A'):AZ A4 169 #[.slice J 0 0,.func (.func 171) #[] #[]] w λe w'=>e=.returned (.bool A0)/\w'=w:=by go_enter Tryz.func169,Tryz.ntmps169;go_wp2;refine wp_loop_rounds 1 ?_;rw[rounds_succ];go_wp2;go_ret;exact⟨rfl,rfl⟩
theorem zk(D c1 b2 c2:Nat)(b f:List ByteArray)(w:A')(a:b.length<=BK)(U:f.length<=BK)(A:∀x∈b,x.size<=BK)(C:∀x∈f,x.size<=BK)(y:∀j,j<b.length->w.cell? ⟨D,j,J⟩=Z (.string (b.getD j BS)))(z:∀j,j<f.length->w.cell? ⟨b2,j,J⟩=Z (.string (f.getD j BS))):AZ A4 88 #[.slice (Z ⟨D,0,J⟩) b.length c1,.slice (Z ⟨b2,0,J⟩) f.length c2,.func (.func 89) #[] #[]] w λe w'=>e=.returned (.int .i64 (V.lexB V.KD b f))/\w'=w:=by
 unfold BK at a U;go_enter Tryz.func88,Tryz.ntmps88;go_wp2;go_loop[13]λi=>∃k:Nat,k<=b.length/\k<=f.length/\i=.int .i64 k/\AP (V.lexB V.KD b f=V.lexB V.KD (b.drop k) (f.drop k))(λi=>b.length-(L_ i).toNat);case atStart=>exact⟨0,JJ _,JJ _,rfl,A3 rfl⟩
 case round=>
  obtain⟨k,t,u,rfl,H⟩:=hrel;by_cases h:k<b.length
  ·have c:=y k h;have d:(b.getD k BS).size<=BK:=by rw[V.getD_at _ _ h];exact A _ (EC h)
   generalize K:b.getD k BS=N at c d;have p:AP (b.getD k BS=N):=A3 K;clear K;by_cases m:k<f.length
   ·have q:=z k m;have r:(f.getD k BS).size<=BK:=by rw[V.getD_at _ _ m];exact C _ (EC m)
    generalize M:f.getD k BS=Q at q r;have s:AP (f.getD k BS=Q):=A3 M;clear M y z A C;cases I:V.KD N.data.toList Q.data.toList !=0
    ·go_wp2_with(go_at_call 89;refine(qI _ _ _).mono ?_;rintro e w'⟨rfl,rfl⟩);go_round;case rel=>exact⟨k+1,by omega,by omega,by go_num,A3 (H.out.trans (V.a2P _ b f k h m (by rw[p.out,s.out];exact I)))⟩
     case measure=>simp[L_];omega
    ·go_wp2_with(go_at_call 89;refine(qI _ _ _).mono ?_;rintro e w'⟨rfl,rfl⟩);go_ret;exact⟨K0 (by rw[H.out,V.a2L _ b f k h m (by rw[p.out,s.out];exact I),p.out,s.out]),rfl⟩
   ·clear y z A C;go_wp2;go_ret;exact⟨K0 (by rw[H.out,V.a2N _ b f k h (by omega)]),rfl⟩
  ·by_cases m:b.length<f.length;·go_wp2;go_ret;exact⟨K0 (by rw[H.out,V.a2M _ b f k (by omega) (by omega)]),rfl⟩
   ·go_wp2;go_ret;exact⟨K0 (by rw[H.out,V.a2O _ b f k (by omega) (by omega)]),rfl⟩
theorem aDx(K c1 b2 c2:Nat)(b f:List ByteArray)(w:A')(c:b.length<=BK)(d:f.length<=BK)(A:∀x∈b,x.size<=BK)(C:∀x∈f,x.size<=BK)(y:∀j,j<b.length->w.cell? ⟨K,j,J⟩=Z (.string (b.getD j BS)))(z:∀j,j<f.length->w.cell? ⟨b2,j,J⟩=Z (.string (f.getD j BS))):AZ A4 88 #[.slice (Z ⟨K,0,J⟩) b.length c1,.slice (Z ⟨b2,0,J⟩) f.length c2,.func (.func 91) #[] #[]] w λe w'=>e=.returned (.int .i64 (V.lexB V.N8 b f))/\w'=w:=by
 unfold BK at c d;go_enter Tryz.func88,Tryz.ntmps88;go_wp2;go_loop[13]λi=>∃k:Nat,k<=b.length/\k<=f.length/\i=.int .i64 k/\AP (V.lexB V.N8 b f=V.lexB V.N8 (b.drop k) (f.drop k))(λi=>b.length-(L_ i).toNat);case atStart=>exact⟨0,JJ _,JJ _,rfl,A3 rfl⟩
 case round=>
  obtain⟨k,t,u,rfl,H⟩:=hrel;by_cases h:k<b.length
  ·have q:=y k h;have D:(b.getD k BS).size<=BK:=by rw[V.getD_at _ _ h];exact A _ (EC h)
   generalize N:b.getD k BS=U at q D;have p:AP (b.getD k BS=U):=A3 N;clear N;by_cases m:k<f.length
   ·have r:=z k m;have I:(f.getD k BS).size<=BK:=by rw[V.getD_at _ _ m];exact C _ (EC m)
    generalize Q:f.getD k BS=a at r I;have s:AP (f.getD k BS=a):=A3 Q;clear Q y z A C;cases M:V.N8 U.data.toList a.data.toList !=0
    ·go_wp2_with(go_at_call 91;refine(zl _ _ _ D I).mono ?_;rintro e w'⟨rfl,rfl⟩);go_round;case rel=>exact⟨k+1,by omega,by omega,by go_num,A3 (H.out.trans (V.a2P _ b f k h m (by rw[p.out,s.out];exact M)))⟩
     case measure=>simp[L_];omega
    ·go_wp2_with(go_at_call 91;refine(zl _ _ _ D I).mono ?_;rintro e w'⟨rfl,rfl⟩);go_ret;exact⟨K0 (by rw[H.out,V.a2L _ b f k h m (by rw[p.out,s.out];exact M),p.out,s.out]),rfl⟩
   ·clear y z A C;go_wp2;go_ret;exact⟨K0 (by rw[H.out,V.a2N _ b f k h (by omega)]),rfl⟩
  ·by_cases m:b.length<f.length;·go_wp2;go_ret;exact⟨K0 (by rw[H.out,V.a2M _ b f k (by omega) (by omega)]),rfl⟩
   ·go_wp2;go_ret;exact⟨K0 (by rw[H.out,V.a2O _ b f k (by omega) (by omega)]),rfl⟩
def Ji(B:Nat)(w:A')(v:A1)(L:List (List UInt8)):Prop:=∃(b c:Nat)(e:List ByteArray),v=As (Z ⟨b,0,J⟩) e.length c/\e.map (·.data.toList)=L/\B<=b/\b<w.heap.size/\e.length<=BK/\(∀x∈e,x.size<=BK)/\∀j,j<e.length->w.cell? ⟨b,j,J⟩=Z (AI (e.getD j BS))
theorem Ji.later(h:Ji B w v L)(e:AS w.heap.size w w'):Ji B w' v L:=by
 obtain⟨b,c,x,e1,e2,m,hlt,f,h2,h3⟩:=h;refine⟨b,c,x,e1,e2,m,?_,f,h2,λj s=>?_⟩;·have:=e.size;omega
 ·rw[<-h3 j s];exact e.cell (p:=⟨b,j,J⟩) hlt
theorem Ji.mono{B':Nat}(h:Ji B w v L)(p:B'<=B):Ji B' w v L:=by obtain⟨b,c,f,e1,e2,m,e⟩:=h;exact⟨b,c,f,e1,e2,by omega,e⟩
theorem Ji.setCell{B:Nat}{w:A'}{v:A1}{L:List (List UInt8)}(h:Ji B w v L)(a o:Nat)(u:A1)(y:a<B):Ji B (w.setCell ⟨a,o,J⟩ u) v L:=by
 obtain⟨b,c,x,e1,e2,m,hlt,f,h2,h3⟩:=h;refine⟨b,c,x,e1,e2,m,?_,f,h2,λj s=>?_⟩;·have:=((B9 0 w).setCell (p:=⟨a,o,J⟩) (JJ _) u).size;omega
 ·rw[<-h3 j s];exact Sw w ⟨a,o,J⟩ ⟨b,j,J⟩ u λe=>by injection e;omega
theorem Ji.alloc{B:Nat}{w:A'}{v:A1}{L:List (List UInt8)}(h:Ji B w v L)(o:Obj):Ji B (w.alloc o) v L:=h.later ((B9 _ _).alloc (AX _) _)
theorem aSm(s:ByteArray)(w:A'):AZ A4 173 #[AI s,AI ⟨#[118]⟩] w λe w'=>∃t:ByteArray,e=hq (AI t)/\t.data.toList=RA s.data.toList [118]/\w'=w:=by refine(Tryz.strings_TrimPrefix s ⟨#[118]⟩ w).mono ?_;rintro e w'⟨rfl,rfl⟩;exact⟨_,rfl,rfl,rfl⟩
theorem aE9(s:ByteArray)(m:Int)(w:A')(hs:s.size<4294967281)(b:w.cell? ⟨0,0,J⟩=Z (IS Po m)):AZ A4 118 #[AI s,AI ⟨#[45]⟩] w λe w'=>∃(x y:ByteArray)(f:Bool),e=hq (aY8 #[AI x,AI y,aY5 f])/\x.data.toList=(Ge s.data.toList [45]).1/\y.data.toList=(Ge s.data.toList [45]).2.1/\f=(Ge s.data.toList [45]).2.2/\AS w.heap.size w w'/\w.drawn<=w'.drawn:=by refine(Tryz.strings_Cut s ⟨#[45]⟩ m w hs b).mono ?_;rintro e w'⟨rfl,n,rfl⟩;exact⟨_,_,_,rfl,rfl,rfl,rfl,Je (B9 _ _) n,Nat.le_add_right _ _⟩
theorem a5j(s:ByteArray)(m:Int)(w:A')(hs:s.size<=40)(b:w.cell? ⟨0,0,J⟩=Z (IS Po m)):AZ A4 174 #[AI s,AI ⟨#[46]⟩] w λe w'=>∃v:A1,e=hq v/\Ji w.heap.size w' v (V.pieces 46 s.data.toList)/\AS w.heap.size w w'/\w.drawn<=w'.drawn:=by
 refine(Tryz.strings_Split s ⟨#[46]⟩ m w (by omega) b (by decide)).mono ?_;rintro e w'⟨rfl,rfl⟩;have p:=V.uz s ⟨#[46]⟩ 46 rfl;have h:=wh ⟨#[46]⟩ (by decide) 0 _ s rfl;refine⟨_,rfl,⟨w.heap.size,UH s ⟨#[46]⟩+1,aR ⟨#[46]⟩ 0 (UH s ⟨#[46]⟩) s,?_,p,AX _,by simp,?_,?_,?_⟩,(B9 _ _).alloc (AX _) _,AX _⟩;·rw[h]
 ·have:=we ⟨#[46]⟩ (by decide) s.size s (AX _);rw[h];unfold BK;omega
 ·intro x hx;have b:x.data.toList∈V.pieces 46 s.data.toList:=by rw[<-p];exact List.mem_map.2 ⟨x,hx,rfl⟩
  have:=V.gu 46 _ _ b;have e1:x.data.toList.length=x.size:=by simp
  have e2:s.data.toList.length=s.size:=by simp
  unfold BK;omega
 ·intro j f;rw[xS _ _ _ _ rfl,W0,W',Ld f,V.getD_at _ _ f];rfl
theorem drawn_alloc(w:A')(o:Obj):(w.alloc o).drawn=w.drawn:=rfl
theorem drawn_setCell(w:A')(a:Aa)(v:A1):(w.setCell a v).drawn=w.drawn:=by unfold La;split<;>rfl
theorem Ji.len(h:Ji B w v L):∃(b c:Nat),v=As (Z ⟨b,0,J⟩) L.length c:=by obtain⟨b,c,e,e1,e2,_⟩:=h;exact⟨b,c,by rw[e1,<-e2,Mz]⟩
theorem Aw(e:AS W.heap.size W w1){b:Nat}(h:W.cell? ⟨b,o,J⟩=Z v):w1.cell? ⟨b,o,J⟩=Z v:=by rw[e.cell (p:=⟨b,o,J⟩) (Ff (h:=h))];exact h
theorem VE(e:AS W.heap.size W w1){b:Nat}(hlt:b<W.heap.size)(h:W.frozen? ⟨b,o,J⟩=A5):w1.frozen? ⟨b,o,J⟩=A5:=by rw[e.frozen (p:=⟨b,o,J⟩) hlt];exact h
theorem BX{b:Nat}(h:W.cell? ⟨b,o,J⟩=Z v)(x:Obj):(W.alloc x).cell? ⟨b,o,J⟩=Z v:=Aw ((B9 _ W).alloc (AX _) x) h
theorem a1z{b:Nat}(hlt:b<W.heap.size)(h:W.frozen? ⟨b,o,J⟩=A5)(x:Obj):(W.alloc x).frozen? ⟨b,o,J⟩=A5:=VE ((B9 _ W).alloc (AX _) x) hlt h
theorem aSr{c a:A1}(f:w.cell? ⟨n,0,J⟩=Z c)(h2:w.cell? ⟨n,1,J⟩=Z a)(x y:A1):((w.setCell ⟨n,0,J⟩ x).setCell ⟨n,1,J⟩ y).cell? ⟨n,0,J⟩=Z x/\((w.setCell ⟨n,0,J⟩ x).setCell ⟨n,1,J⟩ y).cell? ⟨n,1,J⟩=Z y:=by
 have b:(w.setCell ⟨n,0,J⟩ x).cell? ⟨n,0,J⟩=Z x:=oe _ _ _ f;have e1:(w.setCell ⟨n,0,J⟩ x).cell? ⟨n,1,J⟩=Z a:=by rw[Sw (h:=λe=>by injection e;omega)];exact h2
 refine⟨?_,oe _ _ _ e1⟩;rw[Sw (h:=λe=>by injection e;omega)];exact b
theorem uJ(h:w.cell? ⟨0,o,J⟩=Z v):0<w.heap.size:=by
 by_cases b:0<w.heap.size;·exact b
 ·have e:w.heap.size=0:=by omega
  have:w.heap[0]?=J:=by rw[Array.getElem?_eq_none_iff];omega
  simp[World.cell?,this]at h
theorem v7(s:ByteArray)(m:Int)(w:A')(hs:s.size<=40)(hm:w.cell? ⟨0,0,J⟩=Z (IS Po m)):AZ A4 87 #[AI s] w λe w'=>∃r a:A1,e=hq (dd #[r,a])/\Ji w.heap.size w' r (V.parts s.data.toList).1/\(a=As J 0 0/\(V.parts s.data.toList).2=[]∨Ji w.heap.size w' a (V.parts s.data.toList).2)/\AS w.heap.size w w'/\w.drawn<=w'.drawn:=by
 have AV:=uJ hm;have E4:AP (V.parts s.data.toList=(V.pieces 46 (Ge (RA s.data.toList [118]) [45]).1,if(Ge (RA s.data.toList [118]) [45]).2.2 then V.pieces 46 (Ge (RA s.data.toList [118]) [45]).2.1 else[])):=A3 rfl;go_enter Tryz.func87,Tryz.ntmps87;go_wp2_with fail;refine(aSm _ _).mono ?_;rintro e D⟨t,rfl,AH,rfl⟩;have u:t.size<=40:=V.aSn AH hs;have Cm:=A3 AH;clear AH;go_wp2_with fail;refine(aE9 t m _ (by omega) (by rw[ia _ _ _ AV];exact hm)).mono ?_;rintro e D⟨x,y,f,rfl,hx,hy,AE,C,Wk⟩;have M:w.drawn<=D.drawn:=Wk;have p0:=A3 M;clear Wk M;obtain⟨E,F⟩:=V.qL hx hy u;have EL:=A3 hx;have F5:=A3 hy;have El:=A3 AE;clear hx hy AE;have H:w.heap.size<D.heap.size:=by have:=C.size;simp at this;omega
 have N:D.cell? ⟨0,0,J⟩=Z (IS Po m):=Aw C (by rw[ia _ _ _ AV];exact hm);have Q:D.cell? ⟨w.heap.size,0,J⟩=Z (As J 0 0):=Aw C (by simp);have U:D.cell? ⟨w.heap.size,1,J⟩=Z (As J 0 0):=Aw C (by simp);have c:D.frozen? ⟨w.heap.size,0,J⟩=A5:=VE C (by simp) (by simp);have d:D.frozen? ⟨w.heap.size,1,J⟩=A5:=VE C (by simp) (by simp);have g7:=A3 C;clear C;go_wp2_with fail;refine(a5j x m _ E N).mono ?_;rintro e b⟨r,rfl,P,A,Wl⟩;have UN:=A3 (HA p0.out Wl);clear Wl;obtain⟨E6,c1,e1⟩:=P.len;have yI:=A3 P;clear P;subst e1;have q:w.heap.size<b.heap.size:=by have:=A.size;omega
 have K:AS w.heap.size w b:=(((B9 _ w).alloc (AX _) _).trans (g7.out.mono (by simp))).trans (A.mono (po H));have xz:=A3 K;clear K;replace N:=Aw A N;replace Q:=Aw A Q;replace U:=Aw A U;replace c:=VE A H c;replace d:=VE A H d;have Cl:=A3 A;clear A;cases f
 ·obtain⟨R,S⟩:=aSr Q U (As (Z ⟨E6,0,J⟩) (V.pieces 46 x.data.toList).length c1) (As J 0 0);replace R:=λo=>BX R o;replace S:=λo=>BX S o;go_wp2;refine L3 (v:=dd #[As (Z ⟨E6,0,J⟩) (V.pieces 46 x.data.toList).length c1,As J 0 0]) (by simp[De,a94,go_sem,R,S]) rfl ⟨_,_,rfl,?_,AA ⟨rfl,?_⟩,?_,?_⟩;·rw[E4.out,<-Cm.out,<-EL.out];exact(((yI.out.setCell _ 0 _ H).setCell _ 1 _ H).alloc _).mono (by omega)
  ·rw[E4.out,<-Cm.out,<-El.out];rfl
  ·exact((xz.out.setCell (p:=⟨w.heap.size,0,J⟩) (AX _) _).setCell (p:=⟨w.heap.size,1,J⟩) (AX _) _).alloc (by simp;omega) _
  ·rw[drawn_alloc,drawn_setCell,drawn_setCell];exact UN.out
 ·go_wp2_with fail;refine(a5j y m _ F (by rw[ia _ _ _ (by omega)];exact N)).mono ?_;rintro e z⟨a,rfl,X,h,bV⟩;have aAd:=A3 (HA UN.out (show b.drawn<=z.drawn from bV));clear bV;obtain⟨b2,c2,e2⟩:=X.len;have aB9:=A3 X;clear X;subst e2;have l5:w.heap.size<z.heap.size:=by have:=h.size;simp at this;omega
  have aVv:b.heap.size<z.heap.size:=by have:=h.size;simp at this;omega
  have aVe:z.frozen? ⟨w.heap.size,0,J⟩=A5:=VE h (by simp;omega) (a1z q c _);have aVf:z.frozen? ⟨w.heap.size,1,J⟩=A5:=VE h (by simp;omega) (a1z q d _);have aIb:z.cell? ⟨w.heap.size,0,J⟩=Z (As J 0 0):=Aw h (by rw[ia _ _ _ q];exact Q);have aId:z.cell? ⟨w.heap.size,1,J⟩=Z (As J 0 0):=Aw h (by rw[ia _ _ _ q];exact U);have GH:z.cell? ⟨b.heap.size,0,J⟩=Z (As (Z ⟨E6,0,J⟩) (V.pieces 46 x.data.toList).length c1):=Aw h (by simp);have G0:z.cell? ⟨b.heap.size,1,J⟩=Z (As J 0 0):=Aw h (by simp);have a1L:z.frozen? ⟨b.heap.size,0,J⟩=A5:=VE h (by simp) (by simp);have X2:z.frozen? ⟨b.heap.size,1,J⟩=A5:=VE h (by simp) (by simp);have Er:=A3 h;clear h Q U c d N;have I:AS b.heap.size b z:=((B9 _ b).alloc (AX _) _).trans (Er.out.mono (by simp));have xv:=A3 I;clear I;go_wp2;refine L3 (v:=dd #[As (Z ⟨E6,0,J⟩) (V.pieces 46 x.data.toList).length c1,As (Z ⟨b2,0,J⟩) (V.pieces 46 y.data.toList).length c2]) (by simp[De,a94,go_sem,aIb,aId]) rfl ⟨_,_,rfl,?_,AF ?_,?_,?_⟩;·rw[E4.out,<-Cm.out,<-EL.out];exact(((yI.out.later (xv.out.setCell (p:=⟨b.heap.size,1,J⟩) (AX _) _)).setCell _ 0 _ H).setCell _ 1 _ H).mono (by omega)
  ·rw[E4.out,<-Cm.out,<-El.out,if_pos rfl,<-F5.out];exact(((aB9.out.setCell _ 1 _ (by simp)).setCell _ 0 _ (by simp;omega)).setCell _ 1 _ (by simp;omega)).mono (by simp;omega)
  ·exact(((xz.out.trans (xv.out.mono (by omega))).setCell (p:=⟨b.heap.size,1,J⟩) (by simp;omega) _).setCell (p:=⟨w.heap.size,0,J⟩) (AX _) _).setCell (p:=⟨w.heap.size,1,J⟩) (AX _) _
  ·rw[drawn_setCell,drawn_setCell,drawn_setCell];exact aAd.out
theorem aRM(s:ByteArray)(m:Int)(w:A')(hs:s.size<=40)(h:w.cell? ⟨0,0,J⟩=Z (IS Po m)):AZ A4 87 #[AI s] w λe w'=>∃f b:A1,e=hq (dd #[f,b])/\Ji w.heap.size w' f (V.parts s.data.toList).1/\(b=As J 0 0/\(V.parts s.data.toList).2=[]∨Ji w.heap.size w' b (V.parts s.data.toList).2)/\AS w.heap.size w w':=(v7 s m w hs h).mono λ_ _⟨f,b,h1,h2,h3,h4,_⟩=>⟨f,b,h1,h2,h3,h4⟩
theorem vK{l:List UInt8}(h:40<l.length):V.AW l=A5:=by unfold V.AW;rw[decide_eq_false (by omega)];rfl
theorem aT4{l:List UInt8}(h:l.length<=40):V.AW l=(Vm l [118]&&((V.parts l).1.length==3&&(V.parts l).1.all V.number&&(V.parts l).2.all V.mark)):=by unfold V.AW;rw[decide_eq_true h];simp
theorem a1u(s:ByteArray)(m:Int)(w:A')(q:s.size<=BK)(hm:w.cell? ⟨0,0,J⟩=Z (IS Po m)):AZ A4 85 #[AI s] w λe w'=>e=hq (aY5 (V.AW s.data.toList))/\AS w.heap.size w w':=by
 have a:s.data.toList.length=s.size:=by simp
 by_cases r:40<s.size;·have f:=A3 (vK (l:=s.data.toList) (by omega));clear a;go_enter Tryz.func85,Tryz.ntmps85;go_wp2;go_ret;exact⟨Ez f.out.symm,B9 _ _⟩
 ·have f:=A3 (aT4 (l:=s.data.toList) (by omega));clear a;cases p:Vm s.data.toList [118];·go_enter Tryz.func85,Tryz.ntmps85;go_wp2_with(go_at_call 168;refine(Tryz.strings_HasPrefix _ _ _).mono ?_;rintro e w'⟨rfl,rfl⟩;rw[show Vm s.data.toList _=A5 from p]);go_ret;exact⟨Ez (by rw[f.out,p];rfl),B9 _ _⟩
  ·go_enter Tryz.func85,Tryz.ntmps85;go_wp2_with(go_at_call 168;refine(Tryz.strings_HasPrefix _ _ _).mono ?_;rintro e w'⟨rfl,rfl⟩;rw[show Vm s.data.toList _=A0 from p]);refine(aRM s m _ (by omega) hm).mono ?_;rintro e w1⟨X,Fc,rfl,t,u,N⟩;have x:=A3 N;obtain⟨D,c1,b,e1,M,E,M_,H,c,Q⟩:=t;have K:=A3 M;have A:=A3 Q;have C:=A3 c;clear M Q c N;subst e1;have EW:AP (((V.parts s.data.toList).1.length==3)=((b.length:Int)==3)/\(V.parts s.data.toList).1.all V.number=V.N6 V.number b):=by
    refine A3 ⟨?_,?_⟩;·rw[<-K.out,Mz,U3,beq_iff_eq,beq_iff_eq];omega
    ·rw[<-K.out,V.yp]
   rcases u with⟨rfl,y⟩|⟨b2,c2,z,e2,y,Wa,NG,F,d,U⟩
   ·have I:=A3 y;clear y;cases h3:(b.length:Int)==3;·go_wp2;go_ret;exact⟨Ez (by rw[f.out,EW.out.1,h3,p];rfl),x.out.alloc (by omega) _⟩
    ·cases hn:V.N6 V.number b;·go_wp2_with(go_at_call 169;refine(jX D c1 b _ H C.out λj h=>BX (A.out j h) _).mono ?_;rintro e w'⟨rfl,rfl⟩;rw[hn]);go_ret;exact⟨Ez (by rw[f.out,EW.out.1,EW.out.2,h3,hn,p];rfl),x.out.alloc (by omega) _⟩
     ·go_wp2_with fail;refine(jX D c1 b _ H C.out λj h=>BX (A.out j h) _).mono ?_;rintro e w'⟨rfl,rfl⟩;rw[hn];go_wp2_with fail;refine(aCO _).mono ?_;rintro e w'⟨rfl,rfl⟩;go_wp2;go_ret;exact⟨Ez (by rw[f.out,EW.out.1,EW.out.2,h3,hn,I.out,p];rfl),x.out.alloc (by omega) _⟩
   ·have P:AP ((V.parts s.data.toList).2.all V.mark=V.N6 V.mark z):=by refine A3 ?_;rw[<-y,V.yp]
    have R:=A3 U;have S:=A3 d;clear y U d;subst e2;cases h3:(b.length:Int)==3;·go_wp2;go_ret;exact⟨Ez (by rw[f.out,EW.out.1,h3,p];rfl),x.out.alloc (by omega) _⟩
    ·cases hn:V.N6 V.number b;·go_wp2_with(go_at_call 169;refine(jX D c1 b _ H C.out λj h=>BX (A.out j h) _).mono ?_;rintro e w'⟨rfl,rfl⟩;rw[hn]);go_ret;exact⟨Ez (by rw[f.out,EW.out.1,EW.out.2,h3,hn,p];rfl),x.out.alloc (by omega) _⟩
     ·go_wp2_with fail;refine(jX D c1 b _ H C.out λj h=>BX (A.out j h) _).mono ?_;rintro e w'⟨rfl,rfl⟩;rw[hn];go_wp2_with fail;refine(aCN b2 c2 z _ F S.out λj h=>BX (R.out j h) _).mono ?_;rintro e w'⟨rfl,rfl⟩;go_wp2;go_ret;exact⟨Ez (by rw[f.out,EW.out.1,EW.out.2,h3,hn,P.out,p];rfl),x.out.alloc (by omega) _⟩
theorem qF(s:ByteArray)(m:Int)(w:A')(hs:s.size<=BK)(h:w.cell? ⟨0,0,J⟩=Z (IS Po m))(hv:V.AW s.data.toList=A0):AZ A4 43 #[AI s] w λe w'=>e=hq (aY4 J)/\AS w.heap.size w w':=by go_enter Tryz.func43,Tryz.ntmps43;go_wp2_with fail;refine(a1u s m _ hs h).mono ?_;rintro e p⟨rfl,b⟩;have f:=A3 b;clear b;rw[hv];go_wp2;go_ret;exact⟨rfl,f.out⟩
theorem jf(s:ByteArray)(w:A')(h:s.size<=281474976710656):AZ A4 86 #[AI s] w λe w'=>e=hq (AI s)/\AS w.heap.size w w':=by go_enter Tryz.func86,Tryz.ntmps86;go_wp2_with fail;refine(Tryz.stringslite_Clone s _ h).mono ?_;rintro e m⟨rfl,b⟩;have f:=A3 b;clear b;go_wp2;go_ret;exact⟨rfl,f.out⟩
theorem aN_{a b:List UInt8}(h:(V.lex V.KD (V.parts a).1 (V.parts b).1 !=0)=A0):V.order a b=V.lex V.KD (V.parts a).1 (V.parts b).1:=by unfold V.order;rw[if_pos h]
theorem aNc{a b:List UInt8}(h:(V.lex V.KD (V.parts a).1 (V.parts b).1 !=0)=A5):V.order a b=if(V.parts a).2.isEmpty||(V.parts b).2.isEmpty then V.G' (V.parts b).2.length (V.parts a).2.length else V.lex V.N8 (V.parts a).2 (V.parts b).2:=by unfold V.order;rw[if_neg (by rw[h];simp)]
theorem a''(L:List (List UInt8)):L.isEmpty=((L.length:Int)==0):=by
 cases L with
 |nil=>rfl
 |cons x r=>
  have:(((x::r).length:Int)==0)=A5:=by rw[beq_eq_false_iff_ne];simp only[Jg];omega
  rw[this];rfl
theorem a2w(h:v=As J 0 0/\L=[]∨Ji B w v L):∃(a:Option Aa)(c:Nat)(e:List ByteArray),v=As a e.length c/\e.map (·.data.toList)=L/\e.length<=BK/\(∀x∈e,x.size<=BK)/\(e.length≠0->∃b,a=Z ⟨b,0,J⟩/\∀j,j<e.length->w.cell? ⟨b,j,J⟩=Z (AI (e.getD j BS))):=by
 rcases h with⟨rfl,rfl⟩|⟨b,c,e,e1,e2,_,_,f,h2,h3⟩;·exact⟨J,0,[],rfl,rfl,JJ _,by simp,λh=>absurd rfl h⟩
 ·exact⟨Z ⟨b,0,J⟩,c,e,e1,e2,f,h2,λ_=>⟨b,rfl,h3⟩⟩
theorem a6F(a b:ByteArray)(m:Int)(w:A')(A6:a.size<=40)(hb:b.size<=40)(hm:w.cell? ⟨0,0,J⟩=Z (IS Po m)):AZ A4 44 #[AI a,AI b] w λe w'=>e=hq (IS Po (V.order a.data.toList b.data.toList))/\AS w.heap.size w w'/\w.drawn<=w'.drawn:=by
 go_enter Tryz.func44,Tryz.ntmps44;go_wp2_with fail;refine(v7 a m _ A6 hm).mono ?_;rintro e w1⟨Hr,Fc,rfl,c,C,Ae,Wk⟩;have p0:=A3 Wk;clear Wk;have Br:=A3 Ae;have FD:=Aw Ae hm;clear Ae;go_wp2_with fail;refine(v7 b m _ hb FD).mono ?_;rintro e M⟨mq,VW,rfl,d,ZC,A,Wl⟩;have y:=A3 (HA p0.out Wl);clear Wl;have Cl:=A3 A;replace c:=c.later A;replace C:Fc=As J 0 0/\(V.parts a.data.toList).2=[]∨Ji w.heap.size M Fc (V.parts a.data.toList).2:=by
  rcases C with h|h;·exact AA h
  ·exact AF (h.later A)
 clear A FD hm;have q:AS w.heap.size w M:=Br.out.trans (Cl.out.mono Br.out.size);have oz:=A3 q;have B3:w.heap.size<=M.heap.size:=q.size;clear q;obtain⟨E6,c1,D,e1,fA,aGM,M_,Rz,DL,Fx⟩:=c;obtain⟨b2,c2,H,e2,TM,Wa,NG,Z',Cc,Lp⟩:=d;have EL:AP (V.lex V.KD (V.parts a.data.toList).1 (V.parts b.data.toList).1=V.lexB V.KD D H):=by refine A3 ?_;rw[<-fA,<-TM];rfl
 have Y1:=A3 Fx;have iy:=A3 Lp;have YB:=A3 DL;have jA:=A3 Cc;clear fA TM Fx Lp DL Cc;subst e1 e2;have z:AP (∀o1 o2,AS w.heap.size w ((M.alloc o1).alloc o2)):=A3 λo1 o2=>(oz.out.alloc B3 _).alloc (by simp;omega) _;obtain⟨a3,c3,I,r,kD,J0,l5,s⟩:=a2w C;obtain⟨a4,c4,K,t,fB,u,tB,x⟩:=a2w ZC;have E:=A3 kD;have F:=A3 fB;have N:=A3 s;have U:=A3 x;have pR:=A3 l5;have P:=A3 tB;clear C ZC kD fB s x l5 tB;subst r t;have R:AP (((V.parts a.data.toList).2.isEmpty||(V.parts b.data.toList).2.isEmpty)=((I.length:Int)==0||(K.length:Int)==0)):=by refine A3 ?_;rw[a'',a'',<-E.out,<-F.out,Mz,Mz]
 have a_:AP (V.G' (V.parts b.data.toList).2.length (V.parts a.data.toList).2.length=V.G' K.length I.length):=by refine A3 ?_;rw[<-E.out,<-F.out,Mz,Mz]
 cases hx:V.lexB V.KD D H !=0
 ·have p:=A3 (aNc (a:=a.data.toList) (b:=b.data.toList) (by rw[EL.out];exact hx));go_wp2_with fail;refine(zk E6 c1 b2 c2 D H _ Rz Z' YB.out jA.out (λj f=>BX (BX (Y1.out j f) _) _) λj f=>BX (BX (iy.out j f) _) _).mono ?_;rintro e w'⟨rfl,rfl⟩;cases h3:(I.length:Int)==0
  ·cases h4:(K.length:Int)==0;·obtain⟨Ow,r,s⟩:=N.out (by have:=beq_eq_false_iff_ne.1 h3;omega);obtain⟨S,t,x⟩:=U.out (by have:=beq_eq_false_iff_ne.1 h4;omega);have Q:=A3 s;have X:=A3 x;clear s x;subst r t;go_wp2_with fail;refine(aDx Ow c3 S c4 I K _ J0 u pR.out P.out (λj f=>BX (BX (Q.out j f) _) _) λj f=>BX (BX (X.out j f) _) _).mono ?_;rintro e w'⟨rfl,rfl⟩;go_wp2;go_ret;exact⟨K0 (by rw[p.out,R.out,h3,h4,if_neg (by decide),<-E.out,<-F.out];rfl),z.out _ _,y.out⟩
   ·go_wp2_with(go_at_call 90;refine(Tryz.cmp_Compare_int _ _ _).mono ?_;rintro e w'⟨rfl,rfl⟩;rw[qH]);go_ret;exact⟨K0 (by rw[p.out,R.out,h3,h4,if_pos (by decide),a_.out]),z.out _ _,y.out⟩
  ·go_wp2_with(go_at_call 90;refine(Tryz.cmp_Compare_int _ _ _).mono ?_;rintro e w'⟨rfl,rfl⟩;rw[qH]);go_ret;exact⟨K0 (by rw[p.out,R.out,h3,if_pos (by simp),a_.out]),z.out _ _,y.out⟩
 ·have p:=A3 (aN_ (a:=a.data.toList) (b:=b.data.toList) (by rw[EL.out];exact hx));go_wp2_with fail;refine(zk E6 c1 b2 c2 D H _ Rz Z' YB.out jA.out (λj f=>BX (BX (Y1.out j f) _) _) λj f=>BX (BX (iy.out j f) _) _).mono ?_;rintro e w'⟨rfl,rfl⟩;go_wp2;go_ret;exact⟨K0 (by rw[p.out,EL.out]),z.out _ _,y.out⟩
theorem aT'(a b:ByteArray)(m:Int)(w:A')(f:a.size<=40)(h:b.size<=40)(p:w.cell? ⟨0,0,J⟩=Z (IS Po m)):AZ A4 44 #[AI a,AI b] w λe w'=>e=hq (IS Po (V.order a.data.toList b.data.toList))/\AS w.heap.size w w':=(a6F a b m w f h p).mono λ_ _⟨h1,h2,_⟩=>⟨h1,h2⟩
theorem a6G{s:ByteArray}(h:V.AW s.data.toList=A0):s.size<=40:=by
 have e:s.data.toList.length=s.size:=by simp
 by_cases b:s.data.toList.length<=40;·omega
 ·rw[vK (by omega)]at h;cases h
theorem aSD(a b:ByteArray)(m:Int)(w:A')(z:w.cell? ⟨0,0,J⟩=Z (IS Po m))(C:V.AW a.data.toList=A0)(f:V.AW b.data.toList=A0):AZ A4 14 #[AI a,AI b] w λe w'=>e=hq (aY8 #[IS Po (V.order a.data.toList b.data.toList),aYA])/\AS w.heap.size w w':=by have H:=a6G C;have I:=a6G f;go_enter Tryz.func14,Tryz.ntmps14;go_wp2_with fail;refine(qF a m _ (by unfold BK;omega) z C).mono ?_;rintro e M⟨rfl,p⟩;have h:=A3 p;have A:=Aw p z;clear p;go_wp2_with fail;refine(qF b m _ (by unfold BK;omega) A f).mono ?_;rintro e N⟨rfl,s⟩;have x:=A3 s;have K:=Aw s A;clear s;go_wp2_with fail;refine(aT' a b m _ H I K).mono ?_;rintro e Q⟨rfl,y⟩;have D:=A3 y;clear y;go_wp2;go_ret2;exact⟨rfl,(h.out.trans (x.out.mono h.out.size)).trans (D.out.mono (HA h.out.size x.out.size))⟩
def Ui(f n:Nat):ByteArray:=⟨(V.Uj f n).toArray⟩
theorem XM{a b:ByteArray}(h:a=b):hq (AI a)=hq (AI b):=by rw[h]
theorem qQ(n:Nat)(h:n<10):(L0 #[48,49,50,51,52,53,54,55,56,57]).extract n (n+1)=⟨#[V.Jl n]⟩:=by
 have:∀n:Fin 10,(L0 #[48,49,50,51,52,53,54,55,56,57]).extract n.val (n.val+1)=⟨#[V.Jl n.val]⟩:=by decide
 exact this ⟨n,h⟩
theorem aEL(f:Nat)(z:f<=1000):∀(x:Int)(w:A'),0<=x->x<10^(f+1)->x<=1000000->AZ A4 16 #[IS Po x] w λe w'=>e=hq (AI (Ui f x.toNat))/\∃q,w'=w.drewN q:=by
 induction f with
 |zero=>
  intro x w s b _;have p:x<10:=by simpa using b
  obtain⟨n,rfl⟩:=aBE s;have hn:n<10:=by omega
  clear b;go_enter Tryz.func16,Tryz.ntmps16;go_wp2_with fail;go_ret;refine⟨XM ?_,0,rfl⟩;rw[qQ n hn];rfl
 |succ f D=>
  intro x w s b Q;obtain⟨n,rfl⟩:=aBE s;have I:=A3 (D (by omega));have H:=A3 z;clear D z;by_cases p:n<10
  ·have hx:(n:Int)<10:=by omega
   clear b;go_enter Tryz.func16,Tryz.ntmps16;go_wp2_with fail;go_ret;refine⟨XM ?_,0,rfl⟩;rw[qQ n p,jC,Ui,V.Uj,if_pos p]
  ·have hx:¬(n:Int)<10:=by omega
   have A:(n:Int)/10<10^(f+1):=by rw[Int.ediv_lt_iff_lt_mul (by omega)];rw[Int.pow_succ]at b;exact b
   have K:=A3 A;clear b A;have a:Po.wrap ((n:Int)/10)=(n:Int)/10:=by rw[dM];omega
   obtain⟨r,C,y⟩:∃r:Nat,n%10=r/\r<10:=⟨n%10,rfl,by omega⟩;have M:=A3 C;have AH:(n:Int).tmod 10=(r:Int):=by rw[aBF (by omega)];omega
   have N:Po.wrap ((r:Int)+1)=(r:Int)+1:=by rw[dM];omega
   have c:∀wx:A',(o8 9 (AI ⟨#[48,49,50,51,52,53,54,55,56,57]⟩) (Z (IS Po (r:Int))) (Z (IS Po ((r:Int)+1))) J).run A4 wx=aY6 (AI ⟨#[V.Jl r]⟩) wx:=by intro wx;have h:=a_H (P:=A4) wx 9 ⟨#[48,49,50,51,52,53,54,55,56,57]⟩ Po Po (r:Int) ((r:Int)+1) L2 (by omega) (by omega) (by show _<=(10:Int);omega);rw[show((r:Int)+1).toNat=r+1 from by omega,jC,qQ r y]at h;exact h
   clear C;have m:(Ui f ((n:Int)/10).toNat).size+1<=9223372036854775807:=by have:=(V.zx f ((n:Int)/10).toNat).2;have e:(Ui f ((n:Int)/10).toNat).size=(V.Uj f ((n:Int)/10).toNat).length:=rfl;have d:=H.out;omega
   have U:∀wx:A',(aT .add (Ui f ((n:Int)/10).toNat) ⟨#[V.Jl r]⟩).run A4 wx=aY6 (AI (Ui f ((n:Int)/10).toNat++⟨#[V.Jl r]⟩)) wx:=by intro wx;exact aAD (P:=A4) wx (Ui f ((n:Int)/10).toNat) ⟨#[V.Jl r]⟩ m
   clear m;go_enter Tryz.func16,Tryz.ntmps16;go_wp2_with fail;go_quiet((go_at_call 16;exact hf (I.out _ _ (by omega) K.out (by omega))));go_wp2_with fail;go_ret;refine⟨XM ?_,_,rfl⟩;rw[jC,Ui,Ui,V.Uj,if_neg p,M.out];exact a71 _ _
theorem sizeBuilder:(A4.info? 190).map (·.size)=Z 2:=by kernel_rfl
theorem liesBuilder:liesAt A4 A4.depth 190 (2/A4.cellsOf 190) 0 190 1=A0:=by kernel_rfl
theorem infoByte:(A4.info? 5).map (λi=>(i.zero,i.size,i.bytes))=Z (Z (IS .u8 0),1,1):=by kernel_rfl
theorem aE2(b:Nat)(w:A')(h:w.cell? ⟨b,0,J⟩=Z (aY4 (Z ⟨b,0,J⟩))):AZ A4 184 #[aY4 (Z ⟨b,0,J⟩)] w λe w'=>e=hq (aY8 #[])/\w'=w:=by obtain⟨j,f,_⟩:=Option.map_eq_some_iff.1 sizeBuilder;go_enter Tryz.func184,Tryz.ntmps184;go_wp2;rw[Lib.run_neq_ptr_same w _ oX f];go_wp2;go_end0;exact⟨rfl,rfl⟩
theorem aE1(b:Nat)(w:A')(p:w.cell? ⟨b,0,J⟩=Z (aY4 J))(m:w.shape? b=Z (190,2))(s:w.frozen? ⟨b,0,J⟩=A5):AZ A4 184 #[aY4 (Z ⟨b,0,J⟩)] w λe w'=>e=hq (aY8 #[])/\w'=w.setCell ⟨b,0,J⟩ (aY4 (Z ⟨b,0,J⟩)):=by obtain⟨j,h,f⟩:=Option.map_eq_some_iff.1 sizeBuilder;go_enter Tryz.func184,Tryz.ntmps184;go_wp2;rw[Lib.run_to_unsafe w ⟨b,0,J⟩ oX a9R h (by rw[f];decide) m (Nat.zero_lt_succ 1)];simp only[K_];rw[wm];go_wp2;rw[run_callFunc_extern Tryz.func267 (by kernel_rfl) (by kernel_rfl) (by kernel_rfl) (e:=hr) (by kernel_rfl)];rw[Lib.run_noEscape];simp only[K_];rw[wm];go_wp2;rw[Lib.run_from_unsafe w ⟨b,0,J⟩ a9R oX h m liesBuilder];simp only[K_];rw[wm];go_wp2;go_end0;exact⟨rfl,rfl⟩
theorem zo(B b:Nat)(f:List A1)(w:A')(h:R9 190 5 B b f w):AZ A4 184 #[aY4 (Z ⟨b,0,J⟩)] w λe w'=>e=hq (aY8 #[])/\dN 190 5 B b (aY4 (Z ⟨b,0,J⟩)) f w'/\AS B w w':=by
 rcases h with h|h;·refine(aE1 b w h.cell0 h.shape h.frozen0).mono ?_;rintro e w'⟨rfl,rfl⟩;exact⟨rfl,h.used _,(B9 B w).setCell (p:=⟨b,0,J⟩) h.1 _⟩
 ·refine(aE2 b w h.cell0).mono ?_;rintro e w'⟨rfl,rfl⟩;exact⟨rfl,h,B9 B _⟩
theorem aTe(B b:Nat)(m:List A1)(c:Int)(w:A')(h:R9 190 5 B b m w)(r:m.length+1<=140737488355328)(N:B<=w.heap.size):AZ A4 102 #[aY4 (Z ⟨b,0,J⟩),IS .u8 c] w λe w'=>e=hq aYA/\dN 190 5 B b (aY4 (Z ⟨b,0,J⟩)) (m++[IS .u8 c]) w'/\AS B w w':=by
 obtain⟨i0,hi,a,d,q⟩:=IT infoByte;go_enter Tryz.func102,Tryz.ntmps102;go_wp2_with(go_at_call 184;refine(zo B b m _ h).mono ?_);rintro e s⟨rfl,M,x⟩;obtain⟨H,v,z,K,U⟩:=M;have c0:s.cell? ⟨b,0,J⟩=Z (aY4 (Z ⟨b,0,J⟩)):=by rw[Ad z];rfl
 have c1:s.cell? ⟨b,1,J⟩=Z v:=by rw[Ad z];rfl
 go_wp2_with(at_builtin;refine L4 _ rfl _ _ 188 rfl B 5 i0 (IS .u8 0) 1 1 oY hi a d q rfl (by decide) _ _ _ rfl (K.alloc _) ⟨s.heap.size,0,J⟩ 1 1 [IS .u8 c] rfl rfl ?c1 ?c2 ?c3 ?c4 ?c5 ?_);case c1=>intro j u A;match j,A with|0,A=>simp at A;subst A;simp[Ht]
 case c2=>intro u hu;simp at hu;subst hu;rfl
 case c3=>unfold BK;omega
 case c4=>omega
 case c5=>have:=x.size;simp;omega
 intro v' C DO I _;have hlt:b<s.heap.size:=by
  rcases IW b s.heap.size with D|D;·exact D
  ·simp[Pg D]at z
 have y:C.heap[b]?=Z (BE #[aY4 (Z ⟨b,0,J⟩),v] 190 (0,0)):=by rw[I.block b (by simp;omega) λe=>U e.symm,dO s _ b hlt];exact z
 have t:C.cell? ⟨b,0,J⟩=Z (aY4 (Z ⟨b,0,J⟩)):=by rw[Ad y];rfl
 have d1:C.cell? ⟨b,1,J⟩=Z v:=by rw[Ad y];rfl
 have E:C.frozen? ⟨b,1,J⟩=A5:=Dv y 1;obtain⟨g,f,rfl⟩:∃g f,v'=As (Z ⟨g,0,J⟩) (m.length+1) f:=by
  rcases DO.2 with⟨_,AV⟩|⟨g,f,F,hv,_⟩;·omega
  ·exact⟨_,_,hv⟩
 go_wp2;go_ret;refine⟨rfl,?_,?_⟩;·exact a7z (T:=190) (e:=5) H y (bs':=m++[IS .u8 c]) (by simpa using DO) (by decide)
 ·exact((x.alloc (by have:=x.size;omega) _).grown I (by have:=x.size;simp;omega) λk Q=>(K.lt k Q).1).setCell (p:=⟨b,1,J⟩) H _
theorem a6X(B b:Nat)(m:List A1)(s:ByteArray)(w:A')(h:R9 190 5 B b m w)(r:m.length+s.size<=140737488355328)(U:B<=w.heap.size):AZ A4 101 #[aY4 (Z ⟨b,0,J⟩),AI s] w λe w'=>e=hq (aY8 #[IS Po s.size,aYA])/\dN 190 5 B b (aY4 (Z ⟨b,0,J⟩)) (m++Xn s) w'/\AS B w w':=by
 obtain⟨i0,hi,a,c,d⟩:=IT infoByte;go_enter Tryz.func101,Tryz.ntmps101;go_wp2_with(go_at_call 184;refine(zo B b m _ h).mono ?_);rintro e z⟨rfl,Q,D⟩;obtain⟨I,v,y,M,q⟩:=Q;have c0:z.cell? ⟨b,0,J⟩=Z (aY4 (Z ⟨b,0,J⟩)):=by rw[Ad y];rfl
 have c1:z.cell? ⟨b,1,J⟩=Z v:=by rw[Ad y];rfl
 go_wp2_with(at_builtin;refine Lib.wpList_append_own_string _ rfl _ _ 188 9 rfl B 5 i0 oY L2 hi a c d _ _ _ rfl M s rfl ?c3 ?c4 ?c5 ?_);case c3=>unfold BK;omega
 case c4=>omega
 case c5=>have:=D.size;omega
 intro v' A DO K _;have hlt:b<z.heap.size:=by
  rcases IW b z.heap.size with C|C;·exact C
  ·simp[Pg C]at y
 have x:A.heap[b]?=Z (BE #[aY4 (Z ⟨b,0,J⟩),v] 190 (0,0)):=by rw[K.block b hlt λe=>q e.symm];exact y
 have t:A.cell? ⟨b,0,J⟩=Z (aY4 (Z ⟨b,0,J⟩)):=by rw[Ad x];rfl
 have d1:A.cell? ⟨b,1,J⟩=Z v:=by rw[Ad x];rfl
 have u:A.frozen? ⟨b,1,J⟩=A5:=Dv x 1;obtain⟨H,N,f,rfl⟩:∃H N f,v'=As H N f:=by
  rcases DO.2 with⟨hv,_⟩|⟨g,f,E,hv,_⟩;·exact⟨_,_,_,hv⟩
  ·exact⟨_,_,_,hv⟩
 go_wp2;go_ret2;refine⟨rfl,?_,?_⟩;·exact a7z (T:=190) (e:=5) I x (bs':=m++Xn s) (by simpa[Lib.strCells_length]using DO) (by decide)
 ·exact(D.grown K (by have:=D.size;omega) λk hk=>(M.lt k hk).1).setCell (p:=⟨b,1,J⟩) I _
def KS:ByteArray:=⟨#[109,111,100,117,108,101,32,97]⟩
def P_:ByteArray:=⟨#[109,111,100,117,108,101]⟩
def Eo:ByteArray:=⟨#[97]⟩
def Ud(x:Nat):Bool:=x==32||x==9
theorem aJn(x:Nat)(w:A'):AZ A4 252 #[IS .i32 (x:Int)] w λe w'=>e=hq (aY5 (Ud x))/\w'=w:=by
 cases f:(x:Int)==32<;>cases h2:(x:Int)==9;all_goals
  have b:AP (Ud x=((x:Int)==32||(x:Int)==9)):=by refine A3 ?_;unfold Ud;rw[U3];simp;omega
  go_enter Tryz.func252,Tryz.ntmps252;go_wp2;go_ret;exact⟨Ez (by rw[b.out,f,h2];rfl),rfl⟩
theorem aFQ:Sq Ud KS=[P_,Eo]:=by decide+kernel
theorem zF(w:A'):a8M A4 252 #[] Ud w:=by intro W x _ _;refine(aJn x W).mono ?_;rintro e w'⟨rfl,rfl⟩;exact⟨rfl,0,rfl⟩
theorem a'6:∀b w,(callFunc 252 b).run A4 w=aY6 (.enter 252 b) w:=by intro b w;exact enters_of Tryz.func252 (by kernel_rfl) rfl b w
theorem qM:(⟨(Ge KS.data.toList [47,47]).1.toArray⟩:ByteArray)=KS/\(⟨(Ge KS.data.toList [47,47]).2.1.toArray⟩:ByteArray)=⟨#[]⟩/\(Ge KS.data.toList [47,47]).2.2=A5:=by decide+kernel
theorem aEA(m:Int)(w:A')(b:w.cell? ⟨0,0,J⟩=Z (IS Po m)):AZ A4 118 #[AI KS,AI ⟨#[47,47]⟩] w λe w'=>e=hq (aY8 #[AI KS,AI ⟨#[]⟩,aY5 A5])/\AS w.heap.size w w':=by refine(Tryz.strings_Cut KS ⟨#[47,47]⟩ m w (by decide) b).mono ?_;rintro e w'⟨rfl,n,rfl⟩;refine⟨?_,Je (B9 _ _) n⟩;rw[show(L0 #[47,47]).data.toList=[47,47]from rfl,qM.1,qM.2.1,qM.2.2]
theorem aFO(w:A'):AZ A4 251 #[AI KS,.func (.func 252) #[] #[]] w λe w'=>∃A,e=hq (As (Z ⟨A,0,J⟩) 2 2)/\w'.cell? ⟨A,0,J⟩=Z (AI P_)/\w'.cell? ⟨A,1,J⟩=Z (AI Eo)/\AS w.heap.size w w':=by refine(Tryz.strings_FieldsFunc_runes 252 #[] a'6 Ud KS w (by decide) (zF w)).mono ?_;rintro e w'⟨A,rfl,h,b,f⟩;rw[aFQ]at b⊢;have hc:=b.cells (g:=A) rfl;exact⟨A,rfl,by simpa[Ht]using hc 0 (AI P_) rfl,by simpa[Ht]using hc 1 (AI Eo) rfl,f⟩
theorem a1m:(A4.info? 371).map (λi=>(i.zero,i.size,i.bytes))=Z (Z (dd #[IS Po 0,AI BS]),2,24):=by kernel_rfl
theorem aK0:(P_.toList==[40])=A5/\(P_.toList==[41])=A5/\(P_.toList==[61,62])=A5:=by decide+kernel
theorem aK':(Eo.toList==[40])=A5/\(Eo.toList==[41])=A5/\(Eo.toList==[61,62])=A5:=by decide+kernel
theorem aSY(m:Int)(w:A')(hm:w.cell? ⟨0,0,J⟩=Z (IS Po m)):AZ A4 178 #[AI KS] w λe w'=>∃v,e=hq v/\w'.ownsRow w.heap.size 371 2 v 2 [IS Po 0,AI P_,IS Po 0,AI Eo]/\AS w.heap.size w w':=by
 obtain⟨i0,hi,N,Q,U⟩:=IT a1m;obtain⟨a,c,d⟩:=aK0;obtain⟨q,r,t⟩:=aK';go_enter Tryz.func178,Tryz.ntmps178;go_wp2_with fail;refine(aEA m _ hm).mono ?_;rintro e w1⟨rfl,I⟩;have s:=A3 I;clear I;go_wp2_with fail;refine(aFO _).mono ?_;rintro e f⟨A,rfl,E,y,K⟩;have H:=A3 (s.out.trans (K.mono s.out.size));clear K s;have F:=H.out.size;go_wp2;go_loopw[6,18]λv i wr=>∃k:Nat,k<=2/\i=IS Po k/\wr.ownsRow f.heap.size 371 2 v k (([IS Po 0,AI P_,IS Po 0,AI Eo]:List A1).take (2*k))/\AS f.heap.size f wr(λ_ i _=>2-(Ay i).toNat);case atStart=>exact⟨0,by omega,rfl,⟨rfl,AA ⟨rfl,rfl⟩⟩,B9 _ _⟩
 case round=>
  obtain⟨k,hk,rfl,AQ,h⟩:=hrel;have M:f.heap.size<=wr.heap.size:=h.size;have P:=Aw h E;have R:=Aw h y;match k,hk,AQ with
  |0,_,AQ=>
   go_wp2_with(first|(at_builtin;refine L4 _ rfl _ _ 297 rfl f.heap.size 371 i0 (dd #[IS Po 0,AI BS]) 2 24 xG hi N Q U rfl (by decide) _ _ _ rfl (AQ.alloc _) ⟨wr.heap.size,0,J⟩ 1 1 [IS Po 0,AI P_] rfl rfl ?c1A ?c2A ?c3A ?c4A ?c5A ?_)|go_in);case c1A=>intro j u b;match j,b with|0,b=>simp at b;subst b;simp[Ht]|1,b=>simp at b;subst b;simp[Ht]
   case c2A=>intro u hu;simp at hu;rcases hu with rfl|rfl<;>rfl
   case c3A=>unfold BK;omega
   case c4A=>omega
   case c5A=>simp;omega
   intro v' D C p _;have z:AS f.heap.size f D:=(h.alloc M _).grown p (by simp;omega) λj b=>(AQ.lt j b).1;clear p;go_wp2;go_roundw;case rel=>exact⟨1,by omega,rfl,C,z⟩
   case measure=>simp[Ay]
  |1,_,AQ=>
   go_wp2_with(first|(at_builtin;refine L4 _ rfl _ _ 297 rfl f.heap.size 371 i0 (dd #[IS Po 0,AI BS]) 2 24 xG hi N Q U rfl (by decide) _ _ _ rfl (AQ.alloc _) ⟨wr.heap.size,0,J⟩ 1 1 [IS Po 0,AI Eo] rfl rfl ?c1B ?c2B ?c3B ?c4B ?c5B ?_)|go_in);case c1B=>intro j u b;match j,b with|0,b=>simp at b;subst b;simp[Ht]|1,b=>simp at b;subst b;simp[Ht]
   case c2B=>intro u hu;simp at hu;rcases hu with rfl|rfl<;>rfl
   case c3B=>unfold BK;omega
   case c4B=>omega
   case c5B=>simp;omega
   intro v' D C p _;have z:AS f.heap.size f D:=(h.alloc M _).grown p (by simp;omega) λj b=>(AQ.lt j b).1;clear p;go_wp2;go_roundw;case rel=>exact⟨2,by omega,rfl,C,z⟩
   case measure=>simp[Ay]
  |2,_,AQ=>
   go_wp2;go_ret;refine⟨_,rfl,⟨AQ.1,?_⟩,H.out.trans (h.mono F)⟩;rcases AQ.2 with⟨_,AV⟩|⟨g,x,S,e,hb,A2⟩;·omega
   ·exact AF ⟨g,x,S,e,by omega,A2⟩
theorem aJz(s:ByteArray)(w:A'):AZ A4 253 #[AI s] w λe w'=>e=hq (IS Po (V.kind s.data.toList))/\w'=w:=by
 have b:AP (V.kind s.data.toList=if s.toList==[40]then 1 else if s.toList==[41]then 2 else if s.toList==[61,62]then 3 else 0):=by refine A3 ?_;rw[Xo];rfl
 cases f:s.toList==[40]<;>cases h2:s.toList==[41]<;>cases h3:s.toList==[61,62];all_goals go_enter Tryz.func253,Tryz.ntmps253;go_wp2;go_ret;exact⟨K0 (by rw[b.out,f,h2,h3];rfl),rfl⟩
theorem a2A(s:ByteArray)(w:A'):AZ A4 248 #[AI s] w λe w'=>e=hq (IS Po (V.H3 s.data.toList))/\w'=w:=by
 have b:AP (V.H3 s.data.toList=if s.toList==[109,111,100,117,108,101]then 1 else if s.toList==[114,101,113,117,105,114,101]then 2 else if s.toList==[101,120,99,108,117,100,101]then 3 else if s.toList==[114,101,112,108,97,99,101]then 4 else 0):=by refine A3 ?_;rw[Xo];rfl
 cases f:s.toList==[109,111,100,117,108,101]
 ·cases h2:s.toList==[114,101,113,117,105,114,101]
  ·cases h3:s.toList==[101,120,99,108,117,100,101];·cases h4:s.toList==[114,101,112,108,97,99,101];all_goals go_enter Tryz.func248,Tryz.ntmps248;go_wp2;go_ret;exact⟨K0 (by rw[b.out,f,h2,h3,h4];rfl),rfl⟩
   ·go_enter Tryz.func248,Tryz.ntmps248;go_wp2;go_ret;exact⟨K0 (by rw[b.out,f,h2,h3];rfl),rfl⟩
  ·go_enter Tryz.func248,Tryz.ntmps248;go_wp2;go_ret;exact⟨K0 (by rw[b.out,f,h2];rfl),rfl⟩
 ·go_enter Tryz.func248,Tryz.ntmps248;go_wp2;go_ret;exact⟨K0 (by rw[b.out,f];rfl),rfl⟩
theorem V.mz:∀(l e:List UInt8),(V.JE e l).length<=l.length+if e.isEmpty then 0 else 1
 |[],e=>by rw[V.JE];split<;>simp
 |b::r,e=>by
  rw[V.JE];split
  ·split;·have:=V.mz r [];simp at this⊢;omega
   ·have:=V.mz r [];simp at this⊢;omega
  ·have:=V.mz r (e++[b]);simp at this⊢;omega
theorem V.a6V(l:List UInt8):(V.words l).length<=l.length:=by have:=V.mz l [];simpa[V.words]using this
theorem aEB(s:ByteArray)(m:Int)(w:A')(hs:s.size<4294967281)(b:w.cell? ⟨0,0,J⟩=Z (IS Po m)):AZ A4 118 #[AI s,AI ⟨#[47,47]⟩] w λe w'=>∃(x y:ByteArray)(f:Bool),e=hq (aY8 #[AI x,AI y,aY5 f])/\x.data.toList=V.said s.data.toList/\x.size<=s.size/\AS w.heap.size w w':=by refine(Tryz.strings_Cut s ⟨#[47,47]⟩ m w hs b).mono ?_;rintro e w'⟨rfl,n,rfl⟩;have h:=(V.qL (t:=s) (x:=⟨(Ge s.data.toList [47,47]).1.toArray⟩) (y:=⟨(Ge s.data.toList [47,47]).2.1.toArray⟩) (p:=[47,47]) rfl rfl (AX _)).1;exact⟨_,_,_,rfl,rfl,h,Je (B9 _ _) n⟩
theorem Gg(A j:Nat):(⟨A,0,J⟩:Aa).add j=⟨A,j,J⟩:=by cases j<;>simp[Ht]
theorem aFP(s:ByteArray)(w:A')(hs:s.size<=4294967296):AZ A4 251 #[AI s,.func (.func 252) #[] #[]] w λe w'=>∃(A:Nat)(b:List ByteArray),e=hq (As (Z ⟨A,0,J⟩) b.length b.length)/\b.map (·.data.toList)=V.words s.data.toList/\(∀j,j<b.length->w'.cell? ⟨A,j,J⟩=Z (AI (b.getD j BS)))/\AS w.heap.size w w':=by refine(Tryz.strings_FieldsFunc_runes 252 #[] a'6 Ud s w hs (zF w)).mono ?_;rintro e w'⟨A,rfl,p,m,h⟩;have hc:=m.cells (g:=A) rfl;refine⟨A,Sq Ud s,rfl,V.aFR s,λj f=>?_,h⟩;have:=hc j (AI ((Sq Ud s).getD j BS)) (by rw[W',Ld f,V.getD_at _ _ f];rfl);rw[Gg]at this;exact this
def Ty(ws:List ByteArray):List A1:=ws.flatMap λs=>[IS Po (V.kind s.data.toList),AI s]
theorem aSX(ws:List ByteArray)(k:Nat)(h:k<ws.length):Ty (ws.take (k+1))=Ty (ws.take k)++[IS Po (V.kind (ws.getD k BS).data.toList),AI (ws.getD k BS)]:=by unfold Ty;rw[UU h,jJ,V.getD_at _ _ h];rfl
theorem aSZ(s:ByteArray)(m:Int)(w:A')(hs:s.size<4294967281)(hm:w.cell? ⟨0,0,J⟩=Z (IS Po m)):AZ A4 178 #[AI s] w λe w'=>∃(v:A1)(b:List ByteArray),e=hq v/\b.map (·.data.toList)=V.words (V.said s.data.toList)/\w'.ownsRow w.heap.size 371 2 v b.length (Ty b)/\AS w.heap.size w w':=by
 obtain⟨i0,hi,d,q,r⟩:=IT a1m;go_enter Tryz.func178,Tryz.ntmps178;go_wp2_with fail;refine(aEB s m _ hs hm).mono ?_;rintro e w1⟨x,y,f,rfl,hx,t,Q⟩;have H:=A3 Q;have EL:=A3 hx;clear Q hx;go_wp2_with fail;refine(aFP x _ (by omega)).mono ?_;rintro e C⟨A,b,rfl,K,a,U⟩;have M:=A3 (H.out.trans (U.mono H.out.size));have E:b.length<=4294967281:=by
  have h1:=V.a6V x.data.toList;rw[<-K,Mz]at h1;have e:x.data.toList.length=x.size:=by simp
  omega
 have F:AP (b.map (·.data.toList)=V.words (V.said s.data.toList)):=A3 (by rw[K,EL.out]);have FH:=A3 a;clear U H K a;have P:=M.out.size;go_wp2;go_loopw[6,18]λv i wr=>∃k:Nat,k<=b.length/\i=IS Po k/\wr.ownsRow C.heap.size 371 2 v k (Ty (b.take k))/\AS C.heap.size C wr(λ_ i _=>b.length-(Ay i).toNat);case atStart=>exact⟨0,by omega,rfl,⟨rfl,AA ⟨rfl,rfl⟩⟩,B9 _ _⟩
 case round=>
  obtain⟨k,hk,rfl,AQ,D⟩:=hrel;have R:C.heap.size<=wr.heap.size:=D.size;by_cases hlt:k<b.length
  ·have S:=Aw D (FH.out k hlt);have N:=A3 (aSX b k hlt);generalize hx:b.getD k BS=z at S N;clear hx;go_wp2_with(first|(go_at_call 253;refine(aJz _ _).mono ?_;rintro e w'⟨rfl,c⟩;rw[c];clear c w')|(at_builtin;refine L4 _ rfl _ _ 297 rfl C.heap.size 371 i0 (dd #[IS Po 0,AI BS]) 2 24 xG hi d q r rfl (by decide) _ _ _ rfl (AQ.alloc _) ⟨wr.heap.size,0,J⟩ 1 1 [IS Po (V.kind z.data.toList),AI z] rfl rfl ?c1 ?c2 ?c3 ?c4 ?c5 ?_));case c1=>intro j u p;match j,p with|0,p=>simp at p;subst p;simp[Ht]|1,p=>simp at p;subst p;simp[Ht]
   case c2=>intro u hu;simp at hu;rcases hu with rfl|rfl<;>rfl
   case c3=>unfold BK;omega
   case c4=>omega
   case c5=>simp;omega
   intro v' w3 DO C' _;have X:AS C.heap.size C w3:=(D.alloc R _).grown C' (by simp;omega) λj p=>(AQ.lt j p).1;clear C';go_wp2;go_roundw;case rel=>exact⟨k+1,by omega,by go_num,by rw[N.out];exact DO,X⟩
   case measure=>simp[Ay];omega
  ·have GK:k=b.length:=by omega
   go_wp2;go_ret;rw[GK,On]at AQ;refine⟨_,b,rfl,F.out,⟨AQ.1,?_⟩,M.out.trans (D.mono P)⟩;rcases AQ.2 with h|⟨g,I,hw,e,hb,A2⟩;·exact AA h
   ·exact AF ⟨g,I,hw,e,by omega,A2⟩
theorem aF_(g off c b:Nat)(w:A')(h:w.cell? ⟨g,off,J⟩=Z (IS Po 0))(m:w.cell? ⟨b,0,J⟩=Z (IS Po 0)):AZ A4 342 #[As (Z ⟨g,off,J⟩) 1 c,As (Z ⟨b,0,J⟩) 1 1] w λe w'=>e=hq (aY5 A0)/\w'=w:=by
 go_enter Tryz.func342,Tryz.ntmps342;go_wp2;go_loop[14]λi=>∃k:Nat,k<=1/\i=IS Po k(λi=>1-(Ay i).toNat);case atStart=>exact⟨0,by omega,rfl⟩
 case round=>
  obtain⟨k,f,rfl⟩:=hrel;match k,f with
  |0,_=>
   go_wp2;go_round;case rel=>exact⟨1,by omega,rfl⟩
   case measure=>simp[Ay]
  |1,_=>go_wp2;go_ret;exact⟨rfl,rfl⟩
theorem aMU(g off c:Nat)(w:A')(b:w.cell? ⟨g,off,J⟩=Z (IS Po 0))(f:w.cell? ⟨g,off+1,J⟩=Z (AI Eo)):AZ A4 343 #[IS Po 1,As (Z ⟨g,off,J⟩) 1 c] w λe w'=>e=hq (aY8 #[aYJ 123 (dd #[AI Eo]),aY5 A0])/\AS w.heap.size w w':=by have hlt:g<w.heap.size:=Ff (h:=b);have m:=λo=>BX b o;have p:=λo=>BX f o;go_enter Tryz.func343,Tryz.ntmps343;go_wp2_with fail;refine(aF_ g off c _ _ (m _) (by simp)).mono ?_;rintro e s⟨rfl,rfl⟩;go_wp2;go_ret2;exact⟨rfl,(B9 _ _).alloc (AX _) _⟩
theorem a1l:(A4.info? 301).map (λi=>(i.zero,i.size,i.bytes))=Z (Z (dd #[IS Po 0,aYA]),2,24):=by kernel_rfl
theorem add_one(g off c b:Nat)(w:A')(A:w.cell? ⟨g,off,J⟩=Z (IS Po 0))(M:w.cell? ⟨g,off+1,J⟩=Z (AI Eo))(D:w.heap[b]?=Z (BE #[IS Po 1,IS Po 0,As J 0 0] 295 (0,0))):AZ A4 250 #[aY4 (Z ⟨b,0,J⟩),IS Po 1,IS Po 1,As (Z ⟨g,off,J⟩) 1 c] w λe w'=>∃v,e=hq (aY5 A0)/\w'.heap[b]?=Z (BE #[IS Po 1,IS Po 0,v] 295 (0,0))/\w'.ownsRow (b+1) 301 2 v 1 [IS Po 1,aYJ 123 (dd #[AI Eo])]/\AS b w w':=by
 obtain⟨i0,hi,U,a,d⟩:=IT a1l;have I:b<w.heap.size:=(Array.getElem?_eq_some_iff.1 D).1;go_enter Tryz.func250,Tryz.ntmps250;go_wp2_with fail;refine(aMU g off c _ A M).mono ?_;rintro e m⟨rfl,x⟩;have H:m.heap[b]?=Z (BE #[IS Po 1,IS Po 0,As J 0 0] 295 (0,0)):=by rw[x.block b I];exact D
 have AR:w.heap.size<=m.heap.size:=x.size;have K:=A3 x;clear x;have c2:m.cell? ⟨b,2,J⟩=Z (As J 0 0):=by rw[Ad H];rfl
 have Q:m.ownsRow (b+1) 301 2 (As J 0 0) 0 []:=⟨rfl,AA ⟨rfl,rfl⟩⟩;go_wp2_with(at_builtin;refine L4 _ rfl _ _ 171 rfl (b+1) 301 i0 (dd #[IS Po 0,aYA]) 2 24 a9K hi U a d rfl (by decide) _ _ _ rfl (Q.alloc _) ⟨m.heap.size,0,J⟩ 1 1 [IS Po 1,aYJ 123 (dd #[AI Eo])] rfl rfl ?c1 ?c2 ?c3 ?c4 ?c5 ?_);case c1=>intro j u h;match j,h with|0,h=>simp at h;subst h;simp[Ht]|1,h=>simp at h;subst h;simp[Ht]
 case c2=>intro u hu;simp at hu;rcases hu with rfl|rfl<;>rfl
 case c3=>unfold BK;omega
 case c4=>omega
 case c5=>simp;omega
 intro v' z DO C _;have y:z.heap[b]?=Z (BE #[IS Po 1,IS Po 0,As J 0 0] 295 (0,0)):=by rw[C.block b (by simp;omega) (λe=>by cases e),dO m _ b (by omega)];exact H
 have d2:z.cell? ⟨b,2,J⟩=Z (As J 0 0):=by rw[Ad y];rfl
 have q:z.frozen? ⟨b,2,J⟩=A5:=Dv y 2;obtain⟨s,f,rfl⟩:∃s f,v'=As (Z ⟨s,0,J⟩) 1 f:=by
  rcases DO.2 with⟨_,A⟩|⟨s,f,r,hv,_⟩;·omega
  ·exact⟨_,_,hv⟩
 go_wp2;go_ret;refine⟨As (Z ⟨s,0,J⟩) 1 f,rfl,?_,?_,?_⟩;·rw[EV _ _ _ _ _ _ y];rfl
 ·exact ob DO (by simp) _
 ·exact(((K.out.mono (po I)).alloc (by omega) _).grown C (by simp;omega) λk N=>by cases N).setCell (p:=⟨b,2,J⟩) (AX _) _
theorem aJv:(P_.toList==[109,111,100,117,108,101])=A0:=by decide+kernel
theorem aJx(w:A'):AZ A4 248 #[AI P_] w λe w'=>e=hq (IS Po 1)/\w'=w:=by have h:=aJv;go_enter Tryz.func248,Tryz.ntmps248;go_wp2;go_ret;exact⟨rfl,rfl⟩
theorem aNT(v:A1)(w:A'):AZ A4 249 #[IS Po 1,v] w λe w'=>e=hq (aY5 A5)/\w'=w:=by go_enter Tryz.func249,Tryz.ntmps249;go_wp2;go_ret;exact⟨rfl,rfl⟩
theorem take_one(g c b:Nat)(w:A')(h:w.cell? ⟨g,0,J⟩=Z (IS Po 0))(M:w.cell? ⟨g,1,J⟩=Z (AI P_))(h2:w.cell? ⟨g,2,J⟩=Z (IS Po 0))(h3:w.cell? ⟨g,3,J⟩=Z (AI Eo))(Q:b<g)(hc:2<=c)(f:w.heap[b]?=Z (BE #[IS Po 0,IS Po 0,As J 0 0] 295 (0,0))):AZ A4 177 #[aY4 (Z ⟨b,0,J⟩),IS Po 1,As (Z ⟨g,0,J⟩) 2 c] w λe w'=>∃v,e=hq (aY5 A0)/\w'.heap[b]?=Z (BE #[IS Po 1,IS Po 0,v] 295 (0,0))/\w'.ownsRow (b+1) 301 2 v 1 [IS Po 1,aYJ 123 (dd #[AI Eo])]/\AS b w w':=by
 have a:w.cell? ⟨b,0,J⟩=Z (IS Po 0):=by rw[Ad f];rfl
 have f0:w.frozen? ⟨b,0,J⟩=A5:=Dv f 0;have s:=A3 f;clear f;go_enter Tryz.func177,Tryz.ntmps177;go_wp2_with fail;go_quiet((go_at_call 248;exact Si (aJx _)));have x:AP ((w.drewN nq).heap[b]?=Z (BE #[IS Po 0,IS Po 0,As J 0 0] 295 (0,0))):=s;have N:(w.drewN nq).cell? ⟨b,0,J⟩=Z (IS Po 0):=a;have K:(w.drewN nq).frozen? ⟨b,0,J⟩=A5:=f0;have A:(w.drewN nq).cell? ⟨g,2,J⟩=Z (IS Po 0):=h2;have C:(w.drewN nq).cell? ⟨g,3,J⟩=Z (AI Eo):=h3;have m:=A3 (Je (B9 b w) nq);clear h M h2 h3 a f0 s;generalize w.drewN nq=d at x N K A C m⊢;go_wp2_with(go_at_call 249;refine(aNT _ _).mono ?_;rintro e w'⟨rfl,rfl⟩);refine(add_one g 2 _ b _ (by rw[Sw _ _ _ _ λe=>by injection e;omega];exact A) (by rw[Sw _ _ _ _ λe=>by injection e;omega];exact C) (by rw[EV _ _ _ _ _ _ x.out];rfl)).mono ?_;rintro e U⟨v,rfl,hv,z,y⟩;have I:=A3 hv;have H:=A3 z;have D:=A3 ((m.out.setCell (p:=⟨b,0,J⟩) (AX _) (IS Po 1)).trans y);clear hv z y;go_wp2;go_ret;exact⟨v,rfl,I.out,H.out,D.out⟩
theorem q4(s:ByteArray)(w:A'):(Ob (aYJ 123 (dd #[AI s])) 179 123 A0).run A4 w=aY6 (aY8 #[dd #[AI s],aY5 A0]) w:=by kernel_rfl
theorem aMG(b f c:Nat)(w:A')(h:w.heap[b]?=Z (BE #[IS Po 1,IS Po 0,As (Z ⟨f,0,J⟩) 1 c] 295 (0,0)))(p:w.cell? ⟨f,1,J⟩=Z (aYJ 123 (dd #[AI Eo]))):AZ A4 179 #[aY4 (Z ⟨b,0,J⟩)] w λe w'=>e=hq (aY5 A0)/\AS w.heap.size w w':=by
 have a:w.cell? ⟨b,0,J⟩=Z (IS Po 1):=by rw[Ad h];rfl
 have m:w.cell? ⟨b,2,J⟩=Z (As (Z ⟨f,0,J⟩) 1 c):=by rw[Ad h];rfl
 have s:=q4;clear h;go_enter Tryz.func179,Tryz.ntmps179;go_wp2;go_ret;exact⟨rfl,(B9 _ _).alloc (AX _) _⟩
theorem a5m:UH KS ⟨#[10]⟩=0/\aR ⟨#[10]⟩ 0 0 KS=[KS]:=by decide+kernel
theorem aRK(m:Int)(w:A')(b:w.cell? ⟨0,0,J⟩=Z (IS Po m)):AZ A4 174 #[AI KS,AI ⟨#[10]⟩] w λe w'=>e=hq (As (Z ⟨w.heap.size,0,J⟩) 1 1)/\w'.cell? ⟨w.heap.size,0,J⟩=Z (AI KS)/\AS w.heap.size w w':=by refine(Tryz.strings_Split KS ⟨#[10]⟩ m w (by decide) b (by decide)).mono ?_;rintro e w'⟨rfl,rfl⟩;rw[a5m.1,a5m.2];exact⟨rfl,by simp,(B9 _ _).alloc (AX _) _⟩
theorem aNo(m:Int)(w:A')(M:w.cell? ⟨0,0,J⟩=Z (IS Po m)):AZ A4 92 #[AI KS] w λe w'=>∃f c,e=hq (aY8 #[As (Z ⟨f,0,J⟩) 1 c,IS Po 0])/\w'.cell? ⟨f,0,J⟩=Z (IS Po 1)/\w'.cell? ⟨f,1,J⟩=Z (aYJ 123 (dd #[AI Eo]))/\AS w.heap.size w w':=by
 have AV:=uJ M;go_enter Tryz.func92,Tryz.ntmps92;go_wp2_with fail;refine(aRK m _ (BX M _)).mono ?_;rintro e C⟨rfl,hs,p⟩;have a:C.heap[w.heap.size]?=Z (BE #[IS Po 0,IS Po 0,As J 0 0] 295 (0,0)):=by rw[p.block w.heap.size (by simp)];exact No w _
 have P:=Aw p (BX M _);have R:=A3 (((B9 _ w).alloc (AX _) _).trans (p.mono (by simp)));have d:w.heap.size<C.heap.size:=by have:=p.size;simp at this;omega
 clear p;have S:=A3 a;have Mc:C.cell? ⟨w.heap.size+1,0,J⟩=Z (AI KS):=by simpa using hs
 clear a hs;go_wp2;go_loopw[12]λi wr=>i=IS Po 0/\wr=C∨i=IS Po 1/\∃v,wr.heap[w.heap.size]?=Z (BE #[IS Po 1,IS Po 0,v] 295 (0,0))/\wr.ownsRow (w.heap.size+1) 301 2 v 1 [IS Po 1,aYJ 123 (dd #[AI Eo])]/\AS w.heap.size w wr(λi _=>1-(Ay i).toNat);case atStart=>exact AA ⟨rfl,rfl⟩
 case round=>
  rcases hrel with⟨rfl,X⟩|⟨rfl,v,N,AQ,hb⟩
  ·subst X;go_wp2_with fail;refine(aSY m _ P).mono ?_;rintro e z⟨v,rfl,AQ,K⟩;obtain⟨g,b,hv,AB,kM⟩:∃g b,v=As (Z ⟨g,0,J⟩) 2 b/\wr.heap.size<=g/\2<=b:=by
    rcases AQ.2 with⟨_,AV⟩|⟨g,b,hw,hv,AB,_,hc,_⟩;·omega
    ·exact⟨g,b,hv,AB,hc⟩
   subst hv;have h:=AQ.cells (g:=g) rfl;have x:z.cell? ⟨g,0,J⟩=Z (IS Po 0):=by simpa[Ht]using h 0 _ rfl
   have y:z.cell? ⟨g,1,J⟩=Z (AI P_):=by simpa[Ht]using h 1 _ rfl
   have t2:z.cell? ⟨g,2,J⟩=Z (IS Po 0):=by simpa[Ht]using h 2 _ rfl
   have t3:z.cell? ⟨g,3,J⟩=Z (AI Eo):=by simpa[Ht]using h 3 _ rfl
   have q:z.heap[w.heap.size]?=Z (BE #[IS Po 0,IS Po 0,As J 0 0] 295 (0,0)):=by rw[K.block w.heap.size d];exact S.out
   have Cl:=A3 (R.out.trans (K.mono (po d)));have D:=A3 x;have A:=A3 y;have YA:=A3 t2;have H:=A3 t3;have Gv:=A3 q;clear h AQ K x y t2 t3 q;go_wp2_with fail;refine(take_one g b w.heap.size _ D.out A.out YA.out H.out (by omega) kM Gv.out).mono ?_;rintro e w3⟨v,rfl,r,t,u⟩;have E:=A3 r;have F:=A3 t;have U:=A3 (Cl.out.trans u);clear r t u;go_wp2;first
   |exact⟨AF ⟨rfl,v,E.out,F.out,U.out⟩,by simp[Ay]⟩
   |
    (
     go_roundw;case rel=>exact AF ⟨rfl,v,E.out,F.out,U.out⟩
     case measure=>simp[Ay])
  ·obtain⟨f,b,hv⟩:∃f b,v=As (Z ⟨f,0,J⟩) 1 b:=by
    rcases AQ.2 with⟨_,AV⟩|⟨f,b,hw,hv,_⟩;·omega
    ·exact⟨f,b,hv⟩
   subst hv;have h:=AQ.cells (g:=f) rfl;have x:wr.cell? ⟨f,0,J⟩=Z (IS Po 1):=by simpa[Ht]using h 0 _ rfl
   have y:wr.cell? ⟨f,1,J⟩=Z (aYJ 123 (dd #[AI Eo])):=by simpa[Ht]using h 1 _ rfl
   have I:wr.cell? ⟨w.heap.size,2,J⟩=Z (As (Z ⟨f,0,J⟩) 1 b):=by rw[Ad N];rfl
   have E4:=A3 N;have Q:=A3 hb;have D:=A3 x;have A:=A3 y;have UN:=A3 I;clear h AQ N hb x y I;go_wp2_with fail;refine(aMG w.heap.size f b _ E4.out A.out).mono ?_;rintro e w4⟨rfl,s⟩;have I:=Aw s UN.out;have pO:=A3 (Aw s D.out);have pP:=A3 (Aw s A.out);have H6:=A3 (Q.out.trans (s.mono Q.out.size));clear s;go_wp2;go_ret2;exact⟨f,b,rfl,pO.out,pP.out,H6.out⟩
theorem a27(e:Bool)(s t:ByteArray)(w:A'):(Instr.checkKey e 10000 184 (dd #[IS Po 0,AI s,AI t])).run A4 w=aY6 () w:=by kernel_rfl
theorem a'K(k:A1)(w:A'):(UE 184 k []).run A4 w=aY6 J w:=by simp[UE,Instr.findNow,Np Tryz.underlying184]
theorem aLA(r c:Nat)(s t:ByteArray)(w:A')(b:w.heap[r]?=Z (.map #[] c)):(Hv 299 (.map (Z r)) (dd #[IS Po 0,AI s,AI t]) A5).run A4 w=aY6 (IS Po 0) w:=by simp[Hv,Np iX,Oc b,a27,a'K,K_]
theorem aOS(r c:Nat)(s t:ByteArray)(x:A1)(w:A')(b:w.heap[r]?=Z (.map #[] c)):(Vl 299 (.map (Z r)) (dd #[IS Po 0,AI s,AI t]) x).run A4 w=aY6 () {w with heap:=w.heap.setIfInBounds r (.map #[{key:=dd #[IS Po 0,AI s,AI t],val:=x,born:=c}] (c+1))}:=by simp[Vl,Np iX,Oc b,a27,a'K,dP _ b,K_]
theorem aJo(w:A'):AZ A4 411 #[IS .u8 97] w λe w'=>e=hq (aY5 A0)/\w'=w:=by go_enter Tryz.func411,Tryz.ntmps411;go_wp2;go_ret;exact⟨rfl,rfl⟩
theorem aJq(w:A'):AZ A4 354 #[AI ⟨#[97]⟩] w λe w'=>e=hq (aY5 A0)/\w'=w:=by
 go_enter Tryz.func354,Tryz.ntmps354;go_wp2;go_loop[6]λi=>∃k:Nat,k<=1/\i=IS Po k(λi=>1-(Ay i).toNat);case atStart=>exact⟨0,by omega,rfl⟩
 case round=>
  obtain⟨k,b,rfl⟩:=hrel;match k,b with
  |0,_=>
   go_wp2_with(go_at_call 411;refine(aJo _).mono ?_;rintro e w'⟨rfl,rfl⟩);go_round;case rel=>exact⟨1,by omega,rfl⟩
   case measure=>simp[Ay]
  |1,_=>go_wp2;go_ret;exact⟨rfl,rfl⟩
theorem a5l:UH ⟨#[97]⟩ ⟨#[47]⟩=0/\aR ⟨#[47]⟩ 0 0 ⟨#[97]⟩=[⟨#[97]⟩]:=by decide+kernel
theorem aRI(m:Int)(w:A')(b:w.cell? ⟨0,0,J⟩=Z (IS Po m)):AZ A4 174 #[AI ⟨#[97]⟩,AI ⟨#[47]⟩] w λe w'=>e=hq (As (Z ⟨w.heap.size,0,J⟩) 1 1)/\w'.cell? ⟨w.heap.size,0,J⟩=Z (AI ⟨#[97]⟩)/\AS w.heap.size w w':=by refine(Tryz.strings_Split ⟨#[97]⟩ ⟨#[47]⟩ m w (by decide) b (by decide)).mono ?_;rintro e w'⟨rfl,rfl⟩;rw[a5l.1,a5l.2];exact⟨rfl,by simp,(B9 _ _).alloc (AX _) _⟩
theorem aJp(m:Int)(w:A')(p:w.cell? ⟨0,0,J⟩=Z (IS Po m)):AZ A4 275 #[AI ⟨#[97]⟩] w λe w'=>e=hq (aY5 A0)/\AS w.heap.size w w':=by
 go_enter Tryz.func275,Tryz.ntmps275;go_wp2_with fail;refine(aRI m _ p).mono ?_;rintro e s⟨rfl,hs,b⟩;have f:=A3 b;clear b;go_wp2;go_loop[11]λi=>∃k:Nat,k<=1/\i=IS Po k(λi=>1-(Ay i).toNat);case atStart=>exact⟨0,by omega,rfl⟩
 case round=>
  obtain⟨k,h,rfl⟩:=hrel;match k,h with
  |0,_=>
   go_wp2_with(go_at_call 354;refine(aJq _).mono ?_;rintro e w'⟨rfl,rfl⟩);go_round;case rel=>exact⟨1,by omega,rfl⟩
   case measure=>simp[Ay]
  |1,_=>go_wp2;go_ret;exact⟨rfl,f.out⟩
theorem aNw(m:Int)(w:A')(h:w.cell? ⟨0,0,J⟩=Z (IS Po m)):AZ A4 196 #[AI Eo] w λe w'=>e=hq (aY4 J)/\AS w.heap.size w w':=by go_enter Tryz.func196,Tryz.ntmps196;go_wp2_with fail;refine(aJp m _ h).mono ?_;rintro e p⟨rfl,b⟩;have f:=A3 b;clear b;go_wp2;go_ret;exact⟨rfl,f.out⟩
theorem aDX(m:Int)(w:A')(h:w.cell? ⟨0,0,J⟩=Z (IS Po m)):AZ A4 180 #[aYJ 123 (dd #[AI Eo])] w λe w'=>e=hq (aY4 J)/\AS w.heap.size w w':=by have p:=q4;go_enter Tryz.func180,Tryz.ntmps180;go_wp2_with fail;refine(aNw m _ (BX h _)).mono ?_;rintro e s⟨rfl,b⟩;have f:=A3 (((B9 _ w).alloc (AX _) _).trans (b.mono (by simp)));clear b;go_wp2;go_ret;exact⟨rfl,f.out⟩
theorem aOF(w:A'):AZ A4 100 #[aYJ 123 (dd #[AI Eo])] w λe w'=>e=hq (dd #[IS Po 0,AI Eo,AI ⟨#[]⟩])/\AS w.heap.size w w':=by have b:=q4;go_enter Tryz.func100,Tryz.ntmps100;go_wp2;refine L3 (v:=dd #[IS Po 0,AI Eo,AI ⟨#[]⟩]) (by simp[De,iW,go_sem]) rfl ⟨rfl,?_⟩;exact((B9 _ _).alloc (AX _) _).alloc (by simp) _
theorem aTQ(b c:Nat)(w:A')(f:w.cell? ⟨b,0,J⟩=Z (IS Po 1)):AZ A4 94 #[As (Z ⟨b,0,J⟩) 1 c,IS Po 0] w λe w'=>e=hq (As (Z ⟨b,0,J⟩) 1 c)/\w'=w:=by go_enter Tryz.func94,Tryz.ntmps94;go_wp2;go_ret;exact⟨rfl,rfl⟩
def I'(w:A')(g off:Nat)(ws:List ByteArray):Prop:=∀j,j<ws.length->w.cell? ⟨g,off+j*2,J⟩=Z (.int .i64 (V.kind (ws.getD j BS).data.toList))/\w.cell? ⟨g,off+j*2+1,J⟩=Z (.string (ws.getD j BS))
theorem I'.later{off:Nat}(h:I' w g off ws)(b:AS w.heap.size w w'):I' w' g off ws:=λj e=>⟨Aw b (h j e).1,Aw b (h j e).2⟩
theorem I'.alloc{w:A'}{g off:Nat}{ws:List ByteArray}(h:I' w g off ws)(o:Obj):I' (w.alloc o) g off ws:=h.later ((B9 _ _).alloc (AX _) _)
theorem aFZ(h:ws.length≠ks.length):V.fit ws ks=A5:=by unfold V.fit;rw[beq_eq_false_iff_ne];intro e;exact h (by rw[<-e,Mz])
theorem aFY(b:k<ws.length)(f:k<ks.length)(h:V.kind (ws.getD k BS).data.toList≠ks.getD k 0):V.fit ws ks=A5:=by
 unfold V.fit;rw[beq_eq_false_iff_ne];intro e;apply h;have this:(ws.map λs=>V.kind s.data.toList).getD k 0=ks.getD k 0:=by rw[e]
 rw[<-this,V.getD_at _ _ b,V.getD_at _ _ (by simpa using b)];simp
theorem aFX(b:ws.length=ks.length)(h:∀j,j<ks.length->V.kind (ws.getD j BS).data.toList=ks.getD j 0):V.fit ws ks=A0:=by
 unfold V.fit;rw[beq_iff_eq];apply List.ext_getElem;·simpa using b
 ·intro j e h2;have:=h j h2;rw[V.getD_at _ _ (by omega),V.getD_at _ _ h2]at this;simpa using this
theorem MX(g off c b m:Nat)(ws:List ByteArray)(ks:List Int)(w:A')(Q:ws.length<=1000000000000)(U:ks.length<=100)(D:I' w g off ws)(h:∀j,j<ks.length->w.cell? ⟨b,j,J⟩=Z (.int .i64 (ks.getD j 0))):AZ A4 342 #[.slice (Z ⟨g,off,J⟩) ws.length c,.slice (Z ⟨b,0,J⟩) ks.length m] w λe w'=>e=.returned (.bool (V.fit ws ks))/\w'=w:=by
 cases C:(ws.length:Int)!=(ks.length:Int)
 ·have A:ws.length=ks.length:=by have:=bne_eq_false_iff_eq.1 C;omega
  have f:=A3 A;have N:=A3 D;have M:=A3 h;have i0:ws.length<=ks.length:=by omega
  have d:ks.length<=ws.length:=by omega
  clear A D h;go_enter Tryz.func342,Tryz.ntmps342;go_wp2;go_loop[14]λi=>∃k:Nat,k<=ks.length/\i=.int .i64 k/\AP (∀j,j<k->V.kind (ws.getD j BS).data.toList=ks.getD j 0)(λi=>ks.length-(Ay i).toNat);case atStart=>exact⟨0,by omega,rfl,A3 λj z=>by omega⟩
  case round=>
   obtain⟨k,h,rfl,H⟩:=hrel;by_cases hlt:k<ks.length
   ·have t0:=(N.out k (by omega)).1;have a:=M.out k hlt;generalize hx:V.kind (ws.getD k BS).data.toList=x at t0;generalize hy:ks.getD k 0=y at a;have p:=A3 hx;have s:=A3 hy;clear hx hy;cases I:x !=y
    ·go_wp2;go_round;case rel=>
      refine⟨k+1,by omega,by go_num,A3 λj z=>?_⟩;by_cases e:j=k;·subst e;rw[p.out,s.out];exact bne_eq_false_iff_eq.1 I
      ·exact H.out j (by omega)
     case measure=>simp[Ay];omega
    ·go_wp2;go_ret;exact⟨Ez (aFY (by omega) hlt (by rw[p.out,s.out];exact bne_iff_ne.1 I)).symm,rfl⟩
   ·go_wp2;go_ret;exact⟨Ez (aFX f.out λj z=>H.out j (by omega)).symm,rfl⟩
 ·have K:=A3 (aFZ (ws:=ws) (ks:=ks) (by have:=bne_iff_ne.1 C;omega));go_enter Tryz.func342,Tryz.ntmps342;go_wp2;go_ret;exact⟨Ez K.out.symm,rfl⟩
def XO:Option (Nat×List ByteArray)->A1|Z (t,fs)=>.tuple #[.iface t (.agg (fs.map AI).toArray),.bool A0]|J=>.tuple #[.nilIface,.bool A5]
theorem ej(h:V.fit ws ks=A0):ws.length=ks.length:=by unfold V.fit at h;have:=eq_of_beq h;rw[<-this,Mz]
theorem aMW(g off c:Nat)(ws:List ByteArray)(w:A')(z:ws.length<=1000000000000)(b:I' w g off ws):AZ A4 343 #[.int .i64 2,.slice (Z ⟨g,off,J⟩) ws.length c] w λe w'=>e=.returned (XO (V.FY 2 ws))/\AS w.heap.size w w':=by
 cases h:V.fit ws [0,0]
 ·have f:AP (V.FY 2 ws=J):=by refine A3 ?_;unfold V.FY;rw[h];rfl
  have s:=A3 b;clear b;go_enter Tryz.func343,Tryz.ntmps343;go_wp2_with fail;refine(MX g off c _ 2 ws [0,0] _ z (by decide) (s.out.alloc _) λj x=>by match j,x with|0,_=>simp|1,_=>simp).mono ?_;rintro e y⟨rfl,m⟩;rw[m,h];clear m y;go_wp2;go_ret2;exact⟨by rw[f.out];rfl,(B9 _ _).alloc (AX _) _⟩
 ·have p:=ej h;have f:AP (V.FY 2 ws=Z (221,[ws.getD 0 BS,ws.getD 1 BS])):=by refine A3 ?_;unfold V.FY;rw[h];rfl
  have D:(2:Int)<=(ws.length:Int):=by rw[p];decide
  have A:=λo=>BX (b 0 (by rw[p];decide)).2 o;have C:=λo=>BX (b 1 (by rw[p];decide)).2 o;have s:=A3 b;clear b p;generalize ws.getD 0 BS=H at f A;generalize ws.getD 1 BS=I at f C;go_enter Tryz.func343,Tryz.ntmps343;go_wp2_with fail;refine(MX g off c _ 2 ws [0,0] _ z (by decide) (s.out.alloc _) λj x=>by match j,x with|0,_=>simp|1,_=>simp).mono ?_;rintro e y⟨rfl,m⟩;rw[m,h];clear m y;go_wp2_with fail;go_quiet(fail);go_wp2;go_ret2;exact⟨by rw[f.out];rfl,Je ((B9 _ _).alloc (AX _) _) _⟩
theorem aMQ(g off c:Nat)(ws:List ByteArray)(w:A')(z:ws.length<=1000000000000)(b:I' w g off ws):AZ A4 343 #[.int .i64 3,.slice (Z ⟨g,off,J⟩) ws.length c] w λe w'=>e=.returned (XO (V.FY 3 ws))/\AS w.heap.size w w':=by
 cases h:V.fit ws [0,0]
 ·have f:AP (V.FY 3 ws=J):=by refine A3 ?_;unfold V.FY;rw[h];rfl
  have s:=A3 b;clear b;go_enter Tryz.func343,Tryz.ntmps343;go_wp2_with fail;refine(MX g off c _ 2 ws [0,0] _ z (by decide) (s.out.alloc _) λj x=>by match j,x with|0,_=>simp|1,_=>simp).mono ?_;rintro e y⟨rfl,m⟩;rw[m,h];clear m y;go_wp2;go_ret2;exact⟨by rw[f.out];rfl,(B9 _ _).alloc (AX _) _⟩
 ·have p:=ej h;have f:AP (V.FY 3 ws=Z (222,[ws.getD 0 BS,ws.getD 1 BS])):=by refine A3 ?_;unfold V.FY;rw[h];rfl
  have D:(2:Int)<=(ws.length:Int):=by rw[p];decide
  have A:=λo=>BX (b 0 (by rw[p];decide)).2 o;have C:=λo=>BX (b 1 (by rw[p];decide)).2 o;have s:=A3 b;clear b p;generalize ws.getD 0 BS=H at f A;generalize ws.getD 1 BS=I at f C;go_enter Tryz.func343,Tryz.ntmps343;go_wp2_with fail;refine(MX g off c _ 2 ws [0,0] _ z (by decide) (s.out.alloc _) λj x=>by match j,x with|0,_=>simp|1,_=>simp).mono ?_;rintro e y⟨rfl,m⟩;rw[m,h];clear m y;go_wp2_with fail;go_quiet(fail);go_wp2;go_ret2;exact⟨by rw[f.out];rfl,Je ((B9 _ _).alloc (AX _) _) _⟩
theorem aMS(g off c:Nat)(ws:List ByteArray)(w:A')(z:ws.length<=1000000000000)(f:I' w g off ws):AZ A4 343 #[.int .i64 1,.slice (Z ⟨g,off,J⟩) ws.length c] w λe w'=>e=.returned (XO (V.FY 1 ws))/\AS w.heap.size w w':=by
 cases b:V.fit ws [0]
 ·have m:AP (V.FY 1 ws=J):=by refine A3 ?_;unfold V.FY;rw[b];rfl
  have p:=A3 f;clear f;go_enter Tryz.func343,Tryz.ntmps343;go_wp2_with fail;refine(MX g off c _ 1 ws [0] _ z (by decide) (p.out.alloc _) λj s=>by match j,s with|0,_=>simp).mono ?_;rintro e y⟨rfl,h⟩;rw[h,b];clear h y;go_wp2;go_ret2;exact⟨by rw[m.out];rfl,(B9 _ _).alloc (AX _) _⟩
 ·have x:=ej b;have m:AP (V.FY 1 ws=Z (123,[ws.getD 0 BS])):=by refine A3 ?_;unfold V.FY;rw[b];rfl
  have C:(1:Int)<=(ws.length:Int):=by rw[x];decide
  have A:=λo=>BX (f 0 (by rw[x];decide)).2 o;have p:=A3 f;clear f x;generalize ws.getD 0 BS=D at m A;go_enter Tryz.func343,Tryz.ntmps343;go_wp2_with fail;refine(MX g off c _ 1 ws [0] _ z (by decide) (p.out.alloc _) λj s=>by match j,s with|0,_=>simp).mono ?_;rintro e y⟨rfl,h⟩;rw[h,b];clear h y;go_wp2;go_ret2;exact⟨by rw[m.out];rfl,(B9 _ _).alloc (AX _) _⟩
theorem aMT(v:A1)(ws:List ByteArray)(w:A'):AZ A4 343 #[.int .i64 0,v] w λe w'=>e=.returned (XO (V.FY 0 ws))/\AS w.heap.size w w':=by go_enter Tryz.func343,Tryz.ntmps343;go_wp2;go_ret2;exact⟨rfl,B9 _ _⟩
theorem aMV(g off c:Nat)(ws:List ByteArray)(w:A')(D:ws.length<=1000000000000)(m:I' w g off ws):AZ A4 343 #[.int .i64 4,.slice (Z ⟨g,off,J⟩) ws.length c] w λe w'=>e=.returned (XO (V.FY 4 ws))/\AS w.heap.size w w':=by
 have A:=A3 m;cases x:V.fit ws [0,3,0,0]
 ·cases C:V.fit ws [0,0,3,0,0]
  ·have f:AP (V.FY 4 ws=J):=by refine A3 ?_;unfold V.FY;rw[x,C];rfl
   clear m;go_enter Tryz.func343,Tryz.ntmps343;go_wp2_with fail;refine(MX g off c _ 4 ws [0,3,0,0] _ D (by decide) (A.out.alloc _) λj p=>by match j,p with|0,_=>simp|1,_=>simp|2,_=>simp|3,_=>simp).mono ?_;rintro e s⟨rfl,b⟩;rw[b,x];clear b s;go_wp2_with fail;refine(MX g off c _ 5 ws [0,0,3,0,0] _ D (by decide) ((A.out.alloc _).alloc _) λj p=>by match j,p with|0,_=>simp|1,_=>simp|2,_=>simp|3,_=>simp|4,_=>simp).mono ?_;rintro e s⟨rfl,b⟩;rw[b,C];clear b s;go_wp2;go_ret2;exact⟨by rw[f.out];rfl,((B9 _ _).alloc (AX _) _).alloc (by simp) _⟩
  ·have h:=ej C;have f:AP (V.FY 4 ws=Z (224,[ws.getD 0 BS,ws.getD 1 BS,ws.getD 3 BS,ws.getD 4 BS])):=by refine A3 ?_;unfold V.FY;rw[x,C];rfl
   have a:(5:Int)<=(ws.length:Int):=by rw[h];decide
   have H:=λy z=>BX (BX (m 0 (by rw[h];decide)).2 y) z;have K:=λy z=>BX (BX (m 1 (by rw[h];decide)).2 y) z;have I:=λy z=>BX (BX (m 3 (by rw[h];decide)).2 y) z;have N:=λy z=>BX (BX (m 4 (by rw[h];decide)).2 y) z;clear m h;generalize ws.getD 0 BS=Q at f H;generalize ws.getD 1 BS=d at f K;generalize ws.getD 3 BS=U at f I;generalize ws.getD 4 BS=q at f N;go_enter Tryz.func343,Tryz.ntmps343;go_wp2_with fail;refine(MX g off c _ 4 ws [0,3,0,0] _ D (by decide) (A.out.alloc _) λj p=>by match j,p with|0,_=>simp|1,_=>simp|2,_=>simp|3,_=>simp).mono ?_;rintro e s⟨rfl,b⟩;rw[b,x];clear b s;go_wp2_with fail;refine(MX g off c _ 5 ws [0,0,3,0,0] _ D (by decide) ((A.out.alloc _).alloc _) λj p=>by match j,p with|0,_=>simp|1,_=>simp|2,_=>simp|3,_=>simp|4,_=>simp).mono ?_;rintro e s⟨rfl,b⟩;rw[b,C];clear b s;go_wp2_with fail;go_quiet(fail);go_wp2;go_ret2;exact⟨by rw[f.out];rfl,Je (((B9 _ _).alloc (AX _) _).alloc (by simp) _) _⟩
 ·have h:=ej x;have f:AP (V.FY 4 ws=Z (224,[ws.getD 0 BS,⟨#[]⟩,ws.getD 2 BS,ws.getD 3 BS])):=by refine A3 ?_;unfold V.FY;rw[x];rfl
  have r:(4:Int)<=(ws.length:Int):=by rw[h];decide
  have H:=λo=>BX (m 0 (by rw[h];decide)).2 o;have M:=λo=>BX (m 2 (by rw[h];decide)).2 o;have I:=λo=>BX (m 3 (by rw[h];decide)).2 o;clear m h;generalize ws.getD 0 BS=Q at f H;generalize ws.getD 2 BS=t at f M;generalize ws.getD 3 BS=U at f I;go_enter Tryz.func343,Tryz.ntmps343;go_wp2_with fail;refine(MX g off c _ 4 ws [0,3,0,0] _ D (by decide) (A.out.alloc _) λj p=>by match j,p with|0,_=>simp|1,_=>simp|2,_=>simp|3,_=>simp).mono ?_;rintro e s⟨rfl,b⟩;rw[b,x];clear b s;go_wp2_with fail;go_quiet(fail);go_wp2;go_ret2;exact⟨by rw[f.out];rfl,Je ((B9 _ _).alloc (AX _) _) _⟩
def S_(l:List (Nat×Nat×List ByteArray)):List A1:=l.flatMap λx=>[IS Po (x.1:Int),aYJ x.2.1 (dd (x.2.2.map AI).toArray)]
theorem aRk(l:List (Nat×Nat×List ByteArray))(x:Nat×Nat×List ByteArray):S_ (l++[x])=S_ l++[IS Po (x.1:Int),aYJ x.2.1 (dd (x.2.2.map AI).toArray)]:=by unfold S_;rw[jJ];rfl
structure Fe(f2 base:Nat)(w w':A'):Prop where
 below:AS f2 w w'
 tn:∀k,f2<k->k<base->w'.heap[k]?=w.heap[k]?
theorem Fe.refl(b base:Nat)(w:A'):Fe b base w w:=⟨B9 _ _,λ_ _ _=>rfl⟩
theorem Fe.trans{f2 base:Nat}{a b c:A'}(h:Fe f2 base a b)(k:Fe f2 base b c):Fe f2 base a c:=⟨h.below.trans k.below,λi e h2=>(k.tn i e h2).trans (h.tn i e h2)⟩
theorem Fe.new(b:f2<base)(h2:base<=B)(h:AS B w w'):Fe f2 base w w':=⟨h.mono (by omega),λi _ hi=>h.block i (by omega)⟩
theorem Fe.alloc{f2 base:Nat}{a w:A'}(h:Fe f2 base a w)(b:f2<base)(h2:base<=w.heap.size)(o:Obj):Fe f2 base a (w.alloc o):=h.trans (Fe.new b h2 ((B9 _ _).alloc (AX _) o))
theorem Fe.setCell{f2 base:Nat}{a w:A'}(h:Fe f2 base a w)(k:Nat)(v:A1):Fe f2 base a (w.setCell ⟨f2,k,J⟩ v):=h.trans ⟨(B9 _ _).setCell (p:=⟨f2,k,J⟩) (AX _) v,λi hi _=>F_ _ _ _ _ (by show i≠f2;omega)⟩
theorem Fe.grown{f2 base:Nat}{a w w':A'}{row:Option Nat}(h:Fe f2 base a w)(e:w.grownBy w' row)(b:f2<base)(h2:base<=w.heap.size)(f:∀k,row=Z k->base<=k):Fe f2 base a w':=h.trans (Fe.new b (AX _) ((B9 base w).grown e h2 f))
def Gf(w:A')(e base:Nat)(st b:Int)(l:List (Nat×Nat×List ByteArray)):Prop:=e<base/\base<=w.heap.size/\∃v,w.heap[e]?=Z (BE #[IS Po st,IS Po b,v] 295 (0,0))/\w.ownsRow base 301 2 v l.length (S_ l)
theorem a36(kw:Int)(h:kw=0∨kw=1∨kw=2∨kw=3∨kw=4)(g off c:Nat)(ws:List ByteArray)(w:A')(b:ws.length<=1000000000000)(f:I' w g off ws):AZ A4 343 #[IS Po kw,As (Z ⟨g,off,J⟩) ws.length c] w λe w'=>e=hq (XO (V.FY kw ws))/\AS w.heap.size w w':=by
 rcases h with rfl|rfl|rfl|rfl|rfl;·exact aMT _ ws w
 ·exact aMS g off c ws w b f
 ·exact aMW g off c ws w b f
 ·exact aMQ g off c ws w b f
 ·exact aMV g off c ws w b f
theorem eP(n:Nat)(kw st p:Int)(q:kw=0∨kw=1∨kw=2∨kw=3∨kw=4)(g off c f base:Nat)(ws:List ByteArray)(l:List (Nat×Nat×List ByteArray))(w:A')(A9:ws.length<=1000000000000)(GZ:l.length<=1000000000000)(AH:I' w g off ws)(hp:Gf w f base st p l):AZ A4 250 #[aY4 (Z ⟨f,0,J⟩),IS Po (n:Int),IS Po kw,As (Z ⟨g,off,J⟩) ws.length c] w λe w'=>e=hq (aY5 (V.added n kw ws l).1)/\Gf w' f base st p (V.added n kw ws l).2/\Fe f base w w':=by
 obtain⟨i0,hi,P,R,S⟩:=IT a1l;obtain⟨z,a,v,I,D⟩:=hp;have r:f<w.heap.size:=(Array.getElem?_eq_some_iff.1 I).1;cases N:V.FY kw ws with
 |none=>
  have K:AP (V.added n kw ws l=(A5,l)):=by refine A3 ?_;unfold V.added;rw[N]
  have Q:=A3 I;have Cx:=A3 D;clear I D;go_enter Tryz.func250,Tryz.ntmps250;go_wp2_with fail;refine(a36 kw q g off c ws _ A9 AH).mono ?_;rintro e A⟨rfl,s⟩;rw[N,XO];have C:=A3 s;clear s;go_wp2;go_ret;refine⟨Ez (by rw[K.out]),?_,Fe.new z a C.out⟩;rw[K.out];refine⟨z,HA a C.out.size,v,by rw[C.out.block f r];exact Q.out,Cx.out.1,?_⟩;rcases Cx.out.2 with h|⟨m,b,M,e,U,H,A2⟩;·exact AA h
  ·exact AF ⟨m,b,M,e,U,by rw[C.out.block m (Array.getElem?_eq_some_iff.1 H).1];exact H,A2⟩
 |some x=>
  obtain⟨t,fs⟩:=x;have K:AP (V.added n kw ws l=(A0,l++[(n,t,fs)])):=by refine A3 ?_;unfold V.added;rw[N]
  have Q:=A3 I;have Cx:=A3 D;clear I D;go_enter Tryz.func250,Tryz.ntmps250;go_wp2_with fail;refine(a36 kw q g off c ws _ A9 AH).mono ?_;rintro e A⟨rfl,s⟩;rw[N,XO];have E:A.heap[f]?=Z (BE #[IS Po st,IS Po p,v] 295 (0,0)):=by rw[s.block f r];exact Q.out
  have D:A.ownsRow base 301 2 v l.length (S_ l):=by
   refine⟨Cx.out.1,?_⟩;rcases Cx.out.2 with h|⟨m,b,M,e,U,H,A2⟩;·exact AA h
   ·exact AF ⟨m,b,M,e,U,by rw[s.block m (Array.getElem?_eq_some_iff.1 H).1];exact H,A2⟩
  have AR:w.heap.size<=A.heap.size:=s.size;have C:=A3 s;clear s;have c2:A.cell? ⟨f,2,J⟩=Z v:=by rw[Ad E];rfl
  have F:=A3 D;go_wp2_with(at_builtin;refine L4 _ rfl _ _ 171 rfl base 301 i0 (dd #[IS Po 0,aYA]) 2 24 a9K hi P R S rfl (by decide) _ _ _ rfl (F.out.alloc _) ⟨A.heap.size,0,J⟩ 1 1 [IS Po (n:Int),aYJ t (dd (fs.map AI).toArray)] rfl rfl ?c1 ?c2 ?c3 ?c4 ?c5 ?_);case c1=>intro j u y;match j,y with|0,y=>simp at y;subst y;simp[Ht]|1,y=>simp at y;subst y;simp[Ht]
  case c2=>intro u hu;simp at hu;rcases hu with rfl|rfl<;>rfl
  case c3=>unfold BK;omega
  case c4=>omega
  case c5=>simp;omega
  intro v' w2 DO C' _;have hlt:=F.out.lt;have d:w2.heap[f]?=Z (BE #[IS Po st,IS Po p,v] 295 (0,0)):=by rw[C'.block f (by simp;omega) λe=>by have:=(hlt f e.symm).1;omega,dO A _ f (by omega)];exact E
  have d2:w2.cell? ⟨f,2,J⟩=Z v:=by rw[Ad d];rfl
  have HE:w2.frozen? ⟨f,2,J⟩=A5:=Dv d 2;obtain⟨m,b,rfl⟩:∃m b,v'=As (Z ⟨m,0,J⟩) (l.length+1) b:=by
   rcases DO.2 with⟨_,AV⟩|⟨m,b,M,hv,_⟩;·omega
   ·exact⟨_,_,hv⟩
  go_wp2;go_ret;rw[K.out];have X:=C'.size;refine⟨rfl,⟨z,by simp at X;simp[La];omega,As (Z ⟨m,0,J⟩) (l.length+1) b,?_,?_⟩,?_⟩;·rw[EV _ _ _ _ _ _ d];rfl
  ·rw[aRk,HN];exact ob DO z _
  ·exact(((Fe.new z a C.out).alloc z (by omega) _).grown C' z (by simp;omega) λk hk=>(hlt k hk).1).setCell 2 _
theorem Gf.lt(h:Gf w f2 base st blk l):f2<w.heap.size:=by obtain⟨_,_,v,b,_⟩:=h;exact(Array.getElem?_eq_some_iff.1 b).1
theorem Gf.later(h:Gf w f2 base st blk l)(f:AS w.heap.size w w'):Gf w' f2 base st blk l:=by
 have z:=h.lt;obtain⟨C,x,v,A,A7⟩:=h;refine⟨C,HA x f.size,v,by rw[f.block f2 z];exact A,A7.1,?_⟩;rcases A7.2 with h|⟨m,b,s,e,y,p,D⟩;·exact AA h
 ·exact AF ⟨m,b,s,e,y,by rw[f.block m (Array.getElem?_eq_some_iff.1 p).1];exact p,D⟩
theorem Gf.state(h:Gf w f2 base st blk l)(x:Int):Gf (w.setCell ⟨f2,0,J⟩ (IS Po x)) f2 base x blk l:=by obtain⟨b,e,v,m,f⟩:=h;refine⟨b,by simpa[La]using e,v,?_,ob f b _⟩;rw[EV _ _ _ _ _ _ m];rfl
theorem Gf.block(h:Gf w f2 base st blk l)(x:Int):Gf (w.setCell ⟨f2,1,J⟩ (IS Po x)) f2 base st x l:=by obtain⟨b,e,v,m,f⟩:=h;refine⟨b,by simpa[La]using e,v,?_,ob f b _⟩;rw[EV _ _ _ _ _ _ m];rfl
theorem Gf.cell0(h:Gf w f2 base st blk l):w.cell? ⟨f2,0,J⟩=Z (IS Po st):=by obtain⟨_,_,v,b,_⟩:=h;rw[Ad b];rfl
theorem Gf.cell1(h:Gf w f2 base st blk l):w.cell? ⟨f2,1,J⟩=Z (IS Po blk):=by obtain⟨_,_,v,b,_⟩:=h;rw[Ad b];rfl
theorem Gf.soft(h:Gf w f2 base st blk l)(k:Nat):w.frozen? ⟨f2,k,J⟩=A5:=by obtain⟨_,_,v,b,_⟩:=h;exact Dv b k
theorem I'.set{off:Nat}(h:I' w g off ws)(f:f2≠g):I' (w.setCell ⟨f2,k,J⟩ v) g off ws:=by
 intro j b;refine⟨?_,?_⟩;·rw[Sw _ _ _ _ λe=>by injection e;omega];exact(h j b).1
 ·rw[Sw _ _ _ _ λe=>by injection e;omega];exact(h j b).2
theorem mH(kw:Int)(x:kw=0∨kw=1∨kw=2∨kw=3∨kw=4)(g off c:Nat)(ws:List ByteArray)(w:A')(p:ws.length<=1000000000000)(s:I' w g off ws):AZ A4 249 #[IS Po kw,As (Z ⟨g,off,J⟩) ws.length c] w λe w'=>e=hq (aY5 (V.opens kw ws))/\AS w.heap.size w w':=by
 have m:=A3 s;clear s;have K7:AP (V.opens 2 ws=V.fit ws [1]/\V.opens 3 ws=V.fit ws [1]/\V.opens 4 ws=V.fit ws [1]):=A3 ⟨rfl,rfl,rfl⟩;rcases x with rfl|rfl|rfl|rfl|rfl;·go_enter Tryz.func249,Tryz.ntmps249;go_wp2;go_ret;exact⟨rfl,B9 _ _⟩
 ·go_enter Tryz.func249,Tryz.ntmps249;go_wp2;go_ret;exact⟨rfl,B9 _ _⟩
 ·go_enter Tryz.func249,Tryz.ntmps249;go_wp2_with fail;refine(MX g off c _ 1 ws [1] _ p (by decide) (m.out.alloc _) λj f=>by match j,f with|0,_=>simp).mono ?_;rintro e h⟨rfl,b⟩;rw[b];clear b h;go_wp2;go_ret;exact⟨Ez K7.out.1.symm,(B9 _ _).alloc (AX _) _⟩
 ·go_enter Tryz.func249,Tryz.ntmps249;go_wp2_with fail;refine(MX g off c _ 1 ws [1] _ p (by decide) (m.out.alloc _) λj f=>by match j,f with|0,_=>simp).mono ?_;rintro e h⟨rfl,b⟩;rw[b];clear b h;go_wp2;go_ret;exact⟨Ez K7.out.2.1.symm,(B9 _ _).alloc (AX _) _⟩
 ·go_enter Tryz.func249,Tryz.ntmps249;go_wp2_with fail;refine(MX g off c _ 1 ws [1] _ p (by decide) (m.out.alloc _) λj f=>by match j,f with|0,_=>simp).mono ?_;rintro e h⟨rfl,b⟩;rw[b];clear b h;go_wp2;go_ret;exact⟨Ez K7.out.2.2.symm,(B9 _ _).alloc (AX _) _⟩
theorem aS4(n:Nat)(b:Int)(M:b=0∨b=1∨b=2∨b=3∨b=4)(g c f base:Nat)(ws:List ByteArray)(l:List (Nat×Nat×List ByteArray))(w:A')(y:ws.length<=1000000000000)(N:l.length<=1000000000000)(H:I' w g 0 ws)(C:Gf w f base 2 b l):AZ A4 247 #[aY4 (Z ⟨f,0,J⟩),IS Po (n:Int),As (Z ⟨g,0,J⟩) ws.length c] w λe w'=>e=hq (aY5 (V.Mp n ws b l).1)/\Gf w' f base (V.Mp n ws b l).2.1 (V.Mp n ws b l).2.2.1 (V.Mp n ws b l).2.2.2/\Fe f base w w':=by
 have s:=A3 H;have E4:=A3 C;clear H C;cases m:V.fit ws [2]
 ·have p:AP (V.Mp n ws b l=((V.added n b ws l).1,2,b,(V.added n b ws l).2)):=by refine A3 ?_;unfold V.Mp;rw[m];rfl
  have c1:∀o,(w.alloc o).cell? ⟨f,1,J⟩=Z (IS Po b):=λo=>BX E4.out.cell1 o;go_enter Tryz.func247,Tryz.ntmps247;go_wp2_with fail;refine(MX g 0 c _ 1 ws [2] _ y (by decide) (s.out.alloc _) λj x=>by match j,x with|0,_=>simp).mono ?_;rintro e z⟨rfl,h⟩;rw[h,m];clear h z;go_wp2_with fail;refine(eP n b 2 b M g 0 c f base ws l _ y N (s.out.alloc _) (E4.out.later ((B9 _ _).alloc (AX _) _))).mono ?_;rintro e Q⟨rfl,D,A⟩;have K:=A3 D;have I:=A3 A;clear D A;go_wp2;go_ret;rw[p.out];exact⟨rfl,K.out,((Fe.refl _ _ _).alloc E4.out.1 E4.out.2.1 _).trans I.out⟩
 ·have p:AP (V.Mp n ws b l=(A0,1,b,l)):=by refine A3 ?_;unfold V.Mp;rw[m];rfl
  have c0:∀o,(w.alloc o).cell? ⟨f,0,J⟩=Z (IS Po 2):=λo=>BX E4.out.cell0 o;have f0:∀o,(w.alloc o).frozen? ⟨f,0,J⟩=A5:=λo=>(E4.out.later ((B9 _ _).alloc (AX _) o)).soft 0;go_enter Tryz.func247,Tryz.ntmps247;go_wp2_with fail;refine(MX g 0 c _ 1 ws [2] _ y (by decide) (s.out.alloc _) λj x=>by match j,x with|0,_=>simp).mono ?_;rintro e z⟨rfl,h⟩;rw[h,m];clear h z;go_wp2;go_ret;rw[p.out];exact⟨rfl,(E4.out.later ((B9 _ _).alloc (AX _) _)).state 1,((Fe.refl _ _ _).alloc E4.out.1 E4.out.2.1 _).setCell 0 _⟩
theorem a29(l:List UInt8):V.H3 l=0∨V.H3 l=1∨V.H3 l=2∨V.H3 l=3∨V.H3 l=4:=by
 unfold V.H3;repeat' split
 all_goals decide
theorem I'.tail{x:ByteArray}{rest:List ByteArray}(h:I' w g 0 (x::rest)):I' w g 2 rest:=by intro j b;have:=h (j+1) (by simp;omega);simp only[yP]at this;rw[show 2+j*2=0+(j+1)*2 by omega];exact this
theorem a6'(n:Nat)(st b:Int)(Bp:st=0∨st=1)(g c h base:Nat)(x:ByteArray)(rest:List ByteArray)(l:List (Nat×Nat×List ByteArray))(w:A')(A9:rest.length<=100000000000)(hc:rest.length+1<=c)(u:l.length<=1000000000000)(R:h≠g)(AH:I' w g 0 (x::rest))(hp:Gf w h base st b l):AZ A4 177 #[.pointer (Z ⟨h,0,J⟩),.int .i64 (n:Int),.slice (Z ⟨g,0,J⟩) (rest.length+1) c] w λe w'=>e=.returned (.bool (V.EK n (x::rest) st b l).1)/\Gf w' h base (V.EK n (x::rest) st b l).2.1 (V.EK n (x::rest) st b l).2.2.1 (V.EK n (x::rest) st b l).2.2.2/\Fe h base w w':=by
 have S:=hp.lt;have h1:w.cell? ⟨g,1,J⟩=Z (.string x):=by simpa using(AH 0 (by simp)).2
 have X:=hp.cell0;have Cm:=A3 AH.tail;have E4:=A3 hp;clear AH hp;have hk:=a29 x.data.toList;have N:=A3 hk;have C:AP (V.EK n (x::rest) st b l=if V.H3 x.data.toList==1&&st !=0 then(A5,st,b,l)else if V.opens (V.H3 x.data.toList) rest then(A0,2,V.H3 x.data.toList,l)else((V.added n (V.H3 x.data.toList) rest l).1,1,b,(V.added n (V.H3 x.data.toList) rest l).2)):=by refine A3 ?_;rcases Bp with rfl|rfl<;>rfl
 have gG:(st==2)=A5:=by rcases Bp with rfl|rfl<;>rfl
 have DQ:(c:Int)≥(rest.length:Int)+1:=by omega
 clear hk;by_cases Fx:c=1
 ·subst Fx;have Cg:AP (rest=[]):=A3 (List.eq_nil_of_length_eq_zero (by omega));go_enter Tryz.func177,Tryz.ntmps177;go_wp2_with fail;go_quiet((go_at_call 248;exact Si (a2A _ _)));have H_:AP (Gf (w.drewN nq) h base st b l):=A3 (E4.out.later (Je (B9 _ w) nq));have a:(w.drewN nq).cell? ⟨h,0,J⟩=Z (.int .i64 st):=H_.out.cell0;have A:AP (I' (w.drewN nq) g 2 rest):=A3 (Cm.out.later (Je (B9 _ w) nq));have z:=A3 (Fe.new E4.out.1 E4.out.2.1 (Je (B9 _ w) nq));have E:h<(w.drewN nq).heap.size:=H_.out.lt;clear h1 X Cm E4 S;generalize w.drewN nq=cf at H_ a A z E⊢;generalize V.H3 x.data.toList=f at N C⊢;cases d:f==1
  ·have H:AP ((f==1&&st !=0)=A5):=A3 (by rw[d];rfl);go_wp2_with fail;refine(mH f N.out g 0 0 [] _ (by first|decide|omega) λj q=>absurd q (e9 j)).mono ?_;rintro e y⟨rfl,s⟩;have m:=A3 (H_.out.later s);have r:=A3 (A.out.later s);have F:y.cell? ⟨h,0,J⟩=Z (.int .i64 st):=m.out.cell0;have e1:y.cell? ⟨h,1,J⟩=Z (.int .i64 b):=m.out.cell1;have f0:y.frozen? ⟨h,0,J⟩=A5:=m.out.soft 0;have P:y.frozen? ⟨h,1,J⟩=A5:=m.out.soft 1;have D:=A3 (z.out.trans (Fe.new H_.out.1 H_.out.2.1 s));clear s a H_ A z;cases K:V.opens f []
   ·have p:AP (V.EK n (x::rest) st b l=((V.added n f [] l).1,1,b,(V.added n f [] l).2)):=by refine A3 ?_;rw[C.out,Cg.out,K,H.out];rfl
    go_wp2_with fail;refine(eP n f 1 b N.out g 0 0 h base [] l _ (by first|decide|omega) u (λj q=>absurd q (e9 j)) (m.out.state 1)).mono ?_;rintro e w3⟨rfl,M,I⟩;have U:=A3 M;have Q:=A3 ((D.out.setCell 0 (.int .i64 1)).trans I);clear M I;go_wp2;go_ret;rw[p.out];exact⟨rfl,U.out,Q.out⟩
   ·have p:AP (V.EK n (x::rest) st b l=(A0,2,f,l)):=by refine A3 ?_;rw[C.out,Cg.out,K,H.out];rfl
    go_wp2;go_ret;rw[p.out];exact⟨rfl,(m.out.state 2).block f,(D.out.setCell 0 (.int .i64 2)).setCell 1 (.int .i64 f)⟩
  ·cases t:st !=0
   ·have H:AP ((f==1&&st !=0)=A5):=A3 (by rw[d,t];rfl);go_wp2_with fail;refine(mH f N.out g 0 0 [] _ (by first|decide|omega) λj q=>absurd q (e9 j)).mono ?_;rintro e y⟨rfl,s⟩;have m:=A3 (H_.out.later s);have r:=A3 (A.out.later s);have F:y.cell? ⟨h,0,J⟩=Z (.int .i64 st):=m.out.cell0;have e1:y.cell? ⟨h,1,J⟩=Z (.int .i64 b):=m.out.cell1;have f0:y.frozen? ⟨h,0,J⟩=A5:=m.out.soft 0;have P:y.frozen? ⟨h,1,J⟩=A5:=m.out.soft 1;have D:=A3 (z.out.trans (Fe.new H_.out.1 H_.out.2.1 s));clear s a H_ A z;cases K:V.opens f []
    ·have p:AP (V.EK n (x::rest) st b l=((V.added n f [] l).1,1,b,(V.added n f [] l).2)):=by refine A3 ?_;rw[C.out,Cg.out,K,H.out];rfl
     go_wp2_with fail;refine(eP n f 1 b N.out g 0 0 h base [] l _ (by first|decide|omega) u (λj q=>absurd q (e9 j)) (m.out.state 1)).mono ?_;rintro e w3⟨rfl,M,I⟩;have U:=A3 M;have Q:=A3 ((D.out.setCell 0 (.int .i64 1)).trans I);clear M I;go_wp2;go_ret;rw[p.out];exact⟨rfl,U.out,Q.out⟩
    ·have p:AP (V.EK n (x::rest) st b l=(A0,2,f,l)):=by refine A3 ?_;rw[C.out,Cg.out,K,H.out];rfl
     go_wp2;go_ret;rw[p.out];exact⟨rfl,(m.out.state 2).block f,(D.out.setCell 0 (.int .i64 2)).setCell 1 (.int .i64 f)⟩
   ·have p:AP (V.EK n (x::rest) st b l=(A5,st,b,l)):=by refine A3 ?_;rw[C.out,d,t];rfl
    go_wp2;go_ret;rw[p.out];exact⟨rfl,H_.out,z.out⟩
 ·skip;go_enter Tryz.func177,Tryz.ntmps177;go_wp2_with fail;go_quiet((go_at_call 248;exact Si (a2A _ _)));have H_:AP (Gf (w.drewN nq) h base st b l):=A3 (E4.out.later (Je (B9 _ w) nq));have a:(w.drewN nq).cell? ⟨h,0,J⟩=Z (.int .i64 st):=H_.out.cell0;have A:AP (I' (w.drewN nq) g 2 rest):=A3 (Cm.out.later (Je (B9 _ w) nq));have z:=A3 (Fe.new E4.out.1 E4.out.2.1 (Je (B9 _ w) nq));have E:h<(w.drewN nq).heap.size:=H_.out.lt;clear h1 X Cm E4 S;generalize w.drewN nq=cf at H_ a A z E⊢;generalize V.H3 x.data.toList=f at N C⊢;cases d:f==1
  ·have H:AP ((f==1&&st !=0)=A5):=A3 (by rw[d];rfl);go_wp2_with fail;refine(mH f N.out g 2 (c-1) rest _ (by first|decide|omega) A.out).mono ?_;rintro e y⟨rfl,s⟩;have m:=A3 (H_.out.later s);have r:=A3 (A.out.later s);have F:y.cell? ⟨h,0,J⟩=Z (.int .i64 st):=m.out.cell0;have e1:y.cell? ⟨h,1,J⟩=Z (.int .i64 b):=m.out.cell1;have f0:y.frozen? ⟨h,0,J⟩=A5:=m.out.soft 0;have P:y.frozen? ⟨h,1,J⟩=A5:=m.out.soft 1;have D:=A3 (z.out.trans (Fe.new H_.out.1 H_.out.2.1 s));clear s a H_ A z;cases K:V.opens f rest
   ·have p:AP (V.EK n (x::rest) st b l=((V.added n f rest l).1,1,b,(V.added n f rest l).2)):=by refine A3 ?_;rw[C.out,K,H.out];rfl
    go_wp2_with fail;refine(eP n f 1 b N.out g 2 (c-1) h base rest l _ (by first|decide|omega) u (r.out.set R) (m.out.state 1)).mono ?_;rintro e w3⟨rfl,M,I⟩;have U:=A3 M;have Q:=A3 ((D.out.setCell 0 (.int .i64 1)).trans I);clear M I;go_wp2;go_ret;rw[p.out];exact⟨rfl,U.out,Q.out⟩
   ·have p:AP (V.EK n (x::rest) st b l=(A0,2,f,l)):=by refine A3 ?_;rw[C.out,K,H.out];rfl
    go_wp2;go_ret;rw[p.out];exact⟨rfl,(m.out.state 2).block f,(D.out.setCell 0 (.int .i64 2)).setCell 1 (.int .i64 f)⟩
  ·cases t:st !=0
   ·have H:AP ((f==1&&st !=0)=A5):=A3 (by rw[d,t];rfl);go_wp2_with fail;refine(mH f N.out g 2 (c-1) rest _ (by first|decide|omega) A.out).mono ?_;rintro e y⟨rfl,s⟩;have m:=A3 (H_.out.later s);have r:=A3 (A.out.later s);have F:y.cell? ⟨h,0,J⟩=Z (.int .i64 st):=m.out.cell0;have e1:y.cell? ⟨h,1,J⟩=Z (.int .i64 b):=m.out.cell1;have f0:y.frozen? ⟨h,0,J⟩=A5:=m.out.soft 0;have P:y.frozen? ⟨h,1,J⟩=A5:=m.out.soft 1;have D:=A3 (z.out.trans (Fe.new H_.out.1 H_.out.2.1 s));clear s a H_ A z;cases K:V.opens f rest
    ·have p:AP (V.EK n (x::rest) st b l=((V.added n f rest l).1,1,b,(V.added n f rest l).2)):=by refine A3 ?_;rw[C.out,K,H.out];rfl
     go_wp2_with fail;refine(eP n f 1 b N.out g 2 (c-1) h base rest l _ (by first|decide|omega) u (r.out.set R) (m.out.state 1)).mono ?_;rintro e w3⟨rfl,M,I⟩;have U:=A3 M;have Q:=A3 ((D.out.setCell 0 (.int .i64 1)).trans I);clear M I;go_wp2;go_ret;rw[p.out];exact⟨rfl,U.out,Q.out⟩
    ·have p:AP (V.EK n (x::rest) st b l=(A0,2,f,l)):=by refine A3 ?_;rw[C.out,K,H.out];rfl
     go_wp2;go_ret;rw[p.out];exact⟨rfl,(m.out.state 2).block f,(D.out.setCell 0 (.int .i64 2)).setCell 1 (.int .i64 f)⟩
   ·have p:AP (V.EK n (x::rest) st b l=(A5,st,b,l)):=by refine A3 ?_;rw[C.out,d,t];rfl
    go_wp2;go_ret;rw[p.out];exact⟨rfl,H_.out,z.out⟩
theorem aS6(n:Nat)(b:Int)(H:b=0∨b=1∨b=2∨b=3∨b=4)(g c f base:Nat)(x:ByteArray)(rest:List ByteArray)(l:List (Nat×Nat×List ByteArray))(w:A')(K:rest.length<=100000000000)(I:l.length<=1000000000000)(s:I' w g 0 (x::rest))(h:Gf w f base 2 b l):AZ A4 177 #[.pointer (Z ⟨f,0,J⟩),.int .i64 (n:Int),.slice (Z ⟨g,0,J⟩) (rest.length+1) c] w λe w'=>e=.returned (.bool (V.EK n (x::rest) 2 b l).1)/\Gf w' f base (V.EK n (x::rest) 2 b l).2.1 (V.EK n (x::rest) 2 b l).2.2.1 (V.EK n (x::rest) 2 b l).2.2.2/\Fe f base w w':=by have a:=h.cell0;have C:=A3 s;have z:=A3 h;clear s h;have D:AP (V.EK n (x::rest) 2 b l=V.Mp n (x::rest) b l):=A3 rfl;go_enter Tryz.func177,Tryz.ntmps177;go_wp2_with fail;refine(aS4 n b H g c f base (x::rest) l w (by simp;omega) I C.out z.out).mono ?_;rintro e M⟨rfl,p,m⟩;have A:=A3 p;have y:=A3 m;clear p m;go_wp2;go_ret;rw[D.out];exact⟨rfl,A.out,y.out⟩
theorem aS7(n f:Nat)(b:Option Aa)(cap:Nat)(w:A'):AZ A4 177 #[.pointer (Z ⟨f,0,J⟩),.int .i64 (n:Int),.slice b 0 cap] w λe w'=>e=.returned (.bool A0)/\w'=w:=by go_enter Tryz.func177,Tryz.ntmps177;go_wp2;go_ret;exact⟨rfl,rfl⟩
theorem V.aMX{t:Nat}{fs:List ByteArray}(h:V.FY kw ws=Z (t,fs)):V.Q2 (n,t,fs):=by
 unfold V.FY at h;split at h;·cases h;exact AA ⟨rfl,_,rfl⟩
 split at h;·cases h;exact AF (AA ⟨rfl,_,_,rfl⟩)
 split at h;·cases h;exact AF (AF (AA ⟨rfl,_,_,rfl⟩))
 split at h;·cases h;exact AF (AF (AF ⟨rfl,_,_,_,_,rfl⟩))
 split at h;·cases h;exact AF (AF (AF ⟨rfl,_,_,_,_,rfl⟩))
 ·cases h
theorem V.aCJ(h:∀x∈l,V.Q2 x):∀x∈(V.added n kw ws l).2,V.Q2 x:=by
 unfold V.added;split
 ·rename_i y hy;intro x hx;rcases List.mem_append.1 hx with hx|hx;·exact h x hx
  ·rw[List.mem_singleton.1 hx];exact V.aMX (t:=y.1) (fs:=y.2) hy
 ·exact h
theorem V.aCI(n:Nat)(kw:Int)(ws:List ByteArray)(l:List (Nat×Nat×List ByteArray)):(V.added n kw ws l).2.length<=l.length+1:=by unfold V.added;split<;>simp
theorem V.aSd(h:∀x∈l,V.Q2 x):∀x∈(V.EK n ws st blk l).2.2.2,V.Q2 x:=by
 unfold V.EK V.Mp;repeat' split
 all_goals first|exact h|exact V.aCJ h
theorem V.aSc(n:Nat)(ws:List ByteArray)(st b:Int)(l:List (Nat×Nat×List ByteArray)):(V.EK n ws st b l).2.2.2.length<=l.length+1:=by
 unfold V.EK V.Mp;repeat' split
 all_goals first|exact Nat.le_succ _|exact V.aCI _ _ _ _
theorem V.aSe(h:V.eJ st blk):V.eJ (V.EK n ws st blk l).2.1 (V.EK n ws st blk l).2.2.1:=by
 unfold V.EK V.Mp;repeat' split
 all_goals first|exact h|exact⟨AF (AA rfl),h.2⟩|exact⟨AF (AF rfl),h.2⟩|exact⟨AF (AF rfl),a29 _⟩
theorem jY(v:A1)(w:A'):(Ob (.iface 123 v) 179 123 A0).run A4 w=.ok (.tuple #[v,.bool A0]) w:=by kernel_rfl
theorem jZ(v:A1)(w:A'):(Ob (.iface 221 v) 179 123 A0).run A4 w=.ok (.tuple #[.agg #[.string ⟨#[]⟩],.bool A5]) w:=by kernel_rfl
theorem q5(v:A1)(w:A'):(Ob (.iface 222 v) 179 123 A0).run A4 w=.ok (.tuple #[.agg #[.string ⟨#[]⟩],.bool A5]) w:=by kernel_rfl
theorem q6(v:A1)(w:A'):(Ob (.iface 224 v) 179 123 A0).run A4 w=.ok (.tuple #[.agg #[.string ⟨#[]⟩],.bool A5]) w:=by kernel_rfl
theorem aMF(K base:Nat)(st y:Int)(l:List (Nat×Nat×List ByteArray))(w:A')(U:V.eJ st y)(z:∀x∈l,V.Q2 x)(A:l.length<=1000000000000)(M:Gf w K base st y l):AZ A4 179 #[.pointer (Z ⟨K,0,J⟩)] w λe w'=>e=.returned (.bool (V.may st l))/\AS w.heap.size w w':=by
 have t:=M.cell0;obtain⟨_,_,v,N,AQ⟩:=M;have d2:w.cell? ⟨K,2,J⟩=Z v:=by rw[Ad N];rfl
 clear N;cases hs:st==2
 ·match l,z,A,AQ with
  |[],_,_,AQ=>
   obtain⟨a,m,rfl⟩:∃a m,v=.slice a 0 m:=by
    rcases AQ.2 with⟨h,_⟩|⟨s,m,q,h,_⟩;·exact⟨_,_,h⟩
    ·exact⟨_,_,h⟩
   clear AQ;go_enter Tryz.func179,Tryz.ntmps179;go_wp2;go_ret;exact⟨rfl,B9 _ _⟩
  |x::xs,z,A,AQ=>
   obtain⟨s,m,rfl,u⟩:∃s m,v=.slice (Z ⟨s,0,J⟩) (xs.length+1) m/\w.cell? ⟨s,1,J⟩=Z (.iface x.2.1 (.agg (x.2.2.map AI).toArray)):=by
    have hc:=λg=>AQ.cells (g:=g);rcases AQ.2 with⟨_,h⟩|⟨s,m,q,h,_⟩;·simp at h
    ·refine⟨s,m,h,?_⟩;have:=hc s (by rw[h];rfl) 1 (.iface x.2.1 (.agg (x.2.2.map AI).toArray)) rfl;simpa[Ht]using this
   have Q:=A3 (z x (N' ..));have r:xs.length<=1000000000000:=by simp at A;omega
   clear AQ z A;obtain⟨D,H,C⟩:=x;rcases Q.out with⟨f,a,h2⟩|⟨f,a,b,h2⟩|⟨f,a,b,h2⟩|⟨f,a,b,c,d,h2⟩;·have p:AP (V.may st ((D,H,C)::xs)=A0):=A3 (by unfold V.may;simp only at f;simp only[hs,f];rfl);simp only at f h2;subst f h2;have I:=jY;go_enter Tryz.func179,Tryz.ntmps179;go_wp2;go_ret;exact⟨Ez p.out.symm,(B9 _ _).alloc (AX _) _⟩
   ·have p:AP (V.may st ((D,H,C)::xs)=A5):=A3 (by unfold V.may;simp only at f;simp only[hs,f];rfl);simp only at f h2;subst f h2;have I:=jZ;go_enter Tryz.func179,Tryz.ntmps179;go_wp2;go_ret;exact⟨Ez p.out.symm,(B9 _ _).alloc (AX _) _⟩
   ·have p:AP (V.may st ((D,H,C)::xs)=A5):=A3 (by unfold V.may;simp only at f;simp only[hs,f];rfl);simp only at f h2;subst f h2;have I:=q5;go_enter Tryz.func179,Tryz.ntmps179;go_wp2;go_ret;exact⟨Ez p.out.symm,(B9 _ _).alloc (AX _) _⟩
   ·have p:AP (V.may st ((D,H,C)::xs)=A5):=A3 (by unfold V.may;simp only at f;simp only[hs,f];rfl);simp only at f h2;subst f h2;have I:=q6;go_enter Tryz.func179,Tryz.ntmps179;go_wp2;go_ret;exact⟨Ez p.out.symm,(B9 _ _).alloc (AX _) _⟩
 ·have p:AP (V.may st l=A5):=by
   refine A3 ?_;unfold V.may;split;·rfl
   ·rw[hs];rfl
  clear AQ;go_enter Tryz.func179,Tryz.ntmps179;go_wp2;go_ret;exact⟨Ez p.out.symm,B9 _ _⟩
theorem V.vF{a:List (List UInt8)}(h:ws.map (·.data.toList)=a):ws=V.texts a:=by
 subst h;unfold V.texts;rw[List.map_map];have:((λl=>(⟨l.toArray⟩:ByteArray))∘λx:ByteArray=>x.data.toList)=id:=by funext x;cases x;simp
 rw[this,List.map_id]
theorem V.aQr(l:List UInt8):(V.said l).length<=l.length:=by have h:=(V.qL (t:=⟨l.toArray⟩) (x:=⟨(Ge l [47,47]).1.toArray⟩) (y:=⟨(Ge l [47,47]).2.1.toArray⟩) (p:=[47,47]) rfl rfl (AX _)).1;simpa[V.said,a6t]using h
theorem V.aS_(s:ByteArray):(V.IL s).length<=s.size:=by
 have b:=V.a6V (V.said s.data.toList);have h2:=V.aQr s.data.toList;have e:s.data.toList.length=s.size:=by simp
 unfold V.IL V.texts;rw[Mz];omega
theorem V.aKk(s:ByteArray):∀x∈V.lines s,x.size<=s.size:=by
 intro x hx;unfold V.lines V.texts at hx;obtain⟨q,b,rfl⟩:=List.mem_map.1 hx;have:=V.gu 10 _ _ b;have e:s.data.toList.length=s.size:=by simp
 show q.toArray.size<=s.size;rw[Kd];omega
theorem aRJ(s:ByteArray)(m:Int)(w:A')(hs:s.size<4294967281)(h:w.cell? ⟨0,0,J⟩=Z (IS Po m)):AZ A4 174 #[AI s,AI ⟨#[10]⟩] w λe w'=>e=hq (As (Z ⟨w.heap.size,0,J⟩) (V.lines s).length (V.lines s).length)/\(V.lines s).length<=s.size+1/\(∀j,j<(V.lines s).length->w'.cell? ⟨w.heap.size,j,J⟩=Z (AI ((V.lines s).getD j BS)))/\w'.heap.size=w.heap.size+1/\AS w.heap.size w w':=by refine(Tryz.strings_Split s ⟨#[10]⟩ m w (by omega) h (by decide)).mono ?_;rintro e w'⟨rfl,rfl⟩;have p:aR ⟨#[10]⟩ 0 (UH s ⟨#[10]⟩) s=V.lines s:=V.vF (V.uz s ⟨#[10]⟩ 10 rfl);have f:=wh ⟨#[10]⟩ (by decide) 0 _ s rfl;have hc:=we ⟨#[10]⟩ (by decide) s.size s (AX _);rw[p]at f⊢;refine⟨by rw[f],by omega,?_,by simp,(B9 _ _).alloc (AX _) _⟩;intro j b;rw[xS _ _ _ _ rfl,W0,W',Ld b,V.getD_at _ _ b];rfl
theorem aSW(ws:List ByteArray):∀j,j<ws.length->(Ty ws)[j*2]?=Z (IS Po (V.kind (ws.getD j BS).data.toList))/\(Ty ws)[j*2+1]?=Z (AI (ws.getD j BS)):=by
 induction ws with
 |nil=>intro j b;simp at b
 |cons x f h=>
  intro j b;have e:Ty (x::f)=[IS Po (V.kind x.data.toList),AI x]++Ty f:=rfl;match j with
  |0=>exact⟨rfl,rfl⟩
  |j+1=>
   have:=h j (by simp at b;omega);rw[e];refine⟨?_,?_⟩;·rw[T4 (by simp;omega),yP,<-this.1];congr 1;simp;omega
   ·rw[T4 (by simp;omega),yP,<-this.2];congr 1;simp;omega
theorem aS5(n:Nat)(st b:Int)(Bp:V.eJ st b)(I m base:Nat)(C:A1)(ws:List ByteArray)(l:List (Nat×Nat×List ByteArray))(w:A')(s:ws.length<=100000000000)(z:l.length<=1000000000000)(U:m<I)(AQ:w.ownsRow I 371 2 C ws.length (Ty ws))(p:Gf w m base st b l):AZ A4 177 #[aY4 (Z ⟨m,0,J⟩),IS Po (n:Int),C] w λe w'=>e=hq (aY5 (V.EK n ws st b l).1)/\Gf w' m base (V.EK n ws st b l).2.1 (V.EK n ws st b l).2.2.1 (V.EK n ws st b l).2.2.2/\Fe m base w w':=by
 have hc:=λg=>AQ.cells (g:=g);match ws,s,AQ,hc with
 |[],_,AQ,_=>
  obtain⟨a,f,rfl⟩:∃a f,C=As a 0 f:=by
   rcases AQ.2 with⟨h,_⟩|⟨Q,f,M,h,_⟩;·exact⟨_,_,h⟩
   ·exact⟨_,_,h⟩
  refine(aS7 n m a f w).mono ?_;rintro e w'⟨rfl,rfl⟩;exact⟨rfl,p,Fe.refl _ _ _⟩
 |x::rest,s,AQ,hc=>
  rcases AQ.2 with⟨_,h⟩|⟨g,f,M,h,c,_,K,_⟩;·simp at h
  ·have A:I' w g 0 (x::rest):=by intro j N;have h1:=aSW (x::rest) j N;have h2:=hc g (by rw[h];rfl);have D:=h2 _ _ h1.1;have H:=h2 _ _ h1.2;rw[Gg]at D H;rw[Nat.zero_add];exact⟨D,H⟩
   rw[h];have y:rest.length<=100000000000:=by simp at s;omega
   rcases Bp.1 with rfl|rfl|rfl;·exact a6' n 0 b (AA rfl) g f m base x rest l w y (by simpa using K) z (by omega) A p
   ·exact a6' n 1 b (AF rfl) g f m base x rest l w y (by simpa using K) z (by omega) A p
   ·exact aS6 n b Bp.2 g f m base x rest l w y z A p
def ya(f:Nat)(b:List ByteArray)(w1:A')(k:Nat)(wr:A'):Prop:=∃(st e:Int)(l:List (Nat×Nat×List ByteArray)),V.eJ st e/\(∀x∈l,V.Q2 x)/\l.length<=k/\Gf wr f (f+2) st e l/\Fe f (f+2) w1 wr/\V.Hd 0 b 0 0 []=V.Hd k (b.drop k) st e l
theorem drop_at(b:List ByteArray)(k:Nat)(h:k<b.length):b.drop k=b.getD k BS::b.drop (k+1):=by rw[List.drop_eq_getElem_cons h,V.getD_at _ _ h]
theorem aNl(s:ByteArray)(m:Int)(w:A')(hs:s.size<4294967281)(hm:w.cell? ⟨0,0,J⟩=Z (IS Po m)):AZ A4 92 #[AI s] w λe w'=>∃v,e=hq (aY8 #[v,IS Po ((V.parse s).2:Int)])/\w'.ownsRow (w.heap.size+2) 301 2 v (V.parse s).1.length (S_ (V.parse s).1)/\AS w.heap.size w w':=by
 have AV:=uJ hm;have E:=A3 (V.aKk s);have a:AP (V.parse s=V.Hd 0 (V.lines s) 0 0 []):=A3 rfl;go_enter Tryz.func92,Tryz.ntmps92;go_wp2_with fail;refine(aRJ s m _ hs (BX hm _)).mono ?_;rintro e y⟨rfl,F,P,S,Q⟩;have X:y.heap[w.heap.size]?=Z (BE #[IS Po 0,IS Po 0,As J 0 0] 295 (0,0)):=by rw[Q.block w.heap.size (by simp)];exact No w _
 have FD:=Aw Q (BX hm _);have X1:y.heap.size=w.heap.size+2:=by rw[S];simp
 have pB:=A3 FD;have Br:=A3 (((B9 _ w).alloc (AX _) _).trans (Q.mono (by simp)));have FH:AP (∀j,j<(V.lines s).length->y.cell? ⟨w.heap.size+1,j,J⟩=Z (AI ((V.lines s).getD j BS))):=by refine A3 λj H1=>?_;simpa using P j H1
 have dv:AP (Gf y w.heap.size (w.heap.size+2) 0 0 []):=A3 ⟨by omega,by omega,_,X,Vo _ _ _ _⟩;have T':=A3 X1;clear Q P S FD X X1;generalize BI:V.lines s=L at F FH E a⊢;clear BI;have aGc:L.length<=5000000000:=by omega
 clear F;go_wp2;go_loopw[12]λi wr=>∃k:Nat,k<=L.length/\i=IS Po k/\AP (ya w.heap.size L y k wr)(λi _=>L.length-(Ay i).toNat);case atStart=>exact⟨0,by omega,rfl,A3 ⟨0,0,[],⟨AA rfl,AA rfl⟩,λx hx=>absurd hx (H8),AX _,dv.out,Fe.refl _ _ _,by rw[List.drop_zero]⟩⟩
 case round=>
  obtain⟨k,hk,rfl,H⟩:=hrel;obtain⟨st,b,l,Bp,LL,Bz,I,kL,lc⟩:=H.out;have c:=A3 Bp;have yG:=A3 LL;have Y8:=A3 I;have M:=A3 kL;have d:=A3 lc;clear H Bp LL I kL lc;have A:l.length<=1000000000000:=by omega
  by_cases hlt:k<L.length
  ·have c0:wr.cell? ⟨w.heap.size+1,k,J⟩=Z (AI (L.getD k BS)):=by rw[<-FH.out k hlt];exact F4 (w:=y) (M.out.tn _ (by show w.heap.size<w.heap.size+1;omega) (by show w.heap.size+1<w.heap.size+2;omega))
   have U:=A3 (drop_at L k hlt);have JH:AP ((L.getD k BS).size<=s.size):=A3 (by rw[V.getD_at _ _ hlt];exact E.out _ (EC hlt));generalize L.getD k BS=h at c0 U JH;have q:AP (wr.cell? ⟨0,0,J⟩=Z (IS Po m)):=by refine A3 ?_;rw[<-pB.out];exact M.out.below.cell (p:=⟨0,0,J⟩) AV
   go_wp2_with fail;refine(aSZ h m wr (by have:=JH.out;omega) q.out).mono ?_;rintro e w2⟨LW,ws,rfl,G_,AQ,kc⟩;have d0:=V.vF G_;have FB:AP (ws=V.IL h):=A3 d0;have Cx:=A3 AQ;have Cl:=A3 kc;clear G_ d0 AQ kc;go_wp2_with fail;have r:ws.length<=100000000000:=by rw[FB.out];have:=V.aS_ h;have:=JH.out;omega
   have T:=aS5 (k+1) st b c.out wr.heap.size w.heap.size (w.heap.size+2) LW ws l w2 r A Y8.out.lt Cx.out (Y8.out.later Cl.out);rw[show((k+1:Nat):Int)=(k:Int)+1 from by omega]at T;refine T.mono ?_;rintro e w3⟨rfl,Lu,Bu⟩;have t:=A3 Lu;have Er:=A3 ((M.out.trans (Fe.new Y8.out.1 Y8.out.2.1 Cl.out)).trans Bu);clear Lu Bu T;rw[FB.out]at t⊢;cases AH:(V.EK (k+1) (V.IL h) st b l).1
   ·have f:AP (V.parse s=((V.EK (k+1) (V.IL h) st b l).2.2.2,k+1)):=by refine A3 ?_;rw[a.out,d.out,U.out];unfold V.Hd;rw[AH];rfl
    obtain⟨_,_,z,K,D⟩:=t.out;have d2:w3.cell? ⟨w.heap.size,2,J⟩=Z z:=by rw[Ad K];rfl
    have N:=A3 D;clear K D;go_wp2;go_ret2;refine⟨z,?_,?_,Br.out.trans Er.out.below⟩;·rw[f.out];rfl
    ·rw[f.out];exact N.out
   ·have f:AP (V.Hd 0 L 0 0 []=V.Hd (k+1) (L.drop (k+1)) (V.EK (k+1) (V.IL h) st b l).2.1 (V.EK (k+1) (V.IL h) st b l).2.2.1 (V.EK (k+1) (V.IL h) st b l).2.2.2):=by refine A3 ?_;rw[d.out,U.out,V.Hd,if_pos AH]
    have R:∃k':Nat,k'<=L.length/\IS Po ((k:Int)+1)=IS Po k'/\AP (ya w.heap.size L y k' w3):=by refine⟨k+1,by omega,by go_num,A3 ⟨_,_,_,V.aSe c.out,V.aSd yG.out,?_,t.out,Er.out,f.out⟩⟩;have:=V.aSc (k+1) (V.IL h) st b l;omega
    have Cg:=A3 R;clear R;go_wp2;first
    |exact⟨Cg.out,by simp[Ay];omega⟩
    |
     (
      go_roundw;case rel=>exact Cg.out
      case measure=>simp[Ay];omega)
  ·have GK:k=L.length:=by omega
   have u:=A3 GK;clear GK;go_wp2_with fail;refine(aMF w.heap.size (w.heap.size+2) st b l wr c.out yG.out A Y8.out).mono ?_;rintro e w4⟨rfl,x⟩;have j3:=A3 (Y8.out.later x);have H6:=A3 (Br.out.trans (M.out.below.trans (x.mono (po Y8.out.lt))));have f:AP (V.parse s=(l,if V.may st l then 0 else L.length)):=by refine A3 ?_;rw[a.out,d.out,u.out,List.drop_length,V.Hd]
   clear x;obtain⟨_,_,z,K,D⟩:=j3.out;have d2:w4.cell? ⟨w.heap.size,2,J⟩=Z z:=by rw[Ad K];rfl
   have N:=A3 D;clear K D;cases C:V.may st l
   ·rw[C]at f;go_wp2;go_ret2;refine⟨z,?_,?_,H6.out⟩;·rw[f.out];rfl
    ·rw[f.out];exact N.out
   ·rw[C]at f;go_wp2;go_ret2;refine⟨z,?_,?_,H6.out⟩;·rw[f.out];rfl
    ·rw[f.out];exact N.out
theorem tJ(a b:Nat):((a:Int)==(b:Int))=(a==b):=by rw[U3];simp only[beq_iff_eq];omega
theorem a1r(b:UInt8)(w:A'):AZ A4 411 #[.int .u8 (b.toNat:Int)] w λe w'=>e=.returned (.bool (V.NU b))/\w'=w:=by
 have f:AP (V.NU b=((b.toNat:Int)==46||(b.toNat:Int)==45||(b.toNat:Int)==95||Bn (97<=(b.toNat:Int))&&Bn ((b.toNat:Int)<=122)||Bn (48<=(b.toNat:Int))&&Bn ((b.toNat:Int)<=57))):=by
  refine A3 ?_;unfold V.NU;rw[show(46:Int)=((46:Nat):Int)from rfl,show(45:Int)=((45:Nat):Int)from rfl,show(95:Int)=((95:Nat):Int)from rfl,tJ,tJ,tJ];congr 2;·congr 1<;>rw[decide_eq_decide]<;>omega
  ·rw[decide_eq_decide];omega
  ·rw[decide_eq_decide];omega
 generalize(b.toNat:Int)=x at f⊢;cases h:x==46
 ·cases h2:x==45
  ·cases h3:x==95;·by_cases h4:97<=x<;>by_cases m:x<=122<;>by_cases p:48<=x<;>by_cases s:x<=57;all_goals go_enter Tryz.func411,Tryz.ntmps411;go_wp2;go_ret;exact⟨Ez (by rw[f.out,h,h2,h3];simp[h4,m,p,s]),rfl⟩
   ·go_enter Tryz.func411,Tryz.ntmps411;go_wp2;go_ret;exact⟨Ez (by rw[f.out,h,h2,h3];rfl),rfl⟩
  ·go_enter Tryz.func411,Tryz.ntmps411;go_wp2;go_ret;exact⟨Ez (by rw[f.out,h,h2];rfl),rfl⟩
 ·go_enter Tryz.func411,Tryz.ntmps411;go_wp2;go_ret;exact⟨Ez (by rw[f.out,h];rfl),rfl⟩
theorem a1t(s:ByteArray)(w:A')(hs:s.size<=BK):AZ A4 354 #[.string s] w λe w'=>e=.returned (.bool (V.Qv s.data.toList))/\w'=w:=by
 have z:=hs;unfold BK at z;have f:AP (V.Qv s.data.toList=(s.data.toList.all V.NU&&(!s.toList==[]&&(!s.toList==[46]&&!s.toList==[46,46])))):=by refine A3 ?_;rw[Xo];rfl
 go_enter Tryz.func354,Tryz.ntmps354;go_wp2;go_loop[6]λi=>∃k:Nat,k<=s.size/\i=.int .i64 k/\AP ((s.data.toList.take k).all V.NU=A0)(λi=>s.size-(Ay i).toNat);case atStart=>exact⟨0,JJ _,rfl,A3 (by simp)⟩
 case round=>
  obtain⟨k,C,rfl,H⟩:=hrel;by_cases hlt:k<s.size
  ·have p:AP (V.NU s[k]=A5->s.data.toList.all V.NU=A5):=by intro y;rw[jI];exact⟨s[k],by rw[show s[k]=s.data.toList[k]'(by simpa using hlt)from rfl];exact EC _,by simp[y]⟩
   have x:AP (V.NU s[k]=A0->(s.data.toList.take (k+1)).all V.NU=A0):=by intro A;rw[mj s k hlt,jH,H.out];simp[A]
   cases b:V.NU s[k];·go_wp2_with(go_at_call 411;refine(a1r _ _).mono ?_;rintro e w'⟨rfl,rfl⟩);go_ret;exact⟨Ez (by rw[f.out,p.out b];rfl),rfl⟩
   ·go_wp2_with(go_at_call 411;refine(a1r _ _).mono ?_;rintro e w'⟨rfl,rfl⟩);go_round;case rel=>exact⟨k+1,by omega,by go_num,A3 (x.out b)⟩
    case measure=>simp[Ay];omega
  ·have h:AP (s.data.toList.all V.NU=A0):=by refine A3 ?_;rw[<-e6 (l:=s.data.toList) (i:=k) (by simp;omega)];exact H.out
   cases m:s.toList==[]
   ·cases b:s.toList==[46];·cases h2:s.toList==[46,46];all_goals go_wp2;go_ret;exact⟨Ez (by rw[f.out,h.out,m,b,h2];rfl),rfl⟩
    ·go_wp2;go_ret;exact⟨Ez (by rw[f.out,h.out,m,b];rfl),rfl⟩
   ·go_wp2;go_ret;exact⟨Ez (by rw[f.out,h.out,m];rfl),rfl⟩
def V.Qw(s:ByteArray):List ByteArray:=V.texts (V.pieces 47 s.data.toList)
theorem V.aQw(s:ByteArray):∀x∈V.Qw s,x.size<=s.size:=by
 intro x hx;unfold V.Qw V.texts at hx;obtain⟨q,b,rfl⟩:=List.mem_map.1 hx;have:=V.gu 47 _ _ b;have e:s.data.toList.length=s.size:=by simp
 show q.toArray.size<=s.size;rw[Kd];omega
theorem V.aNy(s:ByteArray):V.path s.data.toList=(Bn (s.size<=60)&&(V.Qw s).all λx=>V.Qv x.data.toList):=by unfold V.path V.Qw V.texts;rw[List.all_map];rfl
theorem aRL(s:ByteArray)(m:Int)(w:A')(hs:s.size<4294967281)(h:w.cell? ⟨0,0,J⟩=Z (IS Po m)):AZ A4 174 #[AI s,AI ⟨#[47]⟩] w λe w'=>e=hq (As (Z ⟨w.heap.size,0,J⟩) (V.Qw s).length (V.Qw s).length)/\(V.Qw s).length<=s.size+1/\(∀j,j<(V.Qw s).length->w'.cell? ⟨w.heap.size,j,J⟩=Z (AI ((V.Qw s).getD j BS)))/\AS w.heap.size w w':=by refine(Tryz.strings_Split s ⟨#[47]⟩ m w (by omega) h (by decide)).mono ?_;rintro e w'⟨rfl,rfl⟩;have p:aR ⟨#[47]⟩ 0 (UH s ⟨#[47]⟩) s=V.Qw s:=V.vF (V.uz s ⟨#[47]⟩ 47 rfl);have f:=wh ⟨#[47]⟩ (by decide) 0 _ s rfl;have hc:=we ⟨#[47]⟩ (by decide) s.size s (AX _);rw[p]at f⊢;refine⟨by rw[f],by omega,?_,(B9 _ _).alloc (AX _) _⟩;intro j b;rw[xS _ _ _ _ rfl,W0,W',Ld b,V.getD_at _ _ b];rfl
theorem a1s(s:ByteArray)(m:Int)(w:A')(hs:s.size<=281474976710656)(hm:w.cell? ⟨0,0,J⟩=Z (IS Po m)):AZ A4 275 #[AI s] w λe w'=>e=hq (aY5 (V.path s.data.toList))/\AS w.heap.size w w':=by
 have C:=A3 (V.aNy s);by_cases a:(s.size:Int)<=60
 ·have U:¬(s.size:Int)>60:=by omega
  have A:=A3 (V.aQw s);have b:AP (V.path s.data.toList=(V.Qw s).all λx=>V.Qv x.data.toList):=by refine A3 ?_;rw[C.out,decide_eq_true (by omega)];rfl
  go_enter Tryz.func275,Tryz.ntmps275;go_wp2_with fail;refine(aRL s m _ (by omega) hm).mono ?_;rintro e w1⟨rfl,N,K,I⟩;have h:=A3 I;have p:=A3 K;clear I K;generalize V.Qw s=L at N p A b⊢;have c:L.length<=100:=by omega
  clear N;go_wp2;go_loop[11]λi=>∃k:Nat,k<=L.length/\i=IS Po k/\AP ((L.take k).all (λx=>V.Qv x.data.toList)=A0)(λi=>L.length-(Ay i).toNat);case atStart=>exact⟨0,by omega,rfl,A3 (by simp)⟩
  case round=>
   obtain⟨k,hk,rfl,H⟩:=hrel;by_cases hlt:k<L.length
   ·have c0:=p.out k hlt;have f:AP ((L.getD k BS).size<=s.size):=A3 (by rw[V.getD_at _ _ hlt];exact A.out _ (EC hlt));have y:AP (V.Qv (L.getD k BS).data.toList=A5->(L.all λx=>V.Qv x.data.toList)=A5):=by intro M;rw[V.getD_at _ _ hlt]at M;rw[jI];exact⟨L[k],EC _,by simp[M]⟩
    have z:AP (V.Qv (L.getD k BS).data.toList=A0->((L.take (k+1)).all λx=>V.Qv x.data.toList)=A0):=by intro Q;rw[V.getD_at _ _ hlt]at Q;rw[UU hlt,jH,H.out];simp[Q]
    generalize L.getD k BS=x at c0 f y z;cases D:V.Qv x.data.toList;·go_wp2_with(go_at_call 354;refine(a1t _ _ (by have:=f.out;unfold BK;omega)).mono ?_;rintro e w'⟨rfl,rfl⟩);go_ret;exact⟨Ez (by rw[b.out,y.out D]),h.out⟩
    ·go_wp2_with(go_at_call 354;refine(a1t _ _ (by have:=f.out;unfold BK;omega)).mono ?_;rintro e w'⟨rfl,rfl⟩);go_round;case rel=>exact⟨k+1,by omega,by go_num,A3 (z.out D)⟩
     case measure=>simp[Ay];omega
   ·go_wp2;go_ret;exact⟨Ez (by rw[b.out,<-H.out,e6 (by omega)]),h.out⟩
 ·have U:(s.size:Int)>60:=by omega
  have b:AP (V.path s.data.toList=A5):=by refine A3 ?_;rw[C.out,decide_eq_false (by omega)];rfl
  go_enter Tryz.func275,Tryz.ntmps275;go_wp2;go_ret;exact⟨Ez b.out.symm,B9 _ _⟩
theorem aNx(s:ByteArray)(m:Int)(w:A')(hs:s.size<=281474976710656)(h:w.cell? ⟨0,0,J⟩=Z (IS Po m))(hv:V.path s.data.toList=A0):AZ A4 196 #[AI s] w λe w'=>e=hq (aY4 J)/\AS w.heap.size w w':=by go_enter Tryz.func196,Tryz.ntmps196;go_wp2_with fail;refine(a1s s m _ hs h).mono ?_;rintro e p⟨rfl,b⟩;have f:=A3 b;clear b;rw[hv];go_wp2;go_ret;exact⟨rfl,f.out⟩
def Nc(B:Nat)(w:A')(v:A1):Option (Int×Int×ByteArray×ByteArray)->Prop|J=>v=aY4 J|Z (k,n,p,q)=>∃b,B<=b/\v=aY4 (Z ⟨b,0,J⟩)/\w.heap[b]?=Z (BE #[IS Po k,IS Po n,AI p,AI q] 150 (0,0))
theorem Nc.mono{B':Nat}{f:Option (Int×Int×ByteArray×ByteArray)}(h:Nc B w v f)(m:B'<=B):Nc B' w v f:=by cases f with|none=>exact h|some x=>obtain⟨b,e,h2⟩:=h;exact⟨b,by omega,h2⟩
theorem mN(s:ByteArray)(m:Int)(w:A')(hs:s.size<=281474976710656)(p:w.cell? ⟨0,0,J⟩=Z (IS Po m)):AZ A4 196 #[AI s] w λe w'=>∃v,e=hq v/\Nc w.heap.size w' v (V.Ll s)/\AS w.heap.size w w':=by
 cases hv:V.path s.data.toList;·have y:AP (V.Ll s=Z (3,0,s,⟨#[]⟩)):=A3 (by unfold V.Ll;rw[hv];rfl);go_enter Tryz.func196,Tryz.ntmps196;go_wp2_with fail;refine(a1s s m _ hs p).mono ?_;rintro e z⟨rfl,b⟩;have f:=A3 b;clear b;rw[hv];go_wp2_with fail;refine(jf s _ hs).mono ?_;rintro e x⟨rfl,b⟩;have h:=A3 b;clear b;go_wp2;go_ret;refine⟨_,rfl,?_,(f.out.trans (h.out.mono f.out.size)).alloc (by have:=f.out.size;have:=h.out.size;omega) _⟩;rw[y.out];exact⟨x.heap.size,HA f.out.size h.out.size,rfl,No x _⟩
 ·refine(aNx s m w hs p hv).mono ?_;rintro e z⟨rfl,b⟩;exact⟨_,rfl,by unfold V.Ll;rw[hv];rfl,b⟩
theorem aT0(s:ByteArray)(m:Int)(w:A')(hs:s.size<=281474976710656)(p:w.cell? ⟨0,0,J⟩=Z (IS Po m)):AZ A4 43 #[AI s] w λe w'=>∃v,e=hq v/\Nc w.heap.size w' v (V.TI s)/\AS w.heap.size w w':=by
 cases hv:V.AW s.data.toList;·have y:AP (V.TI s=Z (2,0,⟨#[]⟩,s)):=A3 (by unfold V.TI;rw[hv];rfl);go_enter Tryz.func43,Tryz.ntmps43;go_wp2_with fail;refine(a1u s m _ (by unfold BK;omega) p).mono ?_;rintro e z⟨rfl,b⟩;have f:=A3 b;clear b;rw[hv];go_wp2_with fail;refine(jf s _ hs).mono ?_;rintro e x⟨rfl,b⟩;have h:=A3 b;clear b;go_wp2;go_ret;refine⟨_,rfl,?_,(f.out.trans (h.out.mono f.out.size)).alloc (by have:=f.out.size;have:=h.out.size;omega) _⟩;rw[y.out];exact⟨x.heap.size,HA f.out.size h.out.size,rfl,No x _⟩
 ·refine(qF s m w (by unfold BK;omega) p hv).mono ?_;rintro e z⟨rfl,b⟩;exact⟨_,rfl,by unfold V.TI;rw[hv];rfl,b⟩
theorem a2x(p v:ByteArray)(m:Int)(w:A')(H:p.size<=281474976710656)(hv:v.size<=281474976710656)(A:w.cell? ⟨0,0,J⟩=Z (IS Po m)):AZ A4 123 #[dd #[AI p,AI v]] w λe w'=>∃r,e=hq r/\Nc w.heap.size w' r (V.Jo p v)/\AS w.heap.size w w':=by cases x:V.Ll p with|none=>have y:AP (V.Jo p v=V.TI v):=A3 (by unfold V.Jo;rw[x]);go_enter Tryz.func123,Tryz.ntmps123;go_wp2_with fail;refine(mN p m _ H (BX A _)).mono ?_;rintro e I⟨r,rfl,b,h⟩;rw[x]at b;obtain rfl:r=aY4 J:=b;have c:I.cell? ⟨w.heap.size,1,J⟩=Z (AI v):=Aw h (by simp);have N:=Aw h (BX A _);have s:=A3 (((B9 _ w).alloc (AX _) _).trans (h.mono (by simp)));clear h;go_wp2_with fail;refine(aT0 v m _ hv N).mono ?_;rintro e w2⟨r,rfl,b,D⟩;have z:=A3 b;have K:=A3 D;clear b D;go_wp2;go_ret;exact⟨r,rfl,by rw[y.out];exact z.out.mono s.out.size,s.out.trans (K.out.mono s.out.size)⟩|some f=>have y:AP (V.Jo p v=Z f):=A3 (by unfold V.Jo;rw[x]);obtain⟨k,n,Q,U⟩:=f;go_enter Tryz.func123,Tryz.ntmps123;go_wp2_with fail;refine(mN p m _ H (BX A _)).mono ?_;rintro e I⟨r,rfl,b,h⟩;rw[x]at b;obtain⟨a,C,rfl,h3⟩:=b;have s:=A3 (((B9 _ w).alloc (AX _) _).trans (h.mono (by simp)));have z:=A3 h3;have M:AP (w.heap.size<=a):=A3 (by simp at C;omega);clear h C h3;go_wp2;go_ret;exact⟨_,rfl,by rw[y.out];exact⟨a,M.out,rfl,z.out⟩,s.out⟩
theorem je(p v:ByteArray)(m:Int)(w:A')(y:p.size<=281474976710656)(hv:v.size<=281474976710656)(x:w.cell? ⟨0,0,J⟩=Z (IS Po m)):AZ A4 254 #[AI p,AI v] w λe w'=>∃r,e=hq r/\Nc w.heap.size w' r (V.Jo p v)/\AS w.heap.size w w':=by go_enter Tryz.func254,Tryz.ntmps254;go_wp2_with fail;refine(a2x p v m _ y hv x).mono ?_;rintro e z⟨r,rfl,f,b⟩;have s:=A3 f;have h:=A3 b;clear f b;go_wp2;go_ret;exact⟨r,rfl,s.out,h.out⟩
theorem yw(v:A1)(w:A'):(Ob (.iface 221 v) 179 221 A0).run A4 w=.ok (.tuple #[v,.bool A0]) w:=by kernel_rfl
theorem yx(v:A1)(w:A'):(Ob (.iface 222 v) 179 221 A0).run A4 w=.ok (.tuple #[.agg #[.string ⟨#[]⟩,.string ⟨#[]⟩],.bool A5]) w:=by kernel_rfl
theorem yy(v:A1)(w:A'):(Ob (.iface 222 v) 179 222 A0).run A4 w=.ok (.tuple #[v,.bool A0]) w:=by kernel_rfl
theorem yz(v:A1)(w:A'):(Ob (.iface 224 v) 179 221 A0).run A4 w=.ok (.tuple #[.agg #[.string ⟨#[]⟩,.string ⟨#[]⟩],.bool A5]) w:=by kernel_rfl
theorem z1(v:A1)(w:A'):(Ob (.iface 224 v) 179 222 A0).run A4 w=.ok (.tuple #[.agg #[.string ⟨#[]⟩,.string ⟨#[]⟩],.bool A5]) w:=by kernel_rfl
theorem z6(v:A1)(w:A'):(Ob (.iface 224 v) 179 224 A0).run A4 w=.ok (.tuple #[v,.bool A0]) w:=by kernel_rfl
theorem zc(a b c d:ByteArray)(m:Int)(w:A')(y:a.size<=281474976710656)(A:b.size<=281474976710656)(z:w.cell? ⟨0,0,J⟩=Z (.int .i64 m)):AZ A4 255 #[.agg #[.string a,.string b,.string c,.string d]] w λe w'=>∃r,e=.returned r/\Nc w.heap.size w' r (V.TH a b)/\AS w.heap.size w w':=by
 cases he:b.toList==[];·have s:AP (V.TH a b=V.Jo a b):=A3 (by unfold V.TH;rw[he];rfl);go_enter Tryz.func255,Tryz.ntmps255;go_wp2_with fail;refine(je a b m _ y A (BX z _)).mono ?_;rintro e C⟨r,rfl,h,f⟩;have x:=A3 (h.mono (B':=w.heap.size) (by simp));have p:=A3 (((B9 _ w).alloc (AX _) _).trans (f.mono (by simp)));clear h f;go_wp2;go_ret;exact⟨r,rfl,by rw[s.out];exact x.out,p.out⟩
 ·have s:AP (V.TH a b=V.Ll a):=A3 (by unfold V.TH;rw[he];rfl);go_enter Tryz.func255,Tryz.ntmps255;go_wp2_with fail;refine(mN a m _ y (BX z _)).mono ?_;rintro e C⟨r,rfl,h,f⟩;have x:=A3 (h.mono (B':=w.heap.size) (by simp));have p:=A3 (((B9 _ w).alloc (AX _) _).trans (f.mono (by simp)));clear h f;go_wp2;go_ret;exact⟨r,rfl,by rw[s.out];exact x.out,p.out⟩
theorem aTX(a:ByteArray)(m:Int)(w:A')(s:a.size<=281474976710656)(x:w.cell? ⟨0,0,J⟩=Z (.int .i64 m)):AZ A4 180 #[.iface 123 (.agg #[.string a])] w λe w'=>∃r,e=.returned r/\Nc w.heap.size w' r (V.Ll a)/\AS w.heap.size w w':=by have y:=jY;go_enter Tryz.func180,Tryz.ntmps180;go_wp2_with fail;refine(mN a m _ s (BX x _)).mono ?_;rintro e z⟨r,rfl,f,b⟩;have p:=A3 (f.mono (B':=w.heap.size) (by simp));have h:=A3 (((B9 _ w).alloc (AX _) _).trans (b.mono (by simp)));clear f b;go_wp2;go_ret;exact⟨r,rfl,p.out,h.out⟩
theorem aTY(a b:ByteArray)(m:Int)(w:A')(x:a.size<=281474976710656)(y:b.size<=281474976710656)(z:w.cell? ⟨0,0,J⟩=Z (.int .i64 m)):AZ A4 180 #[.iface 221 (.agg #[.string a,.string b])] w λe w'=>∃r,e=.returned r/\Nc w.heap.size w' r (V.Jo a b)/\AS w.heap.size w w':=by have A:=jZ;have h2:=yw;go_enter Tryz.func180,Tryz.ntmps180;go_wp2_with fail;refine(je a b m _ x y (BX z _)).mono ?_;rintro e C⟨r,rfl,h,f⟩;have s:=A3 (h.mono (B':=w.heap.size) (by simp));have p:=A3 (((B9 _ w).alloc (AX _) _).trans (f.mono (by simp)));clear h f;go_wp2;go_ret;exact⟨r,rfl,s.out,p.out⟩
theorem aTZ(a b:ByteArray)(m:Int)(w:A')(x:a.size<=281474976710656)(y:b.size<=281474976710656)(z:w.cell? ⟨0,0,J⟩=Z (.int .i64 m)):AZ A4 180 #[.iface 222 (.agg #[.string a,.string b])] w λe w'=>∃r,e=.returned r/\Nc w.heap.size w' r (V.Jo a b)/\AS w.heap.size w w':=by have A:=q5;have h2:=yx;have h3:=yy;go_enter Tryz.func180,Tryz.ntmps180;go_wp2_with fail;refine(je a b m _ x y (BX z _)).mono ?_;rintro e C⟨r,rfl,h,f⟩;have s:=A3 (h.mono (B':=w.heap.size) (by simp));have p:=A3 (((B9 _ w).alloc (AX _) _).trans (f.mono (by simp)));clear h f;go_wp2;go_ret;exact⟨r,rfl,s.out,p.out⟩
theorem aT_(a b c d:ByteArray)(m:Int)(w:A')(I:a.size<=281474976710656)(K:b.size<=281474976710656)(hc:c.size<=281474976710656)(U:d.size<=281474976710656)(A:w.cell? ⟨0,0,J⟩=Z (IS Po m)):AZ A4 180 #[aYJ 224 (dd #[AI a,AI b,AI c,AI d])] w λe w'=>∃r,e=hq r/\Nc w.heap.size w' r (V.WO a b c d)/\AS w.heap.size w w':=by have h1:=q6;have h2:=yz;have h3:=z1;have h4:=z6;cases x:V.TH a b with|none=>have y:AP (V.WO a b c d=V.Jo c d):=A3 (by unfold V.WO;rw[x]);go_enter Tryz.func180,Tryz.ntmps180;go_wp2_with fail;refine(zc a b c d m _ I K (BX A _)).mono ?_;rintro e C⟨r,rfl,p,h⟩;rw[x]at p;obtain rfl:r=aY4 J:=p;have u:C.cell? ⟨w.heap.size,2,J⟩=Z (AI c):=Aw h (by simp);have E:C.cell? ⟨w.heap.size,3,J⟩=Z (AI d):=Aw h (by simp);have t:=Aw h (BX A _);have s:=A3 (((B9 _ w).alloc (AX _) _).trans (h.mono (by simp)));clear h;go_wp2_with fail;refine(je c d m _ hc U t).mono ?_;rintro e w2⟨r,rfl,p,M⟩;have z:=A3 (p.mono s.out.size);have N:=A3 (s.out.trans (M.mono s.out.size));clear p M;go_wp2;go_ret;exact⟨r,rfl,by rw[y.out];exact z.out,N.out⟩|some f=>have y:AP (V.WO a b c d=Z f):=A3 (by unfold V.WO;rw[x]);obtain⟨k,n,F,P⟩:=f;go_enter Tryz.func180,Tryz.ntmps180;go_wp2_with fail;refine(zc a b c d m _ I K (BX A _)).mono ?_;rintro e C⟨r,rfl,p,h⟩;rw[x]at p;obtain⟨q,D,rfl,H⟩:=p;have s:=A3 (((B9 _ w).alloc (AX _) _).trans (h.mono (by simp)));have z:=A3 H;have Q:AP (w.heap.size<=q):=A3 (by simp at D;omega);clear h H D;go_wp2;go_ret;exact⟨_,rfl,by rw[y.out];exact⟨q,Q.out,rfl,z.out⟩,s.out⟩
theorem aDY(n t:Nat)(fs:List ByteArray)(m:Int)(w:A')(hx:V.Q2 (n,t,fs))(hs:∀a∈fs,a.size<=281474976710656)(h:w.cell? ⟨0,0,J⟩=Z (IS Po m)):AZ A4 180 #[aYJ t (dd (fs.map AI).toArray)] w λe w'=>∃r,e=hq r/\Nc w.heap.size w' r (V.bD t fs)/\AS w.heap.size w w':=by
 rcases hx with⟨f,a,h2⟩|⟨f,a,b,h2⟩|⟨f,a,b,h2⟩|⟨f,a,b,c,d,h2⟩;·simp only at f h2;subst f h2;exact aTX a m w (hs a (by simp)) h
 ·simp only at f h2;subst f h2;exact aTY a b m w (hs a (by simp)) (hs b (by simp)) h
 ·simp only at f h2;subst f h2;exact aTZ a b m w (hs a (by simp)) (hs b (by simp)) h
 ·simp only at f h2;subst f h2;exact aT_ a b c d m w (hs a (by simp)) (hs b (by simp)) (hs c (by simp)) (hs d (by simp)) h
def Ky(p:Int×ByteArray×ByteArray):A1:=dd #[IS Po p.1,AI p.2.1,AI p.2.2]
theorem aOG(n t:Nat)(fs:List ByteArray)(w:A')(hx:V.Q2 (n,t,fs)):AZ A4 100 #[aYJ t (dd (fs.map AI).toArray)] w λe w'=>e=hq (Ky (V.place t fs))/\AS w.heap.size w w'/\w.drawn<=w'.drawn:=by
 rcases hx with⟨f,a,h2⟩|⟨f,a,b,h2⟩|⟨f,a,b,h2⟩|⟨f,a,b,c,d,h2⟩;·simp only at f h2;subst f h2;have h:=jY;go_enter Tryz.func100,Tryz.ntmps100;go_wp2;refine L3 (v:=dd #[IS Po 0,AI a,AI ⟨#[]⟩]) (by simp[De,iW,go_sem]) rfl ⟨rfl,?_,AX _⟩;exact((B9 _ _).alloc (AX _) _).alloc (by simp) _
 ·simp only at f h2;subst f h2;have h:=jZ;have m:=yw;go_enter Tryz.func100,Tryz.ntmps100;go_wp2;refine L3 (v:=dd #[IS Po 1,AI a,AI ⟨#[]⟩]) (by simp[De,iW,go_sem]) rfl ⟨rfl,?_,AX _⟩;exact((B9 _ _).alloc (AX _) _).alloc (by simp) _
 ·simp only at f h2;subst f h2;have h:=q5;have m:=yx;have hc:=yy;go_enter Tryz.func100,Tryz.ntmps100;go_wp2;refine L3 (v:=dd #[IS Po 2,AI a,AI b]) (by simp[De,iW,go_sem]) rfl ⟨rfl,?_,AX _⟩;exact((B9 _ _).alloc (AX _) _).alloc (by simp) _
 ·simp only at f h2;subst f h2;have h:=q6;have m:=yz;have hc:=z1;have p:=z6;go_enter Tryz.func100,Tryz.ntmps100;go_wp2;refine L3 (v:=dd #[IS Po 3,AI a,AI b]) (by simp[De,iW,go_sem]) rfl ⟨rfl,?_,AX _⟩;exact((B9 _ _).alloc (AX _) _).alloc (by simp) _
theorem I_(x y:ByteArray)(h:x.size+y.size<=1000000)(w:A'):(aT .add x y).run A4 w=.ok (.string (x++y)) w:=aAD (P:=A4) w x y (by omega)
theorem G2(x y:ByteArray):(x++y).size=x.size+y.size:=by simp
theorem Q7(x y:ByteArray):(x++y).data.toList=x.data.toList++y.data.toList:=by simp
structure Kept(T:Nat->Prop)(w w':A'):Prop where
 os:w'.os=w.os
 tape:w'.tape=w.tape
 output:w'.output=w.output
 size:w.heap.size<=w'.heap.size
 block:∀k,k<w.heap.size->¬T k->w'.heap[k]?=w.heap[k]?
theorem Kept.refl(T:Nat->Prop)(w:A'):Kept T w w:=⟨rfl,rfl,rfl,AX _,λ_ _ _=>rfl⟩
theorem Kept.trans{T:Nat->Prop}{a b c:A'}(h:Kept T a b)(k:Kept T b c):Kept T a c:=⟨k.os.trans h.os,k.tape.trans h.tape,k.output.trans h.output,HA h.size k.size,λi e h2=>(k.block i (Nat.lt_of_lt_of_le e h.size) h2).trans (h.block i e h2)⟩
theorem Kept.mono{c:Nat->Prop}{a b:A'}(h:Kept T a b)(f:∀k,k<a.heap.size->T k->c k):Kept c a b:=⟨h.os,h.tape,h.output,h.size,λi e h2=>h.block i e λh3=>h2 (f i e h3)⟩
theorem Kept.below{a b:A'}(h:Kept T a b)(m:B<=a.heap.size)(f:∀k,k<B->¬T k):AS B a b:=⟨h.os,h.tape,h.output,h.size,λi e=>h.block i (by omega) (f i e)⟩
theorem Kept.cell{T:Nat->Prop}{a b:A'}(h:Kept T a b){k o:Nat}{v:A1}(e:¬T k)(hc:a.cell? ⟨k,o,J⟩=Z v):b.cell? ⟨k,o,J⟩=Z v:=by rw[<-hc];exact F4 (w:=a) (h.block k (Ff (h:=hc)) e)
def MR(w:A')(b:Nat)(e:A1)(n:Nat)(j:Int):Prop:=w.heap[b]?=Z (BE #[e,IS Po j] 110 (0,0))/\0<=j/\j<=n
def Nz(w:A')(h:Nat)(m:A1)(n:Nat):Prop:=∃f c,m=As f n c/\(n=0∨∃e b,f=Z ⟨e,b,J⟩/\e≠h/\∀j,j<n->∃x,w.cell? ⟨e,b+j,J⟩=Z (IS Po x)/\-9223372036854775808<=x/\x<=9223372036854775807)
theorem Nz.kept(h:Nz w bi DY n)(m:Kept (λk=>k=bi) w w'):Nz w' bi DY n:=by
 obtain⟨s,c,rfl,h⟩:=h;refine⟨s,c,rfl,?_⟩;rcases h with h|⟨y,b,e,h2,h3⟩;·exact AA h
 ·refine AF ⟨y,b,e,h2,λj f=>?_⟩;obtain⟨x,hx,p⟩:=h3 j f;exact⟨x,m.cell h2 hx,p⟩
def ZR(x:Int):Int:=if x<0 then-(x+1)%3 else x%3
theorem aO1(x:Int):∃r:Nat,ZR x=(r:Int)/\r<3:=by refine⟨(ZR x).toNat,?_⟩;unfold ZR;split<;>omega
theorem aO0(x:Int)(w:A')(b:-9223372036854775808<=x)(h2:x<=9223372036854775807):AZ A4 15 #[IS Po x,IS Po 3] w λe w'=>e=hq (IS Po (ZR x))/\w'=w:=by
 by_cases h:x<0;·go_enter Tryz.func15,Tryz.ntmps15;go_wp2;go_ret;exact⟨K0 (by unfold ZR;rw[if_pos h,<-Int.neg_tmod,aBF (by omega)]),rfl⟩
 ·go_enter Tryz.func15,Tryz.ntmps15;go_wp2;go_ret;exact⟨K0 (by unfold ZR;rw[if_neg (by omega)]),rfl⟩
theorem aN1(b n:Nat)(h:Option Aa)(c:Nat)(w:A')(m:n<=4611686018427387904)(f:w.heap[b]?=Z (BE #[As h n c,IS Po (n:Int)] 110 (0,0))):AZ A4 49 #[aY4 (Z ⟨b,0,J⟩),IS Po 3] w λe w'=>e=hq (IS Po 0)/\∃q,w'=w.drewN q:=by
 have c0:w.cell? ⟨b,0,J⟩=Z (As h n c):=by rw[Ad f];rfl
 have c1:w.cell? ⟨b,1,J⟩=Z (IS Po (n:Int)):=by rw[Ad f];rfl
 clear f;go_enter Tryz.func49,Tryz.ntmps49;go_wp2_with fail;go_quiet(fail);go_wp2_with fail;go_ret;exact⟨rfl,_,rfl⟩
theorem aN2(b n f off c k:Nat)(x:Int)(w:A')(hn:n<=4611686018427387904)(M:k<n)(N:f≠b)(m:w.heap[b]?=Z (BE #[As (Z ⟨f,off,J⟩) n c,IS Po (k:Int)] 110 (0,0)))(hx:w.cell? ⟨f,off+k,J⟩=Z (IS Po x))(D:-9223372036854775808<=x)(H:x<=9223372036854775807):AZ A4 49 #[aY4 (Z ⟨b,0,J⟩),IS Po 3] w λe w'=>e=hq (IS Po (ZR x))/\∃q I,w'=((w.drewN q).setCell ⟨b,1,J⟩ (IS Po ((k:Int)+1))).drewN I:=by
 have c0:w.cell? ⟨b,0,J⟩=Z (As (Z ⟨f,off,J⟩) n c):=by rw[Ad m];rfl
 have c1:w.cell? ⟨b,1,J⟩=Z (IS Po (k:Int)):=by rw[Ad m];rfl
 have A:w.frozen? ⟨b,1,J⟩=A5:=Dv m 1;clear m;have K:¬(n:Int)<=(k:Int):=by omega
 have C:=aO0 x;go_enter Tryz.func49,Tryz.ntmps49;go_wp2_with fail;go_quiet(fail);go_wp2_with fail;have a:((w.drewN nq).setCell ⟨b,1,J⟩ (IS Po ((k:Int)+1))).cell? ⟨b,0,J⟩=Z (As (Z ⟨f,off,J⟩) n c):=by rw[Sw (h:=λe=>by injection e;omega)];exact c0
 have y:((w.drewN nq).setCell ⟨b,1,J⟩ (IS Po ((k:Int)+1))).cell? ⟨b,1,J⟩=Z (IS Po ((k:Int)+1)):=oe _ _ _ (u:=IS Po (k:Int)) c1;have z:((w.drewN nq).setCell ⟨b,1,J⟩ (IS Po ((k:Int)+1))).cell? ⟨f,off+k,J⟩=Z (IS Po x):=by rw[Sw (h:=λe=>by injection e;omega)];exact hx
 generalize p:(w.drewN nq).setCell ⟨b,1,J⟩ (IS Po ((k:Int)+1))=W at a y z⊢;have s:=A3 p;clear p c0 c1 A hx;go_quiet((go_at_call 15;exact Si (C _ D H)));go_wp2_with fail;go_ret;exact⟨rfl,_,nq,by rw[<-s.out]⟩
theorem u1(b n:Nat)(A:A1)(j:Int)(w:A')(hn:n<=4611686018427387904)(H:MR w b A n j)(I:Nz w b A n):AZ A4 49 #[aY4 (Z ⟨b,0,J⟩),IS Po 3] w λe w'=>∃r:Nat,e=hq (IS Po (r:Int))/\r<3/\(∃j',MR w' b A n j')/\Kept (λk=>k=b) w w'/\w'.heap.size=w.heap.size:=by
 obtain⟨f,K,d⟩:=H;obtain⟨k,rfl⟩:=aBE K;obtain⟨a,c,rfl,y⟩:=I;have hlt:b<w.heap.size:=by
  rcases IW b w.heap.size with h|h;·exact h
  ·rw[Pg h]at f;cases f
 by_cases M:k=n;·subst M;refine(aN1 b k a c w hn f).mono ?_;rintro e w'⟨rfl,q,rfl⟩;exact⟨0,rfl,by omega,⟨_,f,by omega,by omega⟩,⟨rfl,rfl,rfl,AX _,λ_ _ _=>rfl⟩,rfl⟩
 ·rcases y with h|⟨D,m,rfl,N,hx⟩;·omega
  ·obtain⟨x,hc,Q,U⟩:=hx k (by omega);refine(aN2 b n D m c k x w hn (by omega) N f hc Q U).mono ?_;rintro e w'⟨rfl,q,t,rfl⟩;obtain⟨r,y,z⟩:=aO1 x;have hs:((w.drewN q).setCell ⟨b,1,J⟩ (IS Po ((k:Int)+1))).heap[b]?=Z (BE #[As (Z ⟨D,m,J⟩) n c,IS Po ((k:Int)+1)] 110 (0,0)):=by rw[EV (w.drewN q) _ _ _ _ _ f];rfl
   have C:((w.drewN q).setCell ⟨b,1,J⟩ (IS Po ((k:Int)+1))).heap.size=w.heap.size:=by rw[World.size_setCell];rfl
   have s:=(B9 0 (w.drewN q)).setCell (p:=⟨b,1,J⟩) (JJ _) (IS Po ((k:Int)+1));exact⟨r,by rw[y],z,⟨(k:Int)+1,hs,by omega,by omega⟩,⟨s.os,s.tape,s.output,Nat.le_of_eq C.symm,λi _ hi=>F_ (w.drewN q) _ _ _ hi⟩,C⟩
theorem Kept.grown(h:Kept (λk=>k=bi) w w'):w.grownBy w' (Z bi):=⟨h.os,h.tape,h.output,h.size,λk b f=>h.block k b λe=>f (by rw[e])⟩
theorem aNj{s:Nat}(h:w.ownsRow base e s v n xs)(m:Kept (λk=>k=bi) w w')(p:bi<base):w'.ownsRow base e s v n xs:=h.kept m.grown (by cases hv:v.ownBlock with|none=>exact AA rfl|some b=>refine AF λf=>?_;have:=(h.lt b hv).1;injection f with f;omega)
def Gl(l:List (Nat×Nat)):List A1:=l.flatMap λx=>[IS Po (x.1:Int),IS Po (x.2:Int)]
theorem aMv(l:List (Nat×Nat))(x:Nat×Nat):Gl (l++[x])=Gl l++[IS Po (x.1:Int),IS Po (x.2:Int)]:=by unfold Gl;rw[jJ];rfl
def pS(v:A1):Prop:=∃k n,v=IS k n
def KA(w:A')(B:Nat)(v:A1)(l:List (Nat×Nat)):Prop:=w.ownsRow B 45 2 v l.length (Gl l)/\GJ pS w 2 v l.length
theorem KA.of{l:List (Nat×Nat)}(h:KA w B v l)(k:w'.ownsRow B 45 2 v l.length (Gl l))(e:∀g,B<=g->g<w.heap.size->w'.heap[g]?=w.heap[g]?):KA w' B v l:=by
 refine⟨k,h.2.same λg f hv=>?_⟩;rcases h.1.2 with⟨b,_⟩|⟨m,c,p,b,h2,h3,_⟩;·rw[b]at hv;cases hv
 ·rw[b]at hv;injection hv with hv _ _;injection hv with hv;injection hv with hv _ _;subst hv;exact e m h2 (Array.getElem?_eq_some_iff.1 h3).1
theorem a48{l:List (Nat×Nat)}(h:KA w base v l)(b:Kept (λk=>k=bi) w w')(e:bi<base):KA w' base v l:=h.of (aNj h.1 b e) λg f h2=>b.block g h2 (by omega)
structure TC(C:Array A1):Prop where
 size:C.size=31
 AW:∀q k,q<5->k<3->∃v:Nat,C[q*3+k]?=Z (IS Po (v:Int))/\1<=v/\v<=9
 a5E:∀q k(a b:Int),q<5->k<2->C[q*3+k]?=Z (IS Po a)->C[q*3+(k+1)]?=Z (IS Po b)->a<b
def O_(C:Array A1)(p:Int)(l:List (Nat×Nat)):Prop:=(∀x∈l,x.1<5/\(x.1:Int)≠p/\x.2<=9/\∃k,k<3/\C[x.1*3+k]?=Z (IS Po (x.2:Int)))/\l.Pairwise λx y=>x.1<y.1
def pz(C:Array A1)(p:Int)(b n:Nat)(e:A1)(w:A')(k:Nat)(v:A1)(wr:A'):Prop:=∃l,O_ C p l/\(∀x∈l,x.1<k)/\l.length<=k/\KA wr w.heap.size v l/\(∃j,MR wr b e n j)/\Kept (λk=>k=b) w wr
theorem tH:(A4.info? 45).map (λi=>(i.zero,i.size,i.bytes))=Z (Z (dd #[IS Po 0,IS Po 0]),2,16):=by kernel_rfl
theorem a5c(D f n:Nat)(s:A1)(p:Int)(C:Array A1)(w:A')(hn:n<=4611686018427387904)(hC:TC C)(hm:w.heap[D]?=Z (BE C 43 (0,0)))(md:D≠f)(A2:∃j,MR w f s n j)(r:Nz w f s n):AZ A4 50 #[aY4 (Z ⟨D,0,J⟩),aY4 (Z ⟨f,0,J⟩),IS Po p] w λe w'=>∃v l,e=hq v/\O_ C p l/\KA w' w.heap.size v l/\(∃j,MR w' f s n j)/\Kept (λk=>k=f) w w':=by
 obtain⟨i0,hi,E9,DL,Cc⟩:=IT tH;have t:=A3 hm;have Cg:=A3 A2;have E:=A3 r;have FH:=A3 hC;have c:f<w.heap.size:=by
  obtain⟨j,h,_⟩:=A2;rcases IW f w.heap.size with z|z;·exact z
  ·rw[Pg z]at h;cases h
 clear hm A2 r hC;go_enter Tryz.func50,Tryz.ntmps50;go_wp2;go_loopw[7,8]λv i wr=>∃k:Nat,k<=5/\i=IS Po k/\AP (pz C p f n s w k v wr)(λ_ i _=>5-(Ay i).toNat);case atStart=>exact⟨0,by omega,rfl,A3 ⟨[],⟨λx hx=>absurd hx (H8),aUT⟩,λx hx=>absurd hx (H8),AX _,⟨Vo _ _ _ _,GJ.nil _ _ _⟩,Cg.out,Kept.refl _ _⟩⟩
 case round=>
  obtain⟨k,hk,rfl,H⟩:=hrel;obtain⟨l,BM,F,GZ,AQ,P,S⟩:=H.out;have El:=A3 BM;have N:=A3 F;have Cx:=A3 AQ;have X:=A3 P;have M:=A3 S;clear H BM F AQ P S;by_cases hlt:k<5
  ·obtain⟨d,kY⟩:=X.out;go_wp2_with fail;refine(u1 f n s d _ hn kY (E.out.kept M.out)).mono ?_;rintro e w1⟨r1,rfl,Fb,⟨lD,fX⟩,U,-⟩;have y7:=A3 (M.out.trans U);have Oi:=A3 (a48 Cx.out U c);clear U;go_wp2_with fail;refine(u1 f n s lD _ hn fX (E.out.kept y7.out)).mono ?_;rintro e m⟨r2,rfl,FW,b_,q,-⟩;have y:=A3 (y7.out.trans q);have Lb:=A3 (a48 Oi.out q c);have y5:=A3 b_;have K:AP (pz C p f n s w (k+1) u7 m):=A3 ⟨l,El.out,λx hx=>aBv (N.out x hx),by omega,Lb.out,y5.out,y.out⟩;clear q b_ kY fX;cases AV:(r1:Int)==0
   ·cases hp:(k:Int)==p
    ·obtain⟨v,hv,Lw,Ih⟩:=FH.out.AW k r2 hlt FW;have JU:m.heap[D]?=Z (BE C 43 (0,0)):=by
      rw[y.out.block D (by
       rcases IW D w.heap.size with z|z;·exact z
       ·have:=t.out;rw[Pg z]at this;cases this) md];exact t.out
     have aUl:m.cell? ⟨D,k*3+r2,J⟩=Z (IS Po (v:Int)):=by rw[Ad JU];exact hv
     have DS:=A3 hv;clear JU hv;have B3:w.heap.size<=m.heap.size:=y.out.size;have yF:∀{o:Obj},AP (GJ pS (m.alloc o) 2 u7 l.length):=λ{o}=>A3 (Lb.out.of (Lb.out.1.alloc o) λg _ h2=>dO m o g h2).2;go_wp2_with(at_builtin;refine a6W _ pS rfl _ _ 39 rfl w.heap.size 45 i0 (dd #[IS Po 0,IS Po 0]) 2 16 Tryz.underlying39 hi E9 DL Cc rfl (by decide) (λu hu=>by simp[Value.cells]at hu;exact⟨_,_,hu⟩) _ _ _ rfl (Lb.out.1.alloc _) yF.out ⟨m.heap.size,0,J⟩ 1 1 [IS Po (k:Int),IS Po (v:Int)] rfl rfl ?c1 ?c2 (by omega) ?c3 ?c4 ?c5 ?_);case c1=>intro j u A;match j,A with|0,A=>simp at A;subst A;simp[Ht]|1,A=>simp at A;subst A;simp[Ht]
     case c2=>intro u hu;simp at hu;rcases hu with rfl|rfl<;>rfl
     case c3=>unfold BK;omega
     case c4=>omega
     case c5=>simp;omega
     intro v' w3 DO I Z9;have R:AP (pz C p f n s w (k+1) v' w3):=by
      have Da:∀i,i<w.heap.size->w3.heap[i]?=m.heap[i]?:=by intro i Q;rw[I.block i (by simp;omega) λe=>by have:=(Lb.out.1.lt i e.symm).1;omega,dO m _ i (by omega)]
      have QJ:Kept (λk=>k=f) w w3:=⟨I.os.trans y.out.os,I.tape.trans y.out.tape,I.output.trans y.out.output,by have:=I.size;simp at this;omega,λi Q h2=>(Da i Q).trans (y.out.block i Q h2)⟩;obtain⟨NM,b_⟩:=y5.out;refine A3 ⟨l++[(k,v)],⟨?_,?_⟩,?_,?_,?_,?_,QJ⟩
      ·intro x hx;rcases List.mem_append.1 hx with hx|hx;·exact El.out.1 x hx
       ·rw[List.mem_singleton.1 hx];exact⟨hlt,beq_eq_false_iff_ne.1 hp,Ih,r2,FW,DS.out⟩
      ·rw[List.pairwise_append];refine⟨El.out.2,List.pairwise_singleton _ _,λa A6 b hb=>?_⟩;rw[List.mem_singleton.1 hb];exact N.out a A6
      ·intro x hx;rcases List.mem_append.1 hx with hx|hx;·exact aBv (N.out x hx)
       ·rw[List.mem_singleton.1 hx];exact Nat.lt_succ_self k
      ·simp;omega
      ·exact⟨by rw[aMv,HN];exact DO,by rw[HN];exact Z9⟩
      ·exact⟨NM,(Da f c).trans b_.1,b_.2⟩
     clear I DO Z9 yF;go_wp2;first
     |exact⟨⟨k+1,by omega,by go_num,R⟩,by simp[Ay];omega⟩
     |
      (
       go_roundw;case rel=>exact⟨k+1,by omega,by go_num,R⟩
       case measure=>simp[Ay];omega)
    ·go_wp2;first
     |exact⟨⟨k+1,by omega,by go_num,K⟩,by simp[Ay];omega⟩
     |
      (
       go_roundw;case rel=>exact⟨k+1,by omega,by go_num,K⟩
       case measure=>simp[Ay];omega)
   ·go_wp2;first
    |exact⟨⟨k+1,by omega,by go_num,K⟩,by simp[Ay];omega⟩
    |
     (
      go_roundw;case rel=>exact⟨k+1,by omega,by go_num,K⟩
      case measure=>simp[Ay];omega)
  ·go_wp2;go_ret;exact⟨_,l,rfl,El.out,Cx.out,X.out,M.out⟩
theorem aNi{s:Nat}(h:w.ownsRow base e s v n xs)(y:Kept T w w')(x:∀k,base<=k->¬T k):w'.ownsRow base e s v n xs:=by
 refine⟨h.1,?_⟩;rcases h.2 with b|⟨g,f,m,p,h2,h3,h4⟩;·exact AA b
 ·have hlt:g<w.heap.size:=by
   rcases IW g w.heap.size with b|b;·exact b
   ·rw[Pg b]at h3;cases h3
  exact AF ⟨g,f,m,p,h2,by rw[y.block g hlt (x g h2)];exact h3,h4⟩
theorem aNk{base':Nat}{s:Nat}(h:w.ownsRow base e s v n xs)(x:base'<=base):w.ownsRow base' e s v n xs:=by
 refine⟨h.1,?_⟩;rcases h.2 with m|⟨g,b,f,p,h2,h3⟩;·exact AA m
 ·exact AF ⟨g,b,f,p,HA x h2,h3⟩
def aI(C:Array A1)(k j:Nat):Prop:=C.size=31/\(∀i,15<=i->i<31->C[i]?=Z (As J 0 0))/\(∀i,i<15->∃v:Int,C[i]?=Z (IS Po v))/\(∀q r,q<5->r<3->q<k∨q=k/\r<j->∃v:Nat,C[q*3+r]?=Z (IS Po (v:Int))/\1<=v/\v<=9)/\∀q r(a b:Int),q<5->r<2->q<k∨q=k/\r+1<j->C[q*3+r]?=Z (IS Po a)->C[q*3+(r+1)]?=Z (IS Po b)->a<b
def Lf(b n:Nat)(e:A1)(w:A')(k j:Nat)(wr:A'):Prop:=∃C,wr.heap[b+1]?=Z (BE C 43 (0,0))/\aI C k j/\(∃i,MR wr b e n i)/\AS w.heap.size w wr
theorem mM{l:List (Nat×Nat)}(h:KA w base v l)(e:Kept T w w')(b:∀k,base<=k->¬T k):KA w' base v l:=h.of (aNi h.1 e b) λg f h2=>e.block g h2 (b g f)
theorem a4A{base':Nat}{l:List (Nat×Nat)}(h:KA w base v l)(b:base'<=base):KA w base' v l:=⟨aNk h.1 b,h.2⟩
theorem Nz.later(h:Nz w bi DY n)(f:AS w.heap.size w w'):Nz w' bi DY n:=by
 obtain⟨s,c,rfl,h⟩:=h;refine⟨s,c,rfl,?_⟩;rcases h with h|⟨y,b,e,h2,h3⟩;·exact AA h
 ·refine AF ⟨y,b,e,h2,λj m=>?_⟩;obtain⟨x,hx,p⟩:=h3 j m;exact⟨x,Aw f hx,p⟩
theorem mf(w:A')(b o:Nat)(v:A1):Kept (λk=>k=b) w (w.setCell ⟨b,o,J⟩ v):=by have h:=(B9 0 w).setCell (p:=⟨b,o,J⟩) (JJ _) v;exact⟨h.os,h.tape,h.output,h.size,λi _ hi=>F_ w _ _ _ hi⟩
theorem aFT{v:Nat}(h:aI C k j)(N:k<5)(M:j<3)(I:1<=v)(K:v<=9)(D:0<j->∀a:Int,C[k*3+(j-1)]?=Z (IS Po a)->a<(v:Int)):aI (C.setIfInBounds (k*3+j) (IS Po (v:Int))) k (j+1):=by
 obtain⟨x,h2,h3,h4,y⟩:=h;refine⟨by simpa using x,λi z A=>?_,λi hi=>?_,λq r p s H=>?_,λq r a b p s H m f=>?_⟩;·rw[JF (by omega)];exact h2 i z A
 ·by_cases e:k*3+j=i;·subst e;rw[XW (by omega)];exact⟨_,rfl⟩
  ·rw[JF e];exact h3 i hi
 ·by_cases e:k*3+j=q*3+r;·rw[e,XW (by omega)];exact⟨v,rfl,I,K⟩
  ·rw[JF e];exact h4 q r p s (by omega)
 ·rw[JF (by omega)]at m;by_cases e:k*3+j=q*3+(r+1)
  ·rw[e,XW (by omega)]at f;injection f with f;injection f with _ f;rw[<-f];have e2:q*3+r=k*3+(j-1):=by omega
   rw[e2]at m;exact D (by omega) a m
  ·rw[JF e]at f;exact y q r a b p s (by omega) m f
theorem aFU(h:aI C k 3):aI C (k+1) 0:=⟨h.1,h.2.1,h.2.2.1,λq r e f m=>h.2.2.2.1 q r e f (by omega),λq r a b e f m=>h.2.2.2.2 q r a b e f (by omega)⟩
theorem aFV(h:aI C 5 0):TC C:=⟨h.1,λq k f e=>h.2.2.2.1 q k f e (by omega),λq k a b f e=>h.2.2.2.2 q k a b f e (by omega)⟩
def jF(wr:A')(b k j v:Nat):Prop:=0<j->wr.cell? ⟨b,k*3+(j-1),J⟩=Z (IS Po (v:Int))
theorem aM7{v v0:Nat}(h:Lf bi n DY w k j wr)(K:bi=w.heap.size)(y:k<5)(x:j<3)(H:1<=v)(I:v<=9)(A:jF wr (bi+1) k j v0)(M:v0<v):Lf bi n DY w k (j+1) (wr.setCell ⟨bi+1,k*3+j,J⟩ (IS Po (v:Int))):=by
 obtain⟨C,b,h2,⟨i,h3,m⟩,h4⟩:=h;have z:=mf wr (bi+1) (k*3+j) (IS Po (v:Int));have hlt:bi+1<wr.heap.size:=by
  rcases IW (bi+1) wr.heap.size with e|e;·exact e
  ·rw[Pg e]at b;cases b
 have D:0<j->∀a:Int,C[k*3+(j-1)]?=Z (IS Po a)->a<(v:Int):=λf a s=>by have:=A f;rw[Ad b,s]at this;injection this with this;injection this with _ this;omega
 refine⟨_,EV wr _ _ _ _ _ b,aFT h2 y x H I D,⟨i,?_,m⟩,h4.setCell (p:=⟨bi+1,k*3+j,J⟩) (by show w.heap.size<=bi+1;omega) _⟩;rw[z.block bi (by omega) (by omega)];exact h3
theorem Lf.raw(h:Lf bi n DY w k j wr):∃i,MR wr bi DY n i:=h.elim λ_ x=>x.2.2.1
theorem Lf.below(h:Lf bi n DY w k j wr):AS w.heap.size w wr:=h.elim λ_ x=>x.2.2.2
theorem Lf.store(h:Lf bi n DY w k j wr)(hi:i<15):(∃x:Int,wr.cell? ⟨bi+1,i,J⟩=Z (IS Po x))/\wr.frozen? ⟨bi+1,i,J⟩=A5:=by obtain⟨C,b,h2,_,_⟩:=h;obtain⟨x,hx⟩:=h2.2.2.1 i hi;exact⟨⟨x,by rw[Ad b];exact hx⟩,Dv b i⟩
theorem aM8(h:Lf bi n DY w k j wr)(p:bi=w.heap.size)(f:Kept (λi=>i=bi) wr w1)(m:∃i,MR w1 bi DY n i):Lf bi n DY w k j w1:=by
 obtain⟨C,e,h2,_,h4⟩:=h;have hlt:bi+1<wr.heap.size:=by
  rcases IW (bi+1) wr.heap.size with b|b;·exact b
  ·rw[Pg b]at e;cases e
 refine⟨C,by rw[f.block (bi+1) hlt (by omega)];exact e,h2,m,h4.trans (f.below (by omega) λi hi=>by omega)⟩
theorem aM9(h:Lf bi n DY w k 3 wr):Lf bi n DY w (k+1) 0 wr:=by obtain⟨C,b,h2,h3,h4⟩:=h;exact⟨C,b,aFU h2,h3,h4⟩
theorem a5o:∀i:Fin 31,(i.val<15->(#[IS Po 0,IS Po 0,IS Po 0,IS Po 0,IS Po 0,IS Po 0,IS Po 0,IS Po 0,IS Po 0,IS Po 0,IS Po 0,IS Po 0,IS Po 0,IS Po 0,IS Po 0,As J 0 0,As J 0 0,As J 0 0,As J 0 0,As J 0 0,As J 0 0,As J 0 0,As J 0 0,As J 0 0,As J 0 0,As J 0 0,As J 0 0,As J 0 0,As J 0 0,As J 0 0,As J 0 0]:Array A1)[i.val]?=Z (IS Po 0))/\(15<=i.val->(#[IS Po 0,IS Po 0,IS Po 0,IS Po 0,IS Po 0,IS Po 0,IS Po 0,IS Po 0,IS Po 0,IS Po 0,IS Po 0,IS Po 0,IS Po 0,IS Po 0,IS Po 0,As J 0 0,As J 0 0,As J 0 0,As J 0 0,As J 0 0,As J 0 0,As J 0 0,As J 0 0,As J 0 0,As J 0 0,As J 0 0,As J 0 0,As J 0 0,As J 0 0,As J 0 0,As J 0 0]:Array A1)[i.val]?=Z (As J 0 0)):=by
 intro⟨i,hi⟩;refine⟨λh=>?_,λh=>?_⟩;·simp only at h⊢;match i,h with|0,_=>rfl|1,_=>rfl|2,_=>rfl|3,_=>rfl|4,_=>rfl|5,_=>rfl|6,_=>rfl|7,_=>rfl|8,_=>rfl|9,_=>rfl|10,_=>rfl|11,_=>rfl|12,_=>rfl|13,_=>rfl|14,_=>rfl|n+15,h=>omega
 ·simp only at h hi⊢;match i,h,hi with|15,_,_=>rfl|16,_,_=>rfl|17,_,_=>rfl|18,_,_=>rfl|19,_,_=>rfl|20,_,_=>rfl|21,_,_=>rfl|22,_,_=>rfl|23,_,_=>rfl|24,_,_=>rfl|25,_,_=>rfl|26,_,_=>rfl|27,_,_=>rfl|28,_,_=>rfl|29,_,_=>rfl|30,_,_=>rfl|n+31,_,h=>omega|0,h,_=>omega|1,h,_=>omega|2,h,_=>omega|3,h,_=>omega|4,h,_=>omega|5,h,_=>omega|6,h,_=>omega|7,h,_=>omega|8,h,_=>omega|9,h,_=>omega|10,h,_=>omega|11,h,_=>omega|12,h,_=>omega|13,h,_=>omega|14,h,_=>omega
theorem aMA(w:A')(m:A1)(n:Nat):Lf w.heap.size n m w 0 0 ((w.alloc (BE #[m,IS Po 0] 110)).alloc (BE #[IS Po 0,IS Po 0,IS Po 0,IS Po 0,IS Po 0,IS Po 0,IS Po 0,IS Po 0,IS Po 0,IS Po 0,IS Po 0,IS Po 0,IS Po 0,IS Po 0,IS Po 0,As J 0 0,As J 0 0,As J 0 0,As J 0 0,As J 0 0,As J 0 0,As J 0 0,As J 0 0,As J 0 0,As J 0 0,As J 0 0,As J 0 0,As J 0 0,As J 0 0,As J 0 0,As J 0 0] 43)):=by
 have e:(w.alloc (BE #[m,IS Po 0] 110)).heap.size=w.heap.size+1:=by simp
 refine⟨_,?_,⟨rfl,λi f h2=>(a5o ⟨i,h2⟩).2 f,λi f=>⟨0,(a5o ⟨i,by omega⟩).1 f⟩,λq r _ _ h=>by omega,λq r a b _ _ h=>by omega⟩,⟨0,?_,by omega,by omega⟩,((B9 _ w).alloc (AX _) _).alloc (by simp) _⟩;·rw[<-e];exact No _ _
 ·rw[dO _ _ _ (by simp)];exact No w _
def YQ(B:Nat)(w:A')(C:Array A1)(q r:Nat):Prop:=∃v l,C[15+q*3+r]?=Z v/\O_ C (q:Int) l/\KA w B v l
def Vy(b n:Nat)(e:A1)(w:A')(k j:Nat)(wr:A'):Prop:=∃C,wr.heap[b+1]?=Z (BE C 43 (0,0))/\TC C/\(∀i,15<=i->i<31->∃a m c,C[i]?=Z (As a m c))/\(∀q r,q<5->r<3->q<k∨q=k/\r<j->YQ (b+2) wr C q r)/\(∃i,MR wr b e n i)/\AS w.heap.size w wr
theorem aGw(h:Lf bi n DY w 5 0 wr):Vy bi n DY w 0 0 wr:=by obtain⟨C,b,h2,h3,h4⟩:=h;exact⟨C,b,aFV h2,λi e f=>⟨_,_,_,h2.2.1 i e f⟩,λq r _ _ h=>by omega,h3,h4⟩
theorem aGv(h:Vy bi n DY w k 3 wr):Vy bi n DY w (k+1) 0 wr:=by obtain⟨C,b,h2,h3,h4,e⟩:=h;exact⟨C,b,h2,h3,λq r f m p=>h4 q r f m (by omega),e⟩
theorem qx{l:List (Nat×Nat)}(h:O_ C p l)(hi:15<=i)(v:A1):O_ (C.setIfInBounds i v) p l:=by refine⟨λx hx=>?_,h.2⟩;obtain⟨b,h2,h3,k,h4,e⟩:=h.1 x hx;exact⟨b,h2,h3,k,h4,by rw[JF (by omega)];exact e⟩
theorem aT5(h:TC C)(hi:15<=i)(v:A1):TC (C.setIfInBounds i v):=⟨by simpa using h.size,λq k f e=>by obtain⟨x,s,h2⟩:=h.AW q k f e;exact⟨x,by rw[JF (by omega)];exact s,h2⟩,λq k a b f e m p=>by rw[JF (by omega)]at m p;exact h.a5E q k a b f e m p⟩
theorem a05(E:bi=w.heap.size)(s:wr.heap[bi+1]?=Z (BE C 43 (0,0)))(h2:TC C)(h3:∀i,15<=i->i<31->∃a m c,C[i]?=Z (As a m c))(h4:∀q r,q<5->r<3->q<k∨q=k/\r<j->YQ (bi+2) wr C q r)(d:AS w.heap.size w wr)(f:Kept (λi=>i=bi) wr w1)(A2:∃i,MR w1 bi DY n i)(a:Option Aa)(m c:Nat)(z:15<=i)(K:i<31)(y:∀q r,q<5->r<3->q<k∨q=k/\r<j->15+q*3+r≠i):(w1.setCell ⟨bi+1,i,J⟩ (As a m c)).heap[bi+1]?=Z (BE (C.setIfInBounds i (As a m c)) 43 (0,0))/\TC (C.setIfInBounds i (As a m c))/\(∀b,15<=b->b<31->∃M t N,(C.setIfInBounds i (As a m c))[b]?=Z (As M t N))/\(∀q r,q<5->r<3->q<k∨q=k/\r<j->YQ (bi+2) (w1.setCell ⟨bi+1,i,J⟩ (As a m c)) (C.setIfInBounds i (As a m c)) q r)/\(∃b,MR (w1.setCell ⟨bi+1,i,J⟩ (As a m c)) bi DY n b)/\AS w.heap.size w (w1.setCell ⟨bi+1,i,J⟩ (As a m c)):=by
 have hlt:bi+1<wr.heap.size:=by
  rcases IW (bi+1) wr.heap.size with h|h;·exact h
  ·rw[Pg h]at s;cases s
 have F:=f.size;have e1:w1.heap[bi+1]?=Z (BE C 43 (0,0)):=by rw[f.block (bi+1) hlt (by omega)];exact s
 have A:=mf w1 (bi+1) i (As a m c);refine⟨EV w1 _ _ _ _ _ e1,aT5 h2 z _,λb u x=>?_,λq r D I H=>?_,?_,?_⟩
 ·by_cases e:i=b;·subst e;exact⟨a,m,c,XW (by rw[h2.size];omega)⟩
  ·rw[JF e];exact h3 b u x
 ·obtain⟨v,l,Q,U,g3⟩:=h4 q r D I H;refine⟨v,l,by rw[JF λe=>y q r D I H e.symm];exact Q,qx U z _,?_⟩;exact mM (mM g3 f λx hx=>by omega) A λx hx=>by omega
 ·obtain⟨b,r1,r2⟩:=A2;exact⟨b,by rw[A.block bi (by omega) (by omega)];exact r1,r2⟩
 ·exact(d.trans (f.below (by omega) λx hx=>by omega)).setCell (p:=⟨bi+1,i,J⟩) (by show w.heap.size<=bi+1;omega) _
theorem a06{bi n:Nat}{DY:A1}{w wr w1:A'}{k j:Nat}{C:Array A1}{v:A1}{l:List (Nat×Nat)}(d:bi=w.heap.size)(u:k<5)(x:j<3)(b:wr.heap[bi+1]?=Z (BE C 43 (0,0)))(h2:TC C)(h3:∀i,15<=i->i<31->∃a m c,C[i]?=Z (As a m c))(h4:∀q r,q<5->r<3->q<k∨q=k/\r<j->YQ (bi+2) wr C q r)(N:AS w.heap.size w wr)(Q:O_ C (k:Int) l)(AQ:KA w1 wr.heap.size v l)(A2:∃i,MR w1 bi DY n i)(p:Kept (λi=>i=bi) wr w1):(∃a m c,v=As a m c)/\(∃a m c,w1.cell? ⟨bi+1,15+k*3+j,J⟩=Z (As a m c))/\w1.frozen? ⟨bi+1,15+k*3+j,J⟩=A5/\Vy bi n DY w k (j+1) (w1.setCell ⟨bi+1,15+k*3+j,J⟩ v):=by
 have hlt:bi+1<wr.heap.size:=by
  rcases IW (bi+1) wr.heap.size with f|f;·exact f
  ·rw[Pg f]at b;cases b
 have e1:w1.heap[bi+1]?=Z (BE C 43 (0,0)):=by rw[p.block (bi+1) hlt (by omega)];exact b
 have hv:∃a m c,v=As a m c:=by
  rcases AQ.1.2 with⟨h,_⟩|⟨g,E,F,h,_⟩;·exact⟨_,_,_,h⟩
  ·exact⟨_,_,_,h⟩
 obtain⟨z,t,c0,hc⟩:=h3 (15+k*3+j) (by omega) (by omega);refine⟨hv,⟨z,t,c0,by rw[Ad e1];exact hc⟩,Dv e1 _,?_⟩;obtain⟨a,m,c,rfl⟩:=hv;obtain⟨A,D,H,I,K,M⟩:=a05 (i:=15+k*3+j) d b h2 h3 h4 N p A2 a m c (by omega) (by omega) (λq r s y U=>by omega);refine⟨_,A,D,H,λq r s y U=>?_,K,M⟩;by_cases e:q=k/\r=j;·obtain⟨rfl,rfl⟩:=e;refine⟨_,l,XW (by rw[h2.size];omega),qx Q (by omega) _,?_⟩;exact a4A (mM AQ (mf w1 (bi+1) _ _) λx hx=>by omega) (by omega)
 ·exact I q r s y (by omega)
def Oo(w:A')(B b:Nat)(C:Array A1)(a:List (Nat×Nat)):Prop:=w.heap[b]?=Z (BE C 43 (0,0))/\TC C/\(∀q r,q<5->r<3->YQ B w C q r)/\∃v,C[30]?=Z v/\O_ C (-1) a/\KA w B v a
theorem aGu{l:List (Nat×Nat)}(Q:bi=w.heap.size)(b:wr.heap[bi+1]?=Z (BE C 43 (0,0)))(h2:TC C)(h3:∀i,15<=i->i<31->∃a m c,C[i]?=Z (As a m c))(h4:∀q r,q<5->r<3->q<5∨q=5/\r<0->YQ (bi+2) wr C q r)(K:AS w.heap.size w wr)(M:O_ C (-1) l)(AQ:KA w1 wr.heap.size v l)(N:∃i,MR w1 bi DY n i)(p:Kept (λi=>i=bi) wr w1):(∃a m c,v=As a m c)/\(∃a m c,w1.cell? ⟨bi+1,30,J⟩=Z (As a m c))/\w1.frozen? ⟨bi+1,30,J⟩=A5/\(∃y,Oo (w1.setCell ⟨bi+1,30,J⟩ v) (bi+2) (bi+1) y l)/\AS w.heap.size w (w1.setCell ⟨bi+1,30,J⟩ v):=by
 have hlt:bi+1<wr.heap.size:=by
  rcases IW (bi+1) wr.heap.size with e|e;·exact e
  ·rw[Pg e]at b;cases b
 have e1:w1.heap[bi+1]?=Z (BE C 43 (0,0)):=by rw[p.block (bi+1) hlt (by omega)];exact b
 have hv:∃a m c,v=As a m c:=by
  rcases AQ.1.2 with⟨h,_⟩|⟨g,d,t,h,_⟩;·exact⟨_,_,_,h⟩
  ·exact⟨_,_,_,h⟩
 obtain⟨z,U,c0,hc⟩:=h3 30 (by omega) (by omega);refine⟨hv,⟨z,U,c0,by rw[Ad e1];exact hc⟩,Dv e1 _,?_⟩;obtain⟨a,m,c,rfl⟩:=hv;obtain⟨A,D,g3,H,u,I⟩:=a05 (i:=30) Q b h2 h3 h4 K p N a m c (by omega) (by omega) (λq r f s x=>by omega);refine⟨⟨_,A,D,λq r f s=>H q r f s (AA f),_,XW (by rw[h2.size];omega),qx M (by omega) _,?_⟩,I⟩;exact a4A (mM AQ (mf w1 (bi+1) _ _) λx hx=>by omega) (by omega)
theorem aM1(n c:Nat)(b:Option Aa)(w:A')(hn:n<=4611686018427387904)(Fo:Nz w w.heap.size (As b n c) n):AZ A4 19 #[As b n c] w λe w'=>∃C d9,e=hq (aY4 (Z ⟨w.heap.size+1,0,J⟩))/\Oo w' (w.heap.size+2) (w.heap.size+1) C d9/\AS w.heap.size w w':=by
 have q:=A3 Fo;clear Fo;go_enter Tryz.func19,Tryz.ntmps19;go_wp2;go_loopw[5]λi wr=>∃k:Nat,k<=5/\i=IS Po k/\AP (Lf w.heap.size n (As b n c) w k 0 wr)(λi _=>5-(Ay i).toNat);case atStart=>exact⟨0,by omega,rfl,A3 (aMA w (As b n c) n)⟩
 case round=>
  obtain⟨k,hk,rfl,H⟩:=hrel;by_cases hlt:k<5
  ·go_wp2;rw[show Bn ((k:Int)<5)=A0 from decide_eq_true (by omega)];go_loopw[6,7]λa i d=>∃j:Nat,j<=3/\i=IS Po j/\∃v:Nat,a=IS Po v/\j<=v/\v<=3*j/\AP (Lf w.heap.size n (As b n c) w k j d/\jF d (w.heap.size+1) k j v)(λ_ i _=>3-(Ay i).toNat);case atStart=>exact⟨0,by omega,rfl,0,rfl,by omega,by omega,A3 ⟨H.out,λh=>absurd h (by omega)⟩⟩
   case round=>
    obtain⟨j,H1,rfl,v,rfl,Lw,Ih,ox⟩:=hrel;have p:=A3 ox.out.1;have t:=A3 ox.out.2;clear ox;by_cases u:j<3
    ·obtain⟨i0,LH⟩:=p.out.raw;go_wp2_with fail;refine(u1 w.heap.size n _ i0 _ hn LH (q.out.later p.out.below)).mono ?_;rintro e w1⟨r,rfl,a16,fX,E,-⟩;have I:=A3 (aM8 p.out rfl E fX);have j0:AP (jF w1 (w.heap.size+1) k j v):=A3 λAV=>(F4 (a:=⟨w.heap.size+1,k*3+(j-1),J⟩) (E.block (w.heap.size+1) (Ff (h:=t.out AV)) (by omega))).trans (t.out AV);clear E fX LH p t;have Bp:=I.out.store (i:=k*3+j) (by omega);obtain⟨x,hc⟩:=Bp.1;have AE:=Bp.2;have R:AP (Lf w.heap.size n (As b n c) w k (j+1) (w1.setCell ⟨w.heap.size+1,k*3+j,J⟩ (IS Po ((v:Int)+1+(r:Int))))/\jF (w1.setCell ⟨w.heap.size+1,k*3+j,J⟩ (IS Po ((v:Int)+1+(r:Int)))) (w.heap.size+1) k (j+1) (v+1+r)):=by refine A3 ?_;rw[show(v:Int)+1+(r:Int)=((v+1+r:Nat):Int)from by omega];have hm:=aM7 (v:=v+1+r) I.out rfl hlt u (by omega) (by omega) j0.out (by omega);refine⟨hm,λ_=>?_⟩;obtain⟨C,D,h2,_⟩:=I.out;have e1:=EV w1 (w.heap.size+1) (k*3+j) _ _ (IS Po ((v+1+r:Nat):Int)) D;rw[show k*3+(j+1-1)=k*3+j by omega,Ad e1];exact XW (by rw[h2.1];omega)
     clear Bp I;go_wp2;first
     |exact⟨⟨j+1,by omega,by go_num,v+1+r,by go_num,by omega,by omega,R⟩,by simp[Ay];omega⟩
     |
      (
       go_roundw;case rel=>exact⟨j+1,by omega,by go_num,v+1+r,by go_num,by omega,by omega,R⟩
       case measure=>simp[Ay];omega)
    ·have F:j=3:=by omega
     subst F;have R:=A3 (aM9 p.out);go_wp2;first
     |exact⟨⟨k+1,by omega,by go_num,R⟩,by simp[Ay];omega⟩
     |
      (
       go_roundw;case rel=>exact⟨k+1,by omega,by go_num,R⟩
       case measure=>simp[Ay];omega)
  ·have N:k=5:=by omega
   have P:=A3 (aGw (N▸H.out));have aVP:¬(k:Int)<5:=by omega
   clear H N hk hlt;go_wp2;go_loopw[8]λi wr=>∃k:Nat,k<=5/\i=IS Po k/\AP (Vy w.heap.size n (As b n c) w k 0 wr)(λi _=>5-(Ay i).toNat);case atStart=>exact⟨0,by omega,rfl,P⟩
   case round=>
    obtain⟨k,hk,rfl,H⟩:=hrel;by_cases hlt:k<5
    ·go_wp2;rw[show Bn ((k:Int)<5)=A0 from decide_eq_true (by omega)];go_loopw[9]λi d=>∃j:Nat,j<=3/\i=IS Po j/\AP (Vy w.heap.size n (As b n c) w k j d)(λi _=>3-(Ay i).toNat);case atStart=>exact⟨0,by omega,rfl,H⟩
     case round=>
      obtain⟨j,H1,rfl,p⟩:=hrel;by_cases u:j<3
      ·obtain⟨C,D,h2,h3,h4,M,K⟩:=p.out;have Q:=A3 D;have U:=A3 h2;have I:=A3 h3;have dk:=A3 h4;have P:=A3 M;have A:=A3 K;clear p D h2 h3 h4 M K;go_wp2_with fail;have ve:AP (wr.drew.heap[w.heap.size+1]?=Z (BE C 43 (0,0))):=Q;have S:AP (∃i,MR wr.drew w.heap.size (As b n c) n i):=P;have X:AP (AS w.heap.size w wr.drew):=A3 ⟨A.out.os,A.out.tape,A.out.output,A.out.size,A.out.block⟩;have DU:=@a06 w.heap.size n (As b n c) w wr;have pL:AP (∀(w1:A')(v:A1)(l:List (Nat×Nat)),O_ C (k:Int) l->KA w1 wr.drew.heap.size v l->(∃i,MR w1 w.heap.size (As b n c) n i)->Kept (λi=>i=w.heap.size) wr.drew w1->(∃a m c,v=As a m c)/\(∃a m c,w1.cell? ⟨w.heap.size+1,15+k*3+j,J⟩=Z (As a m c))/\w1.frozen? ⟨w.heap.size+1,15+k*3+j,J⟩=A5/\Vy w.heap.size n (As b n c) w k (j+1) (w1.setCell ⟨w.heap.size+1,15+k*3+j,J⟩ v)):=A3 λw1 v l s y z f=>a06 rfl hlt u Q.out U.out I.out dk.out A.out s y z ⟨f.os,f.tape,f.output,f.size,f.block⟩;clear DU;go_region_with(go_at_call 50;refine(a5c (w.heap.size+1) w.heap.size n (As b n c) (k:Int) C wr.drew hn U.out ve.out (by omega) S.out (q.out.later X.out)).mono ?_;rintro e w1⟨v,l,rfl,s,y,z,f⟩;obtain⟨⟨a,m,Eu,rfl⟩,⟨a0,VI,c0,hc⟩,AE,R⟩:=pL.out w1 v l s y z f;have R':=A3 R;clear R s y z f);go_wp2;first
       |exact⟨⟨j+1,by omega,by go_num,R'⟩,by simp[Ay];omega⟩
       |
        (
         go_roundw;case rel=>exact⟨j+1,by omega,by go_num,R'⟩
         case measure=>simp[Ay];omega)
      ·have F:j=3:=by omega
       have R:=A3 (aGv (F▸p.out));go_wp2;first
       |exact⟨⟨k+1,by omega,by go_num,R⟩,by simp[Ay];omega⟩
       |
        (
         go_roundw;case rel=>exact⟨k+1,by omega,by go_num,R⟩
         case measure=>simp[Ay];omega)
    ·have N:k=5:=by omega
     obtain⟨C,D,h2,h3,h4,M,K⟩:=(N▸H.out:Vy w.heap.size n (As b n c) w 5 0 wr);have pL:AP (∀(w1:A')(v:A1)(l:List (Nat×Nat)),O_ C (-1) l->KA w1 wr.heap.size v l->(∃i,MR w1 w.heap.size (As b n c) n i)->Kept (λi=>i=w.heap.size) wr w1->(∃a m c,v=As a m c)/\(∃a m c,w1.cell? ⟨w.heap.size+1,30,J⟩=Z (As a m c))/\w1.frozen? ⟨w.heap.size+1,30,J⟩=A5/\(∃cp,Oo (w1.setCell ⟨w.heap.size+1,30,J⟩ v) (w.heap.size+2) (w.heap.size+1) cp l)/\AS w.heap.size w (w1.setCell ⟨w.heap.size+1,30,J⟩ v)):=A3 λw1 v l s y z f=>aGu rfl D h2 h3 h4 K s y z f;have Q:=A3 D;have U:=A3 h2;have aAQ:=A3 M;have A:=A3 K;clear H D h2 h3 h4 M K N;go_wp2_with fail;refine(a5c (w.heap.size+1) w.heap.size n (As b n c) (-1) C _ hn U.out Q.out (by omega) aAQ.out (q.out.later A.out)).mono ?_;rintro e w1⟨v,l,rfl,s,y,z,f⟩;obtain⟨⟨a,m,Eu,rfl⟩,⟨a0,VI,c0,hc⟩,AE,⟨cp,Ai⟩,DC⟩:=pL.out w1 v l s y z f;have D2:=A3 Ai;have oz:=A3 DC;clear s y z f Ai DC;go_wp2;go_ret;exact⟨cp,l,rfl,D2.out,oz.out⟩
theorem aKc(n:Nat)(h:n<5):(L0 #[97,98,99,100,101]).extract n (n+1)=⟨#[Ub (97+n)]⟩:=by
 have:∀n:Fin 5,(L0 #[97,98,99,100,101]).extract n.val (n.val+1)=⟨#[Ub (97+n.val)]⟩:=by decide
 exact this ⟨n,h⟩
theorem mO(q:Nat)(h:q<5)(w:A'):AZ A4 21 #[IS Po (q:Int)] w λe w'=>e=hq (AI (V.mp q))/\w'=w:=by
 have s:Po.wrap ((q:Int)+1)=(q:Int)+1:=by rw[dM];omega
 have p:∀wx:A',(o8 9 (AI ⟨#[97,98,99,100,101]⟩) (Z (IS Po (q:Int))) (Z (IS Po ((q:Int)+1))) J).run A4 wx=aY6 (AI ⟨#[Ub (97+q)]⟩) wx:=by intro wx;have f:=a_H (P:=A4) wx 9 ⟨#[97,98,99,100,101]⟩ Po Po (q:Int) ((q:Int)+1) L2 (by omega) (by omega) (by show _<=(5:Int);omega);rw[show((q:Int)+1).toNat=q+1 from by omega,jC,aKc q h]at f;exact f
 have m:=I_ ⟨#[109,47]⟩ ⟨#[Ub (97+q)]⟩ (by show 2+1<=_;omega);have b:AP ((⟨#[109,47]⟩:ByteArray)++⟨#[Ub (97+q)]⟩=V.mp q):=A3 (a71 _ _);generalize Ub (97+q)=c at p m b;go_enter Tryz.func21,Tryz.ntmps21;go_wp2;go_ret;exact⟨XM b.out,rfl⟩
theorem jl(n:Nat)(h:n<10)(w:A'):AZ A4 16 #[IS Po (n:Int)] w λe w'=>e=hq (AI ⟨#[V.Jl n]⟩)/\∃q,w'=w.drewN q:=by refine(aEL 0 (by omega) (n:Int) w (by omega) (by simp;omega) (by omega)).mono ?_;rintro e w'⟨rfl,b⟩;refine⟨?_,b⟩;rw[jC];rfl
theorem mu(n:Nat)(h:n<30)(w:A'):AZ A4 22 #[IS Po (n:Int)] w λe w'=>e=hq (AI (V.Df n))/\∃q,w'=w.drewN q:=by
 obtain⟨a,p⟩:∃a,n/3=a:=⟨_,rfl⟩;obtain⟨b,s⟩:∃b,n%3=b:=⟨_,rfl⟩;have AH:(n:Int).tmod 3=(b:Int):=by rw[aBF (by omega)];omega
 have U:(n:Int).tdiv 3=(a:Int):=by rw[Int.tdiv_eq_ediv_of_nonneg (by omega)];omega
 have H:(n:Int)/3=(a:Int):=by omega
 have I:(n:Int)%3=(b:Int):=by omega
 have f:a<10:=by omega
 have K:wrap64 (a:Int)=(a:Int):=by unfold wrap64;omega
 have Q:=I_ ⟨#[118,49,46]⟩ ⟨#[V.Jl a]⟩ (by show 3+1<=_;omega);by_cases y:b=0
 ·have h2:=I_ (⟨#[118,49,46]⟩++⟨#[V.Jl a]⟩) ⟨#[46,48,45,114,99]⟩ (by rw[G2];show 3+1+5<=_;omega);have x:AP ((⟨#[118,49,46]⟩:ByteArray)++⟨#[V.Jl a]⟩++⟨#[46,48,45,114,99]⟩=V.Df n):=by refine A3 ?_;unfold V.Df V.Jy;rw[s,y,p];rfl
  subst y;clear p s h;go_enter Tryz.func22,Tryz.ntmps22;go_wp2_with fail;refine(jl a f _).mono ?_;rintro e N⟨rfl,z,rfl⟩;go_wp2;go_ret;exact⟨XM x.out,z,rfl⟩
 ·obtain⟨d,A⟩:∃d,b=d+1:=⟨b-1,by omega⟩;have h2:=I_ (⟨#[118,49,46]⟩++⟨#[V.Jl a]⟩) ⟨#[46]⟩ (by rw[G2];show 3+1+1<=_;omega);have h3:=I_ (⟨#[118,49,46]⟩++⟨#[V.Jl a]⟩++⟨#[46]⟩) ⟨#[V.Jl d]⟩ (by rw[G2,G2];show 3+1+1+1<=_;omega);have x:AP ((⟨#[118,49,46]⟩:ByteArray)++⟨#[V.Jl a]⟩++⟨#[46]⟩++⟨#[V.Jl d]⟩=V.Df n):=by refine A3 ?_;unfold V.Df V.Jy;rw[s,A,p];rfl
  have m:d<10:=by omega
  have D:((b:Int)==0)=A5:=by rw[beq_eq_false_iff_ne];omega
  have C:(b:Int)-1=(d:Int):=by omega
  clear p s h A y;go_enter Tryz.func22,Tryz.ntmps22;go_wp2_with fail;refine(jl a f _).mono ?_;rintro e N⟨rfl,z,rfl⟩;go_wp2_with fail;first|refine(jl d m _).mono ?_|(rw[C];refine(jl d m _).mono ?_)
  rintro e w2⟨rfl,M,rfl⟩;go_wp2;go_ret;exact⟨XM x.out,z+M,rfl⟩
def MO(w:A')(v:A1)(l:List (Nat×Nat)):Prop:=v=As J 0 0/\l=[]∨∃g c,v=As (Z ⟨g,0,J⟩) l.length c/\∀j(h:j<l.length),w.cell? ⟨g,j*2,J⟩=Z (IS Po (l[j].1:Int))/\w.cell? ⟨g,j*2+1,J⟩=Z (IS Po (l[j].2:Int))
theorem a3S(l:List (Nat×Nat)):∀j(h:j<l.length),(Gl l)[j*2]?=Z (IS Po (l[j].1:Int))/\(Gl l)[j*2+1]?=Z (IS Po (l[j].2:Int)):=by
 induction l with
 |nil=>intro j b;simp at b
 |cons x f m=>
  intro j b;have e:Gl (x::f)=[IS Po (x.1:Int),IS Po (x.2:Int)]++Gl f:=rfl;match j with
  |0=>exact⟨rfl,rfl⟩
  |j+1=>
   have:=m j (by simp at b;omega);rw[e];refine⟨?_,?_⟩;·rw[T4 (by simp;omega),e5,<-this.1];congr 1;simp;omega
   ·rw[T4 (by simp;omega),e5,<-this.2];congr 1;simp;omega
theorem tw{l:List (Nat×Nat)}(h:w.ownsRow B 45 2 v l.length (Gl l)):MO w v l:=by
 have hc:=λg=>h.cells (g:=g);rcases h.2 with⟨b,h2⟩|⟨m,c,s,b,_⟩;·exact AA ⟨b,List.length_eq_zero_iff.1 h2⟩
 ·refine AF ⟨m,c,b,λj p=>?_⟩;have h2:=hc m (by rw[b];rfl);have h3:=a3S l j p;have e:=h2 _ _ h3.1;have f:=h2 _ _ h3.2;rw[Gg]at e f;exact⟨e,f⟩
theorem MO.later{l:List (Nat×Nat)}(h:MO w v l)(b:AS w.heap.size w w'):MO w' v l:=by
 rcases h with h|⟨g,c,f,h2⟩;·exact AA h
 ·exact AF ⟨g,c,f,λj e=>⟨Aw b (h2 j e).1,Aw b (h2 j e).2⟩⟩
theorem qw{l:List (Nat×Nat)}(h:O_ C p l):V.eA l/\l.length<=5:=by
 refine⟨⟨λx hx=>⟨(h.1 x hx).1,by have:=(h.1 x hx).2.2.1;omega⟩,h.2⟩,?_⟩;have b:∀(l:List (Nat×Nat))(m:Nat),(∀x∈l,m<=x.1/\x.1<5)->l.Pairwise (λx y=>x.1<y.1)->l.length+m<=5∨l=[]:=by
  intro l;induction l with
  |nil=>intro m _ _;exact AF rfl
  |cons x z s=>
   intro m f hp;rw[List.pairwise_cons]at hp;have hx:=f x (N' ..);have:=s (x.1+1) (λy hy=>⟨hp.1 y hy,(f y (List.mem_cons_of_mem _ hy)).2⟩) hp.2;rcases this with h|h;·exact AA (by simp;omega)
   ·exact AA (by rw[h];simp;omega)
 rcases b l 0 (λx hx=>⟨JJ _,(h.1 x hx).1⟩) h.2 with e|e;·omega
 ·rw[e];simp
def Tu(x:Nat×Nat):List UInt8:=[114,101,113,117,105,114,101,32]++V.Hn x.1++[32]++V.Jy x.2++[10]
def OQ(l:List (Nat×Nat))(k:Nat):ByteArray:=⟨([109,111,100,117,108,101,32,114,111,111,116,10]++(l.take k).flatMap Tu).toArray⟩
theorem a3L(n:Nat):(V.Jy n).length<=9:=by unfold V.Jy;split<;>simp
theorem a57(x:Nat×Nat):(Tu x).length<=22:=by have:=a3L x.2;unfold Tu V.Hn;simp;omega
theorem qq{a:Type}(f:a->List UInt8)(M:Nat)(h:∀x,(f x).length<=M):∀l:List a,(l.flatMap f).length<=l.length*M|[]=>by simp|x::xs=>by have:=qq f M h xs;have:=h x;rw[List.flatMap_cons,HN,Jg,Nat.succ_mul];omega
theorem aNs(l:List (Nat×Nat))(k:Nat)(e:l.length<=5):(OQ l k).size<=122:=by
 have b:=qq Tu 22 a57 (l.take k);have h2:(l.take k).length<=5:=by rw[List.length_take];omega
 show([109,111,100,117,108,101,32,114,111,111,116,10]++(l.take k).flatMap Tu).toArray.size<=122;rw[Kd,HN];have h3:([109,111,100,117,108,101,32,114,111,111,116,10]:List UInt8).length=12:=rfl;omega
theorem aNt(l:List (Nat×Nat))(k:Nat)(h:k<l.length):OQ l k++⟨#[114,101,113,117,105,114,101,32]⟩++V.mp l[k].1++⟨#[32]⟩++V.Df l[k].2++⟨#[10]⟩=OQ l (k+1):=by apply V.bytes_inj;rw[Q7,Q7,Q7,Q7,Q7,V.PT,V.XA];unfold OQ;rw[UU h,jJ];simp[Tu]
theorem Tk(q:Nat):(V.mp q).size=3:=rfl
theorem ZL(n:Nat):(V.Df n).size<=9:=by show(V.Jy n).toArray.size<=9;rw[Kd];exact a3L n
theorem aNr(l:List (Nat×Nat)):OQ l l.length=⟨(V.MD (V.m_ l)).toArray⟩:=by unfold OQ;rw[On,V.aQA];rfl
theorem aMB(v:A1)(l:List (Nat×Nat))(w:A')(N:l.length<=5)(hn:∀x∈l,x.1<5/\x.2<30)(z:MO w v l):AZ A4 51 #[AI ⟨#[114,111,111,116]⟩,v] w λe w'=>e=hq (AI (OQ l l.length))/\∃q,w'=w.drewN q:=by
 have g1:=I_ ⟨#[109,111,100,117,108,101,32]⟩ ⟨#[114,111,111,116]⟩ (by show 7+4<=_;omega);have E:=I_ (⟨#[109,111,100,117,108,101,32]⟩++⟨#[114,111,111,116]⟩) ⟨#[10]⟩ (by rw[G2];show 7+4+1<=_;omega);have K:AP ((⟨#[109,111,100,117,108,101,32]⟩:ByteArray)++⟨#[114,111,111,116]⟩++⟨#[10]⟩=OQ l 0):=A3 rfl;have D:=A3 hn;have H:=A3 z;obtain⟨a,c,rfl⟩:∃a c,v=As a l.length c:=by
  rcases z with⟨h,y⟩|⟨g,c,h,_⟩;·exact⟨J,0,by rw[h,y];rfl⟩
  ·exact⟨_,_,h⟩
 clear z hn;go_enter Tryz.func51,Tryz.ntmps51;go_wp2;go_loopw[5,6]λs i wr=>∃k:Nat,k<=l.length/\i=IS Po k/\s=AI (OQ l k)/\∃q,wr=w.drewN q(λ_ i _=>l.length-(Ay i).toNat);case atStart=>exact⟨0,by omega,rfl,by rw[<-K.out],0,rfl⟩
 case round=>
  obtain⟨k,hk,rfl,rfl,C⟩:=hrel;have f:=A3 C;clear C;by_cases hlt:k<l.length
  ·rcases H.out with⟨h,y⟩|⟨g,c',h,hc⟩;·rw[y]at hlt;simp at hlt
   ·injection h with h1 _ h3;subst h1 h3;have c0:wr.cell? ⟨g,k*2,J⟩=Z (IS Po (l[k].1:Int)):=by obtain⟨q,e⟩:=f.out;rw[e];exact(hc k hlt).1
    have c1:wr.cell? ⟨g,k*2+1,J⟩=Z (IS Po (l[k].2:Int)):=by obtain⟨q,e⟩:=f.out;rw[e];exact(hc k hlt).2
    have EL:=A3 (D.out l[k] (EC hlt));have p:=A3 (aNt l k hlt);have U:=aNs l k N;generalize l[k]=x at c0 c1 EL p;obtain⟨b,m⟩:=x;simp only at c0 c1 EL p;have d:=Tk b;have r:=ZL m;have t1:(L0 #[114,101,113,117,105,114,101,32]).size=8:=rfl;have t2:(L0 #[32]).size=1:=rfl;have t3:(L0 #[10]).size=1:=rfl;have k1:=I_ (OQ l k) ⟨#[114,101,113,117,105,114,101,32]⟩ (by omega);have F:=I_ (OQ l k++⟨#[114,101,113,117,105,114,101,32]⟩) (V.mp b) (by rw[G2];omega);have P:=I_ (OQ l k++⟨#[114,101,113,117,105,114,101,32]⟩++V.mp b) ⟨#[32]⟩ (by rw[G2,G2];omega);have R:=I_ (OQ l k++⟨#[114,101,113,117,105,114,101,32]⟩++V.mp b++⟨#[32]⟩) (V.Df m) (by rw[G2,G2,G2];omega);have S:=I_ (OQ l k++⟨#[114,101,113,117,105,114,101,32]⟩++V.mp b++⟨#[32]⟩++V.Df m) ⟨#[10]⟩ (by rw[G2,G2,G2,G2];omega);clear U d r t1 t2 t3 hc;have Q:=mO b EL.out.1;have t:=mu m EL.out.2;go_wp2_with fail;go_quiet(first|(go_at_call 21;exact Si (Q _))|(go_at_call 22;exact hf (t _)));have A:∃u,wr.drewN nq=w.drewN u:=by obtain⟨q,e⟩:=f.out;exact⟨q+nq,by rw[e,World.drewN_drewN]⟩
    have I:=A3 A;clear A;go_wp2_with fail;go_roundw;case rel=>exact⟨k+1,by omega,by go_num,by rw[p.out],I.out⟩
    case measure=>simp[Ay];omega
  ·have M:k=l.length:=by omega
   subst M;go_wp2;go_ret;exact⟨rfl,f.out⟩
theorem aSG(B b:Nat)(C:Array A1)(l:List (Nat×Nat))(w:A')(h:Oo w B b C l):AZ A4 20 #[aY4 (Z ⟨b,0,J⟩)] w λe w'=>e=hq (AI ⟨(V.MD (V.m_ l)).toArray⟩)/\∃q,w'=w.drewN q:=by
 obtain⟨f,_,_,v,m,y,AQ⟩:=h;obtain⟨EH,z⟩:=qw y;have x:w.cell? ⟨b,30,J⟩=Z v:=by rw[Ad f];exact m
 have s:=A3 (tw AQ.1);obtain⟨a,n,c,rfl⟩:∃a n c,v=As a n c:=by
  rcases AQ.1.2 with⟨h,_⟩|⟨g,A,D,h,_⟩;·exact⟨_,_,_,h⟩
  ·exact⟨_,_,_,h⟩
 clear f m AQ;go_enter Tryz.func20,Tryz.ntmps20;go_wp2_with fail;refine(aMB _ l _ z EH.1 s.out).mono ?_;rintro e H⟨rfl,q,rfl⟩;have p:=A3 (aNr l);go_wp2;go_ret;exact⟨XM p.out,q,rfl⟩
end
end Go.Proofs.YtcfhleenecfghaaGreatDoor
