import Derived.Laws.IdiomRangeMap
import Derived.Laws.Rows
import Derived.Calls
import Derived.Laws.Sem
import GoSem.Extern.BytealgIndex
import GoSem.Extern.BytealgCount
import GoSem.Extern.BytealgIndexByte
import GoSem.Extern.BytealgCompare
import GoSem.Extern.BytealgMakeNoZero
import GoSem.Extern.AbiNoEscape
import Derived.Test.YtcfhleenecfghaaGreatDoorProg
import Derived.KernelRfl
import Derived.RowKit
import Derived.Conc.WgGenN3
import Derived.Conc.Own
import Derived.Conc.Fork
import Derived.Conc.Listed
import Derived.Conc.CrowdBase
import Derived.Conc.Beside
import Derived.Test.YtcfhleenecfghaaGreatDoorK0
set_option linter.all false
set_option maxHeartbeats 4000000
set_option maxRecDepth 100000
open Array renaming append_empty->V8,ext_getElem?->kZ,filter->Z2,foldlM_toList->k_,foldl_toList->aCl,forIn_toList->kg,getD_eq_getD_getElem?->Iv,getElem?_append_left->kh,getElem?_append_right->zl,getElem?_eq_getElem->EP,getElem?_mapIdx->fK,getElem?_modify->fL,getElem?_push_lt->H_,getElem?_setIfInBounds->HM,getElem?_setIfInBounds_ne->Gp,getElem?_toList->Oi,length_toList->Nq,mapM_eq_foldlM->ki,mem_of_getElem?->fN,range->qn,toList_append->zp,toList_extract->aCp,toList_filter->aCq,toList_map->aCr,toList_modify->zq
open Bind renaming bind->V9
open Bool renaming and_eq_true->G0,eq_iff_iff->VA,false->A9,false_eq_true->EJ,not_false->VB,not_true->Tn,true->A3
open Classical renaming byContradiction->bs,choose->Z5,choose_spec->To
open Decidable renaming decide->Bz
open Except renaming bind->VC,error->bx,ok->Hr,pure->VD
open Except.ok renaming injEq->bz
open ForIn renaming forIn->Wo
open ForInStep renaming yield->a'4
open Go renaming Addr->Ak,BinOp->JY,BoundsCode->kj,Event->C5,Field->ft,FloatKind->l',Frame->Ag,Func->Jy,GStep->r_,Goroutine->AR,Halt->Ww,IntKind->KJ,Item->Cb,Machine->Tt,MapEntry->G1,Mark->fz,Mode->ZP,Next->LH,Obj->Df,Oper->BR,Operand->C',PanicEntry->a08,Place->gF,Program->Ap,Question->sF,RuntimeError->a19,Sem->BU,Tape->O1,TypeDesc->lV,TypeId->Aj,TypeInfo->LJ,Unsupported->aFL,Value->A1,World->A0,asAddr->a1O,asBool->sR,asInt->ZV,asIntOf->gM,asNumber->lf,askRoom->cg,behindNumber->lg,binOp->KL,boundsPanic->XB,byteOf->lj,byteOfCell->sS,callDeferred->aFT,callFunc->Me,cellAtBytes->aFU,cellsIn->a1R,choose->Ty,convert->gN,elemOf->Tz,eqGuard->lk,execOp->Ab,exitTo->R6,fieldPlace->ll,findLabel->ln,follow->a1S,followBlind->aFV,globalAddr->a1T,goPanic->aFW,gotoIn->XC,isAgg->VS,load->ck,loadBytes->ZW,loadCells->a1X,loadCellsFrom->sU,loadVar->lo,mayBeOne->a1Y,method->a1_,movedNumber->lp,movedPointer->lq,newObj->a1a,newRow->lr,newVar->ls,noView->lu,numberAt->lv,part->lx,partAt->ly,plainCell->XD,program->cm,receiverAt->a1b,resolve->U',results->D_,runN->Ex,runtimePanic->SO,sameAddr->a1f,seen->Iz,seenCells->lz,sizeOf->Q0,step->gO,stepG->Bi,store->sW,storeCells->sX,storeVar->mA,stringish->a1h,stuck->U0,throw->sY,typeInfo->Q2,undef->A',underlying->Jc,unsupported->a1j,unwind->I5,variablesAt->gQ,viewAt->mB,yielded->I6,zeroValue->Q3
open Go.Addr renaming add->Qy
open Go.Addr.mk renaming injEq->aZj
open Go.Builtin renaming append->f_,append_->VF,cap_->a'6,clear_->kk,copy_->a'8,firstCells->qy,holdsCells->kl,lenOf->qz,len_->km,mayShare->r',min2->kn,min_->a'9,ssaWrapNilChk_->a'A,unsafeAdd_->ko,unsafeSliceData->r3,unsafeSliceData_->a'B,unsafeString->a'C,unsafeString_->c8,zeroCells->Nv
open Go.Call renaming operands->r4
open Go.CallKind renaming early->Ki,normal->GG,wrapped->a'E
open Go.Callee renaming builtin->Kj,value->N7
open Go.Conc renaming mem_ofEvents->Kl,mem_seen->cB,runT_solo_go->aDI,solo->Dr,stepT_solo->a'K
open Go.Conc.Lib renaming WgLib->aZm,WgLink->kt
open Go.Conv renaming bytesToString->a'W,seenAt->a'X,unsafePointer->a'Y
open Go.Deferred renaming ofValue->cE
open Go.Extern renaming find->cF,findNext->ZF
open Go.Extern.AbiNoEscape renaming same->kz
open Go.Extern.BytealgCompare renaming compare->rU
open Go.Extern.BytealgCount renaming count->rV
open Go.Extern.BytealgIndex renaming index->rW,maxLen->aZx
open Go.Extern.BytealgIndexByte renaming indexByte->rX
open Go.Extern.BytealgMakeNoZero renaming digits->a'Z,makeNoZero->rY
open Go.Extern.Bytes renaming asByte->a'_,bytesOf->a'a,loadBytes->a'b
open Go.Fn renaming func->Ek
open Go.Frame renaming enter->HO,finish->cG,oper?->a'c,raise->aDn
open Go.FrameMode renaming panicking->rZ,returning->MZ,run->Lw
open Go.GStep renaming after->Ot,ended->cH,go->Cw
open Go.GoStatus renaming running->DJ
open Go.Goroutine.mk renaming injEq->VI
open Go.Halt renaming unsupported->a'd
open Go.Instr renaming alloc->a'e,box->l1,build->l2,buildSlice->cI,checkKey->l3,entryStore->fu,extract->a'f,field->a'g,fieldAt->l4,fill->VJ,findAsking->a'h,findKey->ZH,findNow->l5,index->a'i,indexAt->ZI,keyThatStays->a'j,loadAt->l6,lookup->Ix,makeFunc->aDq,makeInterface->a'l,makeMap->cJ,makeSlice->fv,mapEntry->ZJ,mapUpdate->cK,next->a'm,panic->aDr,range->fw,sameBits->ZK,sameNow->a'n,slice->l7,sliceAt->a'o,sliceBound->l8,sliceBounds->a'p,storeAt->l9,sureAddr->fx,typeAssert->Pq
open Go.IntKind renaming i64->A8
open Go.Item renaming code->BS,inLoop->Wx,inRegion->B1
open Go.Loc renaming cell->Ie,mark->Ny,obj->Nz
open Go.Machine renaming gs->re,world->aZz
open Go.Made renaming infoAt->rf,reckon->rh,reckonStruct->ri
open Go.Mark renaming extern->a'v,noRoom->lF
open Go.MemAct renaming ofEvent->LG,touch?->cN
open Go.MemOp renaming ofEvents->Km
open Go.Mode renaming atomic->Ma,plain->VP
open Go.Next renaming enter->VQ,skip->cO,value->D6
open Go.Obj renaming cells->AF,mapIter->rj,stringIter->aE1
open Go.Op renaming addrCmp->lG,addrMod->lH,addrSub->lI,assign->SK,binOp->a'y,build->a'z,buildSlice->lJ,call->If,complexOp->aE4,entryStore->a0',eqGuardIn->lK,equal->SL,equalIn->Ov,fieldAddr->gB,floatArith->aE5,floatCmp->aE6,indexAddr->rk,insert->a01,intArith->rl,intBits->rm,intCmp->rn,intDiv->rp,makeFunc->aE7,makeInterface->aE8,makeMap->a02,makeSlice->lL,mapEntry->a03,mapUpdate->a04,maxDepth->gC,move->Mb,nilCheck->lM,operands->Dg,range->a05,shift->rq,store->gD,stringOp->cP,twoPlaces->lN,typeAssert->aE9,unary->lO
open Go.Op.Complex renaming arith->aE2,cmp->aE3
open Go.Operand renaming const->Iy,func->JE,tmp->An
open Go.Outcome renaming stuck->ru,unsupported->gE
open Go.Proofs.Tryz renaming f351->a0E,f407->a0F,f409->a0G,func351->cQ,func407->gG,func409->cR,prog->A6
open Go.Question renaming cut->a_G,forced->a_H,order->X9
open Go.Region renaming wanted->Gt
open Go.Result renaming halt->Tv,ok->Ac
open Go.Result.ok renaming injEq->lT
open Go.RuntimeError renaming nilDeref->aFF
open Go.Sem renaming bind->Dx,choose->a1A,freeze->sI,frozen->a1B,getObj->sJ,halt->lU,program->c_,pure->Jz,run->ca,runT->DQ,setObj->a1C,shape->sK,store->sL
open Go.Stepped renaming next->Ds
open Go.Stepped.next renaming inj->ZT,injEq->SN
open Go.Tables renaming info?->aFK
open Go.TypeDesc renaming array->a1H,int->R5,map->ZU,pointer->P',slice->lW,string->a1I,unsafePointer->a1J
open Go.Unsupported renaming initOrder->lX,noEntry->lY
open Go.Value renaming agg->A_,bool->Af,chan->Cl,func->FU,iface->EL,int->A7,map->Ah,nilFunc->lZ,nilIface->DS,ofBytes->aFN,pointer->Ad,slice->A4,string->J,tuple->Ay
open Go.World renaming cell?->FB,farLoad->sQ,farStore->lb,freeze->cd,frozen?->cf,noCell->a1M,seen->aFQ,setCell->LK,viewLoad->aFS,viewStore->a1N
open Go.stepG renaming apply->NA,exec->CE,oper->m'
open List renaming all_cons->aGi,cons_append->Kq,cons_ne_nil->aGn,extract_eq_take_drop->aGr,foldlM_cons->mY,foldlM_nil->aGt,forIn_cons->a2S,forIn_nil->a2T,getElem?_cons_succ->a2V,getElem?_cons_zero->m_,getElem?_eq_getElem->K1,getElem?_toArray->VY,map_cons->Gd,map_nil->Kt,map_toArray->M',mem_cons_of_mem->Jd,mem_cons_self->Je,range->Hf
open List.cons renaming inj->Q5
open List.mapM renaming loop->a_O
open MonadExceptOf renaming throw->tY
open Nat renaming add_zero->aHK,exists_eq_add_of_le->tZ,le_of_not_lt->mf,le_refl->Ae,le_trans->G3,lt_irrefl->t_,lt_of_lt_of_le->Ku,lt_or_ge->J2
open Option renaming bind_eq_bind->P3,bind_eq_some_iff->JI,bind_some->SZ,elim_none->tc,elim_some->aHU,map_some->LQ,none->Z,some->Y
open Option.some renaming inj->CH,injEq->Xa
open Or renaming inl->AD,inr->AJ
open Prod.mk renaming injEq->Q8
open Pure renaming pure->FX
open Std.Legacy renaming Range->a_R
open Std.Legacy.Range renaming forIn_eq_forIn_range'->aHb
namespace Go.Proofs.YtcfhleenecfghaaGreatDoor.Twin
variable{BZ w w' w1:A0}{k k' v v' x x' y y':A1}{g:AR}{fr fr':Ag}{t u:Aj}{WH:Aj->Option LJ}{Sg a a' at_ b':Ak}{P:Ap}{c c':zw}{es es1:Array C5}{s:BU A1}{b:Bool}{ρ ρ':C'->A1}{o o':Df}{fn:Jy}{C0:LH}{i:LJ}{l:List Ak}{AW:zx}{By bv:Type}
def Ci:Nat:=6
def veiled(t:Nat):Prop:=t=190∨t=5
structure AT where
 rel:Nat->zy
 one:∀b c c',rel b c->rel b c'->c=c'
 other:∀b b' c,rel b c->rel b' c->b=b'
 low:∀b c,rel b c->(b<Ci↔c<Ci)
variable{E n3:AT}
def AT.le(E s:AT):Prop:=∀b h,E.rel b h->s.rel b h
def AT.fZ(E:AT)(b b':Nat):Prop:=(∀c,¬E.rel b c)/\(∀c,¬E.rel c b')/\(b<Ci↔b'<Ci)
def AT.add(E:AT)(b b':Nat)(h:E.fZ b b'):AT where
 rel:=λx y=>E.rel x y∨x=b/\y=b'
 one:=by
  rintro x c z(s|⟨rfl,rfl⟩)(h2|⟨h3,rfl⟩);·exact E.one _ _ _ s h2
  ·subst h3;exact absurd s (h.1 _)
  ·exact absurd h2 (h.1 _)
  rfl
 other:=by
  rintro x H c(s|⟨rfl,rfl⟩)(h2|⟨rfl,h3⟩);·exact E.other _ _ _ s h2
  ·subst h3;exact absurd s (h.2.1 _)
  ·exact absurd h2 (h.2.1 _)
  rfl
 low:=by
  rintro x c(s|⟨rfl,rfl⟩);·exact E.low _ _ s
  exact h.2.2
def AT.le_refl(E:AT):E.le E:=λ_ _ h=>h
def AT.le_trans{d:AT}(h:E.le n3)(k:n3.le d):E.le d:=λb s x=>k b s (h b s x)
def AT.jb(E:AT)(b b':Nat)(h:E.fZ b b'):E.le (E.add b b' h):=λ_ _ h=>AD h
def AT.Sf(E:AT)(b b':Nat)(h:E.fZ b b'):(E.add b b' h).rel b b':=AJ ⟨rfl,rfl⟩
def Cf(E:AT)(a a':Ak):Prop:=E.rel a.block a'.block/\a'.off=a.off/\a'.spot=a.spot
def Cf.mono(h:Cf E a a')(b:E.le n3):Cf n3 a a':=⟨b _ _ h.1,h.2⟩
def Cf.add{E:AT}{a a':Ak}(h:Cf E a a')(n:Nat):Cf E (a.add n) (a'.add n):=by
 obtain⟨b,h2,h3⟩:=h;unfold Qy;split;·exact⟨b,h2,h3⟩
 exact⟨b,by simp[h2],rfl⟩
mutual inductive AN(F:zy)(E:AT):A1->A1->Prop|bool(b:Bool):AN F E (Af b) (Af b)|int(k:KJ)(n:Int):AN F E (A7 k n) (A7 k n)|string(s:zz):AN F E (J s) (J s)|HI:AN F E (Ad Z) (Ad Z)|ptr{a a':Ak}:Cf E a a'->AN F E (Ad (Y a)) (Ad (Y a'))|HL(l c:Nat):AN F E (A4 Z l c) (A4 Z l c)|slice{a a':Ak}(l c:Nat):Cf E a a'->AN F E (A4 (Y a) l c) (A4 (Y a') l c)|Rg:AN F E (Ah Z) (Ah Z)|map{r As:Nat}:E.rel r As->AN F E (Ah (Y r)) (Ah (Y As))|Xl:AN F E (Cl Z) (Cl Z)|chan{r As:Nat}:E.rel r As->AN F E (Cl (Y r)) (Cl (Y As))|func{f:Nat}{a a' b b':zw}:F f->Aq F E a.toList a'.toList->Aq F E b.toList b'.toList->AN F E (FU (Ek f) a b) (FU (Ek f) a' b')|nilFunc:AN F E lZ lZ|iface(t:Nat){v v':A1}:AN F E v v'->AN F E (EL t v) (EL t v')|nilIface:AN F E DS DS|agg{a a':zw}:Aq F E a.toList a'.toList->AN F E (A_ a) (A_ a')|tuple{a a':zw}:Aq F E a.toList a'.toList->AN F E (Ay a) (Ay a')inductive Aq(F:zy)(E:AT):List A1->List A1->Prop|nil:Aq F E [] []|cons{v v':A1}{l hH:List A1}:AN F E v v'->Aq F E l hH->Aq F E (v::l) (v'::hH)end
mutual theorem AN.mono{F:zy}{E n3:AT}(d9:E.le n3):∀{v v':A1},AN F E v v'->AN F n3 v v'|_,_,.bool b=>.bool b|_,_,.int k n=>.int k n|_,_,.string s=>.string s|_,_,.HI=>.HI|_,_,.ptr h=>.ptr (h.mono d9)|_,_,.HL l c=>.HL l c|_,_,.slice l c h=>.slice l c (h.mono d9)|_,_,.Rg=>.Rg|_,_,.map h=>.map (d9 _ _ h)|_,_,.Xl=>.Xl|_,_,.chan h=>.chan (d9 _ _ h)|_,_,.func h a b=>.func h (a.mono d9) (b.mono d9)|_,_,.nilFunc=>.nilFunc|_,_,.iface t h=>.iface t (h.mono d9)|_,_,.nilIface=>.nilIface|_,_,.agg h=>.agg (h.mono d9)|_,_,.tuple h=>.tuple (h.mono d9)theorem Aq.mono{F:zy}{E n3:AT}(d9:E.le n3):∀{l hH:List A1},Aq F E l hH->Aq F n3 l hH|_,_,.nil=>.nil|_,_,.cons h t=>.cons (h.mono d9) (t.mono d9)end
section
variable{F:zy}{E:AT}
def Aq.length:∀{l d:List A1},Aq F E l d->d.length=l.length|_,_,.nil=>rfl|_,_,.cons _ t=>congrArg (·+1) t.length
def Aq.get:∀{l d:List A1},Aq F E l d->∀(i:Nat){v:A1},l[i]?=Y v->∃b,d[i]?=Y b/\AN F E v b|_,_,.nil,i,_,h=>by simp at h|_,_,.cons h t,0,_,e=>by simp at e;subst e;exact⟨_,rfl,h⟩|_,_,.cons h t,i+1,_,e=>by simpa using t.get i (by simpa using e)
def Aq.of{l d:List A1}(b:d.length=l.length)(h:∀(i:Nat)(v v':A1),l[i]?=Y v->d[i]?=Y v'->AN F E v v'):Aq F E l d:=by
 induction l generalizing d with
 |nil=>
  cases d with
  |nil=>exact .nil
  |cons=>simp at b
 |cons v l y=>
  cases d with
  |nil=>simp at b
  |cons v' d=>exact .cons (h 0 v v' rfl rfl) (y (by simpa using b) λi x z e s=>h (i+1) x z (by simpa using e) (by simpa using s))
def Aq.append:∀{a a' b b':List A1},Aq F E a a'->Aq F E b b'->Aq F E (a++b) (a'++b')|_,_,_,_,.nil,k=>k|_,_,_,_,.cons h t,k=>.cons h (t.append k)
def Aq.drop:∀{l d:List A1}(n:Nat),Aq F E l d->Aq F E (l.drop n) (d.drop n)|_,_,0,h=>by simpa using h|_,_,n+1,.nil=>by simpa using .nil|_,_,n+1,.cons _ t=>by simpa using t.drop n
def Aq.take:∀{l d:List A1}(n:Nat),Aq F E l d->Aq F E (l.take n) (d.take n)|_,_,0,_=>by simpa using .nil|_,_,n+1,.nil=>by simpa using .nil|_,_,n+1,.cons h t=>by simpa using .cons h (t.take n)
end
def Nt(p q:Nat×Nat):Prop:=q.1=q.2∨p.1<=q.1/\q.2<=p.2/\p.1≠p.2
def Nt.refl(p:Nat×Nat):Nt p p:=by
 by_cases h:p.1=p.2;·exact AD h
 exact AJ ⟨Ae _,Ae _,h⟩
inductive E1(F:zy)(E:AT):List G1->List G1->Prop|nil:E1 F E [] []|cons{k k' v v':A1}{n:Nat}{l hH:List G1}:AN F E k k'->AN F E v v'->E1 F E l hH->E1 F E ({key:=k,val:=v,born:=n}::l) ({key:=k',val:=v',born:=n}::hH)
inductive Ge(F:zy)(E:AT):Df->Df->Prop|cells{c c':zw}(t:Nat){p q:Nat×Nat}:Aq F E c.toList c'.toList->Nt p q->Ge F E (AF c t p) (AF c' t q)|number{a a':Ak}(l:Bool):Cf E a a'->Ge F E (.number a l) (.number a' l)|map{es es':Array G1}(n:Nat):E1 F E es.toList es'.toList->Ge F E (.map es n) (.map es' n)|chan(cap:Nat){b b':zw}(cl:Bool)(s r:Nat)(tm:Bool):Aq F E b.toList b'.toList->Ge F E (.chan cap b cl s r tm) (.chan cap b' cl s r tm)|stringIter(s:zz)(p:Nat):Ge F E (aE1 s p) (aE1 s p)|jf(a:Nat)(s:Array Nat)(b:Nat):Ge F E (rj Z a s b) (rj Z a s b)|mapIter{m Bx:Nat}(a:Nat)(s:Array Nat)(b:Nat):E.rel m Bx->Ge F E (rj (Y m) a s b) (rj (Y Bx) a s b)|view{a a':Ak}(t:Nat):veiled t->Cf E a a'->Ge F E (.view a t) (.view a' t)
def E1.mono{F:zy}{E n3:AT}(b:E.le n3):∀{l d:List G1},E1 F E l d->E1 F n3 l d|_,_,.nil=>.nil|_,_,.cons h k t=>.cons (h.mono b) (k.mono b) (t.mono b)
def Ge.mono{F:zy}{E n3:AT}(y:E.le n3):∀{o o':Df},Ge F E o o'->Ge F n3 o o'|_,_,.cells t h z=>.cells t (h.mono y) z|_,_,.number l h=>.number l (h.mono y)|_,_,.map n h=>.map n (h.mono y)|_,_,.chan cap cl s r tm h=>.chan cap cl s r tm (h.mono y)|_,_,.stringIter s p=>.stringIter s p|_,_,.jf a s b=>.jf a s b|_,_,.mapIter a s b h=>.mapIter a s b (y _ _ h)|_,_,.view t v h=>.view t v (h.mono y)
inductive Zl(E:AT):fz->fz->Prop|extern(f:Nat):Zl E (a'v f) (a'v f)|noRoom:Zl E lF lF
def US:Ww->Prop|.panic _|.stuck _=>True|a'd u=>∀g,u≠lX g|_=>False
def BQ(P:Ap){bv:Type}(s:BU bv):Prop:=∀w b,∃h y es1,s.runT P w b=(Tv h y,es1)/\US h
def FE(P:Ap){bv:Type}(s:BU bv):Prop:=∀w b h y es1,s.runT P w b=(Tv h y,es1)->US h
def BQ.ne{s:BU bv}(h:BQ P s)(w:A0)(es:Array C5)(a:bv)(w1:A0)(es1:Array C5):s.runT P w es≠(Ac a w1,es1):=by obtain⟨x,y,z,e,_⟩:=h w es;rw[e];exact λh=>by cases h
def JC(s:BU bv)(f:bv->BU By):∀(w:A0)(es:Array C5),(s.bind f).runT P w es=match s.runT P w es with|(Ac a w1,es1)=>(f a).runT P w1 es1|(Tv h w1,es1)=>(Tv h w1,es1):=by
 induction s with
 |pure a=>intro w es;rfl
 |load m a k b=>
  intro w es;simp only[Dx,DQ];split;·exact b _ _ _
  split;·exact b _ _ _
  rfl
 |store m a v k b=>
  intro w es;cases v<;>simp only[Dx,DQ];all_goals
   split
   ·split;·rfl
    exact b _ _
   split;·exact b _ _
   rfl
 |new o k b=>intro w es;exact b _ _ _
 |shape r k b=>intro w es;exact b _ _ _
 |freeze a n k b=>intro w es;exact b _ _
 |frozen a k b=>intro w es;exact b _ _ _
 |getObj r k b=>
  intro w es;simp only[Dx,DQ];split;·rfl
  ·exact b _ _ _
  rfl
 |setObj r o k b=>
  intro w es;simp only[Dx,DQ];split;·rfl
  ·exact b _ _
  rfl
 |choose q k b=>
  intro w es;simp only[Dx,DQ];split;·exact b _ _ _
  exact b _ _ _
 |sys c k b=>intro w es;exact b _ _ _
 |program k b=>intro w es;exact b _ _ _
 |mark m k b=>intro w es;exact b _ _
 |halt h=>intro w es;rfl
def BQ.bind{P:Ap}{bv By:Type}{s:BU bv}{f:bv->BU By}(h:BQ P s):BQ P (s.bind f):=by intro w b;obtain⟨x,y,z,e,k⟩:=h w b;exact⟨x,y,z,by rw[JC,e],k⟩
def BQ.behind{s:BU bv}{f:bv->BU By}(b:FE P s)(h:∀a,BQ P (f a)):BQ P (s.bind f):=by
 intro w y;rw[JC];split;·exact h _ _ _
 rename_i e;exact⟨_,_,_,rfl,b _ _ _ _ _ e⟩
def BQ.halt(h:Ww)(b:US h:=by first|trivial|(intro g e;cases e)):BQ P (lU h:BU bv):=λ_ _=>⟨_,_,_,rfl,b⟩
def FE.bind{P:Ap}{bv By:Type}{s:BU bv}{f:bv->BU By}(hs:FE P s)(h:∀a,FE P (f a)):FE P (s.bind f):=by
 intro w b x y es1 e;rw[JC]at e;split at e;·exact h _ _ _ _ _ _ e
 rename_i e2;cases e;exact hs _ _ _ _ _ e2
def FE.pure(a:bv):FE P (Jz a):=λ_ _ _ _ _ e=>by cases e
def FE.program{k:Ap->BU bv}(h:FE P (k P)):FE P (c_ k):=λ_ _ _ _ _ e=>h _ _ _ _ _ e
def FE.dead{s:BU bv}(h:BQ P s):FE P s:=by intro w b x z es1 e;obtain⟨y,_,_,e2,k⟩:=h w b;rw[e2]at e;cases e;exact k
structure Dj where
 obj:zy
 FI:Prop
 own:Nat->List Nat
 Hx:Prop
def Wp(o o':Df):Prop:=∀c t p b h q,o=AF c t p->o'=AF b h q->q=p
def AT.Self(E:AT):Prop:=∀b h,E.rel b h->h=b
def Cf.self(z:E.Self)(h:Cf E a a'):a'=a:=by obtain⟨b,o,s⟩:=a;obtain⟨H,I,K⟩:=a';obtain⟨y,h2,h3⟩:=h;simp only at y h2 h3;rw[z _ _ y,h2,h3]
mutual theorem AN.same{F:zy}{E:AT}(d9:E.Self):∀{v v':A1},AN F E v v'->v'=v|_,_,.bool b=>rfl|_,_,.int k n=>rfl|_,_,.string s=>rfl|_,_,.HI=>rfl|_,_,.ptr h=>by rw[h.self d9]|_,_,.HL l c=>rfl|_,_,.slice l c h=>by rw[h.self d9]|_,_,.Rg=>rfl|_,_,.map h=>by rw[d9 _ _ h]|_,_,.Xl=>rfl|_,_,.chan h=>by rw[d9 _ _ h]|_,_,.func (a:=a) (a':=a') (b:=b) (b':=b') _ x y=>by have h1:a'=a:=Array.toList_inj.1 (x.same d9);have h2:b'=b:=Array.toList_inj.1 (y.same d9);rw[h1,h2]|_,_,.nilFunc=>rfl|_,_,.iface t h=>by rw[h.same d9]|_,_,.nilIface=>rfl|_,_,.agg (a:=a) (a':=a') h=>by have h1:a'=a:=Array.toList_inj.1 (h.same d9);rw[h1]|_,_,.tuple (a:=a) (a':=a') h=>by have h1:a'=a:=Array.toList_inj.1 (h.same d9);rw[h1]theorem Aq.same{F:zy}{E:AT}(d9:E.Self):∀{l hH:List A1},Aq F E l hH->hH=l|_,_,.nil=>rfl|_,_,.cons h t=>by rw[h.same d9,t.same d9]end
def E1.same{F:zy}{E:AT}(b:E.Self):∀{l d:List G1},E1 F E l d->d=l|_,_,.nil=>rfl|_,_,.cons h k t=>by rw[h.same b,k.same b,t.same b]
def Ge.same{F:zy}{E:AT}(y:E.Self){o o':Df}(h:Ge F E o o')(K:Wp o o'):o'=o:=by cases h with|cells t hv _=>rename_i c H p q z;have I:H=c:=Array.toList_inj.1 (hv.same y);rw[I,K _ _ _ _ _ _ rfl rfl]|number l h=>rw[h.self y]|map n h=>rename_i c H;have I:H=c:=Array.toList_inj.1 (h.same y);rw[I]|chan cap cl s r M h=>rename_i c H;have I:H=c:=Array.toList_inj.1 (h.same y);rw[I]|stringIter s p=>rfl|jf a s b=>rfl|mapIter a s b h=>rw[y _ _ h]|view t _ h=>rw[h.self y]
inductive AO(P:Ap)(F:zy)(so:Dj){bv:Type}(Q:AT->bv->bv->Prop):AT->BU bv->BU bv->Prop|pure{E:AT}{a a':bv}:Q E a a'->AO P F so Q E (Jz a) (Jz a')|load{E:AT}(m:ZP){a a':Ak}{k k':A1->BU bv}:Cf E a a'->(∀v v',AN F E v v'->AO P F so Q E (k v) (k' v'))->AO P F so Q E (.load m a k) (.load m a' k')|store{E:AT}(m:ZP){a a':Ak}{v v':A1}{k k':BU bv}:Cf E a a'->AN F E v v'->AO P F so Q E k k'->AO P F so Q E (sL m a v k) (sL m a' v' k')|new{E:AT}{o o':Df}{k k':Nat->BU bv}(AA:Ge F E o o')(hk:∀b b'(hb:E.fZ b b'),AO P F so Q (E.add b b' hb) (k b) (k' b'))(el:Wp o o':=by(intro _ _ _ _ _ _ e e';first|(cases e;cases e';rfl)|cases e)):AO P F so Q E (.new o k) (.new o' k')|shape{E:AT}{r As:Nat}{k k':Option (Aj×Nat)->BU bv}:E.rel r As->(∀s,AO P F so Q E (k s) (k' s))->AO P F so Q E (sK r k) (sK As k')|freeze{E:AT}{a a':Ak}(n:Nat){k k':BU bv}:so.FI->Cf E a a'->AO P F so Q E k k'->AO P F so Q E (sI a n k) (sI a' n k')|frozen{E:AT}{a a':Ak}{k k':Bool->BU bv}:so.Hx->Cf E a a'->(∀b:Bool,AO P F so Q E (k b) (k' b))->AO P F so Q E (a1B a k) (a1B a' k')|getObj{E:AT}{r As:Nat}{k k':Df->BU bv}:E.rel r As->(∀o o',Ge F E o o'->AO P F so Q E (k o) (k' o'))->AO P F so Q E (sJ r k) (sJ As k')|setObj{E:AT}{r As:Nat}{o o':Df}{k k':BU bv}:so.obj r->E.rel r As->(∀c t p,o≠AF c t p)->Ge F E o o'->AO P F so Q E k k'->AO P F so Q E (a1C r o k) (a1C As o' k')|choose{E:AT}(q:sF){k k':Nat->BU bv}:(∀n,AO P F so Q E (k n) (k' n))->AO P F so Q E (a1A q k) (a1A q k')|program{E:AT}{k k':Ap->BU bv}:AO P F so Q E (k P) (k' P)->AO P F so Q E (c_ k) (c_ k')|mark{E:AT}{m Bx:fz}{k k':BU bv}:Zl E m Bx->AO P F so Q E k k'->AO P F so Q E (.mark m k) (.mark Bx k')|dead{E:AT}{s:BU bv}(C9:BU bv):BQ P s->AO P F so Q E s C9
def AO.halt{P:Ap}{F:zy}{so:Dj}{bv:Type}{Q:AT->bv->bv->Prop}{E:AT}(h:Ww)(s:BU bv)(b:US h:=by first|trivial|(intro g e;cases e)):AO P F so Q E (lU h) s:=.dead s (BQ.halt h b)
def AO.bind{P:Ap}{F:zy}{so:Dj}{bv By:Type}{Q:AT->bv->bv->Prop}{R:AT->By->By->Prop}{E:AT}{s d:BU bv}{f f':bv->BU By}(h:AO P F so Q E s d)(H:∀I,E.le I->∀a K,Q I a K->AO P F so R I (f a) (f' K)):AO P F so R E (s.bind f) (d.bind f'):=by induction h with|pure q=>exact H _ (AT.le_refl _) _ _ q|load m a _ y=>exact .load m a λv v' hv=>y v v' hv H|store m a v _ y=>exact .store m a v (y H)|new o _ e y=>exact .new o (λb N M=>y b N M λI U=>H I (AT.le_trans (AT.jb _ _ _ M) U)) e|shape r _ y=>exact .shape r λs=>y s H|freeze n z a _ y=>exact .freeze n z a (y H)|frozen z a _ y=>exact .frozen z a λb=>y b H|getObj r _ y=>exact .getObj r λo o' AA=>y o o' AA H|setObj w r hc o _ y=>exact .setObj w r hc o (y H)|choose q _ y=>exact .choose q λn=>y n H|program _ y=>exact .program (y H)|mark m _ y=>exact .mark m (y H)|dead d h=>exact .dead _ h.bind
structure CC(F:zy)(so:Dj)(RO:zy)(E:AT)(w w':A0):Prop where
 heap:∀b b',E.rel b b'->∃o o',w.heap[b]?=Y o/\w'.heap[b']?=Y o'/\Ge F E o o'
 tape:∀i q,w'.tape (w'.drawn+i) q=w.tape (w.drawn+i) q
 kept:∀b,RO b->b<w.heap.size/\((∃c t p,w.heap[b]?=Y (AF c t p)/\∀x,x<c.size->p.1<=x/\x<p.2/\True)∨¬so.obj b/\∀c t p,w.heap[b]?≠Y (AF c t p))
 low:Ci<=w.heap.size/\Ci<=w'.heap.size
 even:so.Hx->∀b b',E.rel b b'->∀o o',w.heap[b]?=Y o->w'.heap[b']?=Y o'->Wp o o'
def cr(E:AT)(w w':A0):Prop:=E.Self/\w'.heap=w.heap
structure GR(Pr:zy)(E:AT)(w w':A0)(hW:AT)(w1 BZ:A0):Prop where
 le:E.le hW
 fresh:∀b b',hW.rel b b'->E.rel b b'∨w.heap.size<=b/\b<w1.heap.size/\w'.heap.size<=b'/\b'<BZ.heap.size
 size:w.heap.size<=w1.heap.size
 kJ:w'.heap.size<=BZ.heap.size
 os:BZ.os=w'.os
 output:BZ.output=w'.output
 tape:BZ.tape=w'.tape
 er:w1.tape=w.tape
 drawn:∃n,w1.drawn=w.drawn+n/\BZ.drawn=w'.drawn+n
 rest:∀b',b'<w'.heap.size->(∀b,E.rel b b'->Pr b)->BZ.heap[b']?=w'.heap[b']?
 YK:cr E w w'->cr hW w1 BZ
def GR.refl(Pr:zy)(E:AT)(w w':A0):GR Pr E w w' E w w':=⟨AT.le_refl _,λ_ _ h=>AD h,Ae _,Ae _,rfl,rfl,rfl,rfl,⟨0,rfl,rfl⟩,λ_ _ _=>rfl,id⟩
def GR.trans{Pr:zy}{E d e:AT}{w w' w1 BZ w2 f:A0}(h:GR Pr E w w' d w1 BZ)(k:GR Pr d w1 BZ e w2 f):GR Pr E w w' e w2 f:=by
 obtain⟨n,a,M⟩:=h.drawn;obtain⟨m,c,N⟩:=k.drawn;have Q:=h.size;have I:=h.kJ;have U:=k.size;have K:=k.kJ;refine⟨AT.le_trans h.le k.le,λb s x=>?_,by omega,by omega,k.os.trans h.os,k.output.trans h.output,k.tape.trans h.tape,k.er.trans h.er,⟨n+m,by omega,by omega⟩,λs H hn=>?_,λi=>k.YK (h.YK i)⟩
 ·rcases k.fresh b s x with y|⟨AM,q,D,A⟩
  ·rcases h.fresh b s y with z|⟨C,L,j,R⟩;·exact AD z
   exact AJ ⟨C,by omega,j,by omega⟩
  exact AJ ⟨by omega,q,by omega,A⟩
 rw[k.rest s (by omega) λb x=>?_,h.rest s H hn];rcases h.fresh b s x with z|⟨_,_,j,_⟩;·exact hn b z
 omega
inductive Wl(RO:zy)(E:AT):C5->C5->Prop|cell{a a':Ak}(w s:Bool):Cf E a a'->(w=A3->¬RO a.block)->Wl RO E ⟨Ie a,w,s⟩ ⟨Ie a',w,s⟩|obj{r As:Nat}(w s:Bool):E.rel r As->(w=A3->¬RO r)->Wl RO E ⟨Nz r,w,s⟩ ⟨Nz As,w,s⟩|mark{m Bx:fz}:Zl E m Bx->Wl RO E ⟨Ny m,A9,A3⟩ ⟨Ny Bx,A9,A3⟩
inductive KE(RO:zy)(E:AT):List C5->List C5->Prop|nil:KE RO E [] []|snoc{l hH:List C5}{e e':C5}:KE RO E l hH->Wl RO E e e'->KE RO E (l++[e]) (hH++[e'])
def Zl.mono:∀{m d:fz},Zl E m d->Zl n3 m d|_,_,.extern f=>.extern f|_,_,.noRoom=>.noRoom
def Wl.mono{RO:zy}{E n3:AT}(b:E.le n3):∀{e e':C5},Wl RO E e e'->Wl RO n3 e e'|_,_,.cell w s h r=>.cell w s (h.mono b) r|_,_,.obj w s h r=>.obj w s (b _ _ h) r|_,_,.mark h=>.mark h.mono
def KE.mono{RO:zy}{E n3:AT}(b:E.le n3):∀{l d:List C5},KE RO E l d->KE RO n3 l d|_,_,.nil=>.nil|_,_,.snoc t h=>.snoc (t.mono b) (h.mono b)
section
variable{P:Ap}{F:zy}{so:Dj}{RO:zy}
def CC.cell{E:AT}{w w':A0}{a a':Ak}{v:A1}(h:CC F so RO E w w')(AB:Cf E a a')(hc:w.cell? a=Y v):∃b,w'.cell? a'=Y b/\AN F E v b:=by
 obtain⟨o,I,e,s,H⟩:=h.heap _ _ AB.1;unfold FB at hc⊢;rw[e]at hc;rw[s];cases H with
 |cells t hv z=>
  simp only at hc⊢;rw[AB.2.2,AB.2.1];split at hc;·cases hc
  rename_i hs;obtain⟨b,x,y⟩:=hv.get a.off (by simpa using hc);exact⟨b,by rw[if_neg hs];simpa using x,y⟩
 |_=>cases hc
def CC.frozen{E:AT}{w w':A0}{a a':Ak}(h:CC F so RO E w w')(AB:Cf E a a')(b:w'.frozen? a'=A3):w.frozen? a=A3:=by
 obtain⟨o,H,e,s,y⟩:=h.heap _ _ AB.1;unfold cf at b⊢;rw[s]at b;rw[e];cases y with
 |cells t hv z=>
  rename_i p q;simp only[AB.2.1,G0,decide_eq_true_eq]at b⊢;rcases z with z|z;·omega
  omega
 |_=>cases b
def CC.aLV(h:CC F so RO E w w')(H:so.Hx)(AB:Cf E a a'):w'.frozen? a'=w.frozen? a:=by obtain⟨o,I,e,b,s⟩:=h.heap _ _ AB.1;have y:=h.even H _ _ AB.1 o I e b;unfold cf;rw[e,b];cases s with|cells t hv z=>rw[y _ _ _ _ _ _ rfl rfl,AB.2.1]|_=>rfl
def CC.shape{E:AT}{w w':A0}{r As:Nat}(h:CC F so RO E w w')(y:E.rel r As):w'.shape? As=w.shape? r:=by obtain⟨o,H,e,b,s⟩:=h.heap _ _ y;unfold World.shape?;rw[e,b];cases s with|cells t hv z=>have:=hv.length;simp only[Nq]at this;simp[this]|_=>rfl
def CC.draw(h:CC F so RO E w w'):CC F so RO E {w with drawn:=w.drawn+1} {w' with drawn:=w'.drawn+1}:=⟨h.heap,λi q=>by have:=h.tape (i+1) q;rw[show w'.drawn+(i+1)=w'.drawn+1+i by omega,show w.drawn+(i+1)=w.drawn+1+i by omega]at this;exact this,h.kept,h.low,h.even⟩
def uu(a:Array bv)(x:bv):(a.push x)[a.size]?=Y x:=by simp
def CC.lt(h:CC F so RO E w w'){b b':Nat}(x:E.rel b b'):b<w.heap.size/\b'<w'.heap.size:=by obtain⟨o,y,e,s,_⟩:=h.heap b b' x;exact⟨(Array.getElem?_eq_some_iff.1 e).1,(Array.getElem?_eq_some_iff.1 s).1⟩
def CC.fresh(h:CC F so RO E w w'):E.fZ w.heap.size w'.heap.size:=⟨λ_ x=>t_ _ (h.lt x).1,λ_ x=>t_ _ (h.lt x).2,by have:=h.low;omega⟩
def CC.push{E:AT}{w w':A0}{o o':Df}(h:CC F so RO E w w')(K:Ge F E o o')(M:Wp o o'):CC F so RO (E.add w.heap.size w'.heap.size h.fresh) {w with heap:=w.heap.push o} {w' with heap:=w'.heap.push o'}:=by
 refine⟨λb s x=>?_,h.tape,λb I=>?_,by have:=h.low;simp only[Array.size_push];omega,λN b s x p z e y=>?_⟩
 ·rcases x with x|⟨rfl,rfl⟩
  ·obtain⟨Q,U,e,y,k⟩:=h.heap b s x;have:=h.lt x;refine⟨Q,U,?_,?_,k.mono (AT.jb _ _ _ _)⟩;·show(w.heap.push o)[b]?=_;rw[H_ this.1];rw[<-e,EP this.1]
   show(w'.heap.push o')[s]?=_;rw[H_ this.2];rw[<-y,EP this.2]
  exact⟨o,o',uu _ _,uu _ _,K.mono (AT.jb _ _ _ _)⟩
 ·obtain⟨H,k⟩:=h.kept b I;have e:({w with heap:=w.heap.push o}:A0).heap[b]?=w.heap[b]?:=by show(w.heap.push o)[b]?=_;rw[H_ H,EP H]
  rw[e];exact⟨by simp;omega,k⟩
 rcases x with x|⟨rfl,rfl⟩;·have l:=h.lt x;have e1:(w.heap.push o)[b]?=Y p:=e;have e2:(w'.heap.push o')[s]?=Y z:=y;rw[H_ l.1]at e1;rw[H_ l.2]at e2;exact h.even N b s x p z (by rw[EP l.1];exact e1) (by rw[EP l.2];exact e2)
 have e1:(w.heap.push o)[w.heap.size]?=Y p:=e;have e2:(w'.heap.push o')[w'.heap.size]?=Y z:=y;rw[uu]at e1 e2;obtain rfl:=CH e1;obtain rfl:=CH e2;exact M
end
section
variable{P:Ap}{F:zy}{so:Dj}{RO:zy}
def aLI{a a':Array Df}{r n:Nat}(h:n<=a.size)(y:a'[r]?=Y o)(s:∀b,b≠r->a'[b]?=a[b]?):n<=a'.size:=by
 cases n with
 |zero=>exact Nat.zero_le _
 |succ n=>
  by_cases e:n=r;·subst e;exact(Array.getElem?_eq_some_iff.1 y).1
  have:=s n e;rw[EP (by omega:n<a.size)]at this;exact(Array.getElem?_eq_some_iff.1 this).1
def CC.put{r As:Nat}(h:CC F so RO E w w')(I:E.rel r As)(AA:Ge F E o o')(f:w1.heap.size=w.heap.size)(U:w1.heap[r]?=Y o)(N:∀b,b≠r->w1.heap[b]?=w.heap[b]?)(t1:w1.tape=w.tape)(d1:w1.drawn=w.drawn)(d:BZ.heap[As]?=Y o')(Q:∀b,b≠As->BZ.heap[b]?=w'.heap[b]?)(t2:BZ.tape=w'.tape)(d2:BZ.drawn=w'.drawn)(hk:RO r->(∃c t p,o=AF c t p/\∀x,x<c.size->p.1<=x/\x<p.2/\True)∨¬so.obj r/\∀c t p,o≠AF c t p)(j:so.Hx->Wp o o'):CC F so RO E w1 BZ:=by
 refine⟨λb H x=>?_,λi q=>by rw[t1,d1,t2,d2];exact h.tape i q,λb hb=>?_,⟨by rw[f];exact h.low.1,aLI h.low.2 d Q⟩,λAK b H x p DL e s=>?_⟩
 ·by_cases e:b=r;·subst e;obtain rfl:=E.one _ _ _ I x;exact⟨o,o',U,d,AA⟩
  have s:H≠As:=λs=>e (E.other _ _ _ x (s▸I));obtain⟨p,DL,y,y',z⟩:=h.heap b H x;exact⟨p,DL,by rw[N b e];exact y,by rw[Q H s];exact y',z⟩
 ·obtain⟨AE,k⟩:=h.kept b hb;refine⟨by rw[f];exact AE,?_⟩;by_cases e:b=r
  ·subst e;rw[U];rcases hk hb with⟨c,t,p,rfl,y⟩|⟨y,z⟩;·exact AD ⟨c,t,p,rfl,y⟩
   exact AJ ⟨y,λc t p x=>z c t p (CH x)⟩
  rw[N b e];exact k
 by_cases K:b=r;·subst K;obtain rfl:=E.one _ _ _ I x;rw[U]at e;rw[d]at s;obtain rfl:=CH e;obtain rfl:=CH s;exact j AK
 have M:H≠As:=λy=>K (E.other _ _ _ x (y▸I));rw[N b K]at e;rw[Q H M]at s;exact h.even AK b H x p DL e s
def GR.put{Pr:zy}{As:Nat}(s:∃b,E.rel b As/\¬Pr b)(U:w1.heap.size=w.heap.size)(I:w1.tape=w.tape)(N:w1.drawn=w.drawn)(d:BZ.heap.size=w'.heap.size)(H:∀b,b≠As->BZ.heap[b]?=w'.heap[b]?)(K:BZ.tape=w'.tape)(Q:BZ.drawn=w'.drawn)(o2:BZ.os=w'.os)(M:BZ.output=w'.output)(hi:cr E w w'->BZ.heap=w1.heap):GR Pr E w w' E w1 BZ:=⟨AT.le_refl _,λ_ _ x=>AD x,by omega,by omega,o2,M,K,I,⟨0,by omega,by omega⟩,λh _ hn=>H h λe=>by obtain⟨b,y,z⟩:=s;exact z (hn b (e▸y)),λi=>⟨i.1,hi i⟩⟩
def Aq.set{E:AT}{l d:List A1}{v v':A1}(h:Aq F E l d)(hv:AN F E v v')(i:Nat):Aq F E (l.set i v) (d.set i v'):=by
 refine Aq.of (by simp[h.length]) λj x H e b=>?_;rw[List.getElem?_set]at e b;have z:=h.length;split at e
 ·rename_i s;split at e;·rw[if_pos s,if_pos (by omega)]at b;obtain rfl:=CH e;obtain rfl:=CH b;exact hv
  cases e
 rename_i s;rw[if_neg s]at b;obtain⟨y,f,m⟩:=h.get j e;rw[f]at b;obtain rfl:=CH b;exact m
def WO(a:Array bv)(i:Nat)(f:bv->bv){x:bv}(h:a[i]?=Y x):(a.modify i f)[i]?=Y (f x):=by rw[fL,if_pos rfl,h];rfl
def Nb(a:Array bv)(i:Nat)(f:bv->bv){j:Nat}(h:j≠i):(a.modify i f)[j]?=a[j]?:=by rw[fL,if_neg λe=>h e.symm]
def Wp.cells{d f:zw}{j m:Aj}{p q:Nat×Nat}(h:Wp (AF c t p) (AF c' j q)):Wp (AF d u p) (AF f m q):=by intro _ _ _ _ _ _ e b;cases e;cases b;exact h _ _ _ _ _ _ rfl rfl
def CC.set{E:AT}{w w':A0}{a a':Ak}{v v' u:A1}(h:CC F so RO E w w')(AB:Cf E a a')(hv:AN F E v v')(hc:w.cell? a=Y u)(H:¬RO a.block):CC F so RO E (w.setCell a v) (w'.setCell a' v')/\GR RO E w w' E (w.setCell a v) (w'.setCell a' v'):=by
 obtain⟨o,o',e,y,Q⟩:=h.heap _ _ AB.1;have Y1:=hc;unfold FB at hc;rw[e]at hc;cases Q with
 |cells t N z=>
  rename_i c K p q;simp only at hc;have I:a.spot.isSome=A9:=by
   split at hc;·cases hc
   simpa using‹¬a.spot.isSome=A3›
  have U:a'.spot.isSome=A9:=by rw[AB.2.2];exact I
  refine⟨h.put AB.1 (o:=AF (c.setIfInBounds a.off v) t p) (o':=AF (K.setIfInBounds a'.off v') t q) (.cells t ?_ z) ?_ ?_ ?_ rfl rfl ?_ ?_ rfl rfl (λx=>absurd x H) λM=>h.even M _ _ AB.1 _ _ e y|>.cells,GR.put ⟨_,AB.1,H⟩ ?_ rfl rfl ?_ ?_ rfl rfl rfl rfl λi=>by unfold LK;rw[AB.self i.1,hv.same i.1,i.2]⟩;·rw[AB.2.1];simpa using N.set hv a.off
  ·simp[LK]
  ·simp only[LK];rw[WO _ _ _ e];simp[I]
  ·intro b s;simp only[LK];exact Nb _ _ _ s
  ·simp only[LK];rw[WO _ _ _ y];simp[U]
  ·intro b s;simp only[LK];exact Nb _ _ _ s
  ·simp[LK]
  ·simp[LK]
  intro b s;simp only[LK];exact Nb _ _ _ s
 |_=>cases hc
end
section
variable{P:Ap}{F:zy}{so:Dj}{RO:zy}
def UN(p:Nat×Nat)(o n:Nat):Nat×Nat:=if p.1==p.2 then(o,o+n)else(min p.1 o,max p.2 (o+n))
def Nt.UN{p q:Nat×Nat}(h:Nt p q)(o n:Nat)(hn:n≠0):Nt (UN p o n) (UN q o n):=by
 unfold Twin.UN;rcases h with h|⟨b,h2,h3⟩
 ·rw[if_pos (by simpa using h:(q.1==q.2)=A3)];right;split;·exact⟨Ae _,Ae _,by simp;omega⟩
  simp only;refine⟨by omega,by omega,by omega⟩
 rw[if_neg (by simpa using h3:¬(p.1==p.2)=A3)];right;split;·simp only;refine⟨by omega,by omega,by omega⟩
 simp only;refine⟨by omega,by omega,by omega⟩
def Ge.kind(h:Ge F E o o'):(∃c b t p q,o=AF c t p/\o'=AF b t q/\Aq F E c.toList b.toList/\Nt p q)∨(∀c t p,o≠AF c t p)/\∀c t p,o'≠AF c t p:=by cases h with|cells t s z=>exact AD ⟨_,_,_,_,_,rfl,rfl,s,z⟩|_=>right;refine⟨λc t p x=>?_,λc t p x=>?_⟩<;>cases x
def Ge.isChan{E:AT}{o o':Df}(h:Ge F E o o'):o'.isChan=o.isChan:=by cases h<;>rfl
def CC.freeze{E:AT}{w w':A0}{a a':Ak}{Pr:zy}(h:CC F so RO E w w')(AB:Cf E a a')(n:Nat)(N:¬Pr a.block):CC F so RO E (w.freeze a n) (w'.freeze a' n)/\GR Pr E w w' E (w.freeze a n) (w'.freeze a' n):=by
 unfold cd;by_cases hn:n=0;·rw[if_pos hn,if_pos hn];exact⟨h,GR.refl _ _ _ _⟩
 rw[if_neg hn,if_neg hn];obtain⟨o,o',e,H,M⟩:=h.heap _ _ AB.1;rcases M.kind with⟨c,U,t,p,q,rfl,rfl,AE,z⟩|⟨x,x'⟩
 ·skip;refine⟨h.put AB.1 (o:=AF c t (UN p a.off n)) (o':=AF U t (UN q a.off n)) (.cells t AE (z.UN _ _ hn)) (by simp) ?_ (λb s=>Nb _ _ _ s) rfl rfl ?_ (λb s=>Nb _ _ _ s) rfl rfl ?_ ?_,GR.put ⟨_,AB.1,N⟩ (by simp) rfl rfl (by simp) (λb s=>Nb _ _ _ s) rfl rfl rfl rfl λi=>by simp only[AB.self i.1,i.2]⟩;·show(w.heap.modify a.block _)[a.block]?=_;rw[WO _ _ _ e];rfl
  ·show(w'.heap.modify a'.block _)[a'.block]?=_;rw[WO _ _ _ H,AB.2.1];rfl
  ·intro K;left;refine⟨c,t,_,rfl,λx hx=>?_⟩;obtain⟨_,k⟩:=h.kept _ K;rcases k with⟨c2,Q,f,e2,y⟩|⟨_,y⟩
   ·rw[e]at e2;injection e2 with e2;injection e2 with AM j m;subst AM j m;have:=y x hx;suffices hs:(UN p a.off n).1<=x/\x<(UN p a.off n).2 from⟨hs.1,hs.2,this.2.2⟩;unfold UN;split
    ·rename_i I;have:p.1=p.2:=by simpa using I
     omega
    simp only;omega
   exact absurd e (y c t p)
  intro AK c1 t1 A c2 Q D d C;have I:=h.even AK _ _ AB.1 _ _ e H;cases d;cases C;rw[I _ _ _ _ _ _ rfl rfl]
 refine⟨h.put AB.1 M (by simp) ?_ (λb s=>Nb _ _ _ s) rfl rfl ?_ (λb s=>Nb _ _ _ s) rfl rfl ?_ ?_,GR.put ⟨_,AB.1,N⟩ (by simp) rfl rfl (by simp) (λb s=>Nb _ _ _ s) rfl rfl rfl rfl λi=>by simp only[AB.self i.1,i.2]⟩;·show(w.heap.modify a.block _)[a.block]?=_;rw[WO _ _ _ e];cases o<;>first|rfl|exact absurd rfl (x _ _ _)
 ·show(w'.heap.modify a'.block _)[a'.block]?=_;rw[WO _ _ _ H];cases o'<;>first|rfl|exact absurd rfl (x' _ _ _)
 ·intro K;obtain⟨_,k⟩:=h.kept _ K;rcases k with⟨c2,Q,f,e2,y⟩|⟨y,_⟩;·rw[e]at e2;exact absurd (CH e2) (x _ _ _)
  exact AJ ⟨y,x⟩
 intro _ c1 t1 A _ _ _ d _;exact absurd d (x _ _ _)
def CC.setObj{r As:Nat}{old:Df}(h:CC F so RO E w w')(hs:so.obj r)(H:E.rel r As)(hn:∀c t p,o≠AF c t p)(K:Ge F E o o')(e:w.heap[r]?=Y old)(M:∀c t p,old≠AF c t p):CC F so RO E {w with heap:=w.heap.setIfInBounds r o} {w' with heap:=w'.heap.setIfInBounds As o'}/\GR RO E w w' E {w with heap:=w.heap.setIfInBounds r o} {w' with heap:=w'.heap.setIfInBounds As o'}/\¬RO r/\∃N,w'.heap[As]?=Y N/\∀c t p,N≠AF c t p:=by
 obtain⟨p,DL,y,Q,z⟩:=h.heap r As H;rw[e]at y;obtain rfl:=CH y;have I:¬RO r:=λx=>by
  obtain⟨_,k⟩:=h.kept _ x;rcases k with⟨c2,t2,f,e2,_⟩|⟨q,_⟩;·rw[e]at e2;exact M _ _ _ (CH e2)
  exact q hs
 have l:=(Array.getElem?_eq_some_iff.1 e).1;have U:=(Array.getElem?_eq_some_iff.1 Q).1;refine⟨h.put H K (by simp) ?_ ?_ rfl rfl ?_ ?_ rfl rfl (λx=>absurd x I) λ_ c t p _ _ _ e _=>absurd e (hn c t p),GR.put ⟨_,H,I⟩ (by simp) rfl rfl (by simp) ?_ rfl rfl rfl rfl λi=>by simp only[i.1 _ _ H,i.2,K.same i.1 λc t p _ _ _ e _=>absurd e (hn c t p)],I,DL,Q,?_⟩;·show(w.heap.setIfInBounds r o)[r]?=_;rw[HM,if_pos rfl,if_pos l]
 ·intro b s;show(w.heap.setIfInBounds r o)[b]?=_;rw[HM,if_neg λx=>s x.symm]
 ·show(w'.heap.setIfInBounds As o')[As]?=_;rw[HM,if_pos rfl,if_pos U]
 ·intro b s;show(w'.heap.setIfInBounds As o')[b]?=_;rw[HM,if_neg λx=>s x.symm]
 ·intro b s;show(w'.heap.setIfInBounds As o')[b]?=_;rw[HM,if_neg λx=>s x.symm]
 intro c t q x;rcases z.kind with⟨c1,c2,t1,j,m,AM,_⟩|⟨_,d⟩;·exact M _ _ _ AM
 exact d _ _ _ x
end
section
variable{P:Ap}{F:zy}{so:Dj}{RO:zy}{E:AT}
def a3g(h:AN F E v v')(b:v.bytes?=Y AW):v'=v:=by cases h<;>first|rfl|cases b
def aA6{u:A1}(h:AN F E v v')(s:v.ofBytes AW=Y u):v'=v/\AN F E u u:=by
 cases h with
 |bool b=>
  refine⟨rfl,?_⟩;simp only[aFN]at s;split at s;·cases s;exact .bool _
  ·cases s;exact .bool _
  cases s
 |int k n=>
  refine⟨rfl,?_⟩;simp only[aFN]at s;split at s;·cases s;exact .int _ _
  cases s
 |_=>cases s
def aBc(p:Ap){c c':zw}(h:Aq F E c.toList c'.toList)(e:Aj):∀(f x y:Nat)(l:List (Nat×Nat×zx)),lz p c e f x y=Hr l->lz p c' e f x y=Hr l
 |0,_,_,_,AE=>by cases AE
 |f+1,x,y,l,AE=>by
  unfold lz at AE⊢;split at AE;·rename_i hx;rw[if_pos hx];exact AE
  rename_i hx;rw[if_neg hx];dsimp only at AE⊢;split at AE;·cases AE
  rename_i M;rw[if_neg M];cases hc:(cellHolding p p.depth e (x%p.bytesOf e)).map λ(i,s)=>(x/p.bytesOf e*p.cellsOf e+i,x/p.bytesOf e*p.bytesOf e+s)with
  |none=>rw[hc]at AE;cases AE
  |some q=>
   obtain⟨i,s⟩:=q;rw[hc]at AE;simp only at AE⊢;cases hv:c[i]? with
   |none=>rw[hv]at AE;cases AE
   |some v=>
    rw[hv]at AE;obtain⟨N,e1,e2⟩:=h.get i (by simpa using hv);have K:c'[i]?=Y N:=by simpa using e1
    rw[K];simp only at AE⊢;cases z:v.bytes? with|none=>rw[z]at AE;cases AE|some H=>rw[a3g e2 z,z];rw[z]at AE;cases H with|nil=>cases AE|cons b H=>simp only at AE⊢;cases I:lz p c e f (s+(b::H).length) y with|error m=>rw[I]at AE;cases AE|ok r=>rw[aBc p h e f _ _ r I];rw[I]at AE;exact AE
def aBd{p:Ap}{k k':Ak}{e:Aj}{FI:Nat×Nat}{first:Nat}{d:A1}{cells:List (Nat×Nat×zx)}(Cy:Cf E at_ Sg)(hk:k'.off=k.off/\k'.spot=k.spot)(R:∃o o',w.heap[at_.block]?=Y o/\w'.heap[Sg.block]?=Y o'/\Ge F E o o')(h:w.seen p at_ u k b=Hr (c,e,FI,first,d,cells)):∃Q U,w.heap[at_.block]?=Y (AF c e FI)/\w'.heap[Sg.block]?=Y (AF Q e U)/\Aq F E c.toList Q.toList/\Nt FI U/\XD p p.depth u k.off=Y d/\w'.seen p Sg u k' b=Hr (Q,e,U,first,d,cells):=by
 obtain⟨o,o',e1,e2,AA⟩:=R;unfold aFQ at h⊢;rw[hk.1,hk.2,Cy.2.1,Cy.2.2];by_cases hs:(k.spot.isSome||at_.spot.isSome)=A3;·rw[if_pos hs]at h;cases h
 rw[if_neg hs]at h⊢;cases hp:XD p p.depth u k.off with
 |none=>rw[hp]at h;cases h
 |some f=>
  rw[hp]at h;cases I:f.bytes?.map (·.length)with
  |none=>simp only[I]at h;cases h
  |some s=>
   cases M:sS p p.depth u k.off with
   |none=>simp only[I,M]at h;cases h
   |some N=>
    cases AA with
    |cells t hv z=>
     rename_i c0 y A C;simp only[I,M,e1]at h;simp only[I,M,e2];by_cases D:p.cellsOf t=0;·rw[if_pos D]at h;cases h
     rw[if_neg D]at h⊢;cases L:sS p p.depth t (at_.off%p.cellsOf t)with
     |none=>rw[L]at h;cases h
     |some K=>
      rw[L]at h;simp only at h⊢;cases j:lz p c0 t (s+1) (at_.off/p.cellsOf t*p.bytesOf t+K+N) (at_.off/p.cellsOf t*p.bytesOf t+K+N+s)with
      |error m=>rw[j]at h;cases h
      |ok cs=>
       rw[j]at h;rw[aBc p hv t _ _ _ cs j];have H:∀(x:Except String (zw×Aj×(Nat×Nat)×Nat×A1×List (Nat×Nat×zx))),x=Hr (c,e,FI,first,d,cells)->x=Hr (c0,t,A,at_.off/p.cellsOf t*p.bytesOf t+K+N,f,cs)->c=c0/\e=t/\FI=A/\first=at_.off/p.cellsOf t*p.bytesOf t+K+N/\d=f/\cells=cs:=by intro x h1 h2;rw[h1]at h2;injection h2 with h2;simp only[Q8]at h2;exact h2
       cases b with
       |false=>obtain⟨rfl,rfl,rfl,rfl,rfl,rfl⟩:=H _ h rfl;exact⟨y,C,e1,rfl,hv,z,rfl,rfl⟩
       |true=>
        simp only[V9,VC,if_true]at h⊢;split at h
        ·split at h;·cases h
         rename_i q;obtain⟨rfl,rfl,rfl,rfl,rfl,rfl⟩:=H _ h rfl;refine⟨y,C,e1,rfl,hv,z,rfl,?_⟩;simp only[if_neg q];rfl
        cases h
    |_=>simp only[I,M,e1]at h;cases h
inductive V7(E:AT):List Ak->List Ak->Prop|nil:V7 E [] []|cons{a a':Ak}{l hH:List Ak}:Cf E a a'->V7 E l hH->V7 E (a::l) (a'::hH)
def RD(P:Ap):Prop:=∀t,veiled t->∀b v,XD P P.depth t b=Y v->∃k n,v=A7 k n
def aYq{p:Ap}{k k':Ak}(I:RD p)(hu:veiled u)(Cy:Cf E at_ Sg)(K:k'.off=k.off/\k'.spot=k.spot)(M:∃o H,w.heap[at_.block]?=Y o/\w'.heap[Sg.block]?=Y H/\Ge F E o H)(h:w.viewLoad p at_ u k b=Hr (v,l)):∃z,w'.viewLoad p Sg u k' b=Hr (v,z)/\AN F E v v/\V7 E l z:=by
 unfold aFS at h⊢;cases hs:w.seen p at_ u k b with
 |error m=>rw[hs]at h;cases h
 |ok r=>
  obtain⟨c,e,FI,first,j,s⟩:=r;rw[hs]at h;obtain⟨U,Xq,AM,A,C,D,f,d⟩:=aBd Cy K M hs;rw[d];simp only[V9,VC]at h⊢;obtain⟨Q,n,rfl⟩:=I u hu _ _ f;split at h;·rename_i v0 y;simp only[FX,VD,bz,Q8]at h⊢;obtain⟨rfl,rfl⟩:=h;refine⟨_,⟨rfl,rfl⟩,(aA6 (F:=F) (E:=E) (.int Q n) y).2,?_⟩;clear y d hs;induction s with|nil=>exact .nil|cons q s N=>exact .cons ⟨Cy.1,rfl,rfl⟩ N
  cases h
def a5C{X:Type}{N:zy}{g g':zw->X->Except String (zw)}(z:∀c c' x r,Aq F E c.toList c'.toList->g c x=Hr r->∃As,g' c' x=Hr As/\Aq F E r.toList As.toList/\r.size=c.size/\∃i,i<c.size/\N i):∀(b:List X){c c' r:zw},Aq F E c.toList c'.toList->b.foldlM g c=Hr r->∃As,b.foldlM g' c'=Hr As/\Aq F E r.toList As.toList/\r.size=c.size/\(b≠[]->∃i,i<c.size/\N i)/\(b=[]->As=c')|[],c,c',r,hc,h=>by simp only[aGt,FX,VD,bz]at h⊢;subst h;exact⟨c',rfl,hc,rfl,λx=>absurd rfl x,λ_=>rfl⟩|x::b,c,c',r,hc,h=>by simp only[mY,V9,VC]at h⊢;cases s:g c x with|error m=>rw[s]at h;cases h|ok r1=>rw[s]at h;obtain⟨d,K,M,Q,U⟩:=z c c' x r1 hc s;rw[K];obtain⟨As,H,I,y,_⟩:=a5C z b M h;exact⟨As,H,I,y.trans Q,λ_=>U,λx=>by cases x⟩
def aLH{X d:Type}{N:zy}{g g':zw->X->Except String (zw)}{K:zw->Except String d}{R:d->Prop}{cells:List X}{r:zw}(h:cells.foldlM g c=Hr r)(hc:Aq F E c.toList c'.toList)(b:∀c c' x r,Aq F E c.toList c'.toList->g c x=Hr r->∃As,g' c' x=Hr As/\Aq F E r.toList As.toList/\r.size=c.size/\∃i,i<c.size/\N i)(s:∀As,Aq F E r.toList As.toList->r.size=c.size->(cells≠[]->∃i,i<c.size/\N i)->(cells=[]->As=c')->∃y,K As=Hr y/\R y):∃y,VC (cells.foldlM g' c') K=Hr y/\R y:=by obtain⟨As,z,H,I,M,Q⟩:=a5C b cells hc h;rw[z];exact s As H I M Q
def aBl{h:Array Df}{i:Nat}(e:h[i]?=Y o):h.setIfInBounds i o=h:=by
 apply kZ;intro j;rw[HM];split;·rename_i b;subst b;rw[if_pos (Array.getElem?_eq_some_iff.1 e).1,e]
 rfl
def aYr{p:Ap}{k k':Ak}(Cy:Cf E at_ Sg)(hk:k'.off=k.off/\k'.spot=k.spot)(hv:AN F E v v')(I:CC F so RO E w w')(h:w.viewStore p at_ u k v b=Hr (w1,l)):∃As,w'.viewStore p Sg u k' v' b=Hr As/\CC F so RO E w1 As.1/\GR RO E w w' E w1 As.1/\V7 E l As.2/\∀a∈l,¬RO a.block:=by
 unfold a1N at h⊢;by_cases AP:(!tight p p.depth u)=A3;·rw[if_pos AP]at h;cases h
 rw[if_neg AP]at h⊢;cases hs:w.seen p at_ u k b with
 |error m=>rw[hs]at h;cases h
 |ok r=>
  obtain⟨c,e,FI,first,YM,cells⟩:=r;rw[hs]at h;obtain⟨c',Xq,AM,f,X,A,hw,C⟩:=aBd Cy hk (I.heap _ _ Cy.1) hs;rw[C];simp only[V9,VC]at h⊢;cases z:v.bytes? with
  |none=>simp only[z]at h;cases h
  |some bytes=>
   obtain rfl:=a3g hv z;simp only[z]at h⊢;split at h;·cases h
   rename_i Bv;rw[if_neg Bv];split at h;·cases h
   rename_i r K;simp only[FX,VD,bz,Q8]at h;obtain⟨rfl,rfl⟩:=h;refine aLH (F:=F) (E:=E) (N:=λi=>¬(FI.1<=i/\i<FI.2)) K X ?_ ?_
   ·intro d CI x r U s;split at s;·cases s
    rename_i h1;rw[if_neg h1];split at s;·cases s
    rename_i h2;have RH:¬(Bz (Xq.1<=x.1)&&Bz (x.1<Xq.2))=A3:=by intro y;apply h2;simp only[G0,decide_eq_true_eq]at y⊢;rcases A with el|el<;>omega
    rw[if_neg RH];split at s
    ·rename_i old D;obtain⟨v',e1,e2⟩:=U.get x.1 (by simpa using D);have uG:CI[x.1]?=Y v':=by simpa using e1
     rw[uG];split at s;·rename_i new L;obtain⟨rfl,hu⟩:=aA6 e2 L;simp only[L];simp only[FX,VD,bz]at s⊢;subst s;refine⟨_,rfl,by simpa using U.set hu x.1,by simp,x.1,(Array.getElem?_eq_some_iff.1 D).1,?_⟩;simpa using h2
     cases s
    cases s
   intro As R E' T W;refine⟨_,rfl,?_⟩;dsimp only;by_cases hn:cells=[];·subst hn;simp only[aGt,FX,VD,bz]at K;subst K;obtain rfl:=W rfl;rw[aBl AM,aBl f];exact⟨I,GR.refl _ _ _ _,.nil,λa M=>by cases M⟩
   obtain⟨i,hi,Q⟩:=T hn;have H:¬RO at_.block:=λH=>by
    obtain⟨_,xZ⟩:=I.kept _ H;rcases xZ with⟨c2,t2,K8,j,GF⟩|⟨_,y⟩;·rw[AM]at j;injection j with j;injection j with Ew z2 z3;subst Ew z2 z3;have:=GF i hi;exact Q ⟨this.1,this.2.1⟩
    exact y _ _ _ AM
   have Cj:=(Array.getElem?_eq_some_iff.1 AM).1;have CS:=(Array.getElem?_eq_some_iff.1 f).1;refine⟨I.put Cy.1 (o:=AF r e FI) (o':=AF As e Xq) (.cells e R A) (by simp) ?_ ?_ rfl rfl ?_ ?_ rfl rfl (λy=>absurd y H) λAK=>I.even AK _ _ Cy.1 _ _ AM f|>.cells,GR.put ⟨_,Cy.1,H⟩ (by simp) rfl rfl (by simp) ?_ rfl rfl rfl rfl λi=>?_,?_,?_⟩;·show(w.heap.setIfInBounds _ _)[_]?=_;rw[HM,if_pos rfl,if_pos Cj]
   ·intro b z;show(w.heap.setIfInBounds _ _)[b]?=_;rw[HM,if_neg λx=>z x.symm]
   ·show(w'.heap.setIfInBounds _ _)[_]?=_;rw[HM,if_pos rfl,if_pos CS]
   ·intro b z;show(w'.heap.setIfInBounds _ _)[b]?=_;rw[HM,if_neg λx=>z x.symm]
   ·intro b z;show(w'.heap.setIfInBounds _ _)[b]?=_;rw[HM,if_neg λx=>z x.symm]
   ·have e1:=i.1 _ _ Cy.1;rw[e1,i.2]at f;rw[AM]at f;injection f with f;injection f with _ _ z3;have z4:As=r:=Array.toList_inj.1 (R.same i.1);simp only[e1,i.2,z4,z3]
   ·clear K C hs T W hn;induction cells with|nil=>exact .nil|cons q cells ih=>exact .cons ⟨Cy.1,rfl,rfl⟩ ih
   intro a M;obtain⟨x,_,rfl⟩:=List.mem_map.1 M;exact H
def CC.Xo{p:Ap}(h:CC F so RO E w w')(H:RD p)(AB:Cf E a a')(s:w.farLoad p a b=Hr (v,l)):∃y,w'.cell? a'=Z/\w'.farLoad p a' b=Hr (v,y)/\AN F E v v/\V7 E l y:=by
 obtain⟨o,U,e,z,I⟩:=h.heap _ _ AB.1;unfold sQ at s⊢;unfold FB;rw[e]at s;rw[z];cases I with
 |view t K Cy=>
  rename_i x x';simp only at s⊢;cases hv:w.viewLoad p x t a b with
  |error m=>rw[hv]at s;cases s
  |ok r=>rw[hv]at s;cases s;obtain⟨y,M,N,Q⟩:=aYq H K Cy AB.2 (h.heap _ _ Cy.1) hv;exact⟨y,trivial,by rw[M],N,Q⟩
 |_=>cases s
def CC.ub{p:Ap}(h:CC F so RO E w w')(AB:Cf E a a')(hv:AN F E v v')(s:w.farStore p a v b=Hr (w1,l)):∃As,w'.cell? a'=Z/\w'.farStore p a' v' b=Hr As/\CC F so RO E w1 As.1/\GR RO E w w' E w1 As.1/\V7 E l As.2/\∀a∈l,¬RO a.block:=by
 obtain⟨o,Q,e,z,I⟩:=h.heap _ _ AB.1;unfold lb at s⊢;unfold FB;rw[e]at s;rw[z];cases I with
 |view t N H=>
  rename_i x U;simp only at s⊢;cases y:w.viewStore p x t a v b with
  |error m=>rw[y]at s;cases s
  |ok r=>rw[y]at s;cases s;obtain⟨As,K,M⟩:=aYr H AB.2 hv h y;exact⟨As,trivial,by rw[K],M⟩
 |_=>cases s
def CC.aKq{p:Ap}{x:Ww}(h:CC F so RO E w w')(AB:Cf E a a')(s:w.farLoad p a b=bx x):US x:=by
 obtain⟨o,M,e,H,z⟩:=h.heap _ _ AB.1;unfold sQ a1M at s;rw[e]at s;cases z with
 |view t K I=>
  rename_i y N;simp only at s;cases hv:w.viewLoad p y t a b with
  |error m=>rw[hv]at s;cases s;exact λg x=>by cases x
  |ok r=>rw[hv]at s;cases s
 |_=>cases s;trivial
def CC.aKr{p:Ap}{x:Ww}(h:CC F so RO E w w')(AB:Cf E a a')(s:w.farStore p a v b=bx x):US x:=by
 obtain⟨o,M,e,H,z⟩:=h.heap _ _ AB.1;unfold lb a1M at s;rw[e]at s;cases z with
 |view t K I=>
  rename_i y N;simp only at s;cases hv:w.viewStore p y t a v b with
  |error m=>rw[hv]at s;cases s;exact λg x=>by cases x
  |ok r=>rw[hv]at s;cases s
 |_=>cases s;trivial
end
section
variable{P:Ap}{F:zy}{so:Dj}{RO:zy}
def KE.push{E:AT}{es es':Array C5}{e e':C5}(h:KE RO E es.toList es'.toList)(k:Wl RO E e e'):KE RO E (es.push e).toList (es'.push e').toList:=by simpa using KE.snoc h k
def KE.Xo(w s:Bool):∀{l d:List Ak}{es es':Array C5},KE RO E es.toList es'.toList->V7 E l d->(w=A3->∀a∈l,¬RO a.block)->KE RO E (es++l.toArray.map λx=>(⟨Ie x,w,s⟩:C5)).toList (es'++d.toArray.map λx=>(⟨Ie x,w,s⟩:C5)).toList:=by
 intro l d es es' h k b;have y:∀{l d:List Ak}{es es':List C5},KE RO E es es'->V7 E l d->(w=A3->∀a∈l,¬RO a.block)->KE RO E (es++l.map λx=>(⟨Ie x,w,s⟩:C5)) (es'++d.map λx=>(⟨Ie x,w,s⟩:C5)):=by intro l d es es' h k b;induction k generalizing es es' with|nil=>simpa using h|cons z _ I=>have:=I (h.snoc (.cell w s z λx=>b x _ (by simp))) λx a H=>b x a (by simp[H]);simpa using this
 simpa using y h k b
def AN.one(h:AN F E v v'):(∀c,v'=A_ c->∃d,v=A_ d)/\∀c,v'=Ay c->∃d,v=Ay d:=by cases h<;>refine⟨λc x=>?_,λc x=>?_⟩<;>first|exact⟨_,rfl⟩|cases x
def bg{m:ZP}{k:BU bv}(b:∀c,v≠A_ c)(h2:∀c,v≠Ay c):(sL m a v k).runT P w es=match w.cell? a with|Y _=>if w.frozen? a then(Tv (a'd (.unsafePointer "a write to bytes that a string shares")) w,es)else k.runT P (w.setCell a v) (es.push ⟨Ie a,A3,m==Ma⟩)|Z=>match w.farStore P a v (m==Ma)with|Hr (w,touched)=>k.runT P w (es++touched.toArray.map (⟨Ie ·,A3,m==Ma⟩))|bx h=>(Tv h w,es):=by cases v<;>first|rfl|exact absurd rfl (b _)|exact absurd rfl (h2 _)
def GR.less{Pr d:zy}{e:AT}(h:GR Pr E w w' e w1 BZ)(k:∀b,d b->Pr b):GR d E w w' e w1 BZ:=⟨h.le,h.fresh,h.size,h.kJ,h.os,h.output,h.tape,h.er,h.drawn,λs y hn=>h.rest s y λb x=>k b (hn b x),h.YK⟩
def AO.runs(Hz:RD P){Q:AT->bv->bv->Prop}{Pr:zy}(X:∀b,Pr b->RO b)(JP:so.FI->∀b,¬Pr b){s C9:BU bv}(h:AO P F so Q E s C9):∀{w w':A0}{es es':Array C5}{a:bv}{w1:A0}{es1:Array C5},CC F so RO E w w'->KE RO E es.toList es'.toList->s.runT P w es=(Ac a w1,es1)->∃d N M U,C9.runT P w' es'=(Ac N M,U)/\Q d a N/\CC F so RO d w1 M/\GR Pr E w w' d w1 M/\KE RO d es1.toList U.toList:=by
 induction h with
 |pure q=>intro w w' es es' a w1 es1 I he H;simp only[DQ,Q8,lT]at H;obtain⟨⟨rfl,rfl⟩,rfl⟩:=H;exact⟨_,_,_,_,rfl,q,I,GR.refl _ _ _ _,he⟩
 |load m AB _ K=>intro w w' es es' a w1 es1 I he H;rename_i x x' k k' _;simp only[DQ]at H⊢;cases hc:w.cell? x with|some v=>rw[hc]at H;obtain⟨v',I9,hv⟩:=I.cell AB hc;rw[I9];exact K v v' hv I (he.push (.cell _ _ AB λx=>by cases x)) H|none=>rw[hc]at H;simp only at H;cases AK:w.farLoad P x (m==Ma)with|error h=>rw[AK]at H;simp at H|ok r=>obtain⟨v,l⟩:=r;rw[AK]at H;obtain⟨hH,C,D,T,W⟩:=I.Xo Hz AB AK;rw[C];simp only[D];exact K v v T I (he.Xo A9 (m==Ma) W λx=>by cases x) H
 |store m AB hv _ K=>
  intro w w' es es' a w1 es1 I he H;rename_i x x' v v' k k' _;by_cases g1:∃c,v=A_ c;·obtain⟨c,rfl⟩:=g1;simp[DQ]at H
  by_cases Cx:∃c,v=Ay c;·obtain⟨c,rfl⟩:=Cx;simp[DQ]at H
  rw[bg (λc x=>g1 ⟨c,x⟩) λc x=>Cx ⟨c,x⟩]at H;rw[bg (λc x=>g1 (hv.one.1 c x)) λc x=>Cx (hv.one.2 c x)];cases hc:w.cell? x with
  |some u=>
   rw[hc]at H;simp only at H;obtain⟨Yi,I9,_⟩:=I.cell AB hc;rw[I9];simp only;by_cases AK:w.frozen? x=A3;·rw[if_pos AK]at H;simp at H
   rw[if_neg AK]at H;rw[if_neg λy=>AK (I.frozen AB y)];have FJ:¬RO x.block:=λy=>by
    obtain⟨_,k⟩:=I.kept _ y;rcases k with⟨c,t,p,e,z⟩|⟨_,z⟩
    ·apply AK;unfold cf;unfold FB at hc;rw[e]at hc⊢;simp only at hc⊢;split at hc;·cases hc
     have:=z x.off (Array.getElem?_eq_some_iff.1 hc).1;simp[this]
    unfold FB at hc;split at hc;·exact z _ _ _ ‹_›
    cases hc
   obtain⟨C,D⟩:=I.set AB hv hc FJ;obtain⟨d,N,M,U,r1,r2,f,j,A⟩:=K C (he.push (.cell _ _ AB λ_=>FJ)) H;exact⟨d,N,M,U,r1,r2,f,(D.less X).trans j,A⟩
  |none=>rw[hc]at H;simp only at H;cases AK:w.farStore P x v (m==Ma)with|error h=>rw[AK]at H;simp at H|ok r=>obtain⟨w2,l⟩:=r;rw[AK]at H;obtain⟨As,C,D,T,W,Jq,Kd⟩:=I.ub AB hv AK;rw[C];simp only[D];obtain⟨d,N,M,U,r1,r2,f,j,A⟩:=K T (he.Xo A3 (m==Ma) Jq λ_=>Kd) H;exact⟨d,N,M,U,r1,r2,f,(W.less X).trans j,A⟩
 |new AA _ R K=>
  intro w w' es es' a w1 es1 I he H;rename_i E o o' k k' _;simp only[DQ]at H⊢;obtain⟨d,N,M,U,r1,r2,f,j,A⟩:=K w.heap.size w'.heap.size I.fresh (I.push AA R) (he.mono (AT.jb _ _ _ _)) H;have E9:GR Pr E w w' (E.add w.heap.size w'.heap.size I.fresh) {w with heap:=w.heap.push o} {w' with heap:=w'.heap.push o'}:=by
   refine⟨AT.jb _ _ _ _,λb b' x=>?_,by simp,by simp,rfl,rfl,rfl,rfl,⟨0,rfl,rfl⟩,λb' hb _=>?_,λi=>⟨λb b' x=>?_,by rw[i.2,AA.same i.1 R]⟩⟩
   ·rcases x with x|⟨rfl,rfl⟩;·exact AD x
    exact AJ ⟨Ae _,by simp,Ae _,by simp⟩
   ·show(w'.heap.push o')[b']?=_;rw[H_ hb,EP hb]
   rcases x with x|⟨rfl,rfl⟩;·exact i.1 b b' x
   rw[i.2]
  exact⟨d,N,M,U,r1,r2,f,E9.trans j,A⟩
 |shape L _ K=>intro w w' es es' a w1 es1 I he H;simp only[DQ]at H⊢;rw[I.shape L];exact K _ I he H
 |freeze n R AB _ K=>intro w w' es es' a w1 es1 I he H;simp only[DQ]at H⊢;obtain⟨C,D⟩:=I.freeze (Pr:=Pr) AB n (JP R _);obtain⟨d,N,M,U,r1,r2,f,j,A⟩:=K C he H;exact⟨d,N,M,U,r1,r2,f,D.trans j,A⟩
 |frozen R AB _ K=>intro w w' es es' a w1 es1 I he H;simp only[DQ]at H⊢;rw[I.aLV R AB];exact K _ I he H
 |getObj L _ K=>
  intro w w' es es' a w1 es1 I he H;rename_i r As k k' _;obtain⟨o,o',e,e',AA⟩:=I.heap _ _ L;simp only[DQ]at H⊢;rw[e]at H;rw[e'];rcases AA.kind with⟨c,c',t,p,q,rfl,rfl,_,_⟩|⟨x,x'⟩;·simp at H
  have Fe:(k o).runT P w (es.push ⟨Nz r,A9,o.isChan⟩)=(Ac a w1,es1):=by rw[<-H];cases o<;>first|rfl|exact absurd rfl (x _ _ _)
  obtain⟨d,N,M,U,r1,r2⟩:=K o o' AA I (he.push (.obj _ _ L λx=>by cases x)) Fe;refine⟨d,N,M,U,?_,r2⟩;rw[<-r1,<-AA.isChan];cases o'<;>first|rfl|exact absurd rfl (x' _ _ _)
 |setObj hs L hn AA _ K=>
  intro w w' es es' a w1 es1 I he H;rename_i r As o o' k k' _;simp only[DQ]at H⊢;cases e:w.heap[r]? with
  |none=>rw[e]at H;simp at H
  |some old=>
   rw[e]at H;by_cases D7:∃c t p,old=AF c t p;·obtain⟨c,t,p,rfl⟩:=D7;simp at H
   have W8:∀c t p,old≠AF c t p:=λc t p x=>D7 ⟨c,t,p,x⟩;obtain⟨C,D,T,Ux,W,Jq⟩:=I.setObj hs L hn AA e W8;rw[W];have Fe:k.runT P {w with heap:=w.heap.setIfInBounds r o} (es.push ⟨Nz r,A3,o.isChan⟩)=(Ac a w1,es1):=by rw[<-H];cases old<;>first|rfl|exact absurd rfl (W8 _ _ _)
   obtain⟨d,N,M,U,r1,r2,f,j,A⟩:=K C (he.push (.obj _ _ L λ_=>T)) Fe;refine⟨d,N,M,U,?_,r2,f,(D.less X).trans j,A⟩;rw[<-r1,<-AA.isChan];cases Ux<;>first|rfl|exact absurd rfl (Jq _ _ _)
 |choose q _ K=>
  intro w w' es es' a w1 es1 I he H;rename_i E k k' _;simp only[DQ]at H⊢;split at H;·rename_i AH;rw[if_pos AH];exact K _ I he H
  rename_i AH;rw[if_neg AH];have AP:=I.tape 0 q;simp only[aHK]at AP;rw[AP];obtain⟨d,N,M,U,r1,r2,f,j,A⟩:=K _ I.draw he H;have E9:GR Pr E w w' E {w with drawn:=w.drawn+1} {w' with drawn:=w'.drawn+1}:=⟨AT.le_refl _,λ_ _ x=>AD x,Ae _,Ae _,rfl,rfl,rfl,rfl,⟨1,rfl,rfl⟩,λ_ _ _=>rfl,id⟩;exact⟨d,N,M,U,r1,r2,f,E9.trans j,A⟩
 |program _ K=>intro w w' es es' a w1 es1 I he H;simp only[DQ]at H⊢;exact K I he H
 |mark hm _ K=>intro w w' es es' a w1 es1 I he H;simp only[DQ]at H⊢;exact K I (he.push (.mark hm)) H
 |dead C9 h=>intro w w' es es' a w1 es1 I he H;exact absurd H (h.ne _ _ _ _ _)
end
abbrev FH{bv:Type}:AT->bv->bv->Prop:=λ_ a a'=>a=a'
abbrev Xc:AT->Ak->Ak->Prop:=λE a a'=>Cf E a a'
abbrev CL(F:zy):AT->A1->A1->Prop:=λE v v'=>AN F E v v'
abbrev RA(F:zy):AT->zw->zw->Prop:=λE v v'=>Aq F E v.toList v'.toList
abbrev P5:AT->Unit->Unit->Prop:=λ_ _ _=>True
structure Fit(P:Ap)(F:zy):Prop where
 zero:∀t i z,P.info? t=Y i->i.zero=Y z->∀E,AN F E z z
 Ju:RD P
section
variable{P:Ap}{F:zy}{so:Dj}{E:AT}
def AO.andThen{Q:AT->bv->bv->Prop}{R:AT->By->By->Prop}{s d:BU bv}{f f':bv->BU By}(h:AO P F so Q E s d)(z:∀b,E.le b->∀a y,Q b a y->AO P F so R b (f a) (f' y)):AO P F so R E (s>>=f) (d>>=f'):=AO.bind h z
def AO.AQ{Q:AT->bv->bv->Prop}{a a':bv}(h:Q E a a'):AO P F so Q E (FX a:BU bv) (FX a'):=.pure h
def AO.weaken{Q R:AT->bv->bv->Prop}{s d:BU bv}(h:AO P F so Q E s d)(I:∀y,E.le y->∀a z,Q y a z->R y a z):AO P F so R E s d:=by
 have:=AO.bind (f:=Jz) (f':=Jz) h λy H a z q=>AO.pure (I y H a z q);have e:∀s:BU bv,s.bind Jz=s:=by intro s;induction s with|pure a=>rfl|load m a k b=>simp only[Dx];congr 1;funext v;exact b v|store m a v k b=>simp only[Dx];congr 1|new o k b=>simp only[Dx];congr 1;funext v;exact b v|shape r k b=>simp only[Dx];congr 1;funext v;exact b v|freeze a n k b=>simp only[Dx];congr 1|frozen a k b=>simp only[Dx];congr 1;funext v;exact b v|getObj r k b=>simp only[Dx];congr 1;funext v;exact b v|setObj r o k b=>simp only[Dx];congr 1|choose q k b=>simp only[Dx];congr 1;funext v;exact b v|sys c k b=>simp only[Dx];congr 1;funext v;exact b v|program k b=>simp only[Dx];congr 1;funext v;exact b v|mark m k b=>simp only[Dx];congr 1|halt h=>rfl
 rwa[e,e]at this
def AO.prog{Q:AT->bv->bv->Prop}{f f':Ap->BU bv}(h:AO P F so Q E (f P) (f' P)):AO P F so Q E (cm>>=f) (cm>>=f'):=.program h
def AO.stuck{Q:AT->bv->bv->Prop}{m:String}{s:BU bv}:AO P F so Q E (U0 m) s:=.halt _ _
def AO.Cs{Q:AT->bv->bv->Prop}{u:aFL}{s:BU bv}(hu:∀g,u≠lX g:=by intro g e;cases e):AO P F so Q E (a1j u) s:=.halt _ _ hu
def AO.goPanic{Q:AT->bv->bv->Prop}{s:BU bv}:AO P F so Q E (aFW v) s:=.halt _ _
def GN(t:Aj):AO P F so FH E (Jc t) (Jc t):=by unfold Jc;refine .prog ?_;cases P.underlying t with|none=>exact .stuck|some d=>exact .AQ rfl
def IG(t:Aj):AO P F so (λ_ a b=>a=b/\P.info? t=Y a) E (Q2 t) (Q2 t):=by unfold Q2;refine .prog ?_;cases P.info? t with|none=>exact .stuck|some d=>exact .AQ ⟨rfl,rfl⟩
def IY(t:Aj):AO P F so FH E (Q0 t) (Q0 t):=by unfold Q0;refine(IG t).andThen ?_;rintro b _ a _⟨rfl,_⟩;exact .AQ rfl
def aAu(t:Aj):AO P F so FH E (VS t) (VS t):=by unfold VS;refine(GN t).andThen ?_;rintro b _ a _ rfl;cases a<;>exact .AQ rfl
def MM(h:Fit P F)(t:Aj):AO P F so (CL F) E (Q3 t) (Q3 t):=by unfold Q3;refine(IG t).andThen ?_;rintro b _ a _⟨rfl,hi⟩;cases s:a.zero with|none=>exact .Cs|some z=>exact .AQ (h.zero t a z hi s b)
def k9(h:Cf E a a')(m:ZP):AO P F so (CL F) E (ck a m) (ck a' m):=.load m h λ_ _ hv=>.pure hv
def aVS(h:Cf E a a')(hv:AN F E v v')(m:ZP):AO P F so P5 E (sW a v m) (sW a' v' m):=.store m h hv (.pure trivial)
def Aq.snoc{a a':List A1}(h:Aq F E a a')(hv:AN F E v v'):Aq F E (a++[v]) (a'++[v']):=h.append (.cons hv .nil)
def aAx{a a':Ak}:∀(n i:Nat){E:AT}{d e:zw},Cf E a a'->Aq F E d.toList e.toList->AO P F so (RA F) E (sU a i n d) (sU a' i n e)|0,i,_,d,e,_,hc=>.AQ hc|n+1,i,_,d,e,h,hc=>by unfold sU;refine(k9 (h.add i) VP).andThen ?_;intro s b v y hv;exact aAx n (i+1) (h.mono b) (by simpa using(hc.mono b).snoc hv)
def ye(h:Cf E a a')(n:Nat):AO P F so (RA F) E (a1X a n) (a1X a' n):=aAx n 0 h .nil
def ba{a a':Ak}:∀{d e:List A1}{E:AT}(i:Nat),Cf E a a'->Aq F E d e->AO P F so P5 E (sX a d i) (sX a' e i)|_,_,_,i,_,.nil=>.AQ trivial|_,_,_,i,h,.cons hv t=>by unfold sX;refine(aVS (h.add i) hv VP).andThen ?_;intro s b _ _ _;exact ba (i+1) (h.mono b) (t.mono b)
def kA(h:Cf E a a')(t:Aj):AO P F so (CL F) E (lo t a) (lo t a'):=by
 unfold lo;refine(aAu t).andThen ?_;rintro z s b _ rfl;cases b;·exact k9 (h.mono s) VP
 refine(IY t).andThen ?_;rintro H y n _ rfl;refine(ye ((h.mono s).mono y) n).andThen ?_;intro I M c K hc;exact .AQ (.agg hc)
def AN.cells{v v':A1}(h:AN F E v v'):Aq F E v.cells.toList v'.cells.toList:=by cases h with|agg h=>exact h|_=>exact .cons (by constructor<;>assumption) .nil
def aVU(h:Cf E a a')(hv:AN F E v v')(t:Aj):AO P F so P5 E (mA t a v) (mA t a' v'):=by
 unfold mA;refine(IY t).andThen ?_;rintro y b n _ rfl;have s:v'.cells.size=v.cells.size:=by simpa using hv.cells.length
 rw[s];by_cases hs:v.cells.size≠n;·simp only[if_pos hs];exact .stuck
 simp only[if_neg hs];exact ba 0 (h.mono b) (hv.cells.mono b)
end
section
variable{P:Ap}{F:zy}{so:Dj}{E:AT}
def Rp(t:Aj)(h:Aq F E c.toList c'.toList):AO P F so Xc E (lr t c) (lr t c'):=by unfold lr a1a;exact .new (.cells t h (.refl _)) λb y s=>.pure ⟨AT.Sf _ _ _ s,rfl,rfl⟩
def aB2(t:Aj)(h:AN F E v v'):AO P F so Xc E (ls t v) (ls t v'):=Rp t h.cells
def kC(h:AN F E v v'):AO P F so Xc E (fx v) (fx v'):=by cases h with|ptr h=>exact .AQ h|_=>exact .stuck
def k7(h:AN F E v v'):AO P F so Xc E (a1O v) (a1O v'):=by cases h with|ptr h=>exact .AQ h|HI=>unfold a1O SO;exact .prog .goPanic|_=>exact .stuck
def py(h:AN F E v v'):AO P F so FH E (gM v) (gM v'):=by cases h with|int k n=>exact .AQ rfl|ptr h=>exact .Cs|_=>exact .stuck
def TY(h:AN F E v v'):AO P F so FH E (ZV v) (ZV v'):=by unfold ZV;refine(py h).andThen ?_;rintro b _ a _ rfl;exact .AQ rfl
def aAn(h:AN F E v v'):AO P F so FH E (sR v) (sR v'):=by cases h with|bool b=>exact .AQ rfl|_=>exact .stuck
def aUf(h:AN F E v v'):AO P F so (RA F) E (asAgg v) (asAgg v'):=by cases h with|agg h=>exact .AQ h|_=>exact .stuck
def ea{Q:AT->bv->bv->Prop}(k:KJ)(x y:Int)(c:kj):AO P F so Q E (XB k x y c) (XB k x y c):=by
 unfold XB;have h:∀(E:AT)(b:Bool),AO P F so Q E (SO (.bounds (A8.wrap x) y b c)) (SO (.bounds (A8.wrap x) y b c)):=λE b=>by unfold SO;exact .prog .goPanic
 simp only;split;·exact .choose _ λn=>h _ _
 exact h _ _
def aV5(t:Aj)(h:AN F E v v'):AO P F so (CL F) E (l6 t v) (l6 t v'):=by unfold l6;refine(kC h).andThen ?_;intro s z a y b;exact kA b t
def aVT(t:Aj)(h:AN F E v v')(hx:AN F E x x'):AO P F so P5 E (l9 t v x) (l9 t v' x'):=by unfold l9;refine(kC h).andThen ?_;intro y b a z s;exact aVU s (hx.mono b) t
def aUc(b:Fit P F)(t:Aj):AO P F so (CL F) E (a'e t A3 (Ay #[])) (a'e t A3 (Ay #[])):=by unfold a'e;refine(MM b t).andThen ?_;intro y K z z' s;refine(aB2 t s).andThen ?_;intro H M a I h;exact .AQ (.ptr h)
def aUi(t:Aj)(h:AN F E v v'):AO P F so (CL F) E (l1 t v) (l1 t v'):=by unfold l1;refine(aB2 t h).andThen ?_;intro s z a y b;exact .AQ (.ptr b)
def Qo(t:Aj)(h:Aq F E c.toList c'.toList)(off:Nat):AO P F so (CL F) E (lx t c off) (lx t c' off):=by
 unfold lx;refine(aAu t).andThen ?_;rintro I s b _ rfl;cases b
 ·cases hc:c[off]? with
  |none=>exact .stuck
  |some v=>
   obtain⟨H,e,hv⟩:=(h.mono s).get off (v:=v) (by simpa using hc);have y:c'[off]?=Y H:=by simpa using e
   rw[y];exact .AQ hv
 refine(IY t).andThen ?_;rintro K z n _ rfl;refine .AQ (.agg ?_);simpa[aCp,aGr]using(((h.mono s).mono z).drop off).take (off+n-off)
def aV'(t:Aj)(h:AN F E v v')(i:Nat):AO P F so (CL F) E (a'g t v i) (a'g t v' i):=by
 unfold a'g;refine(GN t).andThen ?_;rintro y s d _ rfl;cases d with
 |struct b=>
  simp only;cases b[i]? with
  |none=>exact .stuck
  |some f=>simp only;refine(aUf (h.mono s)).andThen ?_;intro z I c H hc;exact Qo f.type hc f.offset
 |_=>exact .stuck
def aUz(h:AN F E v v')(i:Nat):AO P F so (CL F) E (a'f v i) (a'f v' i):=by
 cases h with
 |tuple h=>
  rename_i a b;unfold a'f;simp only;cases hc:a[i]? with
  |none=>exact .stuck
  |some v=>
   obtain⟨v',e,hv⟩:=h.get i (v:=v) (by simpa using hc);have s:b[i]?=Y v':=by simpa using e
   rw[s];exact .AQ hv
 |_=>exact .stuck
def aV2(t:Aj)(h:AN F E v v')(hx:AN F E x x'):AO P F so (CL F) E (a'i t v x) (a'i t v' x'):=by
 unfold a'i;refine(py hx).andThen ?_;rintro H b⟨k,i⟩_ rfl;refine(GN t).andThen ?_;rintro I y d _ rfl;have h2:=(h.mono b).mono y;cases d with
 |array n e=>
  cases h2 with
  |agg hc=>
   simp only;split;·refine(IY e).andThen ?_;rintro K z m _ rfl;exact Qo e (hc.mono z) _
   exact ea _ _ _ _
  |_=>exact .stuck
 |string=>
  cases h2 with
  |string s=>
   simp only;split;·exact .AQ (.int _ _)
   exact ea _ _ _ _
  |_=>exact .stuck
 |_=>cases h2<;>exact .stuck
end
section
variable{P:Ap}{F:zy}{so:Dj}{E:AT}
def aV3(t:Aj)(h:AN F E v v')(hx:AN F E x x'):AO P F so (CL F) E (ZI t v x) (ZI t v' x'):=by
 unfold ZI;refine(py hx).andThen ?_;rintro N K⟨k,i⟩_ rfl;refine(GN t).andThen ?_;rintro Q M d _ rfl;have h2:=(h.mono K).mono M;cases d with
 |array n e=>
  refine(kC h2).andThen ?_;intro U f a a' y;refine(GN t).andThen ?_;rintro z b H _ rfl;dsimp only;split;·refine(IY _).andThen ?_;rintro I s m _ rfl;exact .AQ (.ptr (((y.mono b).mono s).add _))
  (repeat' split)<;>first|exact .Cs|exact ea _ _ _ _
 |slice e=>
  cases h2 with
  |HL l c=>refine(GN t).andThen ?_;rintro z b H _ rfl;exact ea _ _ _ _
  |slice l c y=>
   refine(GN t).andThen ?_;rintro z b H _ rfl;dsimp only;split;·refine(IY _).andThen ?_;rintro I s m _ rfl;exact .AQ (.ptr (((y.mono b).mono s).add _))
   (repeat' split)<;>first|exact .Cs|exact ea _ _ _ _
  |_=>exact .stuck
 |_=>cases h2<;>exact .stuck
def aVQ(h:AN F E v v')(y:Nat)(c:kj):AO P F so FH E (l8 v y c) (l8 v' y c):=by
 unfold l8;refine(py h).andThen ?_;rintro b s⟨k,i⟩_ rfl;simp only;split;·exact .AQ rfl
 exact ea _ _ _ _
def LP(F:zy)(E:AT)(o o':Option A1):Prop:=o=Z/\o'=Z∨∃v b,o=Y v/\o'=Y b/\AN F E v b
def LP.mono{n3:AT}{o o':Option A1}(h:LP F E o o')(b:E.le n3):LP F n3 o o':=by
 rcases h with h|⟨v,s,x,y,z⟩;·exact AD h
 exact AJ ⟨v,s,x,y,z.mono b⟩
def kB{d j hi q A C:Option A1}(b:Bool)(l c:Nat)(I:LP F E d j)(h2:LP F E hi q)(h3:LP F E A C):AO P F so FH E (a'p b l c d hi A) (a'p b l c j q C):=by
 unfold a'p;have B:∀{E:AT}{v v':A1}{y:Nat}{c:kj}{By:Type}{R:AT->By->By->Prop}{f f':Nat->BU By},AN F E v v'->(∀s,E.le s->∀n,AO P F so R s (f n) (f' n))->AO P F so R E (l8 v y c>>=f) (l8 v' y c>>=f'):=λhv k=>(aVQ hv _ _).andThen λs h a _ e=>e▸k s h a;rcases h3 with⟨rfl,rfl⟩|⟨m,M,rfl,rfl,z⟩<;>rcases h2 with⟨rfl,rfl⟩|⟨u,Q,rfl,rfl,hu⟩<;>rcases I with⟨rfl,rfl⟩|⟨o,N,rfl,rfl,H⟩;·exact .AQ rfl
 ·exact B H λ_ _ _=>.AQ rfl
 ·exact B hu λ_ _ _=>.AQ rfl
 ·exact B hu λ_ h _=>B (H.mono h) λ_ _ _=>.AQ rfl
 ·exact B z λ_ _ _=>.stuck
 ·exact B z λ_ _ _=>.stuck
 ·exact B z λ_ h _=>B (hu.mono h) λ_ _ _=>.AQ rfl
 exact B z λ_ h _=>B (hu.mono h) λ_ K _=>B ((H.mono h).mono K) λ_ _ _=>.AQ rfl
def Cf.pick(h:Cf E a a')(p:Prop)[Decidable p](n:Nat):Cf E (if p then a else a.add n) (if p then a' else a'.add n):=by
 split;·exact h
 exact h.add n
def aVO{q A hi C f j:Option A1}(t:Aj)(h:AN F E v v')(h1:LP F E q A)(h2:LP F E hi C)(h3:LP F E f j):AO P F so (CL F) E (l7 t v q hi f) (l7 t v' A C j):=by
 unfold l7;have L:j.isSome=f.isSome:=by rcases h3 with⟨rfl,rfl⟩|⟨v,v',rfl,rfl,_⟩<;>rfl
 refine(GN t).andThen ?_;rintro n3 z d _ rfl;have hv:=h.mono z;have I:=h1.mono z;have K:=h2.mono z;have U:=h3.mono z;cases d with
 |string=>
  cases hv with
  |string s=>
   simp only[L];cases f.isSome;·refine(kB A9 _ _ I K (AD ⟨rfl,rfl⟩)).andThen ?_;rintro M b⟨l,Q,m⟩_ rfl;exact .AQ (.string _)
   exact .stuck
  |_=>exact .stuck
 |slice e=>
  cases hv with
  |HL l c=>refine(kB A3 _ _ I K U).andThen ?_;rintro M b⟨l,Q,m⟩_ rfl;refine(IY e).andThen ?_;rintro D y n _ rfl;refine .AQ ?_;simp only[Option.map_none,ite_self];exact .HL _ _
  |slice l c H=>
   refine(kB A3 _ _ I K U).andThen ?_;rintro M b⟨l,Q,m⟩_ rfl;refine(IY e).andThen ?_;rintro D y n _ rfl;refine .AQ ?_;simp only[LQ];split;·exact .slice _ _ ((H.mono b).mono y)
   exact .slice _ _ (((H.mono b).mono y).add _)
  |_=>exact .stuck
 |pointer N=>simp only;refine(k7 hv).andThen ?_;intro M b a a' H;refine(GN N).andThen ?_;rintro D y d2 _ rfl;cases d2 with|array n e=>simp only;refine(kB A9 _ _ ((I.mono b).mono y) ((K.mono b).mono y) ((U.mono b).mono y)).andThen ?_;rintro W R⟨l,Q,m⟩_ rfl;refine(IY e).andThen ?_;rintro X T n _ rfl;exact .AQ (.slice _ _ ((((H.mono y).mono R).mono T).pick _ _))|_=>exact .stuck
 |_=>cases hv<;>exact .stuck
def aVP{f j hi q A C:Option A1}(t:Aj)(h:AN F E v v')(y:LP F E f j)(h2:LP F E hi q)(h3:LP F E A C):AO P F so (CL F) E (a'o t v f hi A) (a'o t v' j q C):=by unfold a'o;refine(GN t).andThen ?_;rintro K b d _ rfl;cases d with|array n e=>simp only;refine(kC (h.mono b)).andThen ?_;intro M s a U I;refine(kB A9 _ _ ((y.mono b).mono s) ((h2.mono b).mono s) ((h3.mono b).mono s)).andThen ?_;rintro N z⟨l,C7,m⟩_ rfl;refine(IY e).andThen ?_;rintro Q H n _ rfl;exact .AQ (.slice _ _ (((I.mono z).mono H).pick _ _))|_=>exact aVO t (h.mono b) (y.mono b) (h2.mono b) (h3.mono b)
end
section
variable{P:Ap}{F:zy}{so:Dj}{E:AT}
inductive P4(F:zy)(E:AT):List (Nat×A1)->List (Nat×A1)->Prop|nil:P4 F E [] []|cons(i:Nat){v v':A1}{l hH:List (Nat×A1)}:AN F E v v'->P4 F E l hH->P4 F E ((i,v)::l) ((i,v')::hH)
def P4.mono{n3:AT}(b:E.le n3):∀{l d:List (Nat×A1)},P4 F E l d->P4 F n3 l d|_,_,.nil=>.nil|_,_,.cons i h t=>.cons i (h.mono b) (t.mono b)
def Aq.aBi(h:Aq F E c.toList c'.toList)(hv:AN F E v v')(i:Nat):Aq F E (c.setIfInBounds i v).toList (c'.setIfInBounds i v').toList:=by simpa using h.set hv i
def Aq.laid:∀(l b:List (A1×Nat))(off:Nat){c c':zw},Aq F E c.toList c'.toList->b.length=l.length->(∀(i:Nat)x x',l[i]?=Y x->b[i]?=Y x'->AN F E x.1 x'.1/\x'.2=x.2)->Aq F E (l.foldl (λcs(c,j)=>cs.setIfInBounds (off+j) c) c).toList (b.foldl (λcs(c,j)=>cs.setIfInBounds (off+j) c) c').toList|[],[],_,_,_,h,_,_=>h|[],_::_,_,_,_,_,AE,_=>by simp at AE|_::_,[],_,_,_,_,AE,_=>by simp at AE|(v,j)::l,(v',j')::b,off,c,c',h,AE,hk=>by obtain⟨s,h2⟩:=hk 0 _ _ rfl rfl;simp only at s h2;subst h2;exact Aq.laid l b off (h.aBi s _) (by simpa using AE) λi x x' e y=>hk (i+1) x x' (by simpa using e) (by simpa using y)
def hj(b:Nat->Option (Nat×Nat)):∀{l f:List (Nat×A1)}{c c' d:zw},P4 F E l f->Aq F E c.toList c'.toList->VJ b c l=Y d->∃z,VJ b c' f=Y z/\Aq F E d.toList z.toList
 |_,_,c,c',d,.nil,hc,e=>by simp only[VJ,Xa]at e⊢;subst e;exact⟨_,rfl,hc⟩
 |_,_,c,c',d,.cons i hv t,hc,e=>by
  rename_i v U l f;simp only[VJ]at e⊢;cases I:b i with
  |none=>rw[I]at e;simp at e
  |some q=>
   obtain⟨s,size⟩:=q;rw[I]at e;simp only at e⊢;have H:U.cells.size=v.cells.size:=by simpa using hv.cells.length
   have Q:c'.size=c.size:=by simpa using hc.length
   rw[H,Q];split at e;·cases e
   rename_i hn;rw[if_neg hn];refine hj b t ?_ e;have K:∀a:zw,a.zipIdx.toList=a.toList.zipIdx:=λa=>by simp
   rw[<-aCl,<-aCl,K,K];refine Aq.laid _ _ s hc (by simp[H]) λj x x' e1 e2=>?_;rw[List.getElem?_zipIdx]at e1 e2;cases h:v.cells.toList[j]? with|none=>rw[h]at e1;simp at e1|some y=>obtain⟨y',M,N⟩:=hv.cells.get j h;rw[h]at e1;rw[M]at e2;simp only[LQ,Xa]at e1 e2;subst e1 e2;exact⟨N,rfl⟩
def Aq.kY{z z':zw}(h:Aq F E z.toList z'.toList)(n:Nat):Aq F E ((qn n).map (z[·%z.size]!)).toList ((qn n).map (z'[·%z'.size]!)).toList:=by
 have y:z'.size=z.size:=by simpa using h.length
 refine Aq.of (by simp) λi v I e b=>?_;simp only[aCr,List.getElem?_map,Array.toList_range]at e b;cases g:(Hf n)[i]? with
 |none=>rw[g]at e;simp at e
 |some k=>
  rw[g]at e b;simp only[LQ,Xa]at e b;subst e b;rw[y];by_cases s:k%z.size<z.size
  ·obtain⟨H,AM,d⟩:=h.get (k%z.size) (v:=z[k%z.size]) (by simp[s]);have f:z'[k%z.size]?=Y H:=by simpa using AM
   rw[getElem!_pos z _ s,getElem!_pos z' _ (by omega)];obtain⟨_,j⟩:=Array.getElem?_eq_some_iff.1 f;rw[j];exact d
  rw[getElem!_neg z _ s,getElem!_neg z' _ (by omega)];exact .bool _
def aUk(j:Fit P F){l f:Array (Nat×A1)}(t:Aj)(n:Nat)(h:P4 F E l.toList f.toList):AO P F so (CL F) E (cI t n l) (cI t n f):=by
 unfold cI;refine(GN t).andThen ?_;rintro n3 m d _ rfl;cases d with
 |slice e=>
  simp only;refine(IY e).andThen ?_;rintro L q size _ rfl;have M:=(h.mono m).mono q;split;·exact .Cs
  split
  ·refine AO.andThen (Q:=RA F) (.AQ .nil) ?_;intro N s z z' K;try dsimp only
   cases g:VJ (λi=>Y (i*size,size)) ((qn (n*size)).map (z[·%z.size]!)) l.toList with|none=>exact .stuck|some d=>obtain⟨A,b,I⟩:=hj _ (M.mono s) ((K).kY (n*size)) g;rw[b];dsimp only;refine(Rp e I).andThen ?_;intro U C a a' H;exact .AQ (.slice _ _ H)
  refine(MM j e).andThen ?_;intro N s y y' hy;refine AO.andThen (Q:=RA F) (.AQ hy.cells) ?_;intro R D z z' K;try dsimp only
  cases g:VJ (λi=>Y (i*size,size)) ((qn (n*size)).map (z[·%z.size]!)) l.toList with|none=>exact .stuck|some d=>obtain⟨A,b,I⟩:=hj _ ((M.mono s).mono D) ((K).kY (n*size)) g;rw[b];dsimp only;refine(Rp e I).andThen ?_;intro U C a a' H;exact .AQ (.slice _ _ H)
 |_=>exact .stuck
end
section
variable{P:Ap}{F:zy}{so:Dj}{E:AT}
def AO.Hi{Q:AT->bv->bv->Prop}{s d:BU bv}(h:BQ P s):AO P F so Q E s d:=.dead d h
def PR:FE P cm:=.program (.pure _)
def Rf(t:Aj):FE P (Jc t):=by
 unfold Jc;refine FE.bind PR λp=>?_;split;·exact .pure _
 exact .dead (BQ.halt _)
def Re(t:Aj):FE P (Q2 t):=by
 unfold Q2;refine FE.bind PR λp=>?_;split;·exact .pure _
 exact .dead (BQ.halt _)
def a9Z(t:Aj):FE P (Tz t):=by
 unfold Tz;refine FE.bind (Rf t) λp=>?_;split;·exact .pure _
 exact .dead (BQ.halt _)
def Us(t:Aj):FE P (typeStr t):=by
 unfold typeStr;refine FE.bind (Re t) λp=>?_;dsimp only;split;·exact .dead (BQ.halt _)
 exact .pure _
def OQ(q:sF):FE P (Ty q):=λ_ _ _ _ _ e=>by unfold Ty at e;simp only[DQ]at e;split at e<;>cases e
def Uq(m:fz):FE P (mark m):=λ_ _ _ _ _ e=>by cases e
def aS_(a:Ak):FE P (frozen a):=λ_ _ _ _ _ e=>by cases e
def aSa(r:Nat):FE P (shape r):=λ_ _ _ _ _ e=>by cases e
def a9_(a:Ak)(n:Nat):FE P (kl a n):=by unfold kl;refine FE.bind (aSa _) λs=>?_;first|exact .pure _|(split<;>exact .pure _)
def Ur(a b c:Nat)(base:Option Ak)(x:A1):FE P (r' a b c base x):=by
 unfold r';have s:FE P (match x with|A4 (Y y) _ _=>do FX (!(<-kl y (c*a))||base.any (·.block==y.block))|_=>FX A9:BU Bool):=by
  split;·exact FE.bind (a9_ _ _) λ_=>.pure _
  exact .pure _
 cases base with
 |none=>exact s
 |some y=>
  dsimp only;refine FE.bind (a9_ _ _) λu=>?_;refine FE.bind (aS_ _) λv=>?_;refine FE.bind (FE.pure (u&&!v)) λh=>?_;cases h;·exact .pure _
  exact s
def a9a(t:Aj)(v:A1):FE P (ls t v):=λ_ _ _ _ _ e=>by cases e
def Gx(e:a19):BQ P (SO e:BU bv):=by unfold SO;refine BQ.behind (s:=cm) PR λp=>?_;cases e with|typeAssertion i c a m=>exact BQ.behind (a9Z _) λ_=>BQ.behind (a9a _ _) λ_=>BQ.halt _|panicNil=>exact BQ.behind (a9Z _) λ_=>BQ.behind (a9a _ _) λ_=>BQ.halt _|_=>exact BQ.halt _
def Rq{Q:AT->bv->bv->Prop}(e:a19){s:BU bv}:AO P F so Q E (SO e) s:=.Hi (Gx e)
def Y_(n:Nat):AO P F so P5 E (cg n) (cg n):=by
 unfold cg;split;·exact .mark .noRoom (.pure trivial)
 exact .AQ trivial
def aV8(t:Aj)(h:AN F E v v'):AO P F so (CL F) E (a'l t v) (a'l t v'):=by unfold a'l;refine(GN t).andThen ?_;rintro s b d _ rfl;cases d with|interface m=>exact .stuck|_=>exact .AQ (.iface t (h.mono b))
def aV7{a a' b b':zw}(f:Nat)(s:F f)(h:Aq F E a.toList a'.toList)(k:Aq F E b.toList b'.toList):AO P F so (CL F) E (aDq (Ek f) a b) (aDq (Ek f) a' b'):=.AQ (.func s h k)
def aV9{o o':Option A1}(t:Aj)(h:LP F E o o'):AO P F so (CL F) E (cJ t o) (cJ t o'):=by
 unfold cJ;rcases h with⟨rfl,rfl⟩|⟨v,M,rfl,rfl,hv⟩;·exact .new (.map 0 .nil) λb y s=>.pure (.map (AT.Sf _ _ _ s))
 simp only;refine(GN t).andThen ?_;rintro H z d _ rfl;cases d with|map k e=>simp only;refine(TY (hv.mono z)).andThen ?_;rintro I K n _ rfl;exact .new (.map 0 .nil) λb y s=>.pure (.map (AT.Sf _ _ _ s))|_=>exact .stuck
def aVA(j:Fit P F){l f c c':A1}(t:Aj)(h:AN F E l f)(k:AN F E c c'):AO P F so (CL F) E (fv t l c) (fv t f c'):=by
 unfold fv;refine(GN t).andThen ?_;rintro n3 H d _ rfl;cases d with
 |slice e=>
  simp only;refine(TY (h.mono H)).andThen ?_;rintro A N n _ rfl;refine(TY ((k.mono H).mono N)).andThen ?_;rintro C D m _ rfl;refine(IG e).andThen ?_;rintro L R i _⟨rfl,_⟩;split
  ·split;·exact .Hi (BQ.bind (Gx _))
   split;·exact .Hi (BQ.bind (Gx _))
   exact .Hi (BQ.behind (by first|exact OQ _|exact Uq _|exact Ur _ _ _ _ _|exact Us _|exact Re _|exact Rf _|exact PR) λ_=>BQ.bind (Gx _))
  refine(Y_ _).andThen ?_;intro T W _ _ _;refine(IY e).andThen ?_;rintro X Ik qI _ rfl;try dsimp only
  split;·refine AO.andThen (Q:=RA F) (.AQ .nil) ?_;intro I U z z' s;refine(Rp e (s.kY _)).andThen ?_;intro K q a M b;exact .AQ (.slice _ _ b)
  refine(MM j e).andThen ?_;intro I U y y' hy;refine AO.andThen (Q:=RA F) (.AQ hy.cells) ?_;intro bu UP z z' s;refine(Rp e (s.kY _)).andThen ?_;intro K q a M b;exact .AQ (.slice _ _ b)
 |_=>exact .stuck
def ec(h:AN F E v v'):AO P F so FH E (qz v) (qz v'):=by cases h with|HL l c=>exact .AQ rfl|slice l c h=>exact .AQ rfl|string s=>exact .AQ rfl|_=>exact .stuck
def Aq.self:∀{l:List A1},(∀v∈l,AN F E v v)->Aq F E l l|[],_=>.nil|_::_,h=>.cons (h _ (Je ..)) (Aq.self λv hv=>h v (Jd _ hv))
def Ng(y n:Nat)(h:AN F E v v'):AO P F so (RA F) E (qy y n v) (qy y n v'):=by cases h with|HL l c=>exact .AQ .nil|slice l c h=>exact ye h _|string s=>refine .AQ ?_;refine Aq.self λv hv=>?_;have z:v∈(s.extract 0 n).data.map λb=>A7 .u8 b.toNat:=Array.mem_toList_iff.1 hv;obtain⟨b,_,rfl⟩:=Array.mem_map.1 z;exact .int _ _|_=>exact .stuck
def Aq.zeroCells{z z':zw}(h:Aq F E z.toList z'.toList)(n:Nat):Aq F E (Nv z n).toList (Nv z' n).toList:=by
 unfold Nv;have b:z'.size=z.size:=by simpa using h.length
 have:=h.kY (n*z.size);rw[b]at this⊢;exact this
def aB9(t:Aj):AO P F so (λ_ a b=>a=b/\P.underlying t=Y a) E (Jc t) (Jc t):=by unfold Jc;refine .prog ?_;cases P.underlying t with|none=>exact .stuck|some d=>exact .AQ ⟨rfl,rfl⟩
def aUd(CW:Fit P F){s C9:A1}(ts:Array Aj)(t:Aj)(h:AN F E s C9)(k:AN F E x x')(oT:∀u,ts[1]?=Y u->∀q,P.underlying u≠Y (R5 q)):AO P F so (CL F) E (VF ts t #[s,x]) (VF ts t #[C9,x']):=by
 unfold VF;cases AP:ts[0]? with
 |none=>exact .stuck
 |some yo=>
  simp only[VY,m_,a2V];refine(GN yo).andThen ?_;rintro n3 U d _ rfl;cases d with
  |slice e=>
   have h2:=h.mono U;cases h2 with
   |HL l c=>
    dsimp only;refine(IY e).andThen ?_;rintro C4 H y _ rfl;cases h1:ts[1]? with
    |none=>
     dsimp only;refine AO.andThen (Q:=λ_ a a'=>a=A9/\a'=A9) (.AQ ⟨rfl,rfl⟩) ?_;rintro ER I _ _⟨rfl,rfl⟩;simp only[EJ,if_false,VB,if_true,false_or];refine(ec (((k.mono U).mono H).mono I)).andThen ?_;rintro Gq K n _ rfl;split;·refine(Ng y n ((((k.mono U).mono H).mono I).mono K)).andThen ?_;intro C M N D f;exact .AQ (.HL _ _)
     refine(IG e).andThen ?_;rintro C M i _⟨rfl,_⟩;split;·exact .Hi (BQ.bind (Gx _))
     refine(IG e).andThen ?_;rintro Qx m j _⟨rfl,_⟩;split;·exact .Hi (BQ.bind (BQ.behind (by first|exact OQ _|exact Uq _|exact Ur _ _ _ _ _|exact Us _|exact Re _|exact Rf _|exact PR) λ_=>by split<;>first|exact BQ.behind (by first|exact OQ _|exact Uq _|exact Ur _ _ _ _ _|exact Us _|exact Re _|exact Rf _|exact PR) λ_=>BQ.halt _|exact BQ.halt _))
     refine .choose _ λL=>?_;refine(IG e).andThen ?_;rintro Z6 R ON _⟨rfl,_⟩;refine(Y_ _).andThen ?_;intro Z7 T _ _ _;have A:=λ(v v':A1)(hv:AN F n3 v v')=>((((((hv.mono H).mono I).mono K).mono M).mono m).mono R).mono T;refine(Ng y _ (A _ _ (.HL l c:AN F n3 _ _))).andThen ?_;intro bu W old Ux X;refine(Ng y n ((A _ _ (k.mono U)).mono W)).andThen ?_;intro fT Sp N D f;refine(MM CW e).andThen ?_;intro fU Sq z z' el;refine(Rp e ?_).andThen ?_;·have:=(((X.mono Sp).append f).mono Sq).append (el.cells.zeroCells (L-(l+n)));simpa using this
     intro fV iC b b' hb;exact .AQ (.slice _ _ hb)
    |some u=>
     dsimp only;refine(aB9 u).andThen ?_;rintro qv aU d2 _⟨rfl,AS⟩;replace H:=AT.le_trans H aU;refine AO.andThen (Q:=λ_ a a'=>a=A9/\a'=A9) (.AQ ?_) ?_;·cases d2 with|int q=>exact absurd AS (oT u h1 q)|_=>exact⟨rfl,rfl⟩
     skip;rintro ER I _ _⟨rfl,rfl⟩;simp only[EJ,if_false,VB,if_true,false_or];refine(ec (((k.mono U).mono H).mono I)).andThen ?_;rintro Gq K n _ rfl;split;·refine(Ng y n ((((k.mono U).mono H).mono I).mono K)).andThen ?_;intro C M N D f;exact .AQ (.HL _ _)
     refine(IG e).andThen ?_;rintro C M i _⟨rfl,_⟩;split;·exact .Hi (BQ.bind (Gx _))
     refine(IG e).andThen ?_;rintro Qx m j _⟨rfl,_⟩;split;·exact .Hi (BQ.bind (BQ.behind (by first|exact OQ _|exact Uq _|exact Ur _ _ _ _ _|exact Us _|exact Re _|exact Rf _|exact PR) λ_=>by split<;>first|exact BQ.behind (by first|exact OQ _|exact Uq _|exact Ur _ _ _ _ _|exact Us _|exact Re _|exact Rf _|exact PR) λ_=>BQ.halt _|exact BQ.halt _))
     refine .choose _ λL=>?_;refine(IG e).andThen ?_;rintro Z6 R ON _⟨rfl,_⟩;refine(Y_ _).andThen ?_;intro Z7 T _ _ _;have A:=λ(v v':A1)(hv:AN F n3 v v')=>((((((hv.mono H).mono I).mono K).mono M).mono m).mono R).mono T;refine(Ng y _ (A _ _ (.HL l c:AN F n3 _ _))).andThen ?_;intro bu W old Ux X;refine(Ng y n ((A _ _ (k.mono U)).mono W)).andThen ?_;intro fT Sp N D f;refine(MM CW e).andThen ?_;intro fU Sq z z' el;refine(Rp e ?_).andThen ?_;·have:=(((X.mono Sp).append f).mono Sq).append (el.cells.zeroCells (L-(l+n)));simpa using this
     intro fV iC b b' hb;exact .AQ (.slice _ _ hb)
   |slice l c AB=>
    dsimp only;refine(IY e).andThen ?_;rintro C4 H y _ rfl;cases h1:ts[1]? with
    |none=>
     dsimp only;refine AO.andThen (Q:=λ_ a a'=>a=A9/\a'=A9) (.AQ ⟨rfl,rfl⟩) ?_;rintro ER I _ _⟨rfl,rfl⟩;simp only[EJ,if_false,VB,if_true,false_or];refine(ec (((k.mono U).mono H).mono I)).andThen ?_;rintro Gq K n _ rfl;split;·refine(Ng y n ((((k.mono U).mono H).mono I).mono K)).andThen ?_;intro C M N D f;refine(ba 0 (((((AB.mono H).mono I).mono K).mono M).add _) f).andThen ?_;intro Qx m _ _ _;exact .AQ (.slice _ _ (((((AB.mono H).mono I).mono K).mono M).mono m))
     refine(IG e).andThen ?_;rintro C M i _⟨rfl,_⟩;split;·exact .Hi (BQ.bind (Gx _))
     refine(IG e).andThen ?_;rintro Qx m j _⟨rfl,_⟩;split;·exact .Hi (BQ.bind (BQ.behind (by first|exact OQ _|exact Uq _|exact Ur _ _ _ _ _|exact Us _|exact Re _|exact Rf _|exact PR) λ_=>by split<;>first|exact BQ.behind (by first|exact OQ _|exact Uq _|exact Ur _ _ _ _ _|exact Us _|exact Re _|exact Rf _|exact PR) λ_=>BQ.halt _|exact BQ.halt _))
     refine .choose _ λL=>?_;refine(IG e).andThen ?_;rintro Z6 R ON _⟨rfl,_⟩;refine(Y_ _).andThen ?_;intro Z7 T _ _ _;have A:=λ(v v':A1)(hv:AN F n3 v v')=>((((((hv.mono H).mono I).mono K).mono M).mono m).mono R).mono T;refine(Ng y _ (A _ _ (.slice l c AB:AN F n3 _ _))).andThen ?_;intro bu W old Ux X;refine(Ng y n ((A _ _ (k.mono U)).mono W)).andThen ?_;intro fT Sp N D f;refine(MM CW e).andThen ?_;intro fU Sq z z' el;refine(Rp e ?_).andThen ?_;·have:=(((X.mono Sp).append f).mono Sq).append (el.cells.zeroCells (L-(l+n)));simpa using this
     intro fV iC b b' hb;exact .AQ (.slice _ _ hb)
    |some u=>
     dsimp only;refine(aB9 u).andThen ?_;rintro qv aU d2 _⟨rfl,AS⟩;replace H:=AT.le_trans H aU;refine AO.andThen (Q:=λ_ a a'=>a=A9/\a'=A9) (.AQ ?_) ?_;·cases d2 with|int q=>exact absurd AS (oT u h1 q)|_=>exact⟨rfl,rfl⟩
     skip;rintro ER I _ _⟨rfl,rfl⟩;simp only[EJ,if_false,VB,if_true,false_or];refine(ec (((k.mono U).mono H).mono I)).andThen ?_;rintro Gq K n _ rfl;split;·refine(Ng y n ((((k.mono U).mono H).mono I).mono K)).andThen ?_;intro C M N D f;refine(ba 0 (((((AB.mono H).mono I).mono K).mono M).add _) f).andThen ?_;intro Qx m _ _ _;exact .AQ (.slice _ _ (((((AB.mono H).mono I).mono K).mono M).mono m))
     refine(IG e).andThen ?_;rintro C M i _⟨rfl,_⟩;split;·exact .Hi (BQ.bind (Gx _))
     refine(IG e).andThen ?_;rintro Qx m j _⟨rfl,_⟩;split;·exact .Hi (BQ.bind (BQ.behind (by first|exact OQ _|exact Uq _|exact Ur _ _ _ _ _|exact Us _|exact Re _|exact Rf _|exact PR) λ_=>by split<;>first|exact BQ.behind (by first|exact OQ _|exact Uq _|exact Ur _ _ _ _ _|exact Us _|exact Re _|exact Rf _|exact PR) λ_=>BQ.halt _|exact BQ.halt _))
     refine .choose _ λL=>?_;refine(IG e).andThen ?_;rintro Z6 R ON _⟨rfl,_⟩;refine(Y_ _).andThen ?_;intro Z7 T _ _ _;have A:=λ(v v':A1)(hv:AN F n3 v v')=>((((((hv.mono H).mono I).mono K).mono M).mono m).mono R).mono T;refine(Ng y _ (A _ _ (.slice l c AB:AN F n3 _ _))).andThen ?_;intro bu W old Ux X;refine(Ng y n ((A _ _ (k.mono U)).mono W)).andThen ?_;intro fT Sp N D f;refine(MM CW e).andThen ?_;intro fU Sq z z' el;refine(Rp e ?_).andThen ?_;·have:=(((X.mono Sp).append f).mono Sq).append (el.cells.zeroCells (L-(l+n)));simpa using this
     intro fV iC b b' hb;exact .AQ (.slice _ _ hb)
   |_=>exact .stuck
  |_=>exact .stuck
end
section
variable{P:Ap}{F:zy}{so:Dj}{E:AT}
def E1.length:∀{l d:List G1},E1 F E l d->d.length=l.length|_,_,.nil=>rfl|_,_,.cons _ _ t=>congrArg (·+1) t.length
def aV4(ts:Array Aj)(t:Aj)(h:AN F E x x'):AO P F so (CL F) E (km ts t #[x]) (km ts t #[x']):=by
 unfold km;cases ts[0]? with
 |none=>exact .stuck
 |some u=>
  simp only[VY,m_];refine(GN u).andThen ?_;rintro H K d _ rfl;have h2:=h.mono K;cases d with
  |array n e=>exact .AQ (.int _ _)
  |pointer a=>
   dsimp only;refine(GN a).andThen ?_;rintro U f I _ rfl;cases I with
   |array n e=>exact .AQ (.int _ _)
   |_=>exact .stuck
  |string=>
   cases h2 with
   |string s=>exact .AQ (.int _ _)
   |_=>exact .stuck
  |slice e=>
   cases h2 with
   |HL l c=>exact .AQ (.int _ _)
   |slice l c AB=>exact .AQ (.int _ _)
   |_=>exact .stuck
  |map k e=>
   cases h2 with
   |Rg=>exact .AQ (.int _ _)
   |map z=>
    refine .getObj z λo Q y=>?_;cases y with
    |map n N=>have:=N.length;simp only[Nq]at this;show AO P F so (CL F) H (FX _) (FX _);rw[this];exact .AQ (.int _ _)
    |_=>exact .stuck
   |_=>exact .stuck
  |chan a b=>
   cases h2 with
   |Xl=>exact .AQ (.int _ _)
   |chan z=>
    refine .getObj z λo Q y=>?_;cases y with
    |chan cap cl s r tm M=>have:=M.length;simp only[Nq]at this;show AO P F so (CL F) H (FX _) (FX _);rw[this];exact .AQ (.int _ _)
    |_=>exact .stuck
   |_=>exact .stuck
  |_=>cases h2<;>exact .stuck
def aUn(ts:Array Aj)(t:Aj)(h:AN F E x x'):AO P F so (CL F) E (a'6 ts t #[x]) (a'6 ts t #[x']):=by
 unfold a'6;cases ts[0]? with
 |none=>exact .stuck
 |some u=>
  simp only[VY,m_];refine(GN u).andThen ?_;rintro K z d _ rfl;have h2:=h.mono z;cases d with
  |array n e=>exact .AQ (.int _ _)
  |pointer a=>
   dsimp only;refine(GN a).andThen ?_;rintro M N y _ rfl;cases y with
   |array n e=>exact .AQ (.int _ _)
   |_=>exact .stuck
  |slice e=>
   cases h2 with
   |HL l c=>exact .AQ (.int _ _)
   |slice l c Q=>exact .AQ (.int _ _)
   |_=>exact .stuck
  |chan a b=>
   cases h2 with
   |Xl=>exact .AQ (.int _ _)
   |chan I=>
    refine .getObj I λo o' H=>?_;cases H with
    |chan cap cl s r tm U=>exact .AQ (.int _ _)
    |_=>exact .stuck
   |_=>exact .stuck
  |_=>cases h2<;>exact .stuck
def aUs(ts:Array Aj)(t:Aj)(h:AN F E x x')(k:AN F E y y'):AO P F so (CL F) E (a'8 ts t #[x,y]) (a'8 ts t #[x',y']):=by
 unfold a'8;cases ts[0]? with
 |none=>exact .stuck
 |some u=>
  simp only[VY,m_,a2V];refine(GN u).andThen ?_;rintro n3 b d _ rfl;have h2:=h.mono b;cases d with
  |slice e=>
   cases h2 with
   |HL l c=>dsimp only;refine(ec (k.mono b)).andThen ?_;rintro M s n _ rfl;refine(IY e).andThen ?_;rintro N z m _ rfl;refine(Ng m _ (((k.mono b).mono s).mono z)).andThen ?_;intro Q I cs H K;exact .AQ (.int _ _)
   |slice l c U=>dsimp only;refine(ec (k.mono b)).andThen ?_;rintro M s n _ rfl;refine(IY e).andThen ?_;rintro N z m _ rfl;refine(Ng m _ (((k.mono b).mono s).mono z)).andThen ?_;intro Q I cs H K;refine(ba 0 (((U.mono s).mono z).mono I) K).andThen ?_;intro f j _ _ _;exact .AQ (.int _ _)
   |_=>exact .stuck
  |_=>exact .stuck
inductive UF(P:Ap)(F:zy):BU A1->Prop|AQ{v:A1}:(∀E,AN F E v v)->UF P F (Jz v)|dead{s:BU A1}:BQ P s->UF P F s
def UF.We(h:UF P F s):AO P F so (CL F) E s s:=by cases h with|AQ h=>exact .pure (h E)|dead h=>exact .Hi h
def aC5(b:JY)(k:KJ)(x y:Int):UF P F (rl b k x y):=by unfold rl;split<;>first|exact .AQ λ_=>.int _ _|exact .dead (BQ.halt _)
def aXk(b:JY)(k:KJ)(x y:Int):UF P F (rp b k x y):=by
 unfold rp;split;·exact .dead (Gx _)
 split<;>first|exact .AQ λ_=>.int _ _|exact .dead (BQ.halt _)
def aC6(b:JY)(k:KJ)(x y:Int):UF P F (rm b k x y):=by unfold rm;dsimp only;split<;>first|exact .AQ λ_=>.int _ _|exact .dead (BQ.halt _)
def aXl(b:JY)(k q:KJ)(x y:Int):UF P F (rq b k x q y):=by
 unfold rq;split;·exact .dead (Gx _)
 dsimp only;split<;>first|exact .AQ λ_=>.int _ _|exact .dead (BQ.halt _)
def aXj(b:JY)(x y:Int):UF P F (rn b x y):=by unfold rn;split<;>first|exact .AQ λ_=>.bool _|exact .dead (BQ.halt _)
def aC7(b:JY)(x y:zz):UF P F (cP b x y):=by
 unfold cP;dsimp only;split
 ·split;·exact .dead (BQ.halt _)
  exact .AQ λ_=>.string _
 all_goals first|exact .AQ λ_=>.bool _|exact .dead (BQ.halt _)
def aVW(b:UnOp)(h:AN F E x x'):AO P F so (CL F) E (lO b x) (lO b x'):=by unfold lO;cases b<;>cases h<;>first|exact(aC5 _ _ _ _).We|exact(aC6 _ _ _ _).We|exact .AQ (.bool _)|exact .stuck|exact .Cs
end
section
variable{P:Ap}{F:zy}{so:Dj}{E:AT}
inductive a7{By:Type}(Q:AT->By->By->Prop)(E:AT):ForInStep By->ForInStep By->Prop|yield{b b':By}:Q E b b'->a7 Q E (a'4 b) (a'4 b')|done{b b':By}:Q E b b'->a7 Q E (.done b) (.done b')
def AO.forIn{bv By:Type}{Q:AT->By->By->Prop}{f f':bv->By->BU (ForInStep By)}:∀(l:List bv){E:AT}{b b':By},(∀z,E.le z->∀x,x∈l->∀b b',Q z b b'->AO P F so (a7 Q) z (f x b) (f' x b'))->Q E b b'->AO P F so Q E (Wo l b f) (Wo l b' f')|[],_,_,_,_,h=>by simp only[a2T];exact .AQ h|x::l,E,b,b',AK,h=>by simp only[a2S];refine(AK E (AT.le_refl _) x (Je ..) b b' h).andThen ?_;intro z K s N hs;cases hs with|done H=>exact .AQ H|yield H=>exact AO.forIn l (λI M y hy=>AK I (AT.le_trans K M) y (Jd _ hy)) H
def AO.uf{Q:AT->By->By->Prop}{f f':bv->By->BU (ForInStep By)}(l:Array bv){b b':By}(z:∀s,E.le s->∀x,x∈l->∀b b',Q s b b'->AO P F so (a7 Q) s (f x b) (f' x b'))(h:Q E b b'):AO P F so Q E (Wo l b f) (Wo l b' f'):=by rw[<-kg,<-kg];exact AO.forIn l.toList (λs y x hx=>z s y x (by simpa using hx)) h
inductive te:AT->Option (Ak×Aj)->Option (Ak×Aj)->Prop|none{E:AT}:te E none none|some{E:AT}{a a':Ak}(t:Nat):veiled t->Cf E a a'->te E (some (a,t)) (some (a',t))
def q4{r As:Nat}(h:E.rel r As):AO P F so te E (mB r) (mB As):=by unfold mB;refine .shape h λs=>?_;cases s with|some s=>exact .pure .none|none=>refine .getObj h λo z y=>?_;cases y with|view t v b=>exact .pure (.some t v b)|_=>exact .pure .none
def yf(h:Cf E a a'):AO P F so P5 E (lu a) (lu a'):=by unfold lu;refine(q4 h.1).andThen ?_;intro b s x z hx;cases hx with|none=>exact .AQ trivial|some t v y=>exact .Cs
def bZ(h:Cf E a a'):AO P F so FH E (lj a) (lj a'):=by
 obtain⟨b,Q,K⟩:=a;obtain⟨M,z,H⟩:=a';obtain⟨y,h2,h3⟩:=h;simp only at y h2 h3;subst h2 h3;unfold lj;cases H with
 |some s=>exact .AQ rfl
 |none=>
  refine .prog ?_;refine(yf (a:=⟨b,z,Z⟩) (a':=⟨M,z,Z⟩) ⟨y,rfl,rfl⟩).andThen ?_;rintro U N _ _ _;refine .shape (N _ _ y) λs=>?_;cases s with
  |none=>exact .stuck
  |some s=>
   obtain⟨e,n⟩:=s;simp only[Dx];by_cases I:P.cellsOf e=0;·simp only[I,if_true];exact .pure rfl
   simp only[I,if_false];cases sS P P.depth e (z%P.cellsOf e)with|none=>exact .stuck|some _=>exact .AQ rfl
def aVJ(h:Cf E a a')(c n:Nat):AO P F so Xc E (ly a c n) (ly a' c n):=by
 unfold ly;refine(bZ h).andThen ?_;rintro s z x _ rfl;have hp:Cf s {block:=a.block,off:=a.off+c} {block:=a'.block,off:=a'.off+c}:=⟨z _ _ h.1,by simp only[h.2.1],rfl⟩;refine(bZ hp).andThen ?_;rintro H b y _ rfl;by_cases he:y=x+n;·simp only[he,if_true];exact .AQ (hp.mono b)
 simp only[he,if_false];exact .AQ ⟨(hp.mono b).1,hp.2.1,rfl⟩
def yb(h:Cf E a a')(f:ft):AO P F so Xc E (ll a f) (ll a' f):=by
 unfold ll;refine(IY f.type).andThen ?_;rintro y b n _ rfl;by_cases s:n=0;·simp only[s,if_true];exact aVJ (h.mono b) f.offset f.byteOffset
 simp only[s,if_false];exact .AQ ((h.mono b).add f.offset)
def aV0(t:Aj)(h:AN F E v v')(i:Nat):AO P F so (CL F) E (l4 t v i) (l4 t v' i):=by
 unfold l4;refine(GN t).andThen ?_;rintro I y d _ rfl;cases d with
 |struct s=>
  simp only;cases s[i]? with
  |none=>exact .stuck
  |some f=>simp only;refine(kC (h.mono y)).andThen ?_;intro K U a N z;refine(yb z f).andThen ?_;intro M e b Q H;exact .AQ (.ptr H)
 |_=>exact .stuck
end
section
variable{P:Ap}{F:zy}{so:Dj}{E:AT}
def aAt{bv By:Type}{g:By->bv->BU By}(h:∀(E:AT)b x,AO P F so FH E (g b x) (g b x)):∀(l:List bv){E:AT}(b:By),AO P F so FH E (l.foldlM g b) (l.foldlM g b)|[],_,_=>.AQ rfl|x::l,E,b=>by simp only[mY];refine(h E b x).andThen ?_;rintro s z y _ rfl;exact aAt h l y
def aVC{g:bv->BU By}(h:∀(E:AT)x,AO P F so FH E (g x) (g x))(l:Array bv):AO P F so FH E (l.mapM g) (l.mapM g):=by rw[ki,<-k_];refine aAt (λE b x=>?_) l.toList _;refine(h E x).andThen ?_;rintro s z y _ rfl;exact .AQ rfl
def aUj(m:Fit P F){l j:Array (Nat×A1)}(t:Aj)(h:P4 F E l.toList j.toList):AO P F so (CL F) E (l2 t l) (l2 t j):=by
 unfold l2;refine(MM m t).andThen ?_;intro C q z z' A;refine(GN t).andThen ?_;rintro D K d _ rfl;have N:=(A.mono K).cells;have M:=(h.mono q).mono K;cases d with
 |struct fs=>
  simp only;refine(aVC (g:=λf:ft=>do FX (f.offset,<-Q0 f.type)) (λE f=>?_) fs).andThen ?_;·refine(IY f.type).andThen ?_;rintro n3 _ n _ rfl;exact .AQ rfl
  rintro Q y b _ rfl;cases g:VJ (b[·]?) z.cells l.toList with|none=>exact .stuck|some d=>obtain⟨U,H,I⟩:=hj _ (M.mono y) (N.mono y) g;rw[H];exact .AQ (.agg I)
 |array n e=>simp only;refine(IY e).andThen ?_;rintro Q y s _ rfl;cases g:VJ (λi=>Y (i*s,s)) z.cells l.toList with|none=>exact .stuck|some d=>obtain⟨U,H,I⟩:=hj _ (M.mono y) (N.mono y) g;rw[H];exact .AQ (.agg I)
 |_=>exact .stuck
end
section
variable{P:Ap}{F:zy}{so:Dj}{E:AT}
def AO.same{s d:BU (ForInStep By)}(h:AO P F so FH E s d):AO P F so (a7 FH) E s d:=h.weaken λy _ a z e=>by cases e;cases a with|done b=>exact .done rfl|yield b=>exact .yield rfl
def AO.ug{Q:AT->By->By->Prop}{f f':Nat->By->BU (ForInStep By)}(r:a_R){b b':By}(z:∀s,E.le s->∀x b b',Q s b b'->AO P F so (a7 Q) s (f x b) (f' x b'))(h:Q E b b'):AO P F so Q E (Wo r b f) (Wo r b' f'):=by rw[aHb,aHb];exact AO.forIn _ (λs y x _=>z s y x) h
def pz:∀(d:Nat){E:AT}(t:Aj){x x' y y':A1},AN F E x x'->AN F E y y'->AO P F so FH E (lK d t x y) (lK d t x' y')
 |0,_,_,_,_,_,_,_,_=>.Cs
 |d+1,E,t,x,x',y,y',hx,hy=>by
  unfold lK;refine(GN t).andThen ?_;rintro C N u _ rfl;replace hx:=hx.mono N;replace hy:=hy.mono N;cases u with
  |interface ms=>cases hx with|nilIface=>cases hy<;>exact .AQ rfl|_=>exact .AQ rfl
  |struct fs=>
   cases hx with
   |agg hx=>
    cases hy with
    |agg hy=>
     dsimp only;refine(AO.uf (Q:=FH) fs (λH z f _ b b' e=>?_) rfl).andThen ?_
     ·cases e;refine AO.same ?_;split;·refine(Qo f.type (hx.mono z) f.offset).andThen ?_;intro j I v v' hv;refine(Qo f.type ((hy.mono z).mono I) f.offset).andThen ?_;intro m K w w' M;refine(pz d f.type (hv.mono K) M).andThen ?_;rintro q A r _ rfl;split<;>exact .AQ rfl
      exact .AQ rfl
     rintro H z r _ rfl;split<;>exact .AQ rfl
    |_=>exact .AQ rfl
   |_=>exact .AQ rfl
  |array n e=>
   cases hx with
   |agg hx=>
    cases hy with
    |agg hy=>
     dsimp only;refine(IY e).andThen ?_;rintro D U s _ rfl;replace hx:=hx.mono U;replace hy:=hy.mono U;refine(AO.ug (Q:=FH) _ (λH z f b b' h=>?_) rfl).andThen ?_;·cases h;refine AO.same ?_;refine(Qo e (hx.mono z) (f*s)).andThen ?_;intro j I v v' hv;refine(Qo e ((hy.mono z).mono I) (f*s)).andThen ?_;intro m K w w' M;refine(pz d e (hv.mono K) M).andThen ?_;rintro q A r _ rfl;split<;>exact .AQ rfl
     rintro H z r _ rfl;split<;>exact .AQ rfl
    |_=>exact .AQ rfl
   |_=>exact .AQ rfl
  |_=>exact .AQ rfl
end
section
variable{P:Ap}{F:zy}{so:Dj}{E:AT}
def Nh(t:Aj):AO P F so (λ_ a b=>a=b/\P.underlying t=Y a) E (Jc t) (Jc t):=by unfold Jc;refine .prog ?_;cases P.underlying t with|none=>exact .stuck|some d=>exact .AQ ⟨rfl,rfl⟩
def aB4{r As:Nat}(h:E.rel r As):AO P F so (λE a b=>a=Z/\b=Z∨∃x y l,a=Y (x,l)/\b=Y (y,l)/\Cf E x y) E (lv r) (lv As):=by unfold lv;refine .shape h λs=>?_;cases s with|some s=>exact .pure (AD ⟨rfl,rfl⟩)|none=>refine .getObj h λo I H=>?_;cases H with|number l z=>exact .pure (AJ ⟨_,_,_,rfl,rfl,z⟩)|_=>exact .pure (AD ⟨rfl,rfl⟩)
def bY(h:Cf E a a'):AO P F so (λE p DL=>DL.2=p.2/\Cf E p.1 DL.1) E (lg a) (lg a'):=by
 unfold lg;refine(aB4 h.1).andThen ?_;rintro s b _ _(⟨rfl,rfl⟩|⟨x,y,l,rfl,rfl,hx⟩);·exact .AQ ⟨rfl,h.mono b⟩
 exact .AQ ⟨rfl,hx⟩
def Cf.same{b:Ak}(K:Cf E a a')(M:Cf E b b'):(a'==b')=(a==b):=by obtain⟨x,o,s⟩:=a;obtain⟨N,U,d⟩:=a';obtain⟨y,q,r⟩:=b;obtain⟨Q,f,As⟩:=b';obtain⟨h,h2,h3⟩:=K;obtain⟨z,H,I⟩:=M;simp only at h h2 h3 z H I;subst h2 h3 H I;have e:N=Q↔x=y:=⟨λe=>by subst e;exact E.other _ _ _ h z,λe=>by subst e;exact E.one _ _ _ h z⟩;rw[VA,beq_iff_eq,beq_iff_eq];simp only[aZj,e]
def Cf.yq{b:Ak}(AB:Cf E a a')(hb:Cf E b b'):(a'.block==b'.block)=(a.block==b.block):=by rw[VA,beq_iff_eq,beq_iff_eq];exact⟨λe=>E.other _ _ _ AB.1 (e▸hb.1),λe=>E.one _ _ _ AB.1 (e▸hb.1)⟩
def flat(P:Ap):Nat->Aj->Bool|0,_=>A9|d+1,t=>match P.underlying t with|Y .bool|Y (R5 _)|Y a1I=>A3|Y (.struct fs)=>fs.all λf=>flat P d f.type|Y (a1H _ e)=>flat P d e|_=>A9
end
section
variable{P:Ap}{F:zy}{so:Dj}{E:AT}
def ya(U:P.globals.size=Ci):∀(d:Nat){E:AT}(k:Nat)(t:Aj){x x' y y':A1},flat P k t=A3->AN F E x x'->AN F E y y'->AO P F so FH E (Ov d t x y) (Ov d t x' y')
 |0,_,_,_,_,_,_,_,_,_,_=>.Cs
 |d+1,E,0,t,x,x',y,y',AK,hx,hy=>by cases AK
 |d+1,E,k+1,t,x,x',y,y',AK,hx,hy=>by
  unfold Ov;refine(Nh t).andThen ?_;rintro T A u _⟨rfl,hu⟩;unfold flat at AK;rw[hu]at AK;replace hx:=hx.mono A;replace hy:=hy.mono A;cases u with
  |bool=>
   cases hx with
   |bool a=>
    cases hy with
    |bool b=>exact .AQ rfl
    |_=>exact .stuck
   |_=>exact .stuck
  |string=>
   cases hx with
   |string a=>
    cases hy with
    |string b=>exact .AQ rfl
    |_=>exact .stuck
   |_=>exact .stuck
  |int kind=>
   cases hx with
   |int k1 a=>
    cases hy with
    |int R b=>
     dsimp only;split;·exact .AQ rfl
     exact .stuck
    |ptr K=>
     by_cases AB:a=0;·subst AB;exact .AQ rfl
     split<;>first
     |exact .AQ rfl
     |exact .Cs
     |exact .stuck
     |simp_all
    |HI=>
     split<;>first
     |exact .AQ rfl
     |exact .Cs
     |exact .stuck
     |simp_all
    |_=>exact .stuck
   |ptr AB=>
    cases hy with
    |int R b=>
     by_cases K:b=0;·subst K;exact .AQ rfl
     split<;>first
     |exact .AQ rfl
     |exact .Cs
     |exact .stuck
     |simp_all
    |ptr K=>
     dsimp only;refine(bY AB).andThen ?_;rintro I s p DL⟨_,hp⟩;refine(bY (K.mono s)).andThen ?_;rintro M H q W⟨_,AH⟩;replace hp:=hp.mono H;refine .prog ?_;rw[Cf.yq hp AH,Cf.same hp AH];have AE:Bz (DL.1.block<P.globals.size)=Bz (p.1.block<P.globals.size):=by rw[U];have:=M.low _ _ hp.1;simp[this]
     rw[AE];split;·refine(bZ hp).andThen ?_;rintro N z m _ rfl;refine(bZ (AH.mono z)).andThen ?_;rintro C D n _ rfl;exact .AQ rfl
     refine(IG t).andThen ?_;rintro N z i _⟨rfl,_⟩;split
     ·split;·exact .AQ rfl
      exact .Cs
     exact .Cs
    |_=>exact .Cs
   |HI=>exact .Cs
   |_=>
    cases hy<;>first
    |exact .Cs
    |exact .stuck
  |struct fs=>
   cases hx with
   |agg hx=>
    cases hy with
    |agg hy=>
     dsimp only;refine .prog ?_;split;·exact .Cs
     refine(AO.uf (Q:=FH) fs (λI s f hm b b' e=>?_) rfl).andThen ?_
     ·cases e;refine AO.same ?_;split
      ·refine(Qo f.type (hx.mono s) f.offset).andThen ?_;intro M H v v' hv;refine(Qo f.type ((hy.mono s).mono H) f.offset).andThen ?_;intro N z w w' j;refine(ya U d k f.type ?_ (hv.mono z) j).andThen ?_;·exact Array.all_eq_true_iff_forall_mem.1 AK f hm
       rintro C D r _ rfl;split<;>exact .AQ rfl
      exact .AQ rfl
     rintro I s r _ rfl;split<;>exact .AQ rfl
    |_=>exact .stuck
   |_=>exact .stuck
  |array n e=>
   cases hx with
   |agg hx=>
    cases hy with
    |agg hy=>
     dsimp only;refine(IY e).andThen ?_;rintro X L size _ rfl;replace hx:=hx.mono L;replace hy:=hy.mono L;refine(AO.ug (Q:=FH) _ (λI s f b b' h=>?_) rfl).andThen ?_;·cases h;refine AO.same ?_;refine(Qo e (hx.mono s) (f*size)).andThen ?_;intro M H v v' hv;refine(Qo e ((hy.mono s).mono H) (f*size)).andThen ?_;intro N z w w' j;refine(ya U d k e AK (hv.mono z) j).andThen ?_;rintro C D r _ rfl;split<;>exact .AQ rfl
     rintro I s r _ rfl;split<;>exact .AQ rfl
    |_=>exact .stuck
   |_=>exact .stuck
  |_=>cases AK
end
section
variable{P:Ap}{F:zy}{so:Dj}{E:AT}
inductive Nil:A1->Prop|ptr:Nil (Ad Z)|slice(l c:Nat):Nil (A4 Z l c)|map:Nil (Ah Z)|chan:Nil (Cl Z)|func:Nil lZ|iface:Nil DS
def Nil.fixed(h:Nil v)(hv:AN F E v v'):v'=v:=by cases h<;>cases hv<;>rfl
def aUx:∀(d:Nat){E:AT}(t:Aj){x x' y:A1},AN F E x x'->Nil y->AO P F so FH E (Ov d t x y) (Ov d t x' y)
 |0,_,_,_,_,_,_,_=>.Cs
 |d+1,E,t,x,x',y,hx,hy=>by
  unfold Ov;refine(Nh t).andThen ?_;rintro j s u _⟨rfl,hu⟩;replace hx:=hx.mono s;cases hy with
  |ptr=>
   cases u with
   |int k=>
    cases hx with
    |int I b=>
     by_cases H:b=0<;>(
      split<;>first
      |exact .Cs
      |exact .stuck
      |simp_all)
    |_=>exact .Cs
   |pointer e=>
    cases hx with
    |HI=>exact .AQ rfl
    |ptr h=>exact .AQ rfl
    |_=>exact .stuck
   |unsafePointer=>
    cases hx with
    |HI=>exact .AQ rfl
    |ptr h=>exact .AQ rfl
    |_=>exact .stuck
   |_=>cases hx<;>exact .stuck
  |slice l c=>
   cases u with
   |slice e=>
    cases hx with
    |HL z c2=>exact .AQ rfl
    |slice z c2 h=>exact .AQ rfl
    |_=>exact .stuck
   |int k=>
    cases hx<;>first
    |exact .Cs
    |exact .stuck
   |_=>cases hx<;>exact .stuck
  |map=>
   cases u with
   |map e f=>
    cases hx with
    |Rg=>exact .AQ rfl
    |map h=>exact .AQ rfl
    |_=>exact .stuck
   |int k=>
    cases hx<;>first
    |exact .Cs
    |exact .stuck
   |_=>cases hx<;>exact .stuck
  |chan=>
   cases u with
   |chan e f=>
    cases hx with
    |Xl=>exact .AQ rfl
    |chan h=>exact .AQ rfl
    |_=>exact .stuck
   |int k=>
    cases hx<;>first
    |exact .Cs
    |exact .stuck
   |_=>cases hx<;>exact .stuck
  |func=>
   cases u with
   |func e f g=>
    cases hx with
    |nilFunc=>exact .AQ rfl
    |func _ _ _=>
     first
     |exact .AQ rfl
     |exact .stuck
    |_=>exact .stuck
   |int k=>
    cases hx<;>first
    |exact .Cs
    |exact .stuck
   |_=>cases hx<;>exact .stuck
  |iface=>
   cases u with
   |interface K=>
    cases hx with
    |nilIface=>exact .AQ rfl
    |iface t h=>exact .AQ rfl
    |_=>exact .stuck
   |int k=>
    cases hx<;>first
    |exact .Cs
    |exact .stuck
   |_=>cases hx<;>exact .stuck
def aB7(b:so.Hx)(AB:Cf E a a'):AO P F so FH E (a1h a) (a1h a'):=by unfold a1h;refine .frozen b AB λx=>?_;cases x with|true=>exact .pure rfl|false=>refine .shape AB.1 λs=>?_;cases s with|none=>exact .pure rfl|some s=>exact .frozen b (a:=⟨a.block,s.2,Z⟩) (a':=⟨a'.block,s.2,Z⟩) ⟨AB.1,rfl,rfl⟩ λy=>.pure rfl
def aVD(z:so.Hx){b:Ak}(AB:Cf E a a')(hb:Cf E b b'):AO P F so FH E (a1Y a b) (a1Y a' b'):=by unfold a1Y;refine(aB7 z AB).andThen ?_;rintro d h H _ rfl;refine(aB7 z (hb.mono h)).andThen ?_;rintro I y f1 _ rfl;replace AB:=(AB.mono h).mono y;replace hb:=(hb.mono h).mono y;refine .shape AB.1 λs=>?_;exact .shape hb.1 λu=>.pure rfl
def aVN(H:so.Hx){b:Ak}(h:Cf E a a')(s:Cf E b b'):AO P F so FH E (a1f a b) (a1f a' b'):=by
 unfold a1f;rw[h.yq s,h.same s];split;·exact .AQ rfl
 refine .frozen H h λx=>?_;refine .frozen H s λy=>?_;simp only[Dx];split;·exact .Cs
 refine(yf h).andThen ?_;intro d z _ _ _;refine(yf (s.mono z)).andThen ?_;intro K I _ _ _;refine(aVD H ((h.mono z).mono I) ((s.mono z).mono I)).andThen ?_;rintro M N m _ rfl;cases m with|true=>exact .choose _ λn=>.pure rfl|false=>exact .AQ rfl
def aUy(I:so.Hx)(d:Nat)(t:Aj)(H:∃e,P.underlying t=Y (P' e))(hx:AN F E x x')(hy:AN F E y y'):AO P F so FH E (Ov d t x y) (Ov d t x' y'):=by
 cases d with
 |zero=>exact .Cs
 |succ d=>
  unfold Ov;refine(Nh t).andThen ?_;rintro f b u _⟨rfl,hu⟩;obtain⟨e,he⟩:=H;rw[he]at hu;obtain rfl:=CH hu;replace hx:=hx.mono b;replace hy:=hy.mono b;cases hx with
  |HI=>cases hy<;>first|exact .AQ rfl|exact .stuck
  |ptr s=>
   cases hy with
   |HI=>exact .AQ rfl
   |ptr z=>
    dsimp only;refine(IY e).andThen ?_;rintro K h n _ rfl;split;·exact aVN I (s.mono h) (z.mono h)
    rw[s.same z];split;·exact .AQ rfl
    exact .choose _ λn=>.pure rfl
   |_=>exact .stuck
  |_=>cases hy<;>exact .stuck
end
section
variable{P:Ap}{F:zy}{so:Dj}{E:AT}
def aB8(z:P.globals.size=Ci){b:Ak}(AB:Cf E a a')(h:Cf E b b'):AO P F so FH E (lN a b) (lN a' b'):=by
 unfold lN;refine .prog ?_;have s:(a'.block !=b'.block)=(a.block !=b.block):=by unfold bne;rw[Cf.yq AB h]
 have h2:Bz (a'.block≥P.globals.size)=Bz (a.block≥P.globals.size):=by rw[z];have:=E.low _ _ AB.1;rw[VA,decide_eq_true_eq,decide_eq_true_eq];omega
 rw[s,h2];split;·exact .Cs
 refine(bZ AB).andThen ?_;rintro d y m _ rfl;refine(bZ (h.mono y)).andThen ?_;rintro H I n _ rfl;exact .AQ rfl
def aUb(h:P.globals.size=Ci)(k:KJ){b:Ak}(s:Cf E a a')(y:Cf E b b'):AO P F so (CL F) E (lI k a b) (lI k a' b'):=by unfold lI;refine(aB8 h s y).andThen ?_;rintro d z m _ rfl;exact .AQ (.int _ _)
def aUa(s:P.globals.size=Ci)(h:JY){b:Ak}(y:Cf E a a')(z:Cf E b b'):AO P F so (CL F) E (lG h a b) (lG h a' b'):=by unfold lG;refine(aB8 s y z).andThen ?_;rintro d H m _ rfl;cases h<;>first|exact .AQ (.bool _)|exact .Cs
def aAm(k:KJ)(n:Int)(AB:Cf E a a'):AO P F so (CL F) E (lH k a n) (lH k a' n):=by
 unfold lH;refine .shape AB.1 λs=>?_;cases s with
 |none=>exact .Cs
 |some s=>
  obtain⟨e,c⟩:=s;refine(IG e).andThen ?_;rintro d b i _⟨rfl,_⟩;dsimp only;split;·exact .Cs
  refine(bZ (AB.mono b)).andThen ?_;rintro h y m _ rfl;exact .AQ (.int _ _)
end
section
variable{P:Ap}{F:zy}{so:Dj}{E:AT}
def aUg(h:Cf E a a')(l:Bool):AO P F so (CL F) E (lf a l) (lf a' l):=by unfold lf a1a;exact .new (.number l h) λb y s=>.pure (.ptr ⟨AT.Sf _ _ _ s,rfl,rfl⟩)
def q3(ts:Array Aj)(t:Aj)(hx:AN F E x x')(hy:AN F E y y'):AO P F so (CL F) E (ko ts t #[x,y]) (ko ts t #[x',y']):=by
 unfold ko;cases hx with
 |HI=>
  dsimp only;refine(TY hy).andThen ?_;rintro d b n _ rfl;split;·exact .Cs
  split;·exact .Cs
  exact .Cs
 |ptr AB=>
  dsimp only;refine(TY hy).andThen ?_;rintro d b n _ rfl;replace AB:=AB.mono b;split;·refine(q4 AB.1).andThen ?_;intro H h x x' hx;cases hx with|none=>exact .AQ (.ptr (AB.mono h))|some t v I=>exact .Cs
  split;·exact .Cs
  refine .shape AB.1 λs=>?_;cases s with|none=>exact .Cs|some s=>obtain⟨e,c⟩:=s;simp only[Dx];refine .prog ?_;rw[AB.2.1];cases aFU P P.depth e (c/P.cellsOf e) _ n with|none=>exact .Cs|some z=>exact .AQ (.ptr ⟨AB.1,rfl,AB.2.2⟩)
 |_=>exact .stuck
def ed(t:Aj)(hx:AN F E x x')(hy:AN F E y y'):AO P F so (CL F) E (lp t x y) (lp t x' y'):=by
 unfold lp;refine(GN t).andThen ?_;rintro d s u _ rfl;replace hx:=hx.mono s;replace hy:=hy.mono s;dsimp only;split;·exact .Cs
 cases hx with
 |ptr K=>
  dsimp only;refine(bY K).andThen ?_;rintro Q I⟨p,l⟩⟨DL,N⟩⟨z,H⟩;simp only at z H;subst z;dsimp only;refine(q3 #[] t (.ptr H) (hy.mono I)).andThen ?_;intro U e v v' hv;cases hv with
  |ptr M=>exact aUg M N
  |agg h=>exact .AQ (.agg h)
  |tuple h=>exact .AQ (.tuple h)
  |iface t h=>exact .AQ (.iface t h)
  |func a b c=>exact .AQ (.func a b c)
  |map h=>exact .AQ (.map h)
  |chan h=>exact .AQ (.chan h)
  |slice l c h=>exact .AQ (.slice l c h)
  |_=>exact .AQ (by constructor)
 |HI=>exact q3 #[] t .HI hy
 |_=>exact .stuck
def aB1(t:Aj)(hx:AN F E x x')(hy:AN F E y y'):AO P F so (CL F) E (lq t x y) (lq t x' y'):=by
 unfold lq;cases hx with
 |ptr AB=>
  dsimp only;refine(aB4 AB.1).andThen ?_;rintro h b _ _(⟨rfl,rfl⟩|⟨p,s,l,rfl,rfl,_⟩);·exact q3 #[] t (.ptr (AB.mono b)) (hy.mono b)
  exact .Cs
 |HI=>exact q3 #[] t .HI hy
 |_=>exact .stuck
end
section
variable{P:Ap}{F:zy}{so:Dj}{E:AT}
def y_(b:P.globals.size=Ci)(k:Nat)(t:Aj)(hx:AN F E x x')(hy:AN F E y y')(s:flat P k t=A3∨Nil y∨so.Hx/\∃e,P.underlying t=Y (P' e)):AO P F so FH E (SL t x y) (SL t x' y'):=by
 unfold SL;rcases s with h|h|h;·exact ya b _ k t h hx hy
 ·rw[h.fixed hy];exact aUx _ t hx h
 exact aUy h.1 _ t h.2 hx hy
def aUw(h:P.globals.size=Ci)(k:Nat)(t:Aj)(hx:AN F E x x')(hy:AN F E y y')(s:flat P k t=A3∨Nil y∨so.Hx/\∃e,P.underlying t=Y (P' e)):AO P F so (CL F) E (do FX (Af (<-SL t x y))) (do FX (Af (<-SL t x' y'))):=by refine(y_ h k t hx hy s).andThen ?_;rintro d z b _ rfl;exact .AQ (.bool _)
def aVG(h:P.globals.size=Ci)(k:Nat)(t:Aj)(hx:AN F E x x')(hy:AN F E y y')(s:flat P k t=A3∨Nil y∨so.Hx/\∃e,P.underlying t=Y (P' e)):AO P F so (CL F) E (do FX (Af (!(<-SL t x y)))) (do FX (Af (!(<-SL t x' y')))):=by refine(y_ h k t hx hy s).andThen ?_;rintro d z b _ rfl;exact .AQ (.bool _)
def aUh(M:P.globals.size=Ci)(k:Nat)(s:JY)(t:Aj)(hx:AN F E x x')(hy:AN F E y y')(K:s=.eql∨s=.neq->flat P k t=A3∨Nil y∨so.Hx/\∃e,P.underlying t=Y (P' e)):AO P F so (CL F) E (KL s t x y) (KL s t x' y'):=by
 have he:=λh=>aUw (so:=so) M k t hx hy (K (AD h));have hn:=λh=>aVG (so:=so) M k t hx hy (K (AJ h));unfold KL;cases hx with
 |int k1 a=>
  cases hy with
  |int z b=>
   cases s<;>dsimp only<;>first
   |exact(aXl _ _ _ _ _).We
   |
    (
     split;·exact .stuck
     first
     |exact(aC5 _ _ _ _).We
     |exact(aXk _ _ _ _).We
     |exact(aC6 _ _ _ _).We
     |exact(aXj _ _ _).We)
  |ptr N=>
   cases s<;>dsimp only<;>first
   |exact he rfl
   |exact hn rfl
   |exact ed t (.ptr N) (.int k1 a)
   |(refine(bY N).andThen ?_;rintro d U p DL⟨_,H⟩;exact aAm _ _ H)
   |exact .Cs
  |HI=>
   cases s<;>dsimp only<;>first
   |exact he rfl
   |exact hn rfl
   |exact ed t .HI (.int k1 a)
   |exact .Cs
  |_=>
   cases s<;>dsimp only<;>first
   |exact he rfl
   |exact hn rfl
   |exact .stuck
 |string a=>
  cases hy with
  |string b=>cases s<;>exact(aC7 _ _ _).We
  |_=>
   cases s<;>dsimp only<;>first
   |exact he rfl
   |exact hn rfl
   |exact .stuck
   |exact .Cs
 |ptr I=>
  cases hy with
  |int z b=>
   cases s<;>dsimp only<;>first
   |exact he rfl
   |exact hn rfl
   |exact ed t (.ptr I) (.int _ _)
   |
    (
     refine(GN t).andThen ?_;rintro j Q u _ rfl;cases u<;>first
     |exact ed t (.ptr (I.mono Q)) (.int _ _)
     |exact aB1 t (.ptr (I.mono Q)) (.int _ _))
   |(refine(bY I).andThen ?_;rintro d U p DL⟨_,H⟩;exact aAm _ _ H)
   |exact .Cs
  |ptr N=>
   cases s<;>dsimp only<;>first
   |exact he rfl
   |exact hn rfl
   |
    (
     refine(bY I).andThen ?_;rintro d U p DL⟨_,H⟩;refine(bY (N.mono U)).andThen ?_;rintro m f q A⟨_,K⟩;first
     |exact aUb M _ (H.mono f) K
     |exact aUa M _ (H.mono f) K)
   |exact .Cs
  |_=>
   cases s<;>dsimp only<;>first
   |exact he rfl
   |exact hn rfl
   |exact .stuck
   |exact .Cs
 |HI=>
  cases hy with
  |int z b=>
   cases s<;>dsimp only<;>first
   |exact he rfl
   |exact hn rfl
   |exact ed t .HI (.int _ _)
   |
    (
     refine(GN t).andThen ?_;rintro j Q u _ rfl;cases u<;>first
     |exact ed (x:=Ad Z) (x':=Ad Z) (y:=A7 z b) (y':=A7 z b) t .HI (.int z b)
     |exact aB1 (x:=Ad Z) (x':=Ad Z) (y:=A7 z b) (y':=A7 z b) t .HI (.int z b))
   |exact .Cs
  |_=>
   cases s<;>dsimp only<;>first
   |exact he rfl
   |exact hn rfl
   |exact .stuck
   |exact .Cs
 |_=>
  cases hy<;>cases s<;>dsimp only<;>first
  |exact he rfl
  |exact hn rfl
  |exact .stuck
  |exact .Cs
end
section
variable{P:Ap}{F:zy}{so:Dj}{E:AT}
def b_(s:Bool):∀(d:Nat){E:AT}(t:Aj){v v':A1},AN F E v v'->AO P F so P5 E (l3 s d t v) (l3 s d t v')
 |0,_,_,_,_,_=>.Cs
 |d+1,E,t,v,v',hv=>by
  unfold l3;refine(GN t).andThen ?_;rintro C j u _ rfl;replace hv:=hv.mono j;cases u with
  |interface ms=>
   cases hv with
   |iface K hx=>
    dsimp only;refine(IG K).andThen ?_;rintro H y i _⟨rfl,_⟩;split
    ·refine .Hi ?_;split;·exact(Gx _).bind
     exact BQ.behind (by first|exact OQ _|exact Uq _|exact Ur _ _ _ _ _|exact Us _|exact Re _|exact Rf _|exact PR) λ_=>(Gx _).bind
    exact b_ s d K (hx.mono y)
   |nilIface=>exact .AQ trivial
   |_=>exact .stuck
  |array n e=>
   cases hv with
   |agg h=>
    dsimp only;refine(AO.ug (Q:=P5) _ (λH y f b U _=>?_) trivial).andThen ?_;·refine(IY e).andThen ?_;rintro D m z _ rfl;refine(Qo e ((h.mono y).mono m) (f*z)).andThen ?_;intro M q w w' I;refine(b_ s d e I).andThen ?_;intro N A _ _ _;exact .AQ (.yield trivial)
    intro H y _ _ _;exact .AQ trivial
   |_=>exact .stuck
  |struct fs=>
   cases hv with
   |agg h=>
    dsimp only;refine(AO.uf (Q:=P5) fs (λH y f _ b U _=>?_) trivial).andThen ?_
    ·split;·refine(Qo f.type (h.mono y) f.offset).andThen ?_;intro M q w w' I;refine(b_ s d f.type I).andThen ?_;intro N A _ _ _;exact .AQ (.yield trivial)
     exact .AQ (.yield trivial)
    intro H y _ _ _;exact .AQ trivial
   |_=>exact .stuck
  |_=>exact .AQ trivial
def aWp(u:lV)(b:AN F E k k')(hy:AN F E y y'):a'n u k' y'=a'n u k y:=by cases b<;>cases hy<;>cases u<;>rfl
inductive fW(F:zy)(E:AT):Option (Nat×A1)->Option (Nat×A1)->Prop|none:fW F E none none|some(i:Nat){v v':A1}:AN F E v v'->fW F E (some (i,v)) (some (i,v'))
def a56(u:lV){k k':A1}(h:AN F E k k'):∀{l d:List G1}(i:Nat),E1 F E l d->l5 u k l i=Z/\l5 u k' d i=Z∨∃r As,l5 u k l i=Y r/\l5 u k' d i=Y As/\fW F E r As
 |_,_,_,.nil=>AJ ⟨_,_,rfl,rfl,.none⟩
 |_,_,i,.cons (k:=y) (k':=y') hy hv t=>by
  unfold l5;dsimp only;rw[aWp u h hy];cases a'n u k y with
  |none=>exact AD ⟨rfl,rfl⟩
  |some b=>
   cases b;·exact a56 u h (i+1) t
   exact AJ ⟨_,_,rfl,rfl,.some i hv⟩
def aAr(s:P.globals.size=Ci)(n:Nat)(t:Aj)(y:flat P n t=A3):∀{E:AT}{k k':A1}{l d:List G1}(i:Nat),AN F E k k'->E1 F E l d->AO P F so (fW F) E (a'h t k l i) (a'h t k' d i)
 |_,_,_,_,_,_,_,.nil=>.AQ .none
 |_,_,_,_,_,i,hk,.cons hy hv tl=>by
  unfold a'h;refine(y_ s n t hk hy (AD y)).andThen ?_;rintro e h b _ rfl;cases b;·exact aAr s n t y (i+1) (hk.mono h) (tl.mono h)
  exact .AQ (.some i (hv.mono h))
def q0(z:P.globals.size=Ci)(n:Nat)(t:Aj)(H:flat P n t=A3){l d:List G1}(s:AN F E k k')(y:E1 F E l d):AO P F so (fW F) E (ZH t k l) (ZH t k' d):=by
 unfold ZH;refine(GN t).andThen ?_;rintro f b u _ rfl;rcases a56 u (s.mono b) 0 (y.mono b)with⟨e,h⟩|⟨r,As,e,h,I⟩;·rw[e,h];exact aAr z n t H 0 (s.mono b) (y.mono b)
 rw[e,h];exact .AQ I
def E1.empty{a a':Array G1}(h:E1 F E a.toList a'.toList):a'.isEmpty=a.isEmpty:=by have:=h.length;simp only[Nq]at this;simp[Array.isEmpty,this]
def aV6(M:Fit P F)(K:P.globals.size=Ci)(n:Nat)(t:Aj)(AK:∀k e,P.underlying t=Y (ZU k e)->flat P n k=A3){i d:A1}(y:Bool)(hx:AN F E x x')(hi:AN F E i d):AO P F so (CL F) E (Ix t x i y) (Ix t x' d y):=by
 unfold Ix;refine(Nh t).andThen ?_;rintro f I u _⟨rfl,hu⟩;replace hx:=hx.mono I;replace hi:=hi.mono I;cases u with
 |map h b=>
  dsimp only;have N:=AK h b hu;cases hx with
  |Rg=>
   have s:E1 F f (#[]:Array G1).toList (#[]:Array G1).toList:=.nil;refine(b_ _ _ _ hi).andThen ?_;intro U z _ _ _;refine(q0 K n h N (hi.mono z) (s.mono z)).andThen ?_;intro m q r As H;cases H with
   |none=>
    refine(MM M b).andThen λA C v v' hv=>?_;cases y;·exact .AQ hv
    exact .AQ (.tuple (.cons hv (.cons (.bool _) .nil)))
   |some j hv=>
    cases y;·exact .AQ hv
    exact .AQ (.tuple (.cons hv (.cons (.bool _) .nil)))
  |map H=>
   refine .getObj H λo o' AA=>?_;cases AA with
   |map c s=>
    refine AO.andThen (Q:=λE(a a':Array G1)=>E1 F E a.toList a'.toList) (.AQ s) ?_;intro L D es es' s;replace hi:=hi.mono D;rw[s.empty];refine(b_ _ _ _ hi).andThen ?_;intro U z _ _ _;refine(q0 K n h N (hi.mono z) (s.mono z)).andThen ?_;intro m q r As H;cases H with
    |none=>
     refine(MM M b).andThen λA C v v' hv=>?_;cases y;·exact .AQ hv
     exact .AQ (.tuple (.cons hv (.cons (.bool _) .nil)))
    |some j hv=>
     cases y;·exact .AQ hv
     exact .AQ (.tuple (.cons hv (.cons (.bool _) .nil)))
   |_=>exact .stuck
  |_=>exact .stuck
 |_=>exact .stuck
end
section
variable{P:Ap}{F:zy}{so:Dj}{E:AT}
def aCh{g:A1->A1->Bool}(s:∀x z y H,AN F E x z->AN F E y H->g z H=g x y):∀{a a' b b':List A1},Aq F E a a'->Aq F E b b'->((a'.zip b').all λp=>g p.1 p.2)=(a.zip b).all λp=>g p.1 p.2|_,_,_,_,.nil,_=>by simp|_,_,_,_,.cons _ _,.nil=>by simp|_,_,_,_,.cons h t,.cons k u=>by have:=aCh s t u;simp only[List.zip_cons_cons,aGi,this,s _ _ _ _ h k]
def aBJ{a a' b b':Nat}(h:E.rel a a')(s:E.rel b b'):(a'==b')=(a==b):=by rw[VA,beq_iff_eq,beq_iff_eq];exact⟨λe=>E.other _ _ _ h (e▸s),λe=>E.one _ _ _ h (e▸s)⟩
def yp:∀(n:Nat){x x' y y':A1},AN F E x x'->AN F E y y'->ZK n x' y'=ZK n x y
 |0,_,_,_,_,hx,hy=>by
  cases hx with
  |ptr b=>
   cases hy with
   |ptr s=>simpa[ZK]using b.same s
   |_=>rfl
  |chan b=>
   cases hy with
   |chan s=>simpa[ZK]using aBJ b s
   |_=>rfl
  |_=>cases hy<;>rfl
 |n+1,_,_,_,_,hx,hy=>by
  cases hx with
  |ptr b=>
   cases hy with
   |ptr s=>simpa[ZK]using b.same s
   |_=>rfl
  |chan b=>
   cases hy with
   |chan s=>simpa[ZK]using aBJ b s
   |_=>rfl
  |iface t b=>
   cases hy with
   |iface u s=>unfold ZK;rw[yp n b s]
   |_=>rfl
  |agg b=>
   cases hy with
   |agg s=>have z:=b.length;have h2:=s.length;simp only[Nq]at z h2;unfold ZK;rw[z,h2];congr 1;exact aCh (λx x' y y' h k=>yp n h k) b s
   |_=>rfl
  |_=>cases hy<;>rfl
def aAv(hx:AN F E x x')(hy:AN F E y y'):AO P F so (CL F) E (a'j x y) (a'j x' y'):=by
 unfold a'j;rw[yp _ hx hy];split;·exact .AQ hy
 refine .choose _ λn=>?_;refine .pure ?_;split;·exact hy
 exact hx
def E1.get:∀{l d:List G1},E1 F E l d->∀(i:Nat),l[i]?=Z/\d[i]?=Z∨∃e b,l[i]?=Y e/\d[i]?=Y b/\AN F E e.key b.key/\AN F E e.val b.val/\b.born=e.born|_,_,.nil,_=>AD ⟨rfl,rfl⟩|_,_,.cons h k _,0=>AJ ⟨_,_,rfl,rfl,h,k,rfl⟩|_,_,.cons _ _ t,i+1=>by simpa using t.get i
def E1.a8V{es es':Array G1}(h:E1 F E es.toList es'.toList)(i:Nat)(s:AN F E k k'):AN F E ((es[i]?.map (·.key)).getD k) ((es'[i]?.map (·.key)).getD k'):=by
 have:=h.get i;simp only[Oi]at this;rcases this with⟨e,b⟩|⟨x,y,e,b,hx,_⟩;·rw[e,b];exact s
 rw[e,b];exact hx
def E1.snoc:∀{l d:List G1}{k k' v v':A1}(n:Nat),E1 F E l d->AN F E k k'->AN F E v v'->E1 F E (l++[{key:=k,val:=v,born:=n}]) (d++[{key:=k',val:=v',born:=n}])|_,_,_,_,_,_,_,.nil,hk,hv=>.cons hk hv .nil|_,_,_,_,_,_,n,.cons h k t,hk,hv=>.cons h k (t.snoc n hk hv)
def E1.modify:∀{l d:List G1}{k k' v v':A1}(i:Nat),E1 F E l d->AN F E k k'->AN F E v v'->E1 F E (l.modify i λe=>{e with key:=k,val:=v}) (d.modify i λe=>{e with key:=k',val:=v'})|_,_,_,_,_,_,i,.nil,_,_=>by cases i<;>exact .nil|_,_,_,_,_,_,0,.cons _ _ t,hk,hv=>.cons hk hv t|_,_,_,_,_,_,i+1,.cons h k t,hk,hv=>.cons h k (t.modify i hk hv)
def Mz:A1->Option Nat|Ah (Y r)=>Y r|Ad (Y a)=>Y a.block|A4 (Y a) _ _=>Y a.block|_=>Z
def aAz(hs:∀b,Mz x=Y b->so.obj b)(f:P.globals.size=Ci)(n:Nat)(t:Aj)(AK:∀k e,P.underlying t=Y (ZU k e)->flat P n k=A3)(hx:AN F E x x')(s:AN F E k k')(hv:AN F E v v'):AO P F so P5 E (cK t x k v) (cK t x' k' v'):=by
 unfold cK;refine(Nh t).andThen ?_;rintro q N u _⟨rfl,hu⟩;replace hx:=hx.mono N;replace s:=s.mono N;replace hv:=hv.mono N;cases u with
 |map K I=>
  dsimp only;have m:=AK K I hu;cases hx with
  |Rg=>exact Rq _
  |map U=>
   refine .getObj U λo o' AA=>?_;cases AA with
   |map c H=>
    refine(b_ _ _ _ s).andThen ?_;intro A z _ _ _;refine(q0 f n K m (s.mono z) (H.mono z)).andThen ?_;intro C M r As BG;replace s:=(s.mono z).mono M;replace hv:=(hv.mono z).mono M;replace H:=(H.mono z).mono M;have d:=M _ _ (z _ _ U);cases BG with
    |none=>refine .setObj (hs _ rfl) d (λ_ _ _ h=>by cases h) (.map _ ?_) (.pure trivial);simpa using H.snoc _ s hv
    |some j _=>refine(aAv (H.a8V j s) s).andThen ?_;intro D Q y y' hy;refine .setObj (hs _ rfl) (Q _ _ d) (λ_ _ _ h=>by cases h) (.map _ ?_) (.pure trivial);simpa[zq]using(H.mono Q).modify j hy (hv.mono Q)
   |_=>exact .stuck
  |_=>exact .stuck
 |_=>exact .stuck
end
section
variable{P:Ap}{F:zy}{so:Dj}{E:AT}
def aVK(t:Aj)(hx:AN F E x x'):AO P F so (CL F) E (fw t x) (fw t x'):=by
 unfold fw;refine(GN t).andThen ?_;rintro d H u _ rfl;replace hx:=hx.mono H;cases u with
 |string=>
  cases hx with
  |string s=>exact .new (.stringIter s 0) λb y h=>.pure (.ptr ⟨AT.Sf _ _ _ h,rfl,rfl⟩)
  |_=>exact .stuck
 |map k e=>
  cases hx with
  |Rg=>exact .new (.jf _ _ _) λb y h=>.pure (.ptr ⟨AT.Sf _ _ _ h,rfl,rfl⟩)
  |map z=>
   refine .getObj z λo M I=>?_;cases I with
   |map c K=>exact .new (.mapIter _ _ _ z) λb y h=>.pure (.ptr ⟨AT.Sf _ _ _ h,rfl,rfl⟩)
   |_=>exact .stuck
  |_=>exact .stuck
 |_=>cases hx<;>exact .stuck
def E1.filter{p:G1->Bool}(b:∀e s:G1,s.born=e.born->p s=p e):∀{l d:List G1},E1 F E l d->E1 F E (l.filter p) (d.filter p)
 |_,_,.nil=>.nil
 |_,_,.cons (k:=y) (k':=y') (v:=z) (v':=z') (n:=n) h k t=>by
  have e:=b {key:=y,val:=z,born:=n} {key:=y',val:=z',born:=n} rfl;simp only[List.filter_cons,e];split;·exact .cons h k (t.filter b)
  exact t.filter b
def E1.all{p:G1->Bool}(s:∀e b:G1,b.born=e.born->p b=p e):∀{l d:List G1},E1 F E l d->d.all p=l.all p|_,_,.nil=>rfl|_,_,.cons (k:=y) (k':=y') (v:=z) (v':=z') (n:=n) h k t=>by have e:=s {key:=y,val:=z,born:=n} {key:=y',val:=z',born:=n} rfl;simp only[aGi,e,t.all s]
def E1.append:∀{a a' b b':List G1},E1 F E a a'->E1 F E b b'->E1 F E (a++b) (a'++b')|_,_,_,_,.nil,k=>k|_,_,_,_,.cons h v t,k=>.cons h v (t.append k)
def E1.pick{c:Array (Option G1)}{a a':Array G1}(h:E1 F E a.toList a'.toList)(i:Nat):(c++a.map Y)[i]?=Z/\(c++a'.map Y)[i]?=Z∨(c++a.map Y)[i]?=c[i]?/\(c++a'.map Y)[i]?=c[i]?/\i<c.size∨∃e b,(c++a.map Y)[i]?=Y (Y e)/\(c++a'.map Y)[i]?=Y (Y b)/\AN F E e.key b.key/\AN F E e.val b.val/\b.born=e.born:=by
 by_cases hi:i<c.size;·exact AJ (AD ⟨kh hi,kh hi,hi⟩)
 have s:c.size<=i:=by omega
 rw[zl s,zl s];simp only[Array.getElem?_map];have:=h.get (i-c.size);simp only[Oi]at this;rcases this with⟨e,b⟩|⟨x,y,e,b,hx⟩;·rw[e,b];exact AD ⟨rfl,rfl⟩
 rw[e,b];exact AJ (AJ ⟨x,y,rfl,rfl,hx⟩)
def aVH(hs:∀b,Mz x=Y b->so.obj b)(b:Bool)(t:Aj)(hx:AN F E x x'):AO P F so (CL F) E (a'm x b t) (a'm x' b t):=by
 unfold a'm;cases hx with
 |ptr AB=>
  rename_i a a';obtain⟨r,off,sp⟩:=a;obtain⟨As,f,m⟩:=a';obtain⟨Q,h2,h3⟩:=AB;simp only at Q h2 h3;subst h2 h3;cases f with
  |succ n=>exact .stuck
  |zero=>
   refine .getObj Q λo o' I=>?_;cases I with
   |stringIter s p=>
    cases b;·exact .stuck
    show AO P F so (CL F) E (ite _ _ _) (ite _ _ _);split;·exact .setObj (hs _ rfl) Q (λ_ _ _ h=>by cases h) (.stringIter _ _) (.pure (.tuple (.cons (.bool _) (.cons (.int _ _) (.cons (.int _ _) .nil)))))
    exact .pure (.tuple (.cons (.bool _) .nil))
   |jf x s y=>
    cases b;·exact .pure (.tuple (.cons (.bool _) .nil))
    exact .stuck
   |mapIter x s y hm=>
    cases b
    ·refine .getObj hm λo o' I=>?_;cases I with
     |map c d=>
      rename_i H z;have e1:z.isEmpty=H.isEmpty:=d.empty;have e2:z.all (λe=>Bz (e.born≥y))=H.all λe=>Bz (e.born≥y):=by have:=d.all (p:=λe=>Bz (e.born≥y)) (λe N h=>by simp only[h]);simpa using this
      have AE:E1 F E (H.filter λe=>!s.contains e.born).toList (z.filter λe=>!s.contains e.born).toList:=by simpa using d.filter (p:=λe=>!s.contains e.born) λe N h=>by simp only[h]
      have I:E1 F E ((H.filter λe=>!s.contains e.born).filter λe=>Bz (e.born<x)).toList ((z.filter λe=>!s.contains e.born).filter λe=>Bz (e.born<x)).toList:=by simpa only[aCq]using AE.filter (p:=λe=>Bz (e.born<x)) λe N h=>by simp only[h]
      have hn:E1 F E ((H.filter λe=>!s.contains e.born).filter λe=>Bz (e.born≥x)).toList ((z.filter λe=>!s.contains e.born).filter λe=>Bz (e.born≥x)).toList:=by simpa only[aCq]using AE.filter (p:=λe=>Bz (e.born≥x)) λe N h=>by simp only[h]
      have q:=I.empty;have M:=I.append hn;simp only[<-zp]at M;simp only[V9,Dx,e1,e2,q];obtain⟨C,U,hC⟩:∃C:Array (Option G1),C=(if((H.filter λe=>!s.contains e.born).filter λe=>Bz (e.born<x)).isEmpty=A3 then#[Z]else#[])/\∀i,i<C.size->C[i]?=Y Z:=by
       refine⟨_,rfl,?_⟩;split
       ·intro i hi;have:i=0:=by simpa using hi
        subst this;rfl
       intro i hi;simp at hi
      rw[<-U];generalize Z2 (λe=>Bz (e.born<x)) (Z2 (λe=>!s.contains e.born) H)++Z2 (λe=>Bz (e.born≥x)) (Z2 (λe=>!s.contains e.born) H)=A at M⊢;generalize Z2 (λe=>Bz (e.born<x)) (Z2 (λe=>!s.contains e.born) z)++Z2 (λe=>Bz (e.born≥x)) (Z2 (λe=>!s.contains e.born) z)=D at M⊢;have L:(C++D.map Y).size=(C++A.map Y).size:=by have:=M.length;simp only[Nq]at this;simp[this]
      rw[L];split;·exact .Hi (BQ.halt _).bind
      refine .choose _ λj=>?_;show AO P F so (CL F) E (Dx (Jz j) _) (Dx (Jz j) _);simp only[Dx];rcases M.pick (c:=C) j with⟨g,K⟩|⟨g,K,R⟩|⟨e,N,g,K,k1,T,W⟩;·rw[g,K];exact .stuck
      ·rw[g,K,hC j R];exact .pure (.tuple (.cons (.bool _) .nil))
      rw[g,K];dsimp only;rw[W];exact .setObj (hs _ rfl) Q (λ_ _ _ h=>by cases h) (.mapIter _ _ _ hm) (.pure (.tuple (.cons (.bool _) (.cons k1 (.cons T .nil)))))
     |_=>exact .stuck
    exact .stuck
   |_=>cases b<;>exact .stuck
 |_=>exact .stuck
def AO.cond{Q:AT->bv->bv->Prop}{c:Prop}[Decidable c]{s d t e:BU bv}(h:AO P F so Q E s d)(k:AO P F so Q E t e):AO P F so Q E (if c then s else t) (if c then d else e):=by
 split;·exact h
 exact k
def aUv(op:JY)(t:Aj)(x y:C'){a a' b b':A1}(AB:AN F E a a')(hb:AN F E b b'):AO P F so P5 E (lk op t x y a b) (lk op t x y a' b'):=by
 unfold lk;cases op;case eql|neq=>
  all_goals
   simp only[Tn,EJ,↓reduceIte];cases AB with
   |nilIface=>cases hb with|nilIface=>refine AO.cond (.AQ trivial) ?_;refine AO.andThen (Q:=FH) (pz _ t .nilIface .nilIface) ?_;rintro C4 m9 r _ rfl;exact AO.cond .Cs (.AQ trivial)|_=>exact .AQ trivial
   |agg AB=>
    cases hb with
    |agg hb=>
     refine .program ?_;refine .program ?_;show AO P F so P5 E (ite _ _ _) (ite _ _ _);split;·exact .AQ trivial
     refine AO.andThen (Q:=FH) (pz _ t (.agg AB) (.agg hb)) ?_;rintro C4 m9 r _ rfl;split;·exact .Cs
     exact .AQ trivial
    |_=>exact .AQ trivial
   |_=>exact .AQ trivial
 all_goals simp only[VB,↓reduceIte];exact .AQ trivial
def aVV(s:Fit P F)(t u:Aj)(b:Bool)(hx:AN F E x x'):AO P F so (CL F) E (Pq x t u b) (Pq x' t u b):=by
 unfold Pq;refine(GN u).andThen ?_;rintro e H d _ rfl;replace hx:=hx.mono H;cases hx with
 |nilIface=>
  cases b;·simp only[EJ,↓reduceIte];cases d<;>exact Rq _
  cases d<;>exact(MM s u).andThen λ_ _ _ _ h=>.AQ (.tuple (.cons h (.cons (.bool _) .nil)))
 |iface k hv=>
  cases d with
  |interface y=>
   refine(IG k).andThen ?_;rintro I z i _⟨rfl,_⟩;cases Instr.missingMethod y i.methods with
   |none=>
    cases b;·exact .AQ (.iface k (hv.mono z))
    exact .AQ (.tuple (.cons (.iface k (hv.mono z)) (.cons (.bool _) .nil)))
   |some m=>
    cases b;·simp only[EJ,↓reduceIte];exact Rq _
    exact(MM s u).andThen λ_ _ _ _ h=>.AQ (.tuple (.cons h (.cons (.bool _) .nil)))
  |_=>
   dsimp only;split
   ·cases b;·exact .AQ hv
    exact .AQ (.tuple (.cons hv (.cons (.bool _) .nil)))
   cases b;·simp only[EJ,↓reduceIte];exact Rq _
   exact(MM s u).andThen λ_ _ _ _ h=>.AQ (.tuple (.cons h (.cons (.bool _) .nil)))
 |_=>cases d<;>exact .stuck
end
section
variable{P:Ap}{F:zy}{so:Dj}{E:AT}
def word(P:Ap)(t:Aj):Bool:=match P.underlying t with|Y (R5 _)|Y a1I=>A3|_=>A9
def aUr(h b:Aj)(hs:word P h=A3)(s:word P b=A3)(hx:AN F E x x'):AO P F so (CL F) E (gN h b x) (gN h b x'):=by
 unfold gN;refine(Nh h).andThen ?_;rintro d y u _⟨rfl,hu⟩;refine(Nh b).andThen ?_;rintro I z v _⟨rfl,hv⟩;unfold word at hs s;rw[hu]at hs;rw[hv]at s;replace hx:=(hx.mono y).mono z;cases u with
 |int k=>
  cases v with
  |int H=>
   cases hx<;>first
   |exact .AQ (.int _ _)
   |exact .Cs
  |string=>
   cases hx<;>first
   |exact .AQ (.string _)
   |exact .Cs
  |_=>cases s
 |string=>
  cases v with
  |int H=>
   cases hx<;>first
   |exact .AQ (.int _ _)
   |exact .Cs
  |string=>
   cases hx<;>first
   |exact .AQ (.string _)
   |exact .Cs
  |_=>cases s
 |_=>cases hs
def aVF(hx:AN F E x x')(hy:AN F E y y'):AO P F so (CL F) E (kn x y) (kn x' y'):=by
 cases hx with
 |int k a=>
  cases hy with
  |int I b=>exact .AQ (.int _ _)
  |ptr h=>exact .Cs
  |_=>exact .stuck
 |string a=>
  cases hy with
  |string b=>unfold kn;refine(aC7 (P:=P) (F:=F) .leq a b).We (so:=so) (E:=E).andThen ?_;intro d z v K hv;refine(aAn hv).andThen ?_;rintro s H c _ rfl;exact .AQ (.string _)
  |ptr h=>exact .Cs
  |_=>exact .stuck
 |ptr h=>cases hy<;>exact .Cs
 |_=>
  cases hy<;>first
  |exact .stuck
  |exact .Cs
def aB0:∀{l d:List A1}{E:AT}{x x':A1},AN F E x x'->Aq F E l d->AO P F so (CL F) E (l.foldlM kn x) (d.foldlM kn x')|_,_,_,_,_,hx,.nil=>.AQ hx|_,_,_,_,_,hx,.cons h t=>by simp only[mY];refine(aVF hx h).andThen ?_;intro e b v s hv;exact aB0 hv (t.mono b)
def aVE(ts:Array Aj)(t:Aj){a a':zw}(h:Aq F E a.toList a'.toList):AO P F so (CL F) E (a'9 ts t a) (a'9 ts t a'):=by unfold a'9;generalize a.toList=l at h;generalize a'.toList=b at h;cases h with|nil=>exact .stuck|cons h t=>exact aB0 h t
def aUt(t:Aj):AO P F so FH E (Tz t) (Tz t):=by unfold Tz;refine(GN t).andThen ?_;rintro d b u _ rfl;cases u<;>first|exact .AQ rfl|exact .stuck
def aBB(h:Cf E a a')(t:Aj)(n:Nat):AO P F so FH E (gQ a t n) (gQ a' t n):=by unfold gQ;refine .prog ?_;refine .shape h.1 λs=>?_;cases s with|none=>exact .pure rfl|some s=>exact .pure (by rw[h.2.1])
def aAw:∀(n:Nat){E:AT}{a a':Ak}(s:zz),Cf E a a'->AO P F so FH E (ZW a s n) (ZW a' s n)
 |0,_,_,_,s,_=>.AQ rfl
 |n+1,E,a,a',s,h=>by
  unfold ZW;refine(k9 h VP).andThen ?_;intro d y v z hv;cases hv with
  |int k b=>
   cases k<;>first
   |exact aAw n _ ((h.mono y).add 1)
   |exact .stuck
  |_=>exact .stuck
def aVX(N:so.FI)(ts:Array Aj)(t:Aj)(hx:AN F E x x')(hy:AN F E y y'):AO P F so (CL F) E (c8 ts t #[x,y]) (c8 ts t #[x',y']):=by
 unfold c8;cases hx with
 |HI=>
  dsimp only;refine(TY hy).andThen ?_;rintro d H n _ rfl;cases ts[0]? with
  |none=>exact .stuck
  |some K=>
   dsimp only;split;·exact .Hi (Gx _).bind
   split;·exact .Cs
   split;·exact .AQ (.string _)
   exact Rq _
 |ptr h=>
  dsimp only;refine(TY hy).andThen ?_;rintro d H n _ rfl;replace h:=h.mono H;cases ts[0]? with
  |none=>exact .stuck
  |some K=>
   dsimp only;split;·exact .Hi (Gx _).bind
   split;·exact .Cs
   split;·exact .AQ (.string _)
   refine(aUt K).andThen ?_;rintro Q z e _ rfl;refine(aBB (h.mono z) e n.toNat).andThen ?_;rintro U I b _ rfl;cases b;·exact .Cs
   refine(aAw n.toNat _ ((h.mono z).mono I)).andThen ?_;rintro f M s _ rfl;exact .freeze _ N (((h.mono z).mono I).mono M) (.pure (.string _))
 |_=>exact .stuck
def aAp:∀(n:Nat){E:AT}{a a':Ak}(s:zz),Cf E a a'->AO P F so FH E (a'b a n s) (a'b a' n s)
 |0,_,_,_,s,_=>.AQ rfl
 |n+1,E,a,a',s,h=>by
  unfold a'b;refine(k9 h VP).andThen ?_;intro d y v z hv;cases hv with
  |int k b=>
   cases k<;>first
   |exact aAp n _ ((h.mono y).add 1)
   |exact .stuck
  |_=>exact .stuck
def eb(hx:AN F E x x'):AO P F so FH E (a'a x) (a'a x'):=by unfold a'a;cases hx with|string s=>exact .AQ rfl|HL l c=>exact .AQ rfl|slice l c h=>exact aAp l _ h|_=>exact .stuck
def aAo(hx:AN F E x x'):AO P F so FH E (a'_ x) (a'_ x'):=by
 unfold a'_;cases hx with
 |int k n=>
  cases k<;>first
  |exact .AQ rfl
  |exact .stuck
 |_=>exact .stuck
def yZ(hx:AN F E x x')(hy:AN F E y y'):AO P F so (CL F) E (rV #[x,y]) (rV #[x',y']):=by unfold rV;refine(eb hx).andThen ?_;rintro d h b _ rfl;refine(aAo (hy.mono h)).andThen ?_;rintro s z c _ rfl;exact .AQ (.int _ _)
def yc(hx:AN F E x x')(hy:AN F E y y'):AO P F so (CL F) E (rX #[x,y]) (rX #[x',y']):=by unfold rX;refine(eb hx).andThen ?_;rintro d h b _ rfl;refine(aAo (hy.mono h)).andThen ?_;rintro s z c _ rfl;split<;>exact .AQ (.int _ _)
def aV1(s:P.globals.size=Ci)(y:∀b,b<Ci->E.rel b b)(name:String):AO P F so Xc E (a1T name) (a1T name):=by
 unfold a1T;refine .prog ?_;cases h:P.globals.findIdx? (·.name==name)with
 |none=>exact .stuck
 |some g=>
  have hlt:g<Ci:=by rw[<-s];exact(Array.findIdx?_eq_some_iff_getElem.1 h).1
  exact .AQ ⟨y g hlt,rfl,rfl⟩
def yd(I:P.globals.size=Ci)(N:∀b,b<Ci->E.rel b b)(hx:AN F E x x')(hy:AN F E y y'):AO P F so (CL F) E (rW #[x,y]) (rW #[x',y']):=by
 unfold rW;refine(eb hx).andThen ?_;rintro d h b _ rfl;refine(eb (hy.mono h)).andThen ?_;rintro U z c _ rfl;refine AO.andThen (Q:=FH) ?_ ?_;·unfold aZx;refine(aV1 I (λb M=>z _ _ (h _ _ (N b M))) _).andThen ?_;intro s H a a' K;refine(k9 K VP).andThen ?_;intro e f v v' hv;exact TY hv
 rintro s H n _ rfl;dsimp only;split;·exact .Hi (BQ.halt _)
 split;·exact .Hi (BQ.halt _)
 split<;>exact .AQ (.int _ _)
end
section
variable{P:Ap}{F:zy}{so:Dj}{E:AT}
def E1.modifyKey:∀{l d:List G1}{k k':A1}(i:Nat),E1 F E l d->AN F E k k'->E1 F E (l.modify i λe=>{e with key:=k}) (d.modify i λe=>{e with key:=k'})|_,_,_,_,i,.nil,_=>by cases i<;>exact .nil|_,_,_,_,0,.cons _ hv t,hk=>.cons hk hv t|_,_,_,_,i+1,.cons h k t,hk=>.cons h k (t.modifyKey i hk)
def E1.a9e:∀{l d:List G1}{v v':A1}(i:Nat),E1 F E l d->AN F E v v'->E1 F E (l.modify i λe=>{e with val:=v}) (d.modify i λe=>{e with val:=v'})|_,_,_,_,i,.nil,_=>by cases i<;>exact .nil|_,_,_,_,0,.cons hk _ t,hv=>.cons hk hv t|_,_,_,_,i+1,.cons h k t,hv=>.cons h k (t.a9e i hv)
def E1.aIR{es es':Array G1}(h:E1 F E es.toList es'.toList)(i:Nat):(es'[i]?.map λx=>(x.born:Int)).getD 0=(es[i]?.map λx=>(x.born:Int)).getD 0:=by
 have:=h.get i;simp only[Oi]at this;rcases this with⟨e,b⟩|⟨x,y,e,b,_,_,s⟩;·rw[e,b]
 rw[e,b];simp[s]
def E1.a52{g:Nat->Bool}:∀{l d:List G1},E1 F E l d->d.findIdx? (λe=>g e.born)=l.findIdx? λe=>g e.born|_,_,.nil=>rfl|_,_,.cons _ _ t=>by simp only[List.findIdx?_cons];rw[t.a52]
def aVB(m:Fit P F)(hs:∀b,Mz x=Y b->so.obj b)(q:P.globals.size=Ci)(n:Nat)(t:Aj)(AK:∀k e,P.underlying t=Y (ZU k e)->flat P n k=A3)(hx:AN F E x x')(s:AN F E k k'):AO P F so (CL F) E (ZJ t x k) (ZJ t x' k'):=by
 unfold ZJ;refine(Nh t).andThen ?_;rintro D U u _⟨rfl,hu⟩;replace hx:=hx.mono U;replace s:=s.mono U;cases u with
 |map N H=>
  dsimp only;have A:=AK N H hu;cases hx with
  |Rg=>exact Rq _
  |map A2=>
   refine .getObj A2 λo o' AA=>?_;cases AA with
   |map c K=>
    refine(b_ _ _ _ s).andThen ?_;intro L M _ _ _;refine(q0 q n N A (s.mono M) (K.mono M)).andThen ?_;intro R Q r As BG;replace s:=(s.mono M).mono Q;replace K:=(K.mono M).mono Q;have d:=Q _ _ (M _ _ A2);cases BG with
    |none=>refine(MM m H).andThen ?_;intro C I z z' f;refine .setObj (hs _ rfl) (I _ _ d) (λ_ _ _ h=>by cases h) (.map _ ?_) (.pure (.tuple (.cons f (.cons (.int _ _) .nil))));simpa using(K.mono I).snoc _ (s.mono I) f
    |some j hv=>
     refine(aAv (K.a8V j s) s).andThen ?_;intro C I y y' hy;refine .setObj (hs _ rfl) (I _ _ d) (λ_ _ _ h=>by cases h) (.map _ ?_) (.pure (.tuple (.cons (hv.mono I) (.cons ?_ .nil))));·simpa[zq]using(K.mono I).modifyKey j hy
     rw[K.aIR j];exact .int _ _
   |_=>exact .stuck
  |_=>exact .stuck
 |_=>exact .stuck
def aUu(hs:∀b,Mz x=Y b->so.obj b)(t:Aj)(hx:AN F E x x')(M:AN F E k k')(hv:AN F E v v'):AO P F so P5 E (fu t x k v) (fu t x' k' v'):=by
 unfold fu;cases hx with
 |map I=>
  refine .getObj I λo U N=>?_;cases N with
  |map c H=>
   refine(TY M).andThen ?_;rintro d z b _ rfl;have hi:=H.a52 (g:=λn=>(n:Int)==b);rename_i y s;have K:s.findIdx? λe=>(e.born:Int)==b=y.findIdx? λe=>(e.born:Int)==b:=by obtain⟨l⟩:=y;obtain⟨Q⟩:=s;simpa using hi
   rw[K];cases y.findIdx? λe=>(e.born:Int)==b with|none=>exact .Cs|some i=>refine .setObj (hs _ rfl) (z _ _ I) (λ_ _ _ h=>by cases h) (.map _ ?_) (.pure trivial);simpa[zq]using(H.mono z).a9e i (hv.mono z)
  |_=>exact .stuck
 |_=>exact .stuck
def aUp(M:Fit P F)(hs:∀b,so.obj b)(ts:Array Aj)(t:Aj)(hx:AN F E x x'):AO P F so (CL F) E (kk ts t #[x]) (kk ts t #[x']):=by
 unfold kk;cases ts[0]? with
 |none=>exact .stuck
 |some ty=>
  dsimp only;refine(GN ty).andThen ?_;rintro d I u _ rfl;replace hx:=hx.mono I;have s:∀{E:AT},AO P F so (CL F) E (FX (Ay #[]):BU A1) (FX (Ay #[])):=.AQ (.tuple .nil);cases hx with
  |Rg=>exact s
  |HL l c=>exact s
  |map H=>
   refine .getObj H λo o' Q=>?_;cases Q with
   |map c e=>exact .setObj (hs _) H (λ_ _ _ h=>by cases h) (.map _ .nil) s
   |_=>exact .stuck
  |slice l c N=>
   cases l with
   |zero=>exact s
   |succ l=>
    cases u with
    |slice y=>refine(MM M y).andThen ?_;intro f K z z' U;refine(ba 0 (N.mono K) (U.cells.zeroCells _)).andThen ?_;intro j m _ _ _;exact s
    |_=>exact .stuck
  |_=>cases u<;>exact .stuck
def AO.a5D{By:Type}{Q:AT->By->By->Prop}{f f':A1->By->BU (ForInStep By)}:∀{l d:List A1}{E:AT}{b b':By},Aq F E l d->(∀s,E.le s->∀x z,AN F s x z->∀b b',Q s b b'->AO P F so (a7 Q) s (f x b) (f' z b'))->Q E b b'->AO P F so Q E (Wo l b f) (Wo d b' f')|_,_,_,_,_,.nil,_,h=>by simp only[a2T];exact .AQ h|_,_,E,b,b',.cons hv t,AK,h=>by simp only[a2S];refine(AK E (AT.le_refl _) _ _ hv b b' h).andThen ?_;intro e H x z hx;cases hx with|done h=>exact .AQ h|yield h=>exact AO.a5D (t.mono H) (λs I y K=>AK s (AT.le_trans H I) y K) h
def aUl(hx:AN F E x x'):AO P F so (CL F) E (a'W x) (a'W x'):=by
 unfold a'W;cases hx with
 |HL l c=>exact .AQ (.string _)
 |slice l c z=>
  dsimp only;refine(ye z l).andThen ?_;intro d e cs h I;refine AO.andThen (Q:=FH) ?_ ?_
  ·rw[<-kg,<-kg];refine AO.a5D I (λK U y y' hy b N H=>?_) rfl;subst H;cases hy with
   |int k n=>
    cases k<;>first
    |exact .AQ (.yield rfl)
    |exact .stuck
   |_=>exact .stuck
  rintro M f s _ rfl;exact .AQ (.string _)
 |_=>exact .stuck
def aB6(h:Cf E a a'):AO P F so Xc E (a'X a) (a'X a'):=by
 unfold a'X;refine(q4 h.1).andThen ?_;intro d y x I hx;replace h:=h.mono y;cases hx with
 |none=>exact .AQ h
 |some t v hs=>
  rename_i s H;dsimp only;rw[h.2.1,h.2.2];split;·exact .AQ hs
  rw[hs.2.2];split;·exact .Cs
  refine .prog ?_;cases sS P P.depth t a.off with
  |none=>exact .Cs
  |some z=>
   refine .shape hs.1 λb=>?_;cases b with
   |none=>exact .Cs
   |some b=>
    obtain⟨e,n⟩:=b;simp only[Dx];split;·exact .Cs
    rw[hs.2.1];cases aFU P P.depth e (n/P.cellsOf e) s.off z with|none=>exact .Cs|some c=>exact .AQ ⟨hs.1,rfl,rfl⟩
def aUo{r As:Nat}(h:E.rel r As):AO P F so FH E (a1R r) (a1R As):=by unfold a1R;refine .shape h λs=>?_;cases s with|some s=>exact .AQ rfl|none=>refine .getObj h λo y b=>?_;cases b<;>exact .pure rfl
def aBA(y h:Aj)(hc:(∃t,veiled t/\P.underlying y=Y (P' t)/\P.underlying h=Y .unsafePointer)∨∃t,veiled t/\P.underlying y=Y a1J/\P.underlying h=Y (P' t))(hx:AN F E x x'):AO P F so (CL F) E (a'Y y h x) (a'Y y h x'):=by
 unfold a'Y;refine(Nh y).andThen ?_;rintro L d u _⟨rfl,hu⟩;refine(Nh h).andThen ?_;rintro R f v _⟨rfl,hv⟩;replace hx:=(hx.mono d).mono f;rcases hc with⟨t,I,K,h2⟩|⟨t,I,K,h2⟩
 ·rw[K]at hu;rw[h2]at hv;obtain rfl:=CH hu;obtain rfl:=CH hv;cases hx with
  |HI=>exact .AQ .HI
  |ptr N=>
   dsimp only;refine(aB6 N).andThen ?_;intro j m s q hs;refine(aUo hs.1).andThen ?_;rintro T A n _ rfl;refine(IY t).andThen ?_;rintro C M z _ rfl;replace hs:=(hs.mono A).mono M;rw[hs.2.1,hs.2.2];cases n with
   |none=>
    dsimp only;split;·exact .new (.view t I hs) λb U H=>.pure (.ptr ⟨AT.Sf _ _ _ H,rfl,rfl⟩)
    exact .AQ (.ptr hs)
   |some n=>
    dsimp only;split;·exact .new (.view t I hs) λb U H=>.pure (.ptr ⟨AT.Sf _ _ _ H,rfl,rfl⟩)
    exact .AQ (.ptr hs)
  |_=>exact .stuck
 rw[K]at hu;rw[h2]at hv;obtain rfl:=CH hu;obtain rfl:=CH hv;cases hx with
 |HI=>exact .AQ .HI
 |ptr N=>
  dsimp only;refine(aB6 N).andThen ?_;intro j m s q hs;refine(IY t).andThen ?_;rintro C M z _ rfl;replace hs:=hs.mono M;refine(aBB hs t 1).andThen ?_;rintro W D b _ rfl;replace hs:=hs.mono D;split;·exact .AQ (.ptr hs)
  refine .shape hs.1 λQ=>?_;cases Q with
  |none=>exact .Cs
  |some Q=>
   obtain⟨e,n⟩:=Q;simp only[Dx];refine .prog ?_;refine .prog ?_;split;·exact .Cs
   exact .new (.view t I hs) λb U H=>.pure (.ptr ⟨AT.Sf _ _ _ H,rfl,rfl⟩)
 |_=>exact .stuck
def aVR(ts:Array Aj)(t:Aj)(I:∀e,P.underlying t=Y (P' e)->veiled e)(hx:AN F E x x'):AO P F so (CL F) E (a'B ts t #[x]) (a'B ts t #[x']):=by
 unfold a'B;cases hx with
 |HL l c=>exact .AQ .HI
 |slice l c AB=>
  change AO P F so (CL F) E (ite (c≠0) _ _) (ite (c≠0) _ _);split;·exact .AQ (.ptr AB)
  refine(q4 AB.1).andThen ?_;intro d z y M hy;replace AB:=AB.mono z;cases hy with
  |some u v hs=>exact .AQ (.ptr AB)
  |none=>
   unfold Tz;refine AO.andThen (Q:=λ_(e e':Aj)=>e'=e/\veiled e) ?_ ?_;·refine(Nh t).andThen ?_;rintro s h u _⟨rfl,hu⟩;cases u with|pointer e=>exact .AQ ⟨rfl,I e hu⟩|_=>exact .stuck
   rintro s h e _⟨rfl,he⟩;exact .new (.view _ he (AB.mono h)) λb K H=>.pure (.ptr ⟨AT.Sf _ _ _ H,rfl,rfl⟩)
 |_=>exact .stuck
def aSb(c:Sys):FE P (sys c):=λ_ _ _ _ _ e=>by cases e
def aJz(x:A1):BQ P (aDr x):=by
 unfold aDr;cases x with
 |iface t v=>exact BQ.halt _
 |nilIface=>
  refine BQ.behind ?_ λn=>?_;·unfold Instr.panicnil;refine FE.bind (aSb _) λr=>?_;cases r with|strings b=>refine FE.bind PR λp=>?_;exact FE.pure _|_=>exact FE.dead (BQ.halt _)
  skip;split;·exact BQ.halt _
  exact Gx _
 |_=>exact BQ.halt _
def aAq(hx:AN F E x x')(hy:AN F E y y'):AO P F so (CL F) E (rU #[x,y]) (rU #[x',y']):=by unfold rU;refine(eb hx).andThen ?_;rintro d h b _ rfl;refine(eb (hy.mono h)).andThen ?_;rintro s z c _ rfl;exact .AQ (.int _ _)
def a4W:∀(n t:Nat){d:zw},Aq F E d.toList d.toList->Aq F E (a'Z n t d).toList (a'Z n t d).toList|0,_,_,h=>h|n+1,t,d,h=>by unfold a'Z;exact a4W n _ (by simpa using h.append (.cons (.int _ _) .nil))
def aAy(h b:Array Aj)(hx:AN F E x x'):AO P F so (CL F) E (rY h b #[x]) (rY h b #[x']):=by
 unfold rY;cases hx with
 |int k n=>
  cases k with
  |i64=>
   dsimp only;cases b[0]? with
   |none=>exact .stuck
   |some t=>
    refine(GN t).andThen ?_;rintro d K u _ rfl;cases u with
    |slice e=>
     dsimp only;split;·exact .Hi (Gx _).bind
     refine .choose _ λc=>?_;refine(Y_ c).andThen ?_;intro z M _ _ _;refine .choose _ λs=>?_;refine(Rp e (a4W c s .nil)).andThen ?_;intro H N a I y;exact .AQ (.slice _ _ y)
    |_=>exact .stuck
  |_=>exact .stuck
 |_=>exact .stuck
def aB3{a a':zw}(h:Aq F E a.toList a'.toList):AO P F so (CL F) E (kz a) (kz a'):=by obtain⟨l⟩:=a;obtain⟨b⟩:=a';unfold kz;match l,b,h with|[],[],_=>exact .stuck|[x],[x'],.cons hx .nil=>exact .AQ hx|_::_::_,_::_::_,_=>exact .stuck
def kH(t:Nat):Bool:=t==190||t==5
def yu{t:Nat}(h:kH t=A3):veiled t:=by unfold kH at h;simpa[veiled]using h
def n2(P:Ap)(h b:Aj):Bool:=word P h&&word P b||match P.underlying h,P.underlying b with|Y (lW e),Y a1I=>(match P.underlying e with|Y (R5 .u8)=>A3|_=>A9)|Y (P' t),Y a1J=>kH t|Y a1J,Y (P' t)=>kH t|_,_=>A9
def aUq(y b:Aj)(h:n2 P y b=A3)(hx:AN F E x x'):AO P F so (CL F) E (gN y b x) (gN y b x'):=by
 unfold n2 at h;rcases Bool.or_eq_true_iff.1 h with h|h;·exact aUr y b (Bool.and_eq_true_iff.1 h).1 (Bool.and_eq_true_iff.1 h).2 hx
 unfold gN;refine(Nh y).andThen ?_;rintro f I u _⟨rfl,hu⟩;refine(Nh b).andThen ?_;rintro z K v _⟨rfl,hv⟩;rw[hu,hv]at h;replace hx:=(hx.mono I).mono K;cases u with
 |slice e=>
  cases v with
  |string=>
   simp only at h;cases he:P.underlying e with
   |none=>rw[he]at h;cases h
   |some d=>
    rw[he]at h;cases d with
    |int k=>
     cases k with
     |u8=>
      have N:=hx;cases hx with
      |int k n=>exact .AQ (.string _)
      |string s=>exact .AQ (.string _)
      |_=>refine(Nh e).andThen ?_;rintro Q M d _⟨rfl,H⟩;rw[he]at H;obtain rfl:=CH H;exact aUl (N.mono M)
     |_=>cases h
    |_=>cases h
  |_=>cases h
 |pointer t=>
  cases v with
  |unsafePointer=>have go:=aBA (P:=P) (F:=F) (so:=so) (E:=z) y b (AD ⟨t,yu h,hu,hv⟩) hx;cases hx<;>exact go
  |_=>cases h
 |unsafePointer=>
  cases v with
  |pointer t=>have go:=aBA (P:=P) (F:=F) (so:=so) (E:=z) y b (AJ ⟨t,yu h,hu,hv⟩) hx;cases hx<;>exact go
  |_=>cases h
 |_=>cases h
def aUe(D:Fit P F){s C9:A1}(ts:Array Aj)(t:Aj)(h:AN F E s C9)(k:AN F E x x')(oT:∃u q,ts[1]?=Y u/\P.underlying u=Y (R5 q)):AO P F so (CL F) E (VF ts t #[s,x]) (VF ts t #[C9,x']):=by
 obtain⟨u,q,h1,AH⟩:=oT;unfold VF;cases AP:ts[0]? with
 |none=>exact .stuck
 |some yo=>
  simp only[VY,m_,a2V];refine(GN yo).andThen ?_;rintro n3 L d _ rfl;cases d with
  |slice e=>
   have h2:=h.mono L;have C:∀{E:AT}(y n:Nat),AO P F so (RA F) E (if n*y=0 then FX #[]else do FX (Nv (<-Q3 e).cells n)) (if n*y=0 then FX #[]else do FX (Nv (<-Q3 e).cells n)):=by
    intro E y n;split;·exact .AQ .nil
    refine(MM D e).andThen ?_;intro hW _ z z' f;exact .AQ (f.cells.zeroCells n)
   cases h2 with
   |HL l c=>
    dsimp only;refine(IY e).andThen ?_;rintro C4 H y _ rfl;rw[h1];dsimp only;refine(Nh u).andThen ?_;rintro qv R d2 _⟨rfl,AS⟩;rw[AH]at AS;obtain rfl:=CH AS;replace H:=AT.le_trans H R;refine AO.andThen (Q:=λ_ a a'=>a=A3/\a'=A3) (.AQ ⟨rfl,rfl⟩) ?_;rintro T K _ _⟨rfl,rfl⟩;simp only[↓reduceIte,Tn,EJ,true_or,and_true];refine(TY (((k.mono L).mono H).mono K)).andThen ?_;rintro W X m _ rfl;split;·exact .Hi (Gx _).bind
    refine(IG e).andThen ?_;rintro aD1 vN i _⟨rfl,_⟩;split;·exact .Hi (BQ.behind (OQ _) λ_=>(Gx _).bind)
    refine AO.andThen (Q:=FH) (.AQ rfl) ?_;rintro qw vO n _ rfl;have I:T.le qw:=AT.le_trans X (AT.le_trans vN vO);split;·refine(C y n).andThen ?_;intro H5 M N TP U;exact .AQ (.HL _ _)
    refine(IG e).andThen ?_;rintro H5 M Q_ _⟨rfl,_⟩;replace I:=AT.le_trans I M;split;·exact .Hi (Gx _).bind
    refine(IG e).andThen ?_;rintro Qx A j _⟨rfl,_⟩;split;·exact .Hi (Gx _).bind
    refine .choose _ λTQ=>?_;refine(IG e).andThen ?_;rintro Z6 QL ON _⟨rfl,_⟩;refine(Y_ _).andThen ?_;intro Z7 QM _ _ _;have OZ:=λ(v v':A1)(hv:AN F n3 v v')=>(((((hv.mono H).mono K).mono I).mono A).mono QL).mono QM;refine(Ng y _ (OZ _ _ (.HL l c:AN F n3 _ _))).andThen ?_;intro bu UP old Ux D7;refine(C y n).andThen ?_;intro fT Sp N TP U;refine(MM D e).andThen ?_;intro fU Sq z z' f;refine(Rp e ?_).andThen ?_;·have:=(((D7.mono Sp).append U).mono Sq).append (f.cells.zeroCells (TQ-(l+n)));simpa using this
    intro fV iC b b' hb;exact .AQ (.slice _ _ hb)
   |slice l c AB=>
    dsimp only;refine(IY e).andThen ?_;rintro C4 H y _ rfl;rw[h1];dsimp only;refine(Nh u).andThen ?_;rintro qv R d2 _⟨rfl,AS⟩;rw[AH]at AS;obtain rfl:=CH AS;replace H:=AT.le_trans H R;refine AO.andThen (Q:=λ_ a a'=>a=A3/\a'=A3) (.AQ ⟨rfl,rfl⟩) ?_;rintro T K _ _⟨rfl,rfl⟩;rw[if_pos rfl,if_pos rfl];refine(TY (((k.mono L).mono H).mono K)).andThen ?_;rintro W X m _ rfl;by_cases c1:A8.wrap m<0;·rw[if_pos c1];exact .Hi (Gx _).bind
    rw[if_neg c1,if_neg c1];refine(IG e).andThen ?_;rintro aD1 vN i _⟨rfl,_⟩;by_cases c2:A8.wrap m*i.bytes>2^48;·rw[if_pos c2];exact .Hi (BQ.behind (OQ _) λ_=>(Gx _).bind)
    rw[if_neg c2,if_neg c2];refine AO.andThen (Q:=FH) (.AQ rfl) ?_;rintro qw vO n _ rfl;have I:T.le qw:=AT.le_trans X (AT.le_trans vN vO);simp only[↓reduceIte,Tn,EJ,true_or,and_true];split;·refine(C y n).andThen ?_;intro H5 M N TP U;refine(ba 0 (((((AB.mono H).mono K).mono I).mono M).add _) U).andThen ?_;intro Qx A _ _ _;exact .AQ (.slice _ _ (((((AB.mono H).mono K).mono I).mono M).mono A))
    refine(IG e).andThen ?_;rintro H5 M Q_ _⟨rfl,_⟩;replace I:=AT.le_trans I M;split;·exact .Hi (Gx _).bind
    refine(IG e).andThen ?_;rintro Qx A j _⟨rfl,_⟩;split;·exact .Hi (Gx _).bind
    refine .choose _ λTQ=>?_;refine(IG e).andThen ?_;rintro Z6 QL ON _⟨rfl,_⟩;refine(Y_ _).andThen ?_;intro Z7 QM _ _ _;have OZ:=λ(v v':A1)(hv:AN F n3 v v')=>(((((hv.mono H).mono K).mono I).mono A).mono QL).mono QM;refine(Ng y _ (OZ _ _ (.slice l c AB:AN F n3 _ _))).andThen ?_;intro bu UP old Ux D7;refine(C y n).andThen ?_;intro fT Sp N TP U;refine(MM D e).andThen ?_;intro fU Sq z z' f;refine(Rp e ?_).andThen ?_;·have:=(((D7.mono Sp).append U).mono Sq).append (f.cells.zeroCells (TQ-(l+n)));simpa using this
    intro fV iC b b' hb;exact .AQ (.slice _ _ hb)
   |_=>exact .stuck
  |_=>exact .stuck
end
section
variable{P:Ap}{F:zy}{so:Dj}{E:AT}
inductive V_(F:zy)(E:AT):gF->gF->Prop|val{v v':A1}:AN F E v v'->V_ F E (.val v) (.val v')|var{a a':Ak}:Cf E a a'->V_ F E (.var a) (.var a')
def V_.mono{n3:AT}(b:E.le n3):∀{x x':gF},V_ F E x x'->V_ F n3 x x'|_,_,.val h=>.val (h.mono b)|_,_,.var h=>.var (h.mono b)
def k8(t:Aj){x x':gF}(h:V_ F E x x'):AO P F so (CL F) E (x.get t) (x'.get t):=by cases h with|val h=>exact .AQ h|var h=>exact kA h t
def q1:∀(l:List FieldStep){E:AT}(t:Aj){x x':gF},V_ F E x x'->AO P F so (λE a a'=>a'.1=a.1/\V_ F E a.2 a'.2) E (a1S l t x) (a1S l t x')
 |[],_,t,_,_,h=>.AQ ⟨rfl,h⟩
 |s::rest,E,t,x,x',h=>by
  unfold a1S;refine(GN s.struct).andThen ?_;rintro d M u _ rfl;replace h:=h.mono M;cases u with
  |struct y=>
   dsimp only;cases y[s.index]? with
   |none=>exact .stuck
   |some f=>
    dsimp only;split;·refine(k8 t h).andThen ?_;intro N U v v' hv;refine(k7 hv).andThen ?_;intro Q e a a' z;refine(yb z f).andThen ?_;intro H I p K b;exact q1 rest f.type (.var b)
    cases h with|var z=>refine(yb z f).andThen ?_;intro H I p K b;exact q1 rest f.type (.var b)|val hv=>cases hv with|agg hc=>refine(Qo f.type hc f.offset).andThen ?_;intro H I p K b;exact q1 rest f.type (.val b)|_=>exact .stuck
  |_=>exact .stuck
def aVY(ts:Array Aj)(t:Aj)(h:AN F E x x')(a b:zz):AO P F so (CL F) E (a'A ts t #[x,J a,J b]) (a'A ts t #[x',J a,J b]):=by
 unfold a'A;cases h with
 |ptr y=>exact .AQ (.ptr y)
 |HI=>
  refine .Hi ?_;refine BQ.behind (OQ _) λn=>?_;dsimp only;split;·exact(Gx _).bind
  cases ts[0]? with
  |none=>exact BQ.halt _
  |some z=>
   refine BQ.behind (Rf _) λu=>?_;cases u with
   |pointer t=>
    refine BQ.behind (Re _) λi=>?_;cases i.desc with
    |named s _=>
     dsimp only;cases String.fromUTF8? b with
     |none=>exact BQ.halt _
     |some m=>
      dsimp only;split;·exact Gx _
      exact BQ.halt _
    |_=>exact BQ.halt _
   |_=>exact BQ.halt _
 |_=>exact .stuck
def aVL(b:Aj){x x':gF}(h:V_ F E x x')(ptr:Bool)(wr:Option String):AO P F so (CL F) E (a1b b x ptr wr) (a1b b x' ptr wr):=by
 unfold a1b;refine(GN b).andThen ?_;rintro d M u _ rfl;replace h:=h.mono M;cases u with
 |pointer e=>
  cases ptr with
  |true=>exact k8 b h
  |false=>
   dsimp only;refine(k8 b h).andThen ?_;intro f j v v' hv;cases wr with
   |none=>dsimp only;refine AO.andThen (Q:=CL F) (.AQ hv) ?_;intro H N y y' hy;refine(k7 hy).andThen ?_;intro I U a K s;exact kA s e
   |some z=>dsimp only;refine(aVY _ _ hv _ _).andThen ?_;intro H N y y' hy;refine(k7 hy).andThen ?_;intro I U a K s;exact kA s e
 |_=>
  cases ptr with
  |true=>
   cases h with
   |val hv=>exact .stuck
   |var s=>exact .AQ (.ptr s)
  |false=>exact k8 b h
def tX(P:Ap)(F:zy)(name:String):Prop:=∀t i,P.info? t=Y i->∀m,i.methods.find? (·.name==name)=Y m->∀f b,m.func=Y (f,b)->F f
def aB'{name:String}(z:tX P F name):∀(n:Nat){E:AT}(t:Aj){v v':A1},AN F E v v'->AO P F so (λE a a'=>a'.1=a.1/\F a.1/\AN F E a.2 a'.2) E (a1_ n t v name) (a1_ n t v' name)
 |0,_,_,_,_,_=>.Cs
 |n+1,E,t,v,v',h=>by
  unfold a1_;refine(IG t).andThen ?_;rintro d I i _⟨rfl,hi⟩;cases N:i.methods.find? (·.name==name)with
  |none=>exact .stuck
  |some m=>
   dsimp only;refine(q1 m.path.toList t (.val (h.mono I))).andThen ?_;rintro j A⟨C,x⟩⟨s,x'⟩⟨e,hx⟩;simp only at e hx;subst e;dsimp only;cases M:m.func with
   |none=>
    dsimp only;refine(k8 s hx).andThen ?_;intro H K y U hy;cases hy with
    |iface u Q=>exact aB' z n u Q
    |nilIface=>exact Rq _
    |_=>exact .stuck
   |some q=>obtain⟨f,b⟩:=q;dsimp only;refine(aVL s hx b _).andThen ?_;intro H K y U hy;exact .AQ ⟨rfl,z t i hi m N f b M,hy⟩
def aXb{fs:Array ft}(h:ri WH fs=Y i):i.methods=#[]:=by unfold ri at h;simp only[P3,JI]at h;obtain⟨st,_,h⟩:=h;split at h<;>(cases h;rfl)
def aVp{d:lV}(h:rh WH d=Y i):i.methods=#[]:=by
 unfold rh at h;cases d with
 |pointer e=>
  simp only[P3,JI]at h;obtain⟨j,y,h⟩:=h;split at h;·cases h
  ·split at h;·cases h
   simp only[JI]at h;obtain⟨s,_,h⟩:=h;cases h;rfl
  simp only[JI]at h;obtain⟨s,_,h⟩:=h;cases h;rfl
 |slice e=>simp only[P3,JI]at h;obtain⟨j,_,s,_,h⟩:=h;cases h;rfl
 |map a b=>simp only[P3,JI]at h;obtain⟨j,_,s,_,H,_,I,_,h⟩:=h;cases h;rfl
 |chan a b=>simp only[P3,JI]at h;obtain⟨j,_,s,_,h⟩:=h;cases h;rfl
 |func a b c=>simp only[P3,JI]at h;obtain⟨s,_,h⟩:=h;cases h;rfl
 |array n e=>simp only[P3,JI]at h;obtain⟨j,y,s,_,h⟩:=h;cases h;rfl
 |struct z=>exact aXb h
 |_=>cases h
def a9Y(P:Ap)(fb:Nat->Bool)(name:String):Bool:=P.types.toList.all λi=>match i.methods.find? (·.name==name)with|Y m=>(match m.func with|Y (f,_)=>fb f|Z=>A3)|Z=>A3
def aQ6{P:Ap}(h:P.info? t=Y i):i∈P.types.toList∨i.methods=#[]:=by
 unfold aFK at h;have s:∀(b t:Nat)(i:LJ),rf P.toTables b t=Y i->i∈P.types.toList∨i.methods=#[]:=by
  intro b;cases b with
  |zero=>intro t i h;cases h
  |succ f=>
   intro t i h;unfold rf at h;split at h;·exact AD (by simpa using fN h)
   simp only[JI]at h;obtain⟨d,_,h⟩:=h;exact AJ (aVp h)
 split at h;·exact AD (by simpa using fN h)
 exact s _ t i h
def aSY{fb:Nat->Bool}(y:∀f,fb f=A3->F f){name:String}(h:a9Y P fb name=A3):tX P F name:=by
 intro t i hi m s f b z;rcases aQ6 hi with e|e;·have:=List.all_eq_true.1 h i e;rw[s]at this;simp only[z]at this;exact y f this
 rw[e]at s;cases s
end
def IS(l:List Nat):List Nat:=if l.contains 1000007 then if l.contains 1000008 then[0,25]else if l.contains 1000009 then[0,35]else[0,15]else[]
def Zp(l:List Nat):Prop:=l≠[]/\IS l=[]
section
variable{P:Ap}{F:zy}{so:Dj}{E:AT}
inductive mc(P:Ap)(F:zy)(own:Nat->List Nat)(E:AT):LH->LH->Prop|value{v v':A1}:AN F E v v'->mc P F own E (D6 v) (D6 v')|skip:mc P F own E cO cO|enter{f:Nat}{a a':zw}:F f∨Zp (own f)->(∃fn c,P.funcs[f]?=Y fn/\fn.body=Y c)->(∀t∈own f,a.size<=t)->Aq F E a.toList a'.toList->mc P F own E (VQ f a) (VQ f a')
abbrev M1(P:Ap)(F:zy)(own:Nat->List Nat):AT->LH->LH->Prop:=λE a a'=>mc P F own E a a'
def Calm(P:Ap)(F:zy)(so:Dj):Prop:=(∀f,F f->so.own f=[])/\∀f,F f∨Zp (so.own f)->∀(E:AT),(∀b,b<Ci->E.rel b b)->∀(a a':zw),(∀t∈so.own f,a.size<=t)->Aq F E a.toList a'.toList->AO P F so (M1 P F so.own) E (Me f a) (Me f a')
def yY{f:Nat}(y:F f∨Zp (so.own f))(s:P.funcs[f]?=Y fn)(hn:(fn.name== "runtime.NumGoroutine")=A9)(b:fn.body.isNone=A9){a a':zw}(z:∀t∈so.own f,a.size<=t)(h:Aq F E a.toList a'.toList):AO P F so (M1 P F so.own) E (Me f a) (Me f a'):=by unfold Me;refine .prog ?_;rw[s];simp only[hn,b,EJ,↓reduceIte];exact .AQ (.enter y ⟨fn,fn.body.get (by simpa using b),s,by simp⟩ z h)
def H3{d:BU A1}(h:AO P F so (CL F) E s d):AO P F so (M1 P F so.own) E (do FX (D6 (<-s))) (do FX (D6 (<-d))):=h.andThen λ_ _ _ _ hv=>.AQ (.value hv)
def q2{s d:BU Unit}(h:AO P F so P5 E s d):AO P F so (M1 P F so.own) E (do s;FX cO) (do d;FX cO):=h.andThen λ_ _ _ _ _=>.AQ .skip
def mg(P:Ap)(F:zy)(so:Dj)(k:Nat):Op->Prop
 |Mb _|SK _|.pick ..|.alloc _|.box ..|a'z ..|lJ ..|.load ..|gD ..|lM _|.unOp ..|aE8 ..|a02 ..|lL ..|.slice ..=>True
 |gB ..|.field ..|rk ..|.index ..|a05 ..|aE9 ..|.extract ..=>True
 |a'y op t _ y _=>op=.eql∨op=.neq->flat P k t=A3∨(∃v,y=Iy v/\Nil v)∨so.Hx/\∃e,P.underlying t=Y (P' e)
 |.convert s d _=>n2 P s d=A3
 |aE7 fn _ _=>∃f,fn=Ek f/\F f
 |.lookup t _ _ _=>∀h e,P.underlying t=Y (ZU h e)->flat P k h=A3
 |a04 t _ _ _|a01 t _ _ _=>∀h e,P.underlying t=Y (ZU h e)->flat P k h=A3
 |a03 t _ _=>∀h e,P.underlying t=Y (ZU h e)->flat P k h=A3
 |.next _ _|a0' ..|.panic _=>True
 |If c=>match c.callee with
  |Kj f_=>c.args.size=2
  |Kj .len|Kj .cap=>c.args.size=1
  |Kj .copy=>c.args.size=2
  |Kj a'C=>so.FI/\c.args.size=2
  |Kj .min=>True
  |Kj .clear=>(∀b,so.obj b)/\c.args.size=1
  |Kj r3=>c.args.size=1
  |N7 (JE f)=>(F f∨Zp (so.own f))/\∀t∈so.own f,c.args.size<=t
  |N7 _=>True
  |.invoke _ name=>tX P F name
  |_=>False
 |_=>False
def hA(P:Ap)(o:BR):Prop:=match o.op with
 |If c=>match c.callee with
  |Kj r3=>∀e,P.underlying o.type=Y (P' e)->veiled e
  |_=>True
 |_=>True
def opsOf:Op->List C'
 |If c=>match c.callee with
  |N7 (JE _)=>c.args.toList
  |_=>(If c).operands.toList
 |o=>o.operands.toList
def setOf:Op->Option C'|a04 _ x _ _|a01 _ x _ _|.next x _|a03 _ x _|a0' _ x _ _=>Y x|_=>Z
def Aq.ofMap{bv:Type}{f f':bv->A1}:∀(l:List bv),(∀x∈l,AN F E (f x) (f' x))->Aq F E (l.map f) (l.map f')|[],_=>.nil|x::l,h=>.cons (h x (by simp)) (Aq.ofMap l λy hy=>h y (by simp[hy]))
def P4.ofMap{f f':C'->A1}:∀(l:List (Nat×C')),(∀x∈l.map (·.2),AN F E (f x) (f' x))->P4 F E (l.map λp=>(p.1,f p.2)) (l.map λp=>(p.1,f' p.2))|[],_=>.nil|x::l,h=>.cons x.1 (h x.2 (by simp)) (P4.ofMap l λy hy=>h y (by simp only[Gd,List.mem_cons];exact AJ hy))
def LP.ofMap{f f':C'->A1}{o:Option C'}(h:∀x,o=Y x->AN F E (f x) (f' x)):LP F E (o.map f) (o.map f'):=by cases o with|none=>exact AD ⟨rfl,rfl⟩|some x=>exact AJ ⟨_,_,rfl,rfl,h x rfl⟩
def two{a:Array bv}(h:a.size=2):∃x y,a=#[x,y]:=by obtain⟨l⟩:=a;match l,h with|[x,y],_=>exact⟨x,y,rfl⟩
def one{a:Array bv}(h:a.size=1):∃x,a=#[x]:=by obtain⟨l⟩:=a;match l,h with|[x],_=>exact⟨x,rfl⟩
def aVI(o:BR)(y:C')(s:o.op=lM y)(e:ρ y=x)(e':ρ' y=x')(h:AN F E x x'):AO P F so (M1 P F so.own) E (Ab ρ o) (Ab ρ' o):=by unfold Ab;rw[s];simp only[e,e'];cases h with|HI=>exact Rq _|nilIface=>exact Rq _|nilFunc=>exact Rq _|ptr h=>exact .AQ (.value (.ptr h))|slice l c h=>exact .AQ (.value (.slice l c h))|map h=>exact .AQ (.value (.map h))|chan h=>exact .AQ (.value (.chan h))|func a b c=>exact .AQ (.value (.func a b c))|iface t h=>exact .AQ (.value (.iface t h))|agg h=>exact .AQ (.value (.agg h))|tuple h=>exact .AQ (.value (.tuple h))|_=>exact .AQ (.value (by constructor))
end
section
variable{P:Ap}{F:zy}{so:Dj}{E:AT}
def aUm(M:Fit P F)(hC:Calm P F so)(N:∀b,b<Ci->E.rel b b)(OD:∀f,ρ (JE f)=FU (Ek f) #[] #[])(m:∀f,ρ' (JE f)=FU (Ek f) #[] #[])(o:BR)(c:Call)(AA:o.op=If c)(k:Nat)(h:mg P F so k o.op)(U:hA P o)(s:∀x∈opsOf o.op,AN F E (ρ x) (ρ' x)):AO P F so (M1 P F so.own) E (Ab ρ o) (Ab ρ' o):=by
 unfold Ab;unfold hA at U;rw[AA]at h s U⊢;obtain⟨callee,args,ts⟩:=c;cases callee with
 |value f=>
  by_cases AS:∃g,f=JE g
  ·obtain⟨g,rfl⟩:=AS;have K:Aq F E (args.map ρ).toList (args.map ρ').toList:=by simpa using Aq.ofMap (f:=ρ) (f':=ρ') args.toList λx hx=>s x hx
   show AO P F so (M1 P F so.own) E (cE (ρ (JE g)) (args.map ρ)>>=_) (cE (ρ' (JE g)) (args.map ρ')>>=_);rw[OD,m];refine hC.2 _ h.1 E N _ _ ?_ ?_;·intro t I;have:=h.2 t I;simpa using this
   simpa using K
  have s:∀x∈((If {callee:=N7 f,args:=args,argTypes:=ts}).operands).toList,AN F E (ρ x) (ρ' x):=by intro x hx;refine s x ?_;cases f<;>first|exact hx|exact absurd ⟨_,rfl⟩ AS
  simp only[Dg,r4]at s;have H:=s f (by simp);have K:Aq F E (args.map ρ).toList (args.map ρ').toList:=by simpa using Aq.ofMap (f:=ρ) (f':=ρ') args.toList λx hx=>s x (by simpa using AJ hx)
  show AO P F so (M1 P F so.own) E (cE (ρ f) (args.map ρ)>>=_) (cE (ρ' f) (args.map ρ')>>=_);generalize ρ f=x at H;generalize ρ' f=x' at H;cases H with|func a b c=>refine hC.2 _ (AD a) E N _ _ (λt I=>by rw[hC.1 _ a]at I;cases I) ?_;simpa using(b.append K).append c|nilFunc=>show AO P F so (M1 P F so.own) E (SO aFF) _;exact Rq _|_=>exact .stuck
 |invoke r n=>
  simp only[opsOf,Dg,r4]at s;have Q:=s r (by simp);have K:Aq F E (args.map ρ).toList (args.map ρ').toList:=by simpa using Aq.ofMap (f:=ρ) (f':=ρ') args.toList λx hx=>s x (by simpa using AJ hx)
  have e1:∀z:C'->A1,(#[z r]++args.map z).extract 1 (#[z r]++args.map z).size=args.map z:=by intro z;apply Array.ext';simp only[aCp,zp,aGr,Array.size_append,aCr];simp only[Kq,List.nil_append,List.drop_succ_cons,List.drop_zero];exact List.take_of_length_le (by simp)
  have A:∀z:C'->A1,(#[z r]++args.map z)[0]?=Y (z r):=by intro z;rw[kh (by simp)];rfl
  change AO P F so (M1 P F so.own) E (invoke (.fn (.method n) #[]) (#[ρ r]++args.map ρ)) (invoke (.fn (.method n) #[]) (#[ρ' r]++args.map ρ'));unfold invoke;simp only[A,e1];unfold callMethod;generalize ρ r=x at Q;generalize ρ' r=x' at Q;cases Q with|iface t hv=>dsimp only;refine .prog ?_;refine(aB' h _ t hv).andThen ?_;rintro C j⟨f,y⟩⟨f',y'⟩⟨e,H,hy⟩;simp only at e H hy;subst e;refine hC.2 _ (AD H) C (λb hb=>j _ _ (N b hb)) _ _ (λt I=>by rw[hC.1 _ H]at I;cases I) ?_;simpa using Aq.cons hy (K.mono j)|nilIface=>exact Rq _|_=>exact .stuck
 |builtin b=>
  simp only[opsOf,Dg,r4]at s;unfold mg at h;simp only at h;cases b with
  |append=>
   obtain⟨x,y,rfl⟩:=two h;simp only[U',M',Gd,Kt];by_cases hi:∃u q,ts[1]?=Y u/\P.underlying u=Y (R5 q);·exact H3 (aUe M ts o.type (s x (by simp)) (s y (by simp)) hi)
   exact H3 (aUd M ts o.type (s x (by simp)) (s y (by simp)) λu hu q AH=>hi ⟨u,q,hu,AH⟩)
  |len=>obtain⟨x,rfl⟩:=one h;simp only[U',M',Gd,Kt];exact H3 (aV4 ts o.type (s x (by simp)))
  |cap=>obtain⟨x,rfl⟩:=one h;simp only[U',M',Gd,Kt];exact H3 (aUn ts o.type (s x (by simp)))
  |copy=>obtain⟨x,y,rfl⟩:=two h;simp only[U',M',Gd,Kt];exact H3 (aUs ts o.type (s x (by simp)) (s y (by simp)))
  |unsafeString=>obtain⟨d,h⟩:=h;obtain⟨x,y,rfl⟩:=two h;simp only[U',M',Gd,Kt];exact H3 (aVX d ts o.type (s x (by simp)) (s y (by simp)))
  |clear=>obtain⟨d,h⟩:=h;obtain⟨x,rfl⟩:=one h;simp only[U',M',Gd,Kt];exact H3 (aUp M d ts o.type (s x (by simp)))
  |unsafeSliceData=>obtain⟨x,rfl⟩:=one h;simp only[U',M',Gd,Kt];exact H3 (aVR ts o.type U (s x (by simp)))
  |min=>refine H3 (aVE ts o.type ?_);simpa using Aq.ofMap (f:=ρ) (f':=ρ') args.toList λx hx=>s x (by simpa using hx)
  |_=>exact h.elim
def q'(K:Fit P F)(N:P.globals.size=Ci)(hC:Calm P F so)(AI:∀b,b<Ci->E.rel b b)(hc:∀v,ρ (Iy v)=v)(OD:∀f,ρ (JE f)=FU (Ek f) #[] #[])(j:∀f,ρ' (JE f)=FU (Ek f) #[] #[])(o:BR)(k:Nat)(h:mg P F so k o.op)(q:hA P o)(H:∀x∈opsOf o.op,AN F E (ρ x) (ρ' x))(Q:∀x,setOf o.op=Y x->∀b,Mz (ρ x)=Y b->so.obj b):AO P F so (M1 P F so.own) E (Ab ρ o) (Ab ρ' o):=by
 cases I:o.op with
 |call c=>exact aUm K hC AI OD j o c I k h q H
 |nilCheck y=>exact aVI o y I rfl rfl (H y (by rw[I];simp[opsOf,Dg]))
 |move x=>unfold Ab;rw[I]at H⊢;exact .AQ (.value (H x (by simp[opsOf,Dg])))
 |assign x=>unfold Ab;rw[I]at H⊢;exact .AQ (.value (H x (by simp[opsOf,Dg])))
 |pick c a b=>
  unfold Ab;rw[I]at H⊢;refine(aAn (H c (by simp[opsOf,Dg]))).andThen ?_;rintro A M r _ rfl;cases r;·exact .AQ (.value ((H b (by simp[opsOf,Dg])).mono M))
  exact .AQ (.value ((H a (by simp[opsOf,Dg])).mono M))
 |alloc t=>unfold Ab;rw[I];exact H3 (aUc K t)
 |box t x=>unfold Ab;rw[I]at H⊢;exact H3 (aUi t (H x (by simp[opsOf,Dg])))
 |build t U=>unfold Ab;rw[I]at H⊢;refine H3 (aUj K t ?_);simpa using P4.ofMap (f:=ρ) (f':=ρ') U.toList λx hx=>H x (by simpa[opsOf,Dg]using hx)
 |buildSlice t n U=>unfold Ab;rw[I]at H⊢;refine H3 (aUk K t n ?_);simpa using P4.ofMap (f:=ρ) (f':=ρ') U.toList λx hx=>H x (by simpa[opsOf,Dg]using hx)
 |load t x=>unfold Ab;rw[I]at H⊢;exact H3 (aV5 t (H x (by simp[opsOf,Dg])))
 |store t x y=>unfold Ab;rw[I]at H⊢;exact q2 (aVT t (H x (by simp[opsOf,Dg])) (H y (by simp[opsOf,Dg])))
 |unOp op t x=>unfold Ab;rw[I]at H⊢;exact H3 (aVW op (H x (by simp[opsOf,Dg])))
 |convert s d x=>unfold Ab;rw[I]at H h⊢;exact H3 (aUq s d h (H x (by simp[opsOf,Dg])))
 |makeInterface t x=>unfold Ab;rw[I]at H⊢;exact H3 (aV8 t (H x (by simp[opsOf,Dg])))
 |makeFunc fn a b=>
  unfold Ab;rw[I]at H h⊢;obtain⟨f,rfl,AK⟩:=h;refine H3 (aV7 f AK ?_ ?_);·simpa using Aq.ofMap (f:=ρ) (f':=ρ') a.toList λx hx=>H x (by simpa[opsOf,Dg]using AD hx)
  simpa using Aq.ofMap (f:=ρ) (f':=ρ') b.toList λx hx=>H x (by simpa[opsOf,Dg]using AJ hx)
 |makeMap t r=>unfold Ab;rw[I]at H⊢;exact H3 (aV9 t (LP.ofMap λx e=>H x (by subst e;simp[opsOf,Dg])))
 |makeSlice t x y=>unfold Ab;rw[I]at H⊢;exact H3 (aVA K t (H x (by simp[opsOf,Dg])) (H y (by simp[opsOf,Dg])))
 |slice t x l hi m=>unfold Ab;rw[I]at H⊢;exact H3 (aVP t (H x (by simp[opsOf,Dg])) (LP.ofMap λy e=>H y (by subst e;simp[opsOf,Dg])) (LP.ofMap λy e=>H y (by subst e;simp[opsOf,Dg])) (LP.ofMap λy e=>H y (by subst e;simp[opsOf,Dg])))
 |fieldAddr t x f=>unfold Ab;rw[I]at H⊢;exact H3 (aV0 t (H x (by simp[opsOf,Dg])) f)
 |field t x f=>unfold Ab;rw[I]at H⊢;exact H3 (aV' t (H x (by simp[opsOf,Dg])) f)
 |indexAddr t x y=>unfold Ab;rw[I]at H⊢;exact H3 (aV3 t (H x (by simp[opsOf,Dg])) (H y (by simp[opsOf,Dg])))
 |index t x y=>unfold Ab;rw[I]at H⊢;exact H3 (aV2 t (H x (by simp[opsOf,Dg])) (H y (by simp[opsOf,Dg])))
 |lookup t x y b=>unfold Ab;rw[I]at H h⊢;exact H3 (aV6 K N k t h b (H x (by simp[opsOf,Dg])) (H y (by simp[opsOf,Dg])))
 |mapUpdate t x y z=>unfold Ab;rw[I]at H h⊢;exact q2 (aAz (Q x (by rw[I];rfl)) N k t h (H x (by simp[opsOf,Dg])) (H y (by simp[opsOf,Dg])) (H z (by simp[opsOf,Dg])))
 |insert t x y z=>unfold Ab;rw[I]at H h⊢;exact q2 (aAz (Q x (by rw[I];rfl)) N k t h (H x (by simp[opsOf,Dg])) (H y (by simp[opsOf,Dg])) (H z (by simp[opsOf,Dg])))
 |mapEntry t x y=>unfold Ab;rw[I]at H h⊢;exact H3 (aVB K (Q x (by rw[I];rfl)) N k t h (H x (by simp[opsOf,Dg])) (H y (by simp[opsOf,Dg])))
 |entryStore t x y z=>unfold Ab;rw[I]at H⊢;exact q2 (aUu (Q x (by rw[I];rfl)) t (H x (by simp[opsOf,Dg])) (H y (by simp[opsOf,Dg])) (H z (by simp[opsOf,Dg])))
 |panic x=>unfold Ab;rw[I];exact .Hi (aJz _).bind
 |range t x=>unfold Ab;rw[I]at H⊢;exact H3 (aVK t (H x (by simp[opsOf,Dg])))
 |next x b=>unfold Ab;rw[I]at H h⊢;exact H3 (aVH (Q x (by rw[I];rfl)) b o.type (H x (by simp[opsOf,Dg])))
 |typeAssert x t u b=>unfold Ab;rw[I]at H⊢;exact H3 (aVV K t u b (H x (by simp[opsOf,Dg])))
 |extract x i=>unfold Ab;rw[I]at H⊢;exact H3 (aUz (H x (by simp[opsOf,Dg])) i)
 |binOp op t x y u=>
  unfold Ab;rw[I]at H h⊢;have hx:=H x (by simp[opsOf,Dg]);have hy:=H y (by simp[opsOf,Dg]);refine H3 ?_;refine(aUv op t x y hx hy).andThen ?_;intro A M _ _ _;refine aUh N k op t (hx.mono M) (hy.mono M) λe=>?_;rcases h e with g|⟨v,rfl,hv⟩|g;·exact AD g
  ·exact AJ (AD (by rw[hc];exact hv))
  exact AJ (AJ g)
 |_=>rw[I]at h;exact h.elim
end
section
variable{P:Ap}{F:zy}{E:AT}
def k4:Nat->A1->Bool|0,_=>A9|_+1,Af _|_+1,A7 _ _|_+1,J _|_+1,Ad Z|_+1,A4 Z _ _|_+1,Ah Z|_+1,Cl Z|_+1,lZ|_+1,DS=>A3|n+1,EL _ v=>k4 n v|n+1,A_ a|n+1,Ay a=>a.toList.all (k4 n)|_+1,_=>A9
def Aq.WU:∀{l:List A1},(∀v∈l,AN F E v v)->Aq F E l l|[],_=>.nil|v::l,h=>.cons (h v (by simp)) (Aq.WU λu hu=>h u (by simp[hu]))
def k5:∀(n:Nat){v:A1},k4 n v=A3->AN F E v v
 |0,_,h=>by cases h
 |n+1,v,h=>by
  cases v with
  |bool b=>exact .bool b
  |int k a=>exact .int k a
  |string s=>exact .string s
  |pointer a=>
   cases a with
   |none=>exact .HI
   |some a=>cases h
  |slice a l c=>
   cases a with
   |none=>exact .HL l c
   |some a=>cases h
  |map a=>
   cases a with
   |none=>exact .Rg
   |some a=>cases h
  |chan a=>
   cases a with
   |none=>exact .Xl
   |some a=>cases h
  |nilFunc=>exact .nilFunc
  |nilIface=>exact .nilIface
  |iface t v=>exact .iface t (k5 n h)
  |agg a=>exact .agg (Aq.WU λv hv=>k5 n (List.all_eq_true.1 h v hv))
  |tuple a=>exact .tuple (Aq.WU λv hv=>k5 n (List.all_eq_true.1 h v hv))
  |_=>cases h
def a9x:A1->Bool|Ad Z|A4 Z _ _|Ah Z|Cl Z|lZ|DS=>A3|_=>A9
def aT3(h:a9x v=A3):Nil v:=by
 cases v with
 |pointer a=>
  cases a with
  |none=>exact .ptr
  |some a=>cases h
 |slice a l c=>
  cases a with
  |none=>exact .slice l c
  |some a=>cases h
 |map a=>
  cases a with
  |none=>exact .map
  |some a=>cases h
 |chan a=>
  cases a with
  |none=>exact .chan
  |some a=>cases h
 |nilFunc=>exact .func
 |nilIface=>exact .iface
 |_=>cases h
def mm(ow:List Nat)(t:Nat):Bool:=!(IS ow).contains t
def Uy(fb:Nat->Bool)(ow:List Nat):C'->Bool|An t=>mm ow t|Iy v=>k4 20 v|.global g=>Bz (g<Ci)|JE f=>fb f
def oj(P:Ap)(k:Nat)(t:Aj):Bool:=match P.underlying t with|Y (ZU key _)=>flat P k key|_=>A3
def oo{k:Nat}(h:oj P k t=A3):∀b e,P.underlying t=Y (ZU b e)->flat P k b=A3:=by intro b e he;unfold oj at h;rw[he]at h;exact h
def a9y:C'->Bool|Iy v=>a9x v|_=>A9
def yU(P:Ap)(t:Aj):Bool:=match P.underlying t with|Y (P' _)=>A3|_=>A9
def aKb(P:Ap)(b:Bool)(k:Nat)(h:JY)(t:Aj)(y:C'):Bool:=match h with|.eql|.neq=>flat P k t||(a9y y||b&&yU P t)|_=>A3
structure Hg where
 own:Nat->List Nat
 Jp:zy
 all:own 4294967296≠[]->∀b,Jp b
 Hx:Prop
 aKy:own 4294967296≠[]->Hx
def QG(own:Nat->List Nat):Bool:=!(own 4294967296).isEmpty
def Xb(f1:Hg)(v:A1):Prop:=∀b,Mz v=Y b->f1.Jp b
def WY(ow:List Nat):C'->Bool|An t=>ow.contains t|_=>A9
def ui(ow:List Nat):Op->Bool|a02 _ Z|a05 ..|lL ..=>A3|Mb x|SK x|rk _ x _=>WY ow x|_=>A9
def nB(ow:List Nat)(o:BR):Bool:=match o.dst with|Y d=>mm ow d&&(!ow.contains d||ui ow o.op)|Z=>A3
def Qn(P:Ap)(fb:Nat->Bool)(own:Nat->List Nat)(ow:List Nat)(k:Nat):Op->Bool
 |Mb _|SK _|.pick ..|.alloc _|.box ..|a'z ..|lJ ..|.load ..|gD ..|lM _|.unOp ..|aE8 ..|a02 ..|lL ..|.slice ..=>A3
 |gB ..|.field ..|rk ..|.index ..|a05 ..|aE9 ..|.extract ..=>A3
 |.next x _|a0' _ x _ _=>QG own||WY ow x
 |.panic _=>A3
 |a'y op t _ y _=>aKb P (QG own) k op t y
 |.convert s d _=>n2 P s d
 |aE7 fn _ _=>match fn with
  |Ek f=>fb f
  |_=>A9
 |.lookup t _ _ _=>oj P k t
 |a04 t x _ _|a01 t x _ _|a03 t x _=>(QG own||WY ow x)&&oj P k t
 |If c=>match c.callee with
  |Kj b=>match b with
   |f_=>Bz (c.args.size=2)
   |.len|.cap=>Bz (c.args.size=1)
   |.copy=>Bz (c.args.size=2)
   |a'C=>Bz (c.args.size=2)&&(QG own||match c.args[0]? with
    |Y x=>WY ow x
    |Z=>A9)
   |.min=>A3
   |.clear=>QG own&&Bz (c.args.size=1)
   |r3=>Bz (c.args.size=1)
   |_=>A9
  |N7 (JE f)=>(fb f||!(own f).isEmpty&&!(own f).contains 1000007)&&(own f).all λt=>Bz (c.args.size<=t)
  |N7 _=>A3
  |.invoke _ name=>a9Y P fb name
 |_=>A9
def MR:Op->Bool
 |If c=>match c.callee with
  |Kj a'C=>A3
  |_=>A9
 |_=>A9
def B0(f1:Hg)(z:Bool):Dj:=⟨f1.Jp,z=A3,f1.own,f1.Hx⟩
def pb{fb:Nat->Bool}(Q:∀f,fb f=A3->F f){f1:Hg}{ow:List Nat}{k:Nat}{o:Op}(h:Qn P fb f1.own ow k o=A3):mg P F (B0 f1 (MR o)) k o:=by
 cases o with
 |binOp op t x y u=>
  intro e;have h2:(flat P k t||(a9y y||QG f1.own&&yU P t))=A3:=by rcases e with rfl|rfl<;>exact h
  rcases Bool.or_eq_true_iff.1 h2 with g|g;·exact AD g
  rcases Bool.or_eq_true_iff.1 g with g|g;·cases y with|const v=>exact AJ (AD ⟨v,rfl,aT3 g⟩)|_=>cases g
  obtain⟨M,N⟩:=Bool.and_eq_true_iff.1 g;refine AJ (AJ ⟨f1.aKy λe=>?_,?_⟩);·unfold QG at M;rw[e]at M;cases M
  unfold yU at N;split at N;·exact⟨_,‹_›⟩
  cases N
 |convert s d x=>exact h
 |makeFunc fn a b=>unfold Qn at h;cases fn with|func f=>exact⟨f,rfl,Q f h⟩|_=>cases h
 |lookup t x y b=>exact oo h
 |mapUpdate t x y z=>exact oo (Bool.and_eq_true_iff.1 h).2
 |insert t x y z=>exact oo (Bool.and_eq_true_iff.1 h).2
 |mapEntry t x y=>exact oo (Bool.and_eq_true_iff.1 h).2
 |entryStore t x y z=>exact trivial
 |panic x=>exact trivial
 |next x b=>exact trivial
 |call c=>
  obtain⟨I,H,ts⟩:=c;cases I with
  |value f=>
   cases f with
   |func g=>
    obtain⟨K,h2⟩:=Bool.and_eq_true_iff.1 h;refine⟨?_,λt AP=>of_decide_eq_true (List.all_eq_true.1 h2 t AP)⟩;rcases Bool.or_eq_true_iff.1 K with e|e;·exact AD (Q _ e)
    right;obtain⟨U,j⟩:=Bool.and_eq_true_iff.1 e;refine⟨λe2=>?_,?_⟩;·have e2:f1.own g=[]:=e2;rw[e2]at U;cases U
    show IS (f1.own g)=[];unfold IS;rw[if_neg (by simpa using j)]
   |_=>exact trivial
  |invoke r n=>exact aSY Q h
  |builtin b=>cases b with|append=>exact of_decide_eq_true (p:=H.size=2) h|len=>exact of_decide_eq_true (p:=H.size=1) h|cap=>exact of_decide_eq_true (p:=H.size=1) h|copy=>exact of_decide_eq_true (p:=H.size=2) h|unsafeString=>exact⟨rfl,of_decide_eq_true (p:=H.size=2) (Bool.and_eq_true_iff.1 h).1⟩|min=>exact trivial|clear=>obtain⟨K,h2⟩:=Bool.and_eq_true_iff.1 h;refine⟨f1.all λe=>?_,of_decide_eq_true h2⟩;unfold QG at K;rw[e]at K;cases K|unsafeSliceData=>exact of_decide_eq_true (p:=H.size=1) h|_=>cases h
 |_=>first|exact trivial|cases h
def aWw{fb:Nat->Bool}{own:Nat->List Nat}{ow:List Nat}{k:Nat}{o:Op}(h:Qn P fb own ow k o=A3){x:C'}(hx:setOf o=Y x):QG own=A3∨∃t,x=An t/\t∈ow:=by
 have s:∀y,(QG own||WY ow y)=A3->QG own=A3∨∃t,y=An t/\t∈ow:=by
  intro y hy;rcases Bool.or_eq_true_iff.1 hy with hy|hy;·exact AD hy
  right;cases y with|tmp t=>exact⟨t,rfl,by simpa[WY]using hy⟩|_=>cases hy
 cases o with|mapUpdate t y z u=>cases hx;exact s _ (Bool.and_eq_true_iff.1 h).1|insert t y z u=>cases hx;exact s _ (Bool.and_eq_true_iff.1 h).1|mapEntry t y z=>cases hx;exact s _ (Bool.and_eq_true_iff.1 h).1|entryStore t y z u=>cases hx;exact s _ h|next y b=>cases hx;exact s _ h|_=>cases hx
def aVZ(h:(fw t x).runT P w es=(Ac v w1,es1)):∀b,Mz v=Y b->w.heap.size<=b:=by
 unfold fw at h;change(Dx (Jc t) _).runT P w es=_ at h;rw[JC]at h;split at h
 ·rename_i u z H e2;have hs:z=w:=by unfold Jc at e2;cases hu:P.underlying t with|none=>change(match P.underlying t with|Y d=>Jz d|Z=>U0 _:BU _).runT P w es=_ at e2;rw[hu]at e2;cases e2|some d=>change(match P.underlying t with|Y d=>Jz d|Z=>U0 _:BU _).runT P w es=_ at e2;rw[hu]at e2;cases e2;rfl
  subst hs;cases u with
  |string=>cases x with|string s=>cases h;intro b y;cases y;exact Ae _|_=>cases h
  |map k e=>
   cases x with
   |map r=>
    cases r with
    |none=>cases h;intro b y;cases y;exact Ae _
    |some m=>
     change(sJ m _).runT P z H=_ at h;simp only[DQ]at h;split at h;·cases h
     ·rename_i o _ _;cases o with|map c n=>cases h;intro b y;cases y;exact Ae _|_=>cases h
     cases h
   |_=>cases h
  |_=>cases x<;>cases h
 cases h
def J3(P:Ap){bv:Type}(s:BU bv):Prop:=∀w h a b es1,s.runT P w h=(Ac a b,es1)->b.heap=w.heap
def J3.bind{bv By:Type}{s:BU bv}{f:bv->BU By}(h:J3 P s)(k:∀a,J3 P (f a)):J3 P (s.bind f):=by
 intro w H a K es1 b;rw[JC]at b;split at b;·rename_i z w0 I y;exact(k _ _ _ _ _ _ b).trans (h _ _ _ _ _ y)
 cases b
def J3.pure(a:bv):J3 P (Jz a):=by intro w s b y es1 h;cases h;rfl
def J3.dead{s:BU bv}(h:BQ P s):J3 P s:=λ_ _ _ _ _ b=>absurd b (h.ne _ _ _ _ _)
def J3.stuck{bv:Type}(m:String):J3 P (stuck m:BU bv):=.dead (BQ.halt _)
def J3.program{k:Ap->BU bv}(h:J3 P (k P)):J3 P (c_ k):=λ_ _ _ _ _ e=>h _ _ _ _ _ e
def aUX(t:Aj):J3 P (Jc t):=by refine .program ?_;show J3 P (match P.underlying t with|Y d=>Jz d|Z=>U0 _:BU _);cases P.underlying t with|some d=>exact .pure _|none=>exact .stuck _
def yX(t:Aj):J3 P (Q2 t):=by refine .program ?_;show J3 P (match P.info? t with|Y d=>Jz d|Z=>U0 _:BU _);cases P.info? t with|some d=>exact .pure _|none=>exact .stuck _
def aUW(t:Aj):J3 P (Q0 t):=by unfold Q0;exact(yX t).bind λi=>.pure _
def aUY(t:Aj):J3 P (Q3 t):=by
 unfold Q3;refine(yX t).bind λi=>?_;split;·exact .pure _
 exact .dead (BQ.halt _)
def aUU(v:A1):J3 P (gM v):=by unfold gM;split<;>first|exact .pure _|exact .dead (BQ.halt _)
def aAl(v:A1):J3 P (ZV v):=by unfold ZV;exact(aUU v).bind λ_=>.pure _
def aUV(n:Nat):J3 P (cg n):=by
 unfold cg;split;·intro w b a s es1 h;cases h;rfl
 exact .pure _
def O5(P:Ap)(s:BU A1):Prop:=∀w h v y es1,s.runT P w h=(Ac v y,es1)->∀b,Mz v=Y b->w.heap.size<=b
def O5.bind{bv:Type}{s:BU bv}{f:bv->BU A1}(h:J3 P s)(k:∀a,O5 P (f a)):O5 P (s.bind f):=by
 intro w K a N es1 y b H;rw[JC]at y;split at y;·rename_i I w0 M z;have:=k _ _ _ _ _ _ y b H;rw[h _ _ _ _ _ z]at this;exact this
 cases y
def O5.dead(h:BQ P s):O5 P s:=λ_ _ _ _ _ b=>absurd b (h.ne _ _ _ _ _)
def aS8(t:Aj)(l c:A1):O5 P (fv t l c):=by
 unfold fv;refine O5.bind (aUX t) λd=>?_;cases d with
 |slice e=>
  refine O5.bind (aAl l) λn=>?_;refine O5.bind (aAl c) λm=>?_;refine O5.bind (yX e) λi=>?_;dsimp only;split
  ·split;·exact .dead (BQ.bind (Gx _))
   split;·exact .dead (BQ.bind (Gx _))
   exact .dead (BQ.behind (OQ _) λ_=>BQ.bind (Gx _))
  refine O5.bind (aUV _) λ_=>?_;refine O5.bind (aUW e) λK=>?_;split;·refine O5.bind (J3.pure _) λz=>?_;intro w H v I es1 s b h;cases s;cases h;exact Ae _
  refine O5.bind (aUY e) λy=>?_;refine O5.bind (J3.pure _) λz=>?_;intro w H v I es1 s b h;cases s;cases h;exact Ae _
 |_=>exact .dead (BQ.halt _)
def Zx(P:Ap)(x:A1)(s:BU A1):Prop:=∀w h v y es1,s.runT P w h=(Ac v y,es1)->∀b,Mz v=Y b->Mz x=Y b
def Zx.bind{bv:Type}{x:A1}{s:BU bv}{f:bv->BU A1}(k:∀a,Zx P x (f a)):Zx P x (s.bind f):=by
 intro w z a H es1 h b y;rw[JC]at h;split at h;·exact k _ _ _ _ _ _ h b y
 cases h
def Zx.dead(h:BQ P s):Zx P x s:=λ_ _ _ _ _ b=>absurd b (h.ne _ _ _ _ _)
def aHh(a:Ak)(n:Nat):(a.add n).block=a.block:=by unfold Qy;split<;>rfl
def a4S(k:KJ)(x y:Int)(c:kj):BQ P (XB k x y c:BU bv):=by
 unfold XB;simp only;split;·exact BQ.behind (FE.bind (OQ _) λ_=>FE.pure _) λ_=>Gx _
 exact BQ.behind (FE.pure _) λ_=>Gx _
def aQ0(t:Aj)(x i:A1):Zx P x (ZI t x i):=by
 have y:∀(k:KJ)(j:Int)(base:Option Ak)(h:Nat)(s:Aj),(∀a,base=Y a->Mz x=Y a.block)->Zx P x (Dx (Jc t) λd=>match base with
 |Y a=>if 0<=j/\j<h then Dx (Q0 s) λK=>Jz (Ad (Y (a.add (j.toNat*K))))else if(Bz (h<=1)&&match d with
  |a1H ..=>A3
  |_=>A9)=A3 then a1j (lY "op/indexAddr.an index out of range at an array of length 0 or 1 (ledger 616)")else XB k j h .index
 |Z=>XB k j 0 .index):=by
  intro k j base h s M;refine .bind λd=>?_;cases base with
  |none=>exact .dead (a4S _ _ _ _)
  |some a=>
   dsimp only;by_cases I:0<=j/\j<h;·rw[if_pos I];refine .bind λK=>?_;intro w Q v U es1 N b hv;cases N;cases hv;rw[aHh];exact M a rfl
   rw[if_neg I];generalize(Bz (h<=1)&&match d with
   |a1H ..=>A3
   |_=>A9)=q;cases q;·exact .dead (a4S _ _ _ _)
   exact .dead (BQ.halt _)
 unfold ZI;refine .bind λH=>?_;obtain⟨k,j⟩:=H;refine .bind λd=>?_;cases d with
 |array n e=>
  cases x with
  |pointer p=>
   cases p with
   |none=>exact .dead (BQ.bind (BQ.halt _))
   |some p=>exact y k j (Y p) n e λa z=>by cases z;rfl
  |_=>exact .dead (BQ.bind (BQ.halt _))
 |slice e=>
  cases x with
  |slice p n c=>exact y k j p n e λa z=>by subst z;rfl
  |_=>exact .dead (BQ.bind (BQ.halt _))
 |_=>cases x<;>exact .dead (BQ.bind (BQ.halt _))
def a5E{o:BR}{ow:List Nat}(h:ui ow o.op=A3)(s:(Ab ρ o).runT P w es=(Ac C0 w1,es1)):(∃t,t∈ow/\∃v,C0=D6 v/\∀b,Mz v=Y b->Mz (ρ (An t))=Y b)∨∃v,C0=D6 v/\∀b,Mz v=Y b->w.heap.size<=b:=by
 unfold Ab at s;have own:∀y,WY ow y=A3->∃t,y=An t/\t∈ow:=by intro y hy;cases y with|tmp t=>exact⟨t,rfl,by simpa[WY]using hy⟩|_=>cases hy
 cases z:o.op with
 |move x=>rw[z]at h s;obtain⟨t,rfl,H⟩:=own _ h;cases s;exact AD ⟨t,H,_,rfl,λ_ h=>h⟩
 |assign x=>rw[z]at h s;obtain⟨t,rfl,H⟩:=own _ h;cases s;exact AD ⟨t,H,_,rfl,λ_ h=>h⟩
 |makeMap t r=>rw[z]at h s;cases r with|some r=>cases h|none=>cases s;exact AJ ⟨_,rfl,λb M=>by cases M;exact Ae _⟩
 |range t x=>
  rw[z]at s;change(Dx (fw t (ρ x)) _).runT P w es=_ at s;rw[JC]at s;split at s;·rename_i v K I e;cases s;exact AJ ⟨_,rfl,aVZ e⟩
  cases s
 |makeSlice t l c=>
  rw[z]at s;change(Dx (fv t (ρ l) (ρ c)) _).runT P w es=_ at s;rw[JC]at s;split at s;·rename_i v K I e;cases s;exact AJ ⟨_,rfl,aS8 _ _ _ _ _ _ _ _ e⟩
  cases s
 |indexAddr t x i=>
  rw[z]at h s;obtain⟨u,rfl,hu⟩:=own _ h;change(Dx (ZI t (ρ (An u)) (ρ i)) _).runT P w es=_ at s;rw[JC]at s;split at s;·rename_i v K I e;cases s;exact AD ⟨u,hu,_,rfl,aQ0 _ _ _ _ _ _ _ _ e⟩
  cases s
 |_=>rw[z]at h;cases h
def Lu(P:Ap)(o:BR):Bool:=match o.op with
 |If c=>match c.callee with
  |Kj r3=>match P.underlying o.type with
   |Y (P' e)=>kH e
   |_=>A3
  |_=>A3
 |_=>A3
def qM{o:BR}(h:Lu P o=A3):hA P o:=by
 unfold hA Lu at*;split
 ·rename_i c hc;rw[hc]at h;simp only at h;split;·rename_i b;rw[b]at h;simp only at h;intro e he;rw[he]at h;exact yu h
  trivial
 trivial
def eW(P:Ap)(fb:Nat->Bool)(own:Nat->List Nat)(ow:List Nat)(k:Nat)(o:BR):Bool:=Qn P fb own ow k o.op&&(nB ow o&&((opsOf o.op).all (Uy fb ow)&&Lu P o))
def ES(P:Ap)(fb:Nat->Bool)(own:Nat->List Nat)(f1:List Nat)(k:Nat):Code->Bool|.skip|.exit _|.label _|.goto _|.ret|.refuse _=>A3|.region _ ops _=>ops.toList.all (eW P fb own f1 k)|.seq a b=>ES P fb own f1 k a&&ES P fb own f1 k b|.cond c a b=>Uy fb f1 c&&(ES P fb own f1 k a&&ES P fb own f1 k b)|.block _ b|.loop b|.scope b=>ES P fb own f1 k b|.rangeFunc ..=>A9
end
section
variable{P:Ap}{F:zy}{fb:Nat->Bool}{f1:Hg}{own:Nat->List Nat}{ow:List Nat}{k:Nat}{E:AT}{r:List Cb}
def Qc(P:Ap)(fb:Nat->Bool)(own:Nat->List Nat)(ow:List Nat)(k:Nat):Cb->Bool|BS c|Wx c|.inScope c=>ES P fb own ow k c|.inBlock _=>A3|B1 ops _=>ops.toList.all (eW P fb own ow k)|_=>A9
def Cd(D:List Nat)(T:zw):zw:=T.mapIdx λi v=>if D.contains i then A' else v
def a7q(T:zw):Cd [] T=T:=by unfold Cd;apply Array.ext (by simp);intro i b h2;simp
def a7r(D:List Nat)(T:zw):(Cd D T).size=T.size:=by simp[Cd]
def RX{D:List Nat}{t:Nat}(h:D.contains t=A9)(T:zw):(Cd D T)[t]?=T[t]?:=by unfold Cd;rw[fK];cases T[t]? with|none=>rfl|some v=>simp only[LQ,h,EJ,↓reduceIte]
def xJ(D:List Nat)(T:zw){d:Nat}(h:D.contains d=A9)(v:A1):Cd D (T.setIfInBounds d v)=(Cd D T).setIfInBounds d v:=by
 apply kZ;intro i;by_cases e:d=i;·subst e;rw[RX h,HM,HM,a7r];simp only[↓reduceIte]
 unfold Cd;rw[Gp e,fK,fK,Gp e]
def Aq.jS{F:zy}{E:AT}{T d:zw}(h:Aq F E T.toList d.toList)(D:List Nat):Aq F E (Cd D T).toList (Cd D d).toList:=by
 have z:=h.length;simp only[Nq]at z;refine Aq.of (by simp[a7r,z]) λi v I e b=>?_;simp only[Oi]at e b;unfold Cd at e b;rw[fK]at e b;obtain⟨x,hx,rfl⟩:=Option.map_eq_some_iff.1 e;obtain⟨K,H,rfl⟩:=Option.map_eq_some_iff.1 b;by_cases s:D.contains i=A3;·simp only[s,↓reduceIte];exact .tuple .nil
 simp only[s,EJ,↓reduceIte];obtain⟨y,hy,hv⟩:=h.get i (v:=x) (by simpa using hx);simp only[Oi]at hy;rw[H]at hy;obtain rfl:=CH hy;exact hv
def Ta(D:List Nat)(f:Jy):Bool:=f.results.all λr=>match r with|.tmp t=>!D.contains t|.cell a _=>!D.contains a
def q6(f:Jy):Ta [] f=A3:=by unfold Ta;rw[Array.all_eq_true];intro i hi;split<;>rfl
structure Ei(P:Ap)(F:zy)(fb:Nat->Bool)(f1:Hg)(k:Nat)(E:AT)(r:List Cb)(fr fr':Ag):Prop where
 fn:fr'.fn=fr.fn
 has:∃f,P.funcs[fr.fn]?=Y f/\Ta (IS (f1.own fr.fn)) f=A3
 todo:fr'.todo=fr.todo++r
 ok:∀i∈fr.todo,Qc P fb f1.own (f1.own fr.fn) k i=A3
 defers:fr.defers=[]/\fr'.defers=[]
 mode:fr'.mode=fr.mode
 kind:fr.kind=GG/\fr'.kind=.normal
 round:fr.roundOf=Z/\fr'.roundOf=Z
 tmps:Aq F E (Cd (IS (f1.own fr.fn)) fr.tmps).toList (Cd (IS (f1.own fr.fn)) fr'.tmps).toList
 own:∀t∈f1.own fr.fn,Xb f1 (fr.tmps.getD t A')
def R9(f1:Hg)(fr:Ag)(v:A1):Prop:=∀ops j rest l d,fr.todo=B1 ops (j::rest)::l->ops[j]?.bind (·.dst)=Y d->d∈f1.own fr.fn->Xb f1 v
def Xb.undef:Xb f1 undef:=λ_ h=>by cases h
def R9.undef{fr:Ag}:R9 f1 fr undef:=λ_ _ _ _ _ _ _ _=>Xb.undef
def Ei.mono{n3:AT}{fr fr':Ag}(h:Ei P F fb f1 k E r fr fr')(b:E.le n3):Ei P F fb f1 k n3 r fr fr':=⟨h.fn,h.has,h.todo,h.ok,h.defers,h.mode,h.kind,h.round,h.tmps.mono b,h.own⟩
def Ei.eval{fr fr':Ag}(h:Ei P F fb f1 k E r fr fr')(z:∀b,b<Ci->E.rel b b)(y:∀f,fb f=A3->F f)(x:C')(hx:Uy fb (f1.own fr.fn) x=A3):AN F E (fr.eval x) (fr'.eval x):=by
 cases x with
 |tmp t=>
  unfold Frame.eval;simp only[Iv];have H:=h.tmps.length;have hx:(!(IS (f1.own fr.fn)).contains t)=A3:=hx;have hx:(IS (f1.own fr.fn)).contains t=A9:=by simpa using hx
  rw[<-RX hx fr.tmps,<-RX hx fr'.tmps];cases e:(Cd (IS (f1.own fr.fn)) fr.tmps)[t]? with|none=>have hs:=Array.getElem?_eq_none_iff.1 e;have s:(Cd (IS (f1.own fr.fn)) fr'.tmps)[t]?=Z:=Array.getElem?_eq_none_iff.2 (by simp only[Nq]at H;omega);rw[s];exact .tuple .nil|some v=>obtain⟨I,s,hv⟩:=h.tmps.get t (by simpa using e);simp only[Oi]at s;rw[s];exact hv
 |const v=>exact k5 20 hx
 |global g=>exact .ptr ⟨z g (of_decide_eq_true hx),rfl,rfl⟩
 |func f=>exact .func (y f hx) .nil .nil
def Ei.to(h:Ei P F fb f1 k E r fr fr')(l:List Cb)(b:∀i∈l,Qc P fb f1.own (f1.own fr.fn) k i=A3):Ei P F fb f1 k E r {fr with todo:=l} {fr' with todo:=l++r}:=⟨h.fn,h.has,rfl,b,h.defers,h.mode,h.kind,h.round,h.tmps,h.own⟩
def Ei.finish{fr fr':Ag}(h:Ei P F fb f1 k E r fr fr')(Q:fr.todo≠[]){v v':A1}(hv:AN F E v v')(K:R9 f1 fr v):Ei P F fb f1 k E r (fr.finish v) (fr'.finish v'):=by
 unfold cG;rw[h.todo];have I:=h.ok;cases e:fr.todo with
 |nil=>exact absurd e Q
 |cons i l=>
  rw[e]at I;have hi:=I i (by simp);simp only[Kq];cases i with
  |inRegion ops todo=>
   cases todo with
   |nil=>exact h
   |cons j rest=>
    refine⟨h.fn,h.has,rfl,λx hx=>?_,h.defers,h.mode,h.kind,h.round,?_,?_⟩
    ·rcases List.mem_cons.1 hx with rfl|hx;·exact hi
     exact I x (by simp[hx])
    ·dsimp only;cases s:ops[j]?.bind (·.dst)with
     |none=>exact h.tmps
     |some d=>
      have N:(IS (f1.own fr.fn)).contains d=A9:=by cases z:ops[j]? with|none=>rw[z]at s;cases s|some o=>rw[z]at s;have s:o.dst=Y d:=s;have f:eW P fb f1.own (f1.own fr.fn) k o=A3:=List.all_eq_true.1 hi o (by obtain⟨hlt,rfl⟩:=Array.getElem?_eq_some_iff.1 z;simp);have H:=(Bool.and_eq_true_iff.1 (Bool.and_eq_true_iff.1 f).2).1;unfold nB at H;rw[s]at H;have h2:=(Bool.and_eq_true_iff.1 H).1;unfold mm at h2;simpa using h2
      rw[xJ _ _ N,xJ _ _ N];exact h.tmps.aBi hv d
    intro t M;dsimp only;cases s:ops[j]?.bind (·.dst)with
    |none=>exact h.own t M
    |some d=>
     dsimp only;by_cases y:d=t
     ·subst y;have U:=K ops j rest l d e s M;simp only[Iv,HM,↓reduceIte];split;·exact U
      exact Xb.undef
     have:=h.own t M;simp only[Iv]at this⊢;rw[HM,if_neg y];exact this
  |code c=>exact h
  |inBlock b=>exact h
  |inLoop b=>exact h
  |inScope b=>exact h
  |_=>cases hi
def Ei.enter{f:Nat}{c:Code}(h:P.funcs[f]?=Y fn)(y:fn.body=Y c)(hc:ES P fb f1.own (f1.own f) k c=A3){a a':zw}(z:IS (f1.own f)=[])(H:∀t∈f1.own f,a.size<=t)(b:Aq F E a.toList a'.toList):Ei P F fb f1 k E [] (HO P f a GG) (HO P f a' GG):=by
 have s:=b.length;simp only[Nq]at s;unfold HO;refine⟨rfl,⟨_,h,by show Ta (IS (f1.own f)) fn=A3;rw[z];exact q6 fn⟩,rfl,λi hi=>?_,⟨rfl,rfl⟩,rfl,⟨rfl,rfl⟩,⟨rfl,rfl⟩,Aq.jS ?_ _,λt I=>?_⟩;·simp only[h,y,SZ,Option.getD_some,List.mem_singleton]at hi;subst hi;exact hc
 ·simp only[zp,s];refine b.append (Aq.WU λv hv=>?_);simp only[Array.toList_replicate,List.mem_replicate]at hv;rw[hv.2];exact .tuple .nil
 have:=H t I;simp only[Iv];rw[zl this,Array.getElem?_replicate];split<;>exact Xb.undef
def uW{id:Nat}(r:List Cb):∀{l d:List Cb},R6 id l=Y d->R6 id (l++r)=Y (d++r)
 |[],_,h=>by simp[R6]at h
 |i::l,d,h=>by
  rw[Kq];unfold R6 at h⊢;split at h
  ·rename_i y;obtain⟨rfl,rfl⟩:=Q5 y;split at h;·rename_i b;cases h;simp only[b,↓reduceIte]
   rename_i b;simp only[b,EJ,↓reduceIte];exact uW r h
  ·rename_i z y;obtain⟨rfl,rfl⟩:=Q5 y;split;·rename_i s;obtain⟨rfl,rfl⟩:=Q5 s;exact(z _ rfl).elim
   ·rename_i s;obtain⟨rfl,rfl⟩:=Q5 s;exact uW r h
   rename_i s;cases s
  cases h
def uv{n:Nat}(r:List Cb):∀{l d:List Cb},XC n l=Y d->XC n (l++r)=Y (d++r)
 |[],_,h=>by simp[XC]at h
 |i::l,d,h=>by
  rw[Kq];unfold XC at h⊢;split at h
  ·rename_i y _ s;obtain⟨rfl,rfl⟩:=Q5 s;split at h;·rename_i rest e;cases h;simp only[e,Kq]
   rename_i e;simp only[e];exact uv r h
  ·rename_i z s;obtain⟨rfl,rfl⟩:=Q5 s;split;·rename_i b;obtain⟨rfl,rfl⟩:=Q5 b;exact(z _ rfl).elim
   ·rename_i b;obtain⟨rfl,rfl⟩:=Q5 b;exact uv r h
   rename_i b;cases b
  cases h
def uY{id:Nat}:∀{l d:List Cb},R6 id l=Y d->(∀i∈l,Qc P fb own ow k i=A3)->∀i∈d,Qc P fb own ow k i=A3
 |[],_,h,_=>by simp[R6]at h
 |i::l,d,h,B3=>by
  unfold R6 at h;split at h
  ·rename_i s;obtain⟨rfl,rfl⟩:=Q5 s;split at h;·cases h;exact λj b=>B3 j (by simp[b])
   exact uY h λj b=>B3 j (by simp[b])
  ·rename_i s;obtain⟨rfl,rfl⟩:=Q5 s;exact uY h λj b=>B3 j (by simp[b])
  cases h
def aQM:∀{c r:Code}{l:Nat},ln c l=Y r->ES P fb own ow k c=A3->ES P fb own ow k r=A3:=by
 intro c;induction c with
 |seq a b s y=>intro r l h hc;unfold ES at hc;obtain⟨z,h2⟩:=Bool.and_eq_true_iff.1 hc;unfold ln at h;cases e:ln a l with|some rest=>rw[e]at h;cases h;unfold ES;exact Bool.and_eq_true_iff.2 ⟨s e z,h2⟩|none=>rw[e]at h;exact y h h2
 |label H=>
  intro r l h hc;unfold ln at h;split at h;·cases h;rfl
  cases h
 |_=>intro r l h;unfold ln at h;cases h
def uw{n:Nat}:∀{l d:List Cb},XC n l=Y d->(∀i∈l,Qc P fb own ow k i=A3)->∀i∈d,Qc P fb own ow k i=A3
 |[],_,h,_=>by simp[XC]at h
 |i::l,d,h,B3=>by
  unfold XC at h;split at h
  ·rename_i y _ s;obtain⟨rfl,rfl⟩:=Q5 s;split at h
   ·rename_i rest e;cases h;have z:=B3 _ (Je ..);intro j b;rcases List.mem_cons.1 b with rfl|b;·exact aQM e z
    exact B3 j b
   exact uw h λj b=>B3 j (by simp[b])
  ·rename_i s;obtain⟨rfl,rfl⟩:=Q5 s;exact uw h λj b=>B3 j (by simp[b])
  cases h
end
section
variable{P:Ap}{F:zy}{fb:Nat->Bool}{f1:Hg}{k:Nat}{E:AT}{RO:zy}{r:List Cb}
def behind(P:Ap)(fr:Ag)(cs:List Ag):LH->Option (Ag×List Ag)|D6 v=>Y (fr.finish v,cs)|cO=>Y (fr.finish A',cs)|VQ f a=>Y (HO P f a (match fr.todo with|.call _ A3 _ _::_=>a'E|_=>GG),fr::cs)|_=>Z
def Jh{d:Ag}{cs e:List Ag}{s:BU LH}(h:(fr.kind==Ki)=A9)(y:s.runT P w #[]=(Ac C0 w1,es))(b:behind P fr cs C0=Y (d,e)):NA P A3 fr cs Z s w=Cw {frame:=d,callers:=e,status:=DJ,dying:=Z} w1 (Iz P fr.fn es):=by unfold NA;cases C0 with|value v=>cases b;simp only[↓reduceIte,y,h,EJ,Ot,V8]|skip=>cases b;simp only[↓reduceIte,y,h,EJ,Ot,V8]|enter f a=>cases b;simp only[↓reduceIte,y,h,EJ,Ot,V8];rfl|_=>cases b
def OV(cs:List Ag)(r:List Cb):List Cb:=match cs with|_::_::_=>[]|_=>r
def bot:Ag:={(default:Ag)with defers:=[{target:=.nil,args:=#[]}],mode:=rZ []}
inductive Lv(P:Ap)(F:zy)(fb:Nat->Bool)(f1:Hg)(k:Nat)(E:AT)(r:List Cb)(base':List Ag):List Ag->List Ag->Prop|base:Lv P F fb f1 k E r base' [bot] base'|cons{fr fr':Ag}{l hH:List Ag}:Ei P F fb f1 k E (OV l r) fr fr'->fr.mode=Lw->(fr.todo≠[]/\∀v,R9 f1 fr v)->Lv P F fb f1 k E r base' l hH->Lv P F fb f1 k E r base' (fr::l) (fr'::hH)
def Lv.mono{n3:AT}{base':List Ag}(b:E.le n3):∀{l d:List Ag},Lv P F fb f1 k E r base' l d->Lv P F fb f1 k n3 r base' l d|_,_,.base=>.base|_,_,.cons h m n t=>.cons (h.mono b) m n (t.mono b)
def Laid(P:Ap)(F:zy)(fb:Nat->Bool)(f1:Hg)(k:Nat):Prop:=∀f b c,F f∨Zp (f1.own f)->P.funcs[f]?=Y b->b.body=Y c->ES P fb f1.own (f1.own f) k c=A3/\IS (f1.own f)=[]
def a3N(X:RD P){so:Dj}{Pr:zy}(YE:∀b,Pr b->RO b)(JP:so.FI->∀b,¬Pr b){cs cs' base':List Ag}{s j:BU LH}(hs:AO P F so (M1 P F f1.own) E s j)(bi:CC F so RO E w w')(h:Ei P F fb f1 k E (OV cs r) fr fr')(hm:fr.mode=Lw)(I:fr.todo≠[])(hc:Lv P F fb f1 k E r base' cs cs')(Ar:Laid P F fb f1 k)(K:s.runT P w #[]=(Ac C0 w1,es))(QY:∀v,C0=D6 v->R9 f1 fr v)(nt:∀f a,C0=VQ f a->∀v,R9 f1 fr v):∃d N R M T y es',NA P A3 fr cs Z s w=Cw {frame:=N,callers:=M,status:=DJ,dying:=Z} w1 (Iz P fr.fn es)/\NA P A3 fr' cs' Z j w'=Cw {frame:=R,callers:=T,status:=DJ,dying:=Z} y (Iz P fr.fn es')/\Ei P F fb f1 k d (OV M r) N R/\N.mode=Lw/\Lv P F fb f1 k d r base' M T/\CC F so RO d w1 y/\GR Pr E w w' d w1 y/\KE RO d es.toList es'.toList/\∃W,j.runT P w' #[]=(Ac W y,es'):=by
 obtain⟨d,W,y,es',z,r2,m,H,q⟩:=AO.runs X YE JP hs bi (es:=#[]) (es':=#[]) .nil K;have hk:(fr.kind==Ki)=A9:=by rw[h.kind.1];rfl
 have A:(fr'.kind==Ki)=A9:=by rw[h.kind.2];rfl
 have C:(match fr.todo with|.call _ A3 _ _::_=>a'E|_=>GG)=GG:=by
  have B3:=h.ok;split;·rename_i e;exact absurd (B3 _ (by rw[e];exact Je ..)) (by simp[Qc])
  rfl
 have D:(match fr'.todo with|.call _ A3 _ _::_=>a'E|_=>GG)=GG:=by rw[h.todo];cases e:fr.todo with|nil=>exact absurd e I|cons i l=>rw[e]at C;rw[Kq];cases i<;>first|rfl|(rename_i b _ _;cases b<;>first|rfl|exact C)
 have Q:=h.mono H.le;have U:=hc.mono (P:=P) (fb:=fb) (k:=k) H.le;have DR:∀v,(fr.finish v).mode=fr.mode:=by intro v;unfold cG;split<;>rfl
 cases r2 with
 |value hv=>exact⟨d,_,_,_,_,y,es',Jh hk K rfl,by rw[<-h.fn];exact Jh A z rfl,Q.finish I hv (QY _ rfl),by rw[DR];exact hm,U,m,H,q,_,z⟩
 |skip=>exact⟨d,_,_,_,_,y,es',Jh hk K rfl,by rw[<-h.fn];exact Jh A z rfl,Q.finish I (.tuple .nil) R9.undef,by rw[DR];exact hm,U,m,H,q,_,z⟩
 |enter AK hb rg AB=>
  obtain⟨fn,c,e1,e2⟩:=hb;refine⟨d,_,_,_,_,y,es',Jh hk K rfl,by rw[<-h.fn];exact Jh A z rfl,?_,rfl,.cons Q hm ⟨I,nt _ _ rfl⟩ U,m,H,q,_,z⟩;have L:OV (fr::cs) r=[]:=by cases hc<;>rfl
  rw[C,D,L];exact Ei.enter e1 e2 (Ar _ _ _ AK e1 e2).1 (Ar _ _ _ AK e1 e2).2 rg AB
end
section
variable{P:Ap}{F:zy}{so:Dj}{RO:zy}{E:AT}
def Ii(P:Ap){bv:Type}(s:BU bv):Prop:=∀w h a b es1,s.runT P w h=(Ac a b,es1)->b=w
def Ii.bind{bv By:Type}{s:BU bv}{f:bv->BU By}(h:Ii P s)(k:∀a,Ii P (f a)):Ii P (s.bind f):=by
 intro w H a K es1 b;rw[JC]at b;split at b;·rename_i z w0 I y;have:=h _ _ _ _ _ y;subst this;exact k _ _ _ _ _ _ b
 cases b
def Ii.pure(a:bv):Ii P (Jz a):=by intro w h b s es1 A2;simp only[DQ,Q8,lT]at A2;exact A2.1.2.symm
def Ii.dead{s:BU bv}(h:BQ P s):Ii P s:=λw y a z es1 b=>absurd b (h.ne _ _ _ _ _)
def Ii.load(a:Ak)(m:ZP):Ii P (load a m):=by
 intro w b v h es1 A2;unfold ck at A2;simp only[DQ]at A2;split at A2;·simp only[Q8,lT]at A2;exact A2.1.2.symm
 split at A2;·simp only[Q8,lT]at A2;exact A2.1.2.symm
 cases A2
def dS(m:String):BQ P (U0 m:BU bv):=BQ.halt _
def Ii.loadBytes:∀(n:Nat)(a:Ak)(b:zz),Ii P (ZW a b n)
 |0,a,b=>Ii.pure _
 |n+1,a,b=>by
  unfold ZW;refine(Ii.load a VP).bind λv=>?_;split;·exact Ii.loadBytes n _ _
  exact .dead (dS _)
def aQy{n:Nat}{d s:zz}(h:(ZW a d (n+1)).runT P w es=(Ac s w1,es1)):(w.cell? a=Z->∃e,w.farLoad P a (VP==Ma)=bx e)->∃x,w.cell? a=Y (A7 .u8 x):=by
 intro y;unfold ZW at h;change(Dx (ck a VP) _).runT P w es=_ at h;rw[JC]at h;unfold ck at h;simp only[DQ]at h;cases hc:w.cell? a with
 |none=>obtain⟨e,he⟩:=y hc;rw[hc,he]at h;simp at h
 |some v=>
  rw[hc]at h;simp only at h;split at h;·rename_i b;exact⟨b,rfl⟩
  exact absurd h ((dS _).ne _ _ _ _ _)
def aXW(s:Aj):Ii P (Tz s):=by
 unfold Tz;intro w h v y es1 b;change(c_ _).runT P w h=_ at b;simp only[DQ]at b;change(Dx (Jz _) _).runT P w h=_ at b;simp only[Dx]at b;split at b;·rename_i d _;cases d with|pointer e=>exact Ii.pure _ _ _ _ _ _ b|_=>exact absurd b ((dS _).ne _ _ _ _ _)
 exact absurd b ((BQ.bind (dS _)).ne _ _ _ _ _)
def aXX(a:Ak)(e:Aj)(n:Nat):Ii P (gQ a e n):=by
 unfold gQ;intro w h v s es1 b;change(c_ _).runT P w h=_ at b;simp only[DQ]at b;change(sK _ _).runT P w h=_ at b;simp only[DQ]at b;change(Dx (Jz _) _).runT P w h=_ at b;simp only[Dx]at b;split at b;·exact Ii.pure _ _ _ _ _ _ b
 exact Ii.pure _ _ _ _ _ _ b
def aCG{ts:Array Aj}(h:(c8 ts t #[x,y]).runT P w es=(Ac v w1,es1)):w1=w/\((∃q,y=A7 q 0)∨x=Ad Z)∨∃a n q m,x=Ad (Y a)/\y=A7 q m/\m≠0/\w1=w.freeze a n/\((w.cell? a=Z->∃e,w.farLoad P a (VP==Ma)=bx e)->∃z,w.cell? a=Y (A7 .u8 z)):=by
 unfold c8 at h;cases x with
 |pointer p=>
  cases y with
  |int q n=>
   change(match ts[0]? with|Y K=>_|_=>_:BU A1).runT P w es=_ at h;cases d:ts[0]? with
   |none=>rw[d]at h;exact absurd h ((dS _).ne _ _ _ _ _)
   |some K=>
    rw[d]at h;dsimp only at h;by_cases Q:n<0;·rw[if_pos Q]at h;exact absurd h ((Gx _).bind.ne _ _ _ _ _)
    rw[if_neg Q]at h;by_cases h2:n>A8.max;·rw[if_pos h2]at h;exact absurd h ((BQ.halt _).bind.ne _ _ _ _ _)
    rw[if_neg h2]at h;cases p with
    |none=>
     dsimp only at h;by_cases H:n=0;·rw[if_pos H]at h;exact AD ⟨Ii.pure _ _ _ _ _ _ h,AJ rfl⟩
     rw[if_neg H]at h;exact absurd h ((Gx _).ne _ _ _ _ _)
    |some a=>
     dsimp only at h;by_cases H:n=0;·rw[if_pos H]at h;exact AD ⟨Ii.pure _ _ _ _ _ _ h,AD ⟨q,by rw[H]⟩⟩
     rw[if_neg H]at h;change(Dx (Tz K) _).runT P w es=_ at h;rw[JC]at h;split at h
     ·rename_i e M f e2;have j:M=w:=(aXW K) _ _ _ _ _ e2;subst j;change(Dx (gQ a e n.toNat) _).runT P M f=_ at h;rw[JC]at h;split at h
      ·rename_i b w3 A C;have D:w3=M:=(aXX a e n.toNat) _ _ _ _ _ C;subst D;cases b with
       |false=>exact absurd h ((BQ.halt _).ne _ _ _ _ _)
       |true=>
        change(Dx (ZW a .empty n.toNat) _).runT P w3 A=_ at h;rw[JC]at h;split at h;·rename_i s w4 I N;have L:=Ii.loadBytes _ _ _ _ _ _ _ _ N;subst L;have hn:∃m,n.toNat=m+1:=⟨n.toNat-1,by omega⟩;obtain⟨m,hm⟩:=hn;have U:=N;rw[hm]at U;refine AJ ⟨a,n.toNat,q,n,rfl,rfl,H,?_,aQy U⟩;change(sI a n.toNat _).runT P w4 I=_ at h;simp only[DQ]at h;exact Ii.pure _ _ _ _ _ _ h
        cases h
      cases h
     cases h
  |pointer a=>cases a<;>(change(lU _).runT P w es=_ at h;exact absurd h ((BQ.halt _).ne _ _ _ _ _))
  |_=>change(lU _).runT P w es=_ at h;exact absurd h ((BQ.halt _).ne _ _ _ _ _)
 |_=>exact absurd h ((dS _).ne _ _ _ _ _)
def aYd{o:BR}(K:MR o.op=A3)(C:∀c,o.op=If c->c.args.size=2)(Q:∀c x,o.op=If c->c.args[0]?=Y x->∀b,Mz (ρ x)=Y b->¬RO b)(M:∀x∈opsOf o.op,AN F E (ρ x) (ρ' x)){D:LH}{es':Array C5}(L:CC F so RO E w w')(h:(Ab ρ o).runT P w #[]=(Ac C0 w1,es))(H:(Ab ρ' o).runT P w' #[]=(Ac D BZ,es')):∀I,(∀b,E.rel b I->RO b)->BZ.heap[I]?=w'.heap[I]?:=by
 intro I R;unfold Ab at h H;cases e:o.op with
 |call c=>
  rw[e]at h H M;have hs:=C c e;have Q:=Q c;obtain⟨s,args,ts⟩:=c;unfold MR at K;rw[e]at K;cases s with
  |builtin b=>
   cases b with
   |unsafeString=>
    obtain⟨x,y,rfl⟩:=two hs;simp only[opsOf,Dg,r4]at M;simp only[U',M',Gd,Kt]at h H;change(Dx (c8 ts o.type #[ρ x,ρ y]) _).runT P w #[]=_ at h;change(Dx (c8 ts o.type #[ρ' x,ρ' y]) _).runT P w' #[]=_ at H;rw[JC]at h H;split at h
    ·rename_i v w2 QE e2;split at H
     ·rename_i v' T W X;have g1:w1=w2:=Ii.pure _ _ _ _ _ _ h;have N:BZ=T:=Ii.pure _ _ _ _ _ _ H;subst g1 N;have hx:=M x (by simp);have hy:=M y (by simp);rcases aCG X with⟨q,_⟩|⟨U,eR,EG,Bx,Bp,C8,E',d,_⟩;·rw[q]
      rw[Bp]at hx;rw[C8]at hy;rcases aCG e2 with⟨_,⟨Jq,z⟩|z⟩|⟨a,n,Jq,m,f,K8,aAV,abB,abC⟩;·rw[z]at hy;cases hy;exact absurd rfl E'
      ·rw[z]at hx;cases hx
      rw[f]at hx;cases hx with
      |ptr AB=>
       obtain⟨o1,pV,NJ,j,wy⟩:=L.heap _ _ AB.1;rcases wy.kind with⟨c,c',t,p,q,rfl,rfl,_,_⟩|⟨_,y'⟩
       ·have A2:¬RO a.block:=Q x e rfl _ (by rw[f];rfl);rw[d];unfold cd;split;·rfl
        exact Nb _ _ _ λz=>A2 (R _ (z▸AB.1))
       rw[d];unfold cd;split;·rfl
       show(w'.heap.modify U.block _)[I]?=_;by_cases A:I=U.block;·rw[A,WO _ _ _ j,j];cases pV<;>first|rfl|exact absurd rfl (y' _ _ _)
       exact Nb _ _ _ A
     cases H
    cases h
   |_=>cases K
  |_=>cases K
 |_=>rw[e]at K;cases K
end
section
variable{P:Ap}{F:zy}{fb:Nat->Bool}{f1:Hg}{k:Nat}{E:AT}{RO:zy}{so:Dj}{r:List Cb}
def aZM{ops:Array BR}{a a':zw}{D:List Nat}(h:Aq F E (Cd D a).toList (Cd D a').toList)(y:∀(j d:Nat),ops[j]?.bind (λ(o:BR)=>o.dst)=Y d->D.contains d=A9):I6 ops a'=I6 ops a:=by funext j;unfold I6;cases s:ops[j]?.bind (·.dst)with|none=>rfl|some d=>simp only[SZ];have z:=h.length;rw[<-RX (y j d s) a,<-RX (y j d s) a'];cases e:(Cd D a)[d]? with|none=>have hs:=Array.getElem?_eq_none_iff.1 e;have b:(Cd D a')[d]?=Z:=Array.getElem?_eq_none_iff.2 (by simp only[Nq]at z;omega);rw[b]|some v=>obtain⟨H,b,hv⟩:=h.get d (by simpa using e);simp only[Oi]at b;rw[b];cases hv<;>rfl
def aJG(b:CC F so RO E w w')(q:sF):∃t h s,(Ty q).run P w=Ac t h/\(Ty q).run P w'=Ac t s/\CC F so RO E h s/\GR RO E w w' E h s:=by
 unfold Ty;simp only[ca];split;·exact⟨_,_,_,rfl,rfl,b,GR.refl _ _ _ _⟩
 have y:=b.tape 0 q;simp only[aHK]at y;rw[y];exact⟨_,_,_,rfl,rfl,b.draw,⟨AT.le_refl _,λ_ _ x=>AD x,Ae _,Ae _,rfl,rfl,rfl,rfl,⟨1,rfl,rfl⟩,λ_ _ _=>rfl,id⟩⟩
structure KC(P:Ap)(F:zy)(fb:Nat->Bool)(f1:Hg)(k:Nat)(so:Dj)(RO:zy)(E:AT)(r:List Cb)(base':List Ag)(fn:Nat)(w w':A0)(s C9:r_):Prop where
 both:∃hW Bd Vq Mo Vi w1 BZ es es',s=Cw {frame:=Bd,callers:=Mo,status:=DJ,dying:=Z} w1 (Iz P fn es)/\C9=Cw {frame:=Vq,callers:=Vi,status:=DJ,dying:=Z} BZ (Iz P fn es')/\Ei P F fb f1 k hW (OV Mo r) Bd Vq/\(Bd.mode=Lw∨Bd.mode=.returning)/\Lv P F fb f1 k hW r base' Mo Vi/\CC F so RO hW w1 BZ/\GR RO E w w' hW w1 BZ/\KE RO hW es.toList es'.toList
def KC.to{base':List Ag}{fr fr':Ag}{cs cs':List Ag}{w w':A0}(h:Ei P F fb f1 k E (OV cs r) fr fr')(s:fr.mode=Lw)(hc:Lv P F fb f1 k E r base' cs cs')(y:CC F so RO E w w')(l:List Cb)(b:∀i∈l,Qc P fb f1.own (f1.own fr.fn) k i=A3):KC P F fb f1 k so RO E r base' fr.fn w w' (Cw {frame:={fr with todo:=l},callers:=cs,status:=DJ,dying:=Z} w) (Cw {frame:={fr' with todo:=l++OV cs r},callers:=cs',status:=DJ,dying:=Z} w'):=⟨E,_,_,cs,cs',w,w',#[],#[],rfl,rfl,h.to l b,AD s,hc,y,GR.refl _ _ _ _,.nil⟩
def Ei.aBm{q:List Cb}(h:Ei P F fb f1 k E q fr fr'){o:Op}(z:Qn P fb f1.own (f1.own fr.fn) k o=A3):∀x,setOf o=Y x->∀b,Mz (fr.eval x)=Y b->f1.Jp b:=by
 intro x hx b y;rcases aWw z hx with s|⟨t,rfl,H⟩;·refine f1.all (λe=>?_) b;unfold QG at s;rw[e]at s;cases s
 exact h.own t H b y
def a4s(CW:Fit P F)(Ce:P.globals.size=Ci)(hC:∀z,Calm P F (B0 f1 z))(MD:so=B0 f1 A3/\∀b,¬RO b↔f1.Jp b)(RC:∀f,fb f=A3->F f)(Ar:Laid P F fb f1 k)(AI:∀b,b<Ci->E.rel b b)(m Bx:Bool){base':List Ag}{cs cs':List Ag}(h:Ei P F fb f1 k E (OV cs r) fr fr')(Q:fr.mode=Lw)(RN:fr.todo=[]->OV cs r=[])(hc:Lv P F fb f1 k E r base' cs cs')(H:CC F so RO E w w')(N:∃g1 w1 es,CE P m A3 fr cs Z w=Cw g1 w1 es)(d0:∀ops j rest l o,fr.todo=B1 ops (j::rest)::l->ops[j]?=Y o->Gt o (I6 ops fr.tmps)=A3->∃C0 w1 es,(Ab fr.eval o).runT P w #[]=(Ac C0 w1,es)):KC P F fb f1 k so RO E r base' fr.fn w w' (CE P m A3 fr cs Z w) (CE P Bx A3 fr' cs' Z w'):=by
 obtain⟨g1,w1,es1,N⟩:=N;have B3:=h.ok;have K:=h.todo;have T:=h.round.1;have Fe:=h.round.2;have aw:KC P F fb f1 k so RO E r base' fr.fn w w' (Cw {frame:={fr with mode:=MZ},callers:=cs,status:=DJ,dying:=Z} w) (Cw {frame:={fr' with mode:=MZ},callers:=cs',status:=DJ,dying:=Z} w'):=⟨E,_,_,cs,cs',w,w',#[],#[],rfl,rfl,⟨h.fn,h.has,h.todo,h.ok,h.defers,rfl,h.kind,h.round,h.tmps,h.own⟩,AJ rfl,hc,H,GR.refl _ _ _ _,.nil⟩;cases s:fr.todo with
 |nil=>rw[s,RN s,List.append_nil]at K;unfold CE;simp only[s,K,T,Fe,↓reduceIte]at aw⊢;exact aw
 |cons i l=>
  rw[s]at K B3;rw[Kq]at K;have hi:=B3 i (by simp);have AE:∀j∈l,Qc P fb f1.own (f1.own fr.fn) k j=A3:=λj I=>B3 j (by simp[I]);cases i with
  |inBlock b=>unfold CE;simp only[s,K];exact KC.to h Q hc H l AE
  |inScope b=>unfold CE;simp only[s,K];exact KC.to h Q hc H l AE
  |inLoop b=>
   unfold CE;simp only[s,K];exact KC.to h Q hc H _ λj I=>by
    rcases List.mem_cons.1 I with rfl|I;·exact hi
    rcases List.mem_cons.1 I with rfl|I;·exact hi
    exact AE j I
  |code c=>
   have two:∀(a b:Cb),Qc P fb f1.own (f1.own fr.fn) k a=A3->Qc P fb f1.own (f1.own fr.fn) k b=A3->∀j∈a::b::l,Qc P fb f1.own (f1.own fr.fn) k j=A3:=by
    intro a b AB hb j I;rcases List.mem_cons.1 I with rfl|I;·exact AB
    rcases List.mem_cons.1 I with rfl|I;·exact hb
    exact AE j I
   cases c with
   |skip=>unfold CE;simp only[s,K];exact KC.to h Q hc H l AE
   |label n=>unfold CE;simp only[s,K];exact KC.to h Q hc H l AE
   |ret=>unfold CE;simp only[s,K,T,Fe,↓reduceIte]at aw⊢;exact aw
   |seq a b=>obtain⟨h1,h2⟩:=Bool.and_eq_true_iff.1 hi;unfold CE;simp only[s,K];exact KC.to h Q hc H _ (two _ _ h1 h2)
   |cond c a b=>
    obtain⟨AV,uz⟩:=Bool.and_eq_true_iff.1 hi;obtain⟨h1,h2⟩:=Bool.and_eq_true_iff.1 uz;have hv:=h.eval AI RC c AV;unfold CE at N⊢;simp only[s,K]at N⊢;generalize fr.eval c=x at hv N;generalize fr'.eval c=x' at hv;cases hv with
    |bool v=>
     refine KC.to h Q hc H _ λj I=>?_;rcases List.mem_cons.1 I with rfl|I
     ·cases v;·exact h2
      exact h1
     exact AE j I
    |_=>cases N
   |block n b=>unfold CE;simp only[s,K];exact KC.to h Q hc H _ (two _ _ hi rfl)
   |loop b=>unfold CE;simp only[s,K];exact KC.to h Q hc H _ (two _ _ hi hi)
   |scope b=>unfold CE;simp only[s,K];exact KC.to h Q hc H _ (two _ _ hi hi)
   |exit n=>
    unfold CE at N⊢;simp only[s,T]at N;simp only[s,K];cases e:R6 n l with
    |none=>rw[e]at N;simp only[tc,EJ,↓reduceIte]at N;cases N
    |some hH=>rw[uW _ e];exact KC.to h Q hc H hH (uY e AE)
   |goto n=>
    unfold CE at N⊢;simp only[s,T]at N;simp only[s,K];cases e:XC n l with
    |none=>rw[e]at N;simp only[tc,EJ,↓reduceIte]at N;cases N
    |some hH=>rw[uv _ e];exact KC.to h Q hc H hH (uw e AE)
   |rangeFunc f a b c=>cases hi
   |refuse y=>unfold CE at N;simp only[s]at N;cases N
   |region n ops draw=>
    have Gk:∀(t:List Nat),∀j∈B1 ops t::l,Qc P fb f1.own (f1.own fr.fn) k j=A3:=by
     intro t j I;rcases List.mem_cons.1 I with rfl|I;·exact hi
     exact AE j I
    unfold CE;simp only[s,K];cases draw with
    |false=>exact KC.to h Q hc H _ (Gk _)
    |true=>
     obtain⟨t,w2,Kf,e,e',J8,E9⟩:=aJG (P:=P) H (X9 fr.fn n);have aK9:(Ty (X9 fr'.fn n)).run P w'=Ac t Kf:=by rw[h.fn];exact e'
     simp only[e,aK9,Tn,EJ,↓reduceIte];exact⟨E,_,_,cs,cs',w2,Kf,#[],#[],rfl,rfl,h.to _ (Gk _),AD Q,hc,J8,E9,.nil⟩
  |inRegion ops todo=>
   cases todo with
   |nil=>unfold CE;simp only[s,K];exact KC.to h Q hc H l AE
   |cons j rest=>
    have DR:∀v,(fr.finish v).mode=fr.mode:=by intro v;unfold cG;split<;>rfl
    have Dd:∀(j d:Nat),ops[j]?.bind (λ(o:BR)=>o.dst)=Y d->(IS (f1.own fr.fn)).contains d=A9:=by
     intro j d A;cases W:ops[j]? with
     |none=>rw[W]at A;cases A
     |some o=>rw[W]at A;have A:o.dst=Y d:=A;have wv:eW P fb f1.own (f1.own fr.fn) k o=A3:=List.all_eq_true.1 hi o (by obtain⟨hlt,rfl⟩:=Array.getElem?_eq_some_iff.1 W;simp);have h1:=(Bool.and_eq_true_iff.1 (Bool.and_eq_true_iff.1 wv).2).1;unfold nB at h1;rw[A]at h1;have h2:=(Bool.and_eq_true_iff.1 h1).1;unfold mm at h2;simpa using h2
    have uZ:=aZM (ops:=ops) h.tmps Dd;have W:fr.oper?=ops[j]?:=by unfold a'c;rw[s]
    have nJ:fr'.oper?=ops[j]?:=by unfold a'c;rw[K]
    unfold CE;simp only[s,K,uZ];by_cases C:(ops[j]?.map (Gt · (I6 ops fr.tmps))).getD A9=A3
    ·simp only[C,↓reduceIte];cases e:ops[j]? with
     |none=>rw[e]at C;cases C
     |some o=>
      obtain⟨C0,w2,QE,A2⟩:=d0 ops j rest l o s e (by rw[e]at C;exact C);have AA:eW P fb f1.own (f1.own fr.fn) k o=A3:=List.all_eq_true.1 hi o (by have:=Array.getElem?_eq_some_iff.1 e;obtain⟨hlt,rfl⟩:=this;simp);obtain⟨D,wq⟩:=Bool.and_eq_true_iff.1 AA;obtain⟨L,b7⟩:=Bool.and_eq_true_iff.1 wq;have BI:∀x∈opsOf o.op,AN F E (fr.eval x) (fr'.eval x):=λx hx=>h.eval AI RC x (List.all_eq_true.1 (Bool.and_eq_true_iff.1 b7).1 x hx);have hs:AO P F (B0 f1 (MR o.op)) (M1 P F f1.own) E (Ab fr.eval o) (Ab fr'.eval o):=q' CW Ce (hC _) AI (λv=>rfl) (λf=>rfl) (λf=>rfl) o k (pb RC D) (qM (Bool.and_eq_true_iff.1 b7).2) BI (h.aBm D);have e1:m' P A3 fr cs Z w=NA P A3 fr cs Z (Ab fr.eval o) w:=by unfold m';rw[W,e];simp only[T]
      have e2:m' P A3 fr' cs' Z w'=NA P A3 fr' cs' Z (Ab fr'.eval o) w':=by unfold m';rw[nJ,e];simp only[Fe]
      have i6:fr.todo≠[]:=by rw[s];exact aGn _ _
      have Hn:∀v,(ui (f1.own fr.fn) o.op=A3->Xb f1 v)->R9 f1 fr v:=by intro v hv aAC ON aBK CS d e2 Co AS;rw[s]at e2;cases e2;rw[e]at Co;have Co:o.dst=Y d:=Co;unfold nB at L;rw[Co]at L;have L:=(Bool.and_eq_true_iff.1 L).2;simp only[List.contains_eq_mem,AS,decide_true,Tn,Bool.false_or]at L;exact hv L
      have QY:∀v,C0=D6 v->R9 f1 fr v:=by
       rintro v rfl;refine Hn v λAK=>?_;rcases a5E AK A2 with⟨t,AP,F9,R,hb⟩|⟨F9,R,hb⟩;·cases R;exact λb kc=>h.own t AP b (hb b kc)
       cases R;intro b kc;refine(MD.2 b).1 λFJ=>?_;have:=(H.kept b FJ).1;have:=hb b kc;omega
      have nt:∀f a,C0=VQ f a->∀v,R9 f1 fr v:=by rintro f a rfl v;refine Hn v λAK=>?_;rcases a5E AK A2 with⟨t,AP,F9,R,hb⟩|⟨F9,R,hb⟩<;>cases R
      have X:CC F (B0 f1 (MR o.op)) RO E w w':=by rw[MD.1]at H;exact⟨H.heap,H.tape,H.kept,H.low,H.even⟩
      cases hu:MR o.op with
      |false=>rw[hu]at hs X;obtain⟨hW,Bd,Vq,Mo,Vi,BZ,es',Bp,C8,E',HY,Jq,q,U,bX,_⟩:=a3N CW.Ju (Pr:=RO) (λ_ x=>x) (λx=>by cases x) hs X h Q i6 hc Ar A2 QY nt;exact⟨hW,Bd,Vq,Mo,Vi,w2,BZ,QE,es',e1.trans Bp,e2.trans C8,E',AD HY,Jq,by rw[MD.1];exact⟨q.heap,q.tape,q.kept,q.low,q.even⟩,U,bX⟩
      |true=>
       rw[hu]at hs X;obtain⟨hW,Bd,Vq,Mo,Vi,BZ,es',Bp,C8,E',HY,Jq,q,U,bX,YU,aUT⟩:=a3N CW.Ju (Pr:=λ_=>False) (λ_ x=>x.elim) (λ_ _ x=>x) hs X h Q i6 hc Ar A2 QY nt;have ar:=aYd (RO:=RO) hu (λc hc=>by
        rw[hc]at D hu;obtain⟨M,args,ts⟩:=c;cases M with
        |builtin b=>
         cases b with
         |unsafeString=>exact of_decide_eq_true (p:=args.size=2) (Bool.and_eq_true_iff.1 D).1
         |_=>cases hu
        |_=>cases hu) (λc x hc hx b hb=>by
        rw[hc]at D hu;obtain⟨M,args,ts⟩:=c;cases M with
        |builtin aIJ=>
         cases aIJ with
         |unsafeString=>
          have h2:=(Bool.and_eq_true_iff.1 D).2;have hx:args[0]?=Y x:=hx;rw[hx]at h2;refine(MD.2 b).2 ?_;rcases Bool.or_eq_true_iff.1 h2 with h3|h3;·exact f1.all (by simpa[QG]using h3) b
          cases x with
          |tmp t=>exact h.own t (by simpa[WY]using h3) b hb
          |_=>cases h3
         |_=>cases hu
        |_=>cases hu) BI X A2 aUT;refine⟨hW,Bd,Vq,Mo,Vi,w2,BZ,QE,es',e1.trans Bp,e2.trans C8,E',AD HY,Jq,by rw[MD.1];exact⟨q.heap,q.tape,q.kept,q.low,q.even⟩,?_,bX⟩;exact⟨U.le,U.fresh,U.size,U.kJ,U.os,U.output,U.tape,U.er,U.drawn,λb' _ hn=>ar b' hn,U.YK⟩
    simp only[C,EJ,↓reduceIte];exact⟨E,_,_,cs,cs',w,w',#[],#[],rfl,rfl,h.finish (by rw[s];exact aGn _ _) (.tuple .nil) R9.undef,AD (by rw[DR];exact Q),hc,H,GR.refl _ _ _ _,.nil⟩
  |_=>cases hi
end
section
variable{P:Ap}{F:zy}{fb:Nat->Bool}{f1:Hg}{k:Nat}{E:AT}{RO:zy}{so:Dj}{r:List Cb}
def aAs{bv:Type}{g g':bv->BU A1}:∀(l:List bv){E:AT}(_:∀s,E.le s->∀x,AO P F so (CL F) s (g x) (g' x)){b b':zw},Aq F E b.toList b'.toList->AO P F so (RA F) E (l.foldlM (λb x=>b.push<$>g x) b) (l.foldlM (λb x=>b.push<$>g' x) b')|[],_,_,_,_,h=>.AQ h|x::l,E,AI,b,b',h=>by simp only[mY];refine AO.andThen (Q:=RA F) (AO.andThen (Q:=CL F) (AI E (AT.le_refl _) x) λd z v I hv=>.AQ (by show Aq F d (b.push v).toList (b'.push I).toList;simpa using(h.mono z).snoc hv)) ?_;intro K H c M hc;exact aAs l (λs y x=>AI s (AT.le_trans H y) x) hc
def a5P{a a':zw}(h:Aq F E a.toList a'.toList)(t:Nat):AN F E (a.getD t A') (a'.getD t A'):=by simp only[Iv];have s:=h.length;cases e:a[t]? with|none=>have hs:a.size<=t:=Array.getElem?_eq_none_iff.1 e;have b:a'[t]?=Z:=Array.getElem?_eq_none_iff.2 (by simp only[Nq]at s;omega);rw[b];exact .tuple .nil|some v=>obtain⟨y,b,hv⟩:=h.get t (by simpa using e);simp only[Oi]at b;rw[b];exact hv
def aVM(fn:Jy){a a':zw}(h:Aq F E a.toList a'.toList):AO P F so (CL F) E (D_ fn a) (D_ fn a'):=by
 unfold D_;refine AO.andThen (Q:=RA F) ?_ ?_;·rw[ki,ki,<-k_,<-k_];refine aAs _ (λn3 K x=>?_) .nil;cases x with|tmp t=>exact .AQ ((a5P h t).mono K)|cell b t=>refine(k7 ((a5P h b).mono K)).andThen ?_;intro d e x x' hx;exact kA hx t
 intro f j M I hv;have H:=hv.length;simp only[Nq]at H;by_cases s:M.size=1
 ·have z:I.size=1:=H.trans s;simp only[s,z,↓reduceDIte];obtain⟨U,y,N⟩:=hv.get 0 (v:=M[0]) (by simp);have:U=I[0]:=by simp only[Oi]at y;rw[EP (by omega)]at y;exact(CH y).symm
  subst this;exact .AQ N
 have z:¬I.size=1:=λx=>s (H.symm.trans x);simp only[s,z,↓reduceDIte];exact .AQ (.tuple hv)
def aBL{bv:Type}{f g:bv->BU A1}:∀(l:List bv)(s:zw),(∀x∈l,f x=g x)->l.foldlM (λs a=>do FX (s.push (<-f a))) s=l.foldlM (λs a=>do FX (s.push (<-g a))) s|[],_,_=>rfl|x::l,s,h=>by simp only[mY];rw[h x (by simp)];congr 1;funext b;exact aBL l b λy hy=>h y (by simp[hy])
def aBM{D:List Nat}(h:Ta D fn=A3)(T:zw):D_ fn (Cd D T)=D_ fn T:=by
 unfold D_;congr 1;rw[ki,ki,<-k_,<-k_];refine aBL _ _ λx hx=>?_;unfold Ta at h;rw[Array.all_eq_true']at h;have h:=h x (by simpa using hx);cases x with
 |tmp t=>
  have h:D.contains t=A9:=by simpa using h
  simp only[Iv,RX h]
 |cell a t=>
  have h:D.contains a=A9:=by simpa using h
  simp only[Iv,RX h]
def Ei.results{q:List Cb}(h:Ei P F fb f1 k E q fr fr')(y:P.funcs[fr.fn]?=Y fn):AO P F so (CL F) E (D_ fn fr.tmps) (D_ fn fr'.tmps):=by obtain⟨s,b,h2⟩:=h.has;rw[y]at b;obtain rfl:=CH b;rw[<-aBM h2 fr.tmps,<-aBM h2 fr'.tmps];exact aVM fn h.tmps
def Rz{m:Bool}{c:Ag}{cs:List Ag}(b:fr.defers=[])(y:fr.mode=MZ)(s:fr.kind=GG)(h:P.funcs[fr.fn]?=Y fn)(z:(D_ fn fr.tmps).runT P w #[]=(Ac v w1,es)):I5 P m fr (c::cs) Z w=Cw {frame:=c.finish v,callers:=cs,status:=DJ,dying:=Z} w1 (Iz P fr.fn es):=by unfold I5;simp only[b,y,h,z,doReturn,s,Ot,V8]
def aBO(K:RD P)(m d:Bool){base':List Ag}{q:List Cb}{c c':Ag}{cs cs':List Ag}(h:Ei P F fb f1 k E q fr fr')(H:fr.mode=MZ)(hc:Ei P F fb f1 k E (OV cs r) c c')(M:c.mode=Lw)(dr:c.todo≠[]/\∀v,R9 f1 c v)(N:Lv P F fb f1 k E r base' cs cs')(b:CC F so RO E w w')(y:P.funcs[fr.fn]?=Y fn)(I:(D_ fn fr.tmps).runT P w #[]=(Ac v w1,es)):KC P F fb f1 k so RO E r base' fr.fn w w' (I5 P m fr (c::cs) Z w) (I5 P d fr' (c'::cs') Z w'):=by
 have hs:AO P F ⟨so.obj,False,so.own,so.Hx⟩ (CL F) E (D_ fn fr.tmps) (D_ fn fr'.tmps):=h.results y;have U:CC F ⟨so.obj,False,so.own,so.Hx⟩ RO E w w':=⟨b.heap,b.tape,b.kept,b.low,b.even⟩;obtain⟨e,v',BZ,es',r1,r2,s,z,f⟩:=AO.runs K (Pr:=RO) (λ_ x=>x) (λx=>False.elim x) hs U (es:=#[]) (es':=#[]) .nil I;have Q:∀v,(c.finish v).mode=c.mode:=by intro v;unfold cG;split<;>rfl
 refine⟨e,_,_,cs,cs',w1,BZ,es,es',Rz h.defers.1 H h.kind.1 y I,?_,(hc.mono z.le).finish dr.1 r2 (dr.2 _),AD (by rw[Q];exact M),N.mono z.le,⟨s.heap,s.tape,s.kept,s.low,s.even⟩,z,f⟩;rw[<-h.fn];exact Rz h.defers.2 (h.mode.trans H) h.kind.2 (by rw[h.fn];exact y) r1
def eo{m:Bool}(b:g.dying=Z)(h:g.frame.mode=Lw):Bi P m g w A3=CE P m A3 g.frame g.callers Z w:=by unfold Bi;simp only[b,h]
def Qp{m:Bool}(b:g.dying=Z)(h:g.frame.mode=MZ):Bi P m g w A3=I5 P m g.frame g.callers Z w:=by unfold Bi;simp only[b,h]
end
section
variable{P:Ap}{F:zy}{so:Dj}{RO:zy}
def on(w:A0)(T:O1):A0:={w with tape:=T}
def CC.free(h:CC F so RO E w w'):CC F so (λ_=>False) E w w':=⟨h.heap,h.tape,λ_ x=>x.elim,h.low,h.even⟩
def aKu(w:A0)(T:O1)(a:Ak)(b:Bool):(on w T).farLoad P a b=w.farLoad P a b:=rfl
def a4x{T:O1}(h:w.farStore P a v b=Hr (w1,l)):(on w T).farStore P a v b=Hr (on w1 T,l)/\w1.drawn=w.drawn/\w1.tape=w.tape:=by
 unfold lb at h⊢;have e:(on w T).heap=w.heap:=rfl;rw[e];split at h
 ·rename_i x u hx;unfold a1N at h⊢;by_cases H:(!tight P P.depth u)=A3;·rw[if_pos H]at h;cases h
  rw[if_neg H]at h⊢;have I:(on w T).seen P x u a b=w.seen P x u a b:=rfl;rw[I];cases hs:w.seen P x u a b with
  |error m=>rw[hs]at h;cases h
  |ok r=>
   obtain⟨c,e,M,first,Q,y⟩:=r;rw[hs]at h;simp only[V9,VC]at h⊢;cases z:v.bytes? with
   |none=>simp only[z]at h;cases h
   |some bytes=>
    simp only[z]at h⊢;split at h
    ·rename_i r s;split at s;·cases s
     rename_i K;split at s;·cases s
     rename_i c2 N;simp only[FX,VD,bz]at s;subst s;simp only[bz,Q8]at h;obtain⟨rfl,rfl⟩:=h;rw[if_neg K];exact⟨rfl,rfl,rfl⟩
    cases h
 cases h
def AO.tape(X:RD P){bv:Type}{Q:AT->bv->bv->Prop}{E:AT}{s R:BU bv}(h:AO P F so Q E s R):∀{w w':A0}{es:Array C5}{a:bv}{w1:A0}{es1:Array C5},CC F so (λ_=>False) E w w'->s.runT P w es=(Ac a w1,es1)->w.drawn<=w1.drawn/\∀T:O1,(∀i q,w.drawn<=i->i<w1.drawn->T i q=w.tape i q)->s.runT P (on w T) es=(Ac a (on w1 T),es1):=by
 induction h with
 |pure q=>intro w w' es a w1 es1 z b;simp only[DQ,Q8,lT]at b;obtain⟨⟨rfl,rfl⟩,rfl⟩:=b;exact⟨Ae _,λT _=>rfl⟩
 |load m N _ I=>intro w w' es a w1 es1 z b;rename_i x x' k k' _;simp only[DQ]at b⊢;cases hc:w.cell? x with|some v=>rw[hc]at b;obtain⟨v',I9,hv⟩:=z.cell N hc;obtain⟨y,h2⟩:=I v v' hv z b;refine⟨y,λT H=>?_⟩;have e:(on w T).cell? x=Y v:=hc;rw[e];exact h2 T H|none=>rw[hc]at b;simp only at b;cases K:w.farLoad P x (m==Ma)with|error h=>rw[K]at b;simp at b|ok r=>obtain⟨v,l⟩:=r;rw[K]at b;obtain⟨hH,U,C8,j,HY⟩:=z.Xo X N K;obtain⟨y,h2⟩:=I v v j z b;refine⟨y,λT H=>?_⟩;have e:(on w T).cell? x=Z:=hc;rw[e];simp only[aKu,K];exact h2 T H
 |store m N hv _ I=>
  intro w w' es a w1 es1 z b;rename_i x x' v v' k k' _;by_cases g1:∃c,v=A_ c;·obtain⟨c,rfl⟩:=g1;simp[DQ]at b
  by_cases d:∃c,v=Ay c;·obtain⟨c,rfl⟩:=d;simp[DQ]at b
  rw[bg (λc x=>g1 ⟨c,x⟩) λc x=>d ⟨c,x⟩]at b;cases hc:w.cell? x with
  |some u=>
   rw[hc]at b;simp only at b;by_cases K:w.frozen? x=A3;·rw[if_pos K]at b;simp at b
   rw[if_neg K]at b;obtain⟨U,_⟩:=z.set N hv hc λx=>x;obtain⟨y,h2⟩:=I U b;have AS:(w.setCell x v).drawn=w.drawn:=by unfold LK;split<;>rfl
   have AP:(w.setCell x v).tape=w.tape:=by unfold LK;split<;>rfl
   rw[AS]at y;refine⟨y,λT H=>?_⟩;rw[bg (λc x=>g1 ⟨c,x⟩) λc x=>d ⟨c,x⟩];have e:(on w T).cell? x=Y u:=hc;have hY:¬(on w T).frozen? x=A3:=K;have es:(on w T).setCell x v=on (w.setCell x v) T:=rfl;rw[e];simp only;rw[if_neg hY,es];exact h2 T (by rw[AS,AP];exact H)
  |none=>rw[hc]at b;simp only at b;cases K:w.farStore P x v (m==Ma)with|error h=>rw[K]at b;simp at b|ok r=>obtain⟨w2,l⟩:=r;rw[K]at b;obtain⟨As,U,C8,j,HY,Jq,Kd⟩:=z.ub N hv K;obtain⟨y,h2⟩:=I j b;have AS:=a4x (T:=w.tape) K;rw[AS.2.1]at y;refine⟨y,λT H=>?_⟩;rw[bg (λc x=>g1 ⟨c,x⟩) λc x=>d ⟨c,x⟩];have e:(on w T).cell? x=Z:=hc;rw[e];simp only[(a4x (T:=T) K).1];exact h2 T (by rw[AS.2.1,AS.2.2];exact H)
 |new AA _ A I=>intro w w' es a w1 es1 z b;simp only[DQ]at b⊢;obtain⟨y,h2⟩:=I w.heap.size w'.heap.size z.fresh (z.push AA A) b;exact⟨y,λT H=>h2 T H⟩
 |shape f _ I=>intro w w' es a w1 es1 z b;simp only[DQ]at b⊢;obtain⟨y,h2⟩:=I _ z b;exact⟨y,λT H=>h2 T H⟩
 |freeze n A N _ I=>
  intro w w' es a w1 es1 z b;rename_i x x' k k' _;simp only[DQ]at b⊢;obtain⟨U,_⟩:=z.freeze (Pr:=λ_=>False) N n λx=>x;obtain⟨y,h2⟩:=I U b;have AS:(w.freeze x n).drawn=w.drawn:=by unfold cd;split<;>rfl
  have AP:(w.freeze x n).tape=w.tape:=by unfold cd;split<;>rfl
  rw[AS]at y;refine⟨y,λT H=>?_⟩;have es:(on w T).freeze x n=on (w.freeze x n) T:=by unfold cd on;dsimp only;split<;>rfl
  rw[es];exact h2 T (by rw[AS,AP];exact H)
 |frozen A N _ I=>intro w w' es a w1 es1 z b;simp only[DQ]at b⊢;obtain⟨y,h2⟩:=I _ z b;exact⟨y,λT H=>h2 T H⟩
 |getObj f _ I=>
  intro w w' es a w1 es1 z b;rename_i r As k k' _;obtain⟨o,o',e,e',AA⟩:=z.heap _ _ f;simp only[DQ]at b⊢;rw[e]at b;have C:∀T,(on w T).heap[r]?=Y o:=λT=>e;rcases AA.kind with⟨c,c',t,p,q,rfl,rfl,_,_⟩|⟨x,x'⟩;·simp at b
  have D:(k o).runT P w (es.push ⟨Nz r,A9,o.isChan⟩)=(Ac a w1,es1):=by rw[<-b];cases o<;>first|rfl|exact absurd rfl (x _ _ _)
  obtain⟨y,h2⟩:=I o o' AA z D;refine⟨y,λT H=>?_⟩;rw[C,<-h2 T H];cases o<;>first|rfl|exact absurd rfl (x _ _ _)
 |setObj hs f hn AA _ I=>
  intro w w' es a w1 es1 z b;rename_i r As o o' k k' _;simp only[DQ]at b⊢;cases e:w.heap[r]? with
  |none=>rw[e]at b;simp at b
  |some M=>
   rw[e]at b;have C:∀T,(on w T).heap[r]?=Y M:=λT=>e;by_cases W:∃c t p,M=AF c t p;·obtain⟨c,t,p,rfl⟩:=W;simp at b
   have L:∀c t p,M≠AF c t p:=λc t p x=>W ⟨c,t,p,x⟩;obtain⟨U,_,_,_,_,_⟩:=z.setObj hs f hn AA e L;have D:k.runT P {w with heap:=w.heap.setIfInBounds r o} (es.push ⟨Nz r,A3,o.isChan⟩)=(Ac a w1,es1):=by rw[<-b];cases M<;>first|rfl|exact absurd rfl (L _ _ _)
   obtain⟨y,h2⟩:=I U D;refine⟨y,λT H=>?_⟩;rw[C,<-h2 T H];cases M<;>first|rfl|exact absurd rfl (L _ _ _)
 |choose q _ I=>
  intro w w' es a w1 es1 z b;rename_i E k k' _;simp only[DQ]at b⊢;split at b;·rename_i AH;obtain⟨y,h2⟩:=I _ z b;refine⟨y,λT H=>?_⟩;rw[if_pos AH];exact h2 T H
  rename_i AH;obtain⟨y,h2⟩:=I _ z.draw b;simp only at y;refine⟨by omega,λT H=>?_⟩;rw[if_neg AH];have e:(on w T).tape (on w T).drawn q=w.tape w.drawn q:=H _ _ (Ae _) (by show w.drawn<w1.drawn;omega);rw[e];exact h2 T λi q hi AE=>H i q (Nat.le_of_succ_le hi) AE
 |program _ I=>intro w w' es a w1 es1 z b;simp only[DQ]at b⊢;obtain⟨y,h2⟩:=I z b;exact⟨y,λT H=>h2 T H⟩
 |mark hm _ I=>intro w w' es a w1 es1 z b;simp only[DQ]at b⊢;obtain⟨y,h2⟩:=I z b;exact⟨y,λT H=>h2 T H⟩
 |dead R h=>intro w w' es a w1 es1 z b;exact absurd b (h.ne _ _ _ _ _)
end
section
variable{P:Ap}{F:zy}{so:Dj}{RO:zy}
def AO.aMk(T:RD P){Q:AT->bv->bv->Prop}{s C:BU bv}(h:AO P F so Q E s C):∀{w w':A0}{es:Array C5}{x:Ww}{w1:A0}{es1:Array C5},CC F so (λ_=>False) E w w'->s.runT P w es=(Tv x w1,es1)->US x:=by
 induction h with
 |pure q=>intro w w' es x w1 es1 z b;cases b
 |load m K _ H=>intro w w' es x w1 es1 z b;rename_i a a' k k' _;simp only[DQ]at b;cases hc:w.cell? a with|some v=>rw[hc]at b;obtain⟨v',I9,hv⟩:=z.cell K hc;exact H v v' hv z b|none=>rw[hc]at b;simp only at b;cases I:w.farLoad P a (m==Ma)with|error h=>rw[I]at b;cases b;exact z.aKq K I|ok r=>obtain⟨v,l⟩:=r;rw[I]at b;obtain⟨hH,N,W,f,X⟩:=z.Xo T K I;exact H v v f z b
 |store m K hv _ H=>
  intro w w' es x w1 es1 z b;rename_i a a' v v' k k' _;by_cases g1:∃c,v=A_ c;·obtain⟨c,rfl⟩:=g1;cases b;trivial
  by_cases D:∃c,v=Ay c;·obtain⟨c,rfl⟩:=D;cases b;trivial
  rw[bg (λc x=>g1 ⟨c,x⟩) λc x=>D ⟨c,x⟩]at b;cases hc:w.cell? a with
  |some u=>
   rw[hc]at b;simp only at b;by_cases I:w.frozen? a=A3;·rw[if_pos I]at b;cases b;intro g e;cases e
   rw[if_neg I]at b;obtain⟨N,_⟩:=z.set K hv hc λx=>x;exact H N b
  |none=>rw[hc]at b;simp only at b;cases I:w.farStore P a v (m==Ma)with|error h=>rw[I]at b;cases b;exact z.aKr K I|ok r=>obtain⟨w2,l⟩:=r;rw[I]at b;obtain⟨As,N,W,f,X,Jq,Kd⟩:=z.ub K hv I;exact H f b
 |new U _ j H=>intro w w' es x w1 es1 z b;simp only[DQ]at b;exact H w.heap.size w'.heap.size z.fresh (z.push U j) b
 |shape d _ H=>intro w w' es x w1 es1 z b;simp only[DQ]at b;exact H _ z b
 |freeze n j K _ H=>intro w w' es x w1 es1 z b;simp only[DQ]at b;obtain⟨N,_⟩:=z.freeze (Pr:=λ_=>False) K n λx=>x;exact H N b
 |frozen j K _ H=>intro w w' es x w1 es1 z b;simp only[DQ]at b;exact H _ z b
 |getObj d _ H=>
  intro w w' es x w1 es1 z b;rename_i r As k k' _;obtain⟨o,o',e,e',U⟩:=z.heap _ _ d;simp only[DQ]at b;rw[e]at b;rcases U.kind with⟨c,c',t,p,q,rfl,rfl,_,_⟩|⟨y,y'⟩;·cases b;trivial
  have A:(k o).runT P w (es.push ⟨Nz r,A9,o.isChan⟩)=(Tv x w1,es1):=by rw[<-b];cases o<;>first|rfl|exact absurd rfl (y _ _ _)
  exact H o o' U z A
 |setObj hs d hn U _ H=>
  intro w w' es x w1 es1 z b;rename_i r As o o' k k' _;simp only[DQ]at b;cases e:w.heap[r]? with
  |none=>rw[e]at b;cases b;trivial
  |some M=>
   rw[e]at b;by_cases L:∃c t p,M=AF c t p;·obtain⟨c,t,p,rfl⟩:=L;cases b;trivial
   have R:∀c t p,M≠AF c t p:=λc t p x=>L ⟨c,t,p,x⟩;obtain⟨N,_,_,_,_,_⟩:=z.setObj hs d hn U e R;have A:k.runT P {w with heap:=w.heap.setIfInBounds r o} (es.push ⟨Nz r,A3,o.isChan⟩)=(Tv x w1,es1):=by rw[<-b];cases M<;>first|rfl|exact absurd rfl (R _ _ _)
   exact H N A
 |choose q _ H=>
  intro w w' es x w1 es1 z b;simp only[DQ]at b;split at b;·exact H _ z b
  exact H _ z.draw b
 |program _ H=>intro w w' es x w1 es1 z b;simp only[DQ]at b;exact H z b
 |mark hm _ H=>intro w w' es x w1 es1 z b;simp only[DQ]at b;exact H z b
 |dead C h=>intro w w' es x w1 es1 z b;obtain⟨y,_,_,e,k⟩:=h w es;rw[e]at b;cases b;exact k
end
section
open Go.Proofs.YtcfhleenecfghaaGreatDoor
variable{row:zw->BU A1}
def aD:List Nat:=[200,45,58,218,289,125,92,93,94,95,174,178,177,179,180,100,246,118,251,252,253,248,249,247,250,196,254,255,339,340,341,194,342,343,275,86,123,405,406,273,354,172,43,434,350,352,353,411,85,410,168,87,169,170,171,242,173,176,243,244,245]
def TX:Nat->List Nat|93=>[3,8,37]|251=>[14]|405=>[4]|172=>[3,9,13,14]|_=>[]
def reads(f:Nat):Prop:=f∈aD/\TX f=[]∨f=407∨f=351∨f=409
def aAR{f:Nat}(h:TX f≠[]):f∈aD:=by
 unfold TX at h;split at h;·decide
 ·decide
 ·decide
 ·decide
 exact absurd rfl h
def hL(P:Ap)(f:Nat):Bool:=match P.funcs[f]? with|Y fn=>!fn.name== "runtime.NumGoroutine"&&fn.body.isSome|Z=>A9
def aIM:aD.all (hL A6)=A3:=by kernel_rfl
def ud:cF a0F=Y rV:=by kernel_rfl
def uc:cF a0E=Y rW:=by kernel_rfl
def ue:cF a0G=Y rX:=by kernel_rfl
def yC:(ZF a0F).isNone=A3:=by kernel_rfl
def yB:(ZF a0E).isNone=A3:=by kernel_rfl
def yD:(ZF a0G).isNone=A3:=by kernel_rfl
section
variable{P:Ap}{F:zy}{so:Dj}{E:AT}
def OT{f:Nat}{fn:Jy}(y:P.funcs[f]?=Y fn)(hn:(fn.name== "runtime.NumGoroutine")=A9)(s:fn.body.isNone=A3)(hx:(ZF fn).isNone=A3)(z:cF fn=Y row){a a':zw}(h:∀b,E.le b->AO P F so (CL F) b (row a) (row a')):AO P F so (M1 P F so.own) E (Me f a) (Me f a'):=by
 have H:ZF fn=Z:=by simpa using hx
 unfold Me;refine .prog ?_;rw[y];simp only[hn,s,EJ,↓reduceIte];refine .mark (.extern f) ?_;show AO P F so (M1 P F so.own) E _ _;simp only[Dx,H,z];exact H3 (h E (AT.le_refl _))
def TZ(s:∀l:List A1,l.length≠2->∃m,row ⟨l⟩=U0 m)(h2:∀{x x' y y':A1},AN F E x x'->AN F E y y'->AO P F so (CL F) E (row #[x,y]) (row #[x',y'])){a a':zw}(h:Aq F E a.toList a'.toList):AO P F so (CL F) E (row a) (row a'):=by
 obtain⟨l⟩:=a;obtain⟨z⟩:=a';by_cases b:l.length=2;·match l,z,b,h with|[x,y],[x',y'],_,.cons hx (.cons hy .nil)=>exact h2 hx hy
 obtain⟨m,e⟩:=s l b;rw[e];exact .stuck
end
def calm{f1:Hg}(Q:f1.own=TX)(z:Bool):Calm A6 reads (B0 f1 z):=by
 have K:(B0 f1 z).own=TX:=Q;refine⟨λf AK=>?_,λf AK E N a a' U h=>?_⟩
 ·rw[K];rcases AK with AK|rfl|rfl|rfl;·exact AK.2
  ·rfl
  ·rfl
  rfl
 have M:f∈aD∨f=407∨f=351∨f=409:=by
  rcases AK with(AK|AK)|AK;·exact AD AK.1
  ·exact AJ AK
  rw[K]at AK;exact AD (aAR AK.1)
 rcases M with H|rfl|rfl|rfl;·have hb:=List.all_eq_true.1 aIM f H;unfold hL at hb;cases e:A6.funcs[f]? with|none=>rw[e]at hb;cases hb|some fn=>rw[e]at hb;simp only[G0,Bool.not_eq_true']at hb;exact yY AK e hb.1 (by rw[Option.isNone_eq_false_iff];exact hb.2) U h
 ·exact OT gG (by kernel_rfl) (by kernel_rfl) yC ud λI s=>TZ (λl y=>match l,y with|[],_=>⟨_,rfl⟩|[_],_=>⟨_,rfl⟩|[_,_],h=>absurd rfl h|_::_::_::_,_=>⟨_,rfl⟩) (λhx hy=>yZ hx hy) (h.mono s)
 ·exact OT cQ (by kernel_rfl) (by kernel_rfl) yB uc λI s=>TZ (λl y=>match l,y with|[],_=>⟨_,rfl⟩|[_],_=>⟨_,rfl⟩|[_,_],h=>absurd rfl h|_::_::_::_,_=>⟨_,rfl⟩) (λhx hy=>yd (by kernel_rfl) (λb hb=>s _ _ (N b hb)) hx hy) (h.mono s)
 exact OT cR (by kernel_rfl) (by kernel_rfl) yD ue λI s=>TZ (λl y=>match l,y with|[],_=>⟨_,rfl⟩|[_],_=>⟨_,rfl⟩|[_,_],h=>absurd rfl h|_::_::_::_,_=>⟨_,rfl⟩) (λhx hy=>yc hx hy) (h.mono s)
abbrev JV:kt:={add:=197,done:=199,wait:=201,relMerge:=276,disable:=277,enable:=278,inBubble:=279,associate:=280,fatal:=281,uOr:=282,uAdd:=283,raceRead:=284,uLoad:=285,uStore:=286,disassociate:=287,semrelease:=288,acquire:=290,isAssociated:=291,uCas:=292,raceWrite:=293,semacquire:=294,orU64:=355,addU64:=356,loadU64:=357,storeU64:=358,casU64:=359,tWgP:=398,tUP:=390,tAssoc:=400,tWg:=325,tAU:=322,tU64:=242,tUint:=305,tU32:=323,tPU32:=403,tPAU:=460,tPU64:=462,tNoCopy:=318,tANoCopy:=319,tAlign64:=320}
def qU:aZm A6 JV:=⟨Tryz.func197,Tryz.func199,Tryz.func201,Tryz.func276,Tryz.func277,Tryz.func278,Tryz.func279,Tryz.func280,Tryz.func281,Tryz.func282,Tryz.func283,Tryz.func284,Tryz.func285,Tryz.func286,Tryz.func287,Tryz.func288,Tryz.func290,Tryz.func291,Tryz.func292,Tryz.func293,Tryz.func294,Tryz.func355,Tryz.func356,Tryz.func357,Tryz.func358,Tryz.func359,Tryz.underlying398,Tryz.runUnderlying398,Tryz.sizeOf398,Tryz.isAgg398,Tryz.zeroValue398,Tryz.underlying390,Tryz.runUnderlying390,Tryz.sizeOf390,Tryz.isAgg390,Tryz.zeroValue390,Tryz.underlying400,Tryz.runUnderlying400,Tryz.sizeOf400,Tryz.isAgg400,Tryz.zeroValue400,Tryz.underlying325,Tryz.runUnderlying325,Tryz.sizeOf325,Tryz.isAgg325,Tryz.zeroValue325,Tryz.underlying322,Tryz.runUnderlying322,Tryz.sizeOf322,Tryz.isAgg322,Tryz.zeroValue322,Tryz.underlying242,Tryz.runUnderlying242,Tryz.sizeOf242,Tryz.isAgg242,Tryz.zeroValue242,Tryz.underlying305,Tryz.runUnderlying305,Tryz.sizeOf305,Tryz.isAgg305,Tryz.zeroValue305,Tryz.underlying323,Tryz.runUnderlying323,Tryz.sizeOf323,Tryz.isAgg323,Tryz.zeroValue323,Tryz.underlying403,Tryz.runUnderlying403,Tryz.sizeOf403,Tryz.isAgg403,Tryz.zeroValue403,Tryz.underlying460,Tryz.runUnderlying460,Tryz.sizeOf460,Tryz.isAgg460,Tryz.zeroValue460,Tryz.underlying462,Tryz.runUnderlying462,Tryz.sizeOf462,Tryz.isAgg462,Tryz.zeroValue462,Tryz.underlying0,Tryz.runUnderlying0,Tryz.sizeOf0,Tryz.isAgg0,Tryz.zeroValue0,Tryz.underlying3,Tryz.runUnderlying3,Tryz.sizeOf3,Tryz.isAgg3,Tryz.zeroValue3,Tryz.underlying4,Tryz.runUnderlying4,Tryz.sizeOf4,Tryz.isAgg4,Tryz.zeroValue4,Tryz.underlying9,Tryz.runUnderlying9,Tryz.sizeOf9,Tryz.isAgg9,Tryz.zeroValue9,Tryz.underlying20,Tryz.runUnderlying20,Tryz.sizeOf20,Tryz.isAgg20,Tryz.zeroValue20,Tryz.underlying21,Tryz.runUnderlying21,Tryz.sizeOf21,Tryz.isAgg21,Tryz.zeroValue21,by kernel_rfl,by kernel_rfl⟩
end
variable{WH:Aj->Option LJ}{p:Ap}{i:LJ}
def kE(f:Nat):Bool:=aD.contains f&&(TX f).isEmpty||f==407||f==351||f==409
def aVo(f:Nat)(h:kE f=A3):reads f:=by
 unfold kE at h;simp only[Bool.or_eq_true,G0,beq_iff_eq,List.contains_iff_mem,List.isEmpty_iff]at h;rcases h with((h|h)|h)|h;·exact AD h
 ·exact AJ (AD h)
 ·exact AJ (AJ (AD h))
 exact AJ (AJ (AJ h))
def a4N(P:Ap)(f:Nat):Bool:=match P.funcs[f]? with
 |Y fn=>match fn.body with
  |Y c=>ES P kE TX (TX f) 8 c
  |Z=>A9
 |Z=>A9
def aJk:aD.all (a4N A6)=A3:=by kernel_rfl
def laid{f1:Hg}(z:f1.own=TX):Laid A6 reads kE f1 8:=by
 intro f H c AK s b;rw[z]at AK⊢;have y:f∈aD∨f=407∨f=351∨f=409:=by
  rcases AK with(AK|AK)|AK;·exact AD AK.1
  ·exact AJ AK
  exact AD (aAR AK.1)
 rcases y with AK|rfl|rfl|rfl
 ·have h:=List.all_eq_true.1 aJk f AK;unfold a4N at h;refine⟨by simpa only[s,b]using h,?_⟩;unfold TX;repeat' split
  all_goals rfl
 ·cases CH (s.symm.trans gG);exact absurd b (by rw[show a0F.body=Z from by kernel_rfl];simp)
 ·cases CH (s.symm.trans cQ);exact absurd b (by rw[show a0E.body=Z from by kernel_rfl];simp)
 cases CH (s.symm.trans cR);exact absurd b (by rw[show a0G.body=Z from by kernel_rfl];simp)
def aCg(i:LJ):Bool:=match i.zero with|Y z=>k4 20 z|Z=>A3
def aZ_:A6.types.toList.all aCg=A3:=by kernel_rfl
def aZY(F:zy){t:Nat}{z:A1}(h:A6.types[t]?=Y i)(s:i.zero=Y z)(E:AT):AN F E z z:=by
 have b:i∈A6.types.toList:=by obtain⟨hlt,rfl⟩:=Array.getElem?_eq_some_iff.1 h;simp
 have:=List.all_eq_true.1 aZ_ i b;unfold aCg at this;rw[s]at this;exact k5 20 this
section
variable{F:zy}
def Zu(F:zy)(i:LJ):Prop:=∀z,i.zero=Y z->∀E,AN F E z z
def aAJ{bv By:Type}{I:By->Prop}{f:bv->By->Option (ForInStep By)}(s:∀x b r,I b->f x b=Y r->I (match r with|.done b=>b|a'4 b=>b)):∀(l:List bv){b b':By},I b->Wo l b f=Y b'->I b'|[],b,b',hb,h=>by simp only[a2T]at h;cases h;exact hb|x::l,b,b',hb,h=>by simp only[a2S,P3,JI]at h;obtain⟨r,y,h2⟩:=h;have:=s x b r hb y;cases r with|done c=>cases h2;exact this|yield c=>exact aAJ s l this h2
def aXd(hi:∀t i,WH t=Y i->Zu F i){fs:Array ft}(h:ri WH fs=Y i):Zu F i:=by
 unfold ri at h;simp only[P3,JI]at h;obtain⟨st,N,Q⟩:=h;rw[<-kg]at N;have U:=aAJ (I:=λs:Array ft×Nat×Nat×Nat×Nat×Bool×Bool×Option (zw)×String=>∀a,s.2.2.2.2.2.2.2.1=Y a->∀E,Aq F E a.toList a.toList) (λf s r hs b=>by
  simp only[JI]at b;obtain⟨i,d,b⟩:=b;have H:∀(c:Prop)[Decidable c](a:zw),(if c then Z else s.2.2.2.2.2.2.2.1.bind λx=>i.zero.bind λy=>FX (x++y.cells))=Y a->∀E,Aq F E a.toList a.toList:=by
   intro c _ a K E;split at K;·cases K
   simp only[JI]at K;obtain⟨x,hx,y,hy,e⟩:=K;cases e;simpa using(hs x hx E).append (hi _ _ d y hy E).cells
  by_cases e1:i.str.isEmpty=A3;·simp[e1]at b
  by_cases e2:f.embedded=A3;·simp[e1,e2]at b
  simp only[e1,e2,EJ,↓reduceIte]at b;split at b
  ·simp only[JI]at b;obtain⟨tag,_,b⟩:=b;split at b;·cases b;exact H _
   cases b;exact H _
  simp only[JI]at b;obtain⟨tag,_,b⟩:=b;split at b;·cases b;exact H _
  cases b;exact H _) fs.toList (by intro a K E;cases K;exact .nil) N;intro z j E;have M:st.2.2.2.2.2.2.2.1.map A_=Y z:=by split at Q<;>(cases Q;exact j)
 cases e:st.2.2.2.2.2.2.2.1 with|none=>rw[e]at M;cases M|some a=>rw[e]at M;cases M;exact .agg (U a e E)
end
section
variable{F:zy}
def Aq.each{E:AT}{l:List A1}(h:Aq F E l l):∀v∈l,AN F E v v:=by intro v hv;obtain⟨n,hn,rfl⟩:=List.getElem_of_mem hv;obtain⟨s,e,b⟩:=h.get n (K1 hn);rw[K1 hn]at e;cases e;exact b
def aVq(hi:∀t i,WH t=Y i->Zu F i){d:lV}(h:rh WH d=Y i):Zu F i:=by
 unfold rh at h;cases d with
 |pointer e=>
  simp only[P3,JI]at h;obtain⟨j,I,h⟩:=h;split at h;·cases h
  ·split at h;·cases h
   simp only[JI]at h;obtain⟨s,_,h⟩:=h;cases h;intro z H E;cases H;exact .HI
  simp only[JI]at h;obtain⟨s,_,h⟩:=h;cases h;intro z H E;cases H;exact .HI
 |slice e=>simp only[P3,JI]at h;obtain⟨j,_,s,_,h⟩:=h;cases h;intro z H E;cases H;exact .HL _ _
 |map a b=>simp only[P3,JI]at h;obtain⟨j,_,s,_,M,_,N,_,h⟩:=h;cases h;intro z H E;cases H;exact .Rg
 |chan a b=>simp only[P3,JI]at h;obtain⟨j,_,s,_,h⟩:=h;cases h;intro z H E;cases H;exact .Xl
 |func a b c=>simp only[P3,JI]at h;obtain⟨s,_,h⟩:=h;cases h;intro z H E;cases H;exact .nilFunc
 |array n e=>
  simp only[P3,JI]at h;obtain⟨j,I,s,_,h⟩:=h;cases h;intro z H E;simp only at H;split at H;·cases H
  split at H;·cases H;exact .agg .nil
  cases e2:j.zero with|none=>rw[e2]at H;cases H|some y=>rw[e2]at H;cases H;refine .agg (Aq.WU λv hv=>?_);have hc:=(hi _ _ I y e2 E).cells.each;refine hc v ?_;simp only[Array.mem_toList_iff,Array.mem_flatten,Array.mem_replicate]at hv⊢;obtain⟨x,⟨_,rfl⟩,hx⟩:=hv;exact hx
 |struct K=>exact aXd hi h
 |_=>cases h
def a8G{T:Tables}(s:∀(t:Nat)(i:LJ),T.types[t]?=Y i->Zu F i):∀(b t:Nat)(i:LJ),rf T b t=Y i->Zu F i
 |0,_,_,h=>by cases h
 |f+1,t,i,h=>by
  unfold rf at h;split at h;·exact s t i h
  simp only[JI]at h;obtain⟨d,_,h⟩:=h;exact aVq (λt i h=>a8G s f t i h) h
def aUL{t:Nat}{q:KJ}(h:p.underlying t=Y (R5 q)):∀d b v,XD p d t b=Y v->∃k n,v=A7 k n
 |0,_,_,e=>by cases e
 |d+1,b,v,e=>by
  unfold XD at e;rw[h]at e;simp only at e;split at e;·cases e;exact⟨_,_,rfl⟩
  cases e
def tt(p:Ap)(t:Nat):Bool:=match p.underlying t with|Y (P' _)|Y (lW _)=>A3|_=>A9
def aUM{t:Nat}(h:tt p t=A3):∀d b,XD p d t b=Z|0,_=>rfl|d+1,b=>by unfold XD;unfold tt at h;cases e:p.underlying t with|none=>rfl|some u=>rw[e]at h;cases u<;>first|rfl|cases h
def a3H(p:Ap)(t:Nat):Bool:=match p.underlying t with|Y (.struct fs)=>fs.toList.all λf=>tt p f.type|_=>A9
def aUK{t:Nat}(h:a3H p t=A3):∀d b,XD p d t b=Z|0,_=>rfl|d+1,b=>by unfold XD;unfold a3H at h;cases e:p.underlying t with|none=>rfl|some u=>rw[e]at h;cases u with|struct y=>simp only at h⊢;rw[Array.findSome?_eq_none_iff];intro f s;rw[aUM (List.all_eq_true.1 h f (by simpa using s))];exact ite_self _|_=>cases h
def Ju:RD A6:=by
 rintro t(rfl|rfl)b v e;·rw[aUK (by kernel_rfl)]at e;cases e
 exact aUL (q:=.u8) (by kernel_rfl) _ b v e
def fit(F:zy):Fit A6 F:=by
 refine⟨λt i z h b E=>?_,Ju⟩;have s:∀(t:Nat)(i:LJ),A6.types[t]?=Y i->Zu F i:=λt i h z b E=>aZY F h b E;unfold aFK at h;split at h;·exact s t i h z b E
 exact a8G s _ t i h z b E
end
section
open Go.Conc(G)
variable{w:A0}
section
variable{P:Ap}{F:zy}{fb:Nat->Bool}{f1:Hg}{k:Nat}{E:AT}{RO:zy}{so:Dj}{r:List Cb}
def Zi(step:A0->r_)(w:A0):Prop:=∃s b h,step w=Cw s b h/\b.tape=w.tape/\w.drawn<=b.drawn/\∀T:O1,(∀i q,w.drawn<=i->i<b.drawn->T i q=w.tape i q)->step (on w T)=Cw s (on b T) h
def Zi.idle{step:A0->r_}{g:AR}(h:∀w,step w=Cw g w):Zi step w:=⟨g,w,#[],h w,rfl,Ae _,λT _=>h (on w T)⟩
inductive Ends(P:Ap)(m:Bool)(fr:Ag)(cs:List Ag)(w:A0):Prop|Hy:Zi (λw=>CE P m A3 fr cs Z w) w->(∀ops j rest l o,fr.todo=B1 ops (j::rest)::l->ops[j]?=Y o->Gt o (I6 ops fr.tmps)=A3->∃C0 w1 es,(Ab fr.eval o).runT P w #[]=(Ac C0 w1,es))->Ends P m fr cs w|panic{w1:A0}{es:Array C5}{ch:List a08}:CE P m A3 fr cs Z w=Cw (G (fr.raise ch) cs) w1 es->Ends P m fr cs w|ended{o:Outcome}{w1:A0}{es:Array C5}:CE P m A3 fr cs Z w=cH o w1 es->Ends P m fr cs w
def a4r(C:Fit P F)(Ce:P.globals.size=Ci)(hC:∀z,Calm P F (B0 f1 z))(MD:so=B0 f1 A3/\∀b,¬RO b↔f1.Jp b)(RC:∀f,fb f=A3->F f)(AI:∀b,b<Ci->E.rel b b)(m:Bool){fr fr':Ag}{cs:List Ag}{w':A0}(h:Ei P F fb f1 k E (OV cs r) fr fr')(d:CC F so RO E w w'):Ends P m fr cs w:=by
 have B3:=h.ok;have q:=h.round.1;have U:(fr.kind==Ki)=A9:=by rw[h.kind.1];rfl
 have idle:∀(l:List Cb),(∀w,CE P m A3 fr cs Z w=Cw {frame:={fr with todo:=l},callers:=cs,status:=DJ,dying:=Z} w)->(∀ops j rest l,fr.todo≠B1 ops (j::rest)::l)->Ends P m fr cs w:=λl AE hn=>.Hy (.idle AE) λops j rest l o M=>absurd M (hn ops j rest l);have I:(∀w,CE P m A3 fr cs Z w=Cw {frame:={fr with mode:=MZ},callers:=cs,status:=DJ,dying:=Z} w)->(∀ops j rest l,fr.todo≠B1 ops (j::rest)::l)->Ends P m fr cs w:=λAE hn=>.Hy (.idle AE) λops j rest l o M=>absurd M (hn ops j rest l);cases H:fr.todo with
 |nil=>refine I (λw=>?_) (λ_ _ _ _ e=>by rw[H]at e;cases e);unfold CE;simp only[H,q,↓reduceIte]
 |cons i l=>
  rw[H]at B3;have hi:=B3 i (by simp);cases i with
  |inBlock b=>refine idle l (λw=>?_) (λ_ _ _ _ e=>by rw[H]at e;cases e);unfold CE;simp only[H]
  |inScope b=>refine idle l (λw=>?_) (λ_ _ _ _ e=>by rw[H]at e;cases e);unfold CE;simp only[H]
  |inLoop b=>refine idle (BS b::Wx b::l) (λw=>?_) (λ_ _ _ _ e=>by rw[H]at e;cases e);unfold CE;simp only[H]
  |code c=>
   have hn:∀ops j rest l,fr.todo≠B1 ops (j::rest)::l:=λ_ _ _ _ e=>by rw[H]at e;cases e
   cases c with
   |skip=>refine idle l (λw=>?_) hn;unfold CE;simp only[H]
   |label n=>refine idle l (λw=>?_) hn;unfold CE;simp only[H]
   |ret=>refine I (λw=>?_) hn;unfold CE;simp only[H,q,↓reduceIte]
   |seq a b=>refine idle (BS a::BS b::l) (λw=>?_) hn;unfold CE;simp only[H]
   |cond c a b=>
    cases hv:fr.eval c with
    |bool v=>refine idle (BS (if v then a else b)::l) (λw=>?_) hn;unfold CE;simp only[H,hv]
    |_=>refine .ended (o:=ru "cond: bool expected" (fr.pos P)) (w1:=w) (es:=#[]) ?_;unfold CE;simp only[H,hv]
   |block n b=>refine idle (BS b::.inBlock n::l) (λw=>?_) hn;unfold CE;simp only[H]
   |loop b=>refine idle (BS b::Wx b::l) (λw=>?_) hn;unfold CE;simp only[H]
   |scope b=>refine idle (BS b::.inScope b::l) (λw=>?_) hn;unfold CE;simp only[H]
   |exit n=>
    cases e:R6 n l with
    |none=>refine .ended (o:=ru "exit, goto: no such block or label" (fr.pos P)) (w1:=w) (es:=#[]) ?_;unfold CE;simp only[H,e,q,tc,EJ,↓reduceIte]
    |some L=>refine idle L (λw=>?_) hn;unfold CE;simp only[H,e,aHU]
   |goto n=>
    cases e:XC n l with
    |none=>refine .ended (o:=ru "exit, goto: no such block or label" (fr.pos P)) (w1:=w) (es:=#[]) ?_;unfold CE;simp only[H,e,q,tc,EJ,↓reduceIte]
    |some L=>refine idle L (λw=>?_) hn;unfold CE;simp only[H,e,aHU]
   |rangeFunc f a b c=>cases hi
   |refuse y=>refine .ended (o:=gE (.elab y) (fr.pos P)) (w1:=w) (es:=#[]) ?_;unfold CE;simp only[H]
   |region n ops Q=>
    cases Q with
    |false=>refine idle (B1 ops (Hf ops.size)::l) (λw=>?_) hn;unfold CE;simp only[H,VB,↓reduceIte]
    |true=>
     refine .Hy ?_ λops j rest l o M=>absurd M (hn ops j rest l);have m0:∀w:A0,CE P m A3 fr cs Z w=Cw {frame:={fr with todo:=B1 ops (Region.schedule (P.follows .mixedOrders) ops (w.tape w.drawn (X9 fr.fn n)))::l},callers:=cs,status:=DJ,dying:=Z} {w with drawn:=w.drawn+1}:=by intro w;unfold CE;simp only[H,Tn,EJ,↓reduceIte,Ty,ca,a_H,a_G]
     refine⟨_,_,_,m0 w,rfl,Nat.le_succ _,λT R=>?_⟩;have e:(on w T).tape (on w T).drawn (X9 fr.fn n)=w.tape w.drawn (X9 fr.fn n):=R _ _ (Ae _) (Nat.lt_succ_self _);show CE P m A3 fr cs Z (on w T)=_;rw[m0 (on w T),e];rfl
  |inRegion ops todo=>
   cases todo with
   |nil=>refine idle l (λw=>?_) (λ_ _ _ _ e=>by rw[H]at e;cases e);unfold CE;simp only[H]
   |cons j rest=>
    have NJ:fr.oper?=ops[j]?:=by unfold a'c;rw[H]
    by_cases N:(ops[j]?.map (Gt · (I6 ops fr.tmps))).getD A9=A3
    ·cases e:ops[j]? with
     |none=>rw[e]at N;cases N
     |some o=>
      have AA:eW P fb f1.own (f1.own fr.fn) k o=A3:=List.all_eq_true.1 hi o (by have:=Array.getElem?_eq_some_iff.1 e;obtain⟨hlt,rfl⟩:=this;simp);obtain⟨Lg,wq⟩:=Bool.and_eq_true_iff.1 AA;obtain⟨b8,b7⟩:=Bool.and_eq_true_iff.1 wq;have BI:∀x∈opsOf o.op,AN F E (fr.eval x) (fr'.eval x):=λx hx=>h.eval AI RC x (List.all_eq_true.1 (Bool.and_eq_true_iff.1 b7).1 x hx);have hs:AO P F (B0 f1 (MR o.op)) (M1 P F f1.own) E (Ab fr.eval o) (Ab fr'.eval o):=q' C Ce (hC _) AI (λv=>rfl) (λf=>rfl) (λf=>rfl) o k (pb RC Lg) (qM (Bool.and_eq_true_iff.1 b7).2) BI (h.aBm Lg);have W:CC F (B0 f1 (MR o.op)) (λ_=>False) E w w':=by rw[MD.1]at d;exact⟨d.heap,d.tape,λ_ x=>x.elim,d.low,d.even⟩
      have e1:∀w,CE P m A3 fr cs Z w=NA P A3 fr cs Z (Ab fr.eval o) w:=by intro w;unfold CE;simp only[H,N,↓reduceIte];unfold m';rw[NJ,e];simp only[q]
      cases K:(Ab fr.eval o).runT P w #[]with
      |mk res es=>
       cases res with
       |ok C0 w1=>
        obtain⟨hW,YU,BZ,es',_,j9,_,wX,_⟩:=AO.runs C.Ju (RO:=λ_=>False) (Pr:=λ_=>False) (λ_ x=>x) (λ_ _ x=>x) hs W (es:=#[]) (es':=#[]) .nil K;obtain⟨AS,M⟩:=AO.tape C.Ju hs W K;have hb:∃Bd Mo,behind P fr cs C0=Y (Bd,Mo):=by cases j9<;>exact⟨_,_,rfl⟩
        obtain⟨Bd,Mo,hb⟩:=hb;refine .Hy ⟨_,w1,_,(e1 w).trans (Jh U K hb),wX.er,AS,λT R=>(e1 (on w T)).trans (Jh U (M T R) hb)⟩ ?_;intro X ON aBK CS o2 A D _;rw[H]at A;injection A with AM fk;injection AM with g0 g7;injection g7 with hw ip;subst g0 hw;rw[e]at D;obtain rfl:=CH D;exact⟨C0,w1,es,K⟩
       |halt x w1=>
        have hx:=AO.aMk C.Ju hs W K;cases x with
        |panic v=>refine .panic (w1:=w1) (es:=Iz P fr.fn es) (ch:=[{v,recovered:=A9}]) ?_;rw[e1 w];unfold NA;simp only[↓reduceIte,K,U,EJ,Ot,V8,G]
        |stuck s=>refine .ended (o:=ru s (fr.pos P)) (w1:=w1) (es:=Iz P fr.fn es) ?_;rw[e1 w];unfold NA;simp only[↓reduceIte,K,U,EJ,Ot,V8]
        |unsupported u=>
         refine .ended (o:=gE u (fr.pos P)) (w1:=w1) (es:=Iz P fr.fn es) ?_;rw[e1 w];unfold NA;have hu:∀g,u≠lX g:=hx;cases u<;>first
         |exact absurd rfl (hu _)
         |simp only[↓reduceIte,K,U,EJ,Ot,V8]
        |_=>exact absurd hx (by simp[US])
    refine .Hy ?_ λX ON aBK CS o2 A D aPZ=>?_;·refine Zi.idle (g:={frame:=fr.finish A',callers:=cs,status:=DJ,dying:=Z}) λw=>?_;unfold CE;simp only[H,N,EJ,↓reduceIte]
    rw[H]at A;injection A with AM fk;injection AM with g0 g7;injection g7 with hw ip;subst g0 hw;rw[D]at N;exact absurd aPZ N
  |_=>cases hi
end
end
section
open Go.Conc(G solo)
variable{Stop:zv}{w w1:A0}{a g:AR}{E:AT}{P:Ap}{es:Array C5}{main:Bool}{S Sh:zy}{bv:Type}
section
variable{P:Ap}{F:zy}{fb:Nat->Bool}{f1:Hg}{k:Nat}{E:AT}{RO:zy}{so:Dj}{r:List Cb}
def zQ(M:RD P)(m:Bool){q:List Cb}{fr fr' c:Ag}{cs:List Ag}{w':A0}(h:Ei P F fb f1 k E q fr fr')(I:fr.mode=MZ)(d:CC F so RO E w w'):(∃fn v b es,P.funcs[fr.fn]?=Y fn/\(D_ fn fr.tmps).runT P w #[]=(Ac v b,es)/\Zi (λw=>I5 P m fr (c::cs) Z w) w)∨∃o b es,I5 P m fr (c::cs) Z w=cH o b es:=by obtain⟨N,z,_⟩:=h.has;cases s:P.funcs[fr.fn]? with|none=>rw[s]at z;cases z|some fn=>have hs:AO P F so (CL F) E (D_ fn fr.tmps) (D_ fn fr'.tmps):=h.results s;have y:CC F so (λ_=>False) E w w':=d.free;cases H:(D_ fn fr.tmps).runT P w #[]with|mk K es=>cases K with|ok v b=>obtain⟨U,AP⟩:=AO.tape M hs y H;have e:AO P F ⟨so.obj,False,so.own,so.Hx⟩ (CL F) E (D_ fn fr.tmps) (D_ fn fr'.tmps):=h.results s;obtain⟨_,_,_,_,_,_,_,f,_⟩:=AO.runs M (RO:=λ_=>False) (Pr:=λ_=>False) (λ_ x=>x) (λ_ _ x=>x) e (⟨y.heap,y.tape,y.kept,y.low,y.even⟩:CC F ⟨so.obj,False,so.own,so.Hx⟩ (λ_=>False) E w w') (es:=#[]) (es':=#[]) .nil H;exact AD ⟨fn,v,b,es,rfl,H,_,b,_,Rz h.defers.1 I h.kind.1 s H,f.er,U,λT Q=>Rz h.defers.1 I h.kind.1 s (AP T Q)⟩|halt x b=>refine AJ ?_;unfold I5;simp only[h.defers.1,I,s,H];cases x<;>exact⟨_,_,_,rfl⟩
inductive Passes:List Ag->Prop|bot:Passes [bot]|cons{fr:Ag}{l:List Ag}:fr.defers=[]->Passes l->Passes (fr::l)
def Lv.yR{base':List Ag}:∀{l d:List Ag},Lv P F fb f1 k E r base' l d->Passes l|_,_,.base=>.bot|_,_,.cons h _ _ t=>.cons h.defers.1 t.yR
def aXV(hs:a.status=DJ):gO P (Dr a w)=(runT P (Dr a w) 0).1:=by rw[gO,a'K hs]
def Th{o:Outcome}(hs:a.status=DJ)(h:Bi P A3 a w=cH o w1 es):gO P (Dr a w)=.ended o w1:=by rw[aXV hs];unfold runT Dr;simp[Array.swapAt!,Array.swapAt,h]
def Qq{a1:AR}(hs:a.status=DJ)(h:Bi P A3 a w=Cw a1 w1 es):gO P (Dr a w)=Ds (Dr a1 w1):=by rw[gO,a'K hs,aDI h]
def raised(c:Ag)(ch:List a08):∃b,(c.raise ch).mode=rZ b/\(c.raise ch).defers=c.defers:=by unfold aDn;split<;>exact⟨_,rfl,rfl⟩
def uE:∀{cs:List Ag},Passes cs->∀{fr:Ag}{ch:List a08}{w w1:A0}{n:Nat}{a:AR},fr.mode=rZ ch->fr.defers=[]->Ex P n (Dr (G fr cs) w)=Ds (Dr a w1)->∃ch,a.frame.mode=rZ ch:=by
 intro cs z;induction z with
 |bot=>
  intro fr ch w w1 n a h s b;cases n with
  |zero=>
   simp only[Ex,SN]at b;have:a=G fr [bot]:=by have:=congrArg re b;simp[Dr]at this;exact this.symm
   rw[this];exact⟨ch,h⟩
  |succ n=>
   unfold Ex at b;by_cases hc:fr.catches P=A3;·rw[Th (o:=gE (lY "a panic or Goexit out of a method that fmt calls behind a cut's door") (fr.pos P)) (w1:=w) (es:=#[]) rfl (by unfold Bi;simp only[G,h];unfold I5;simp only[s,h,hc,↓reduceIte])]at b;cases b
   rw[Qq (a1:=G (bot.raise ch) []) (w1:=w) (es:=#[]) rfl (by unfold Bi;simp only[G,h];unfold I5;simp only[s,h,hc,EJ,↓reduceIte])]at b;simp only at b;cases n with
   |zero=>
    simp only[Ex,SN]at b;have:a=G (bot.raise ch) []:=by have:=congrArg re b;simp[Dr]at this;exact this.symm
    rw[this];obtain⟨y,h2,_⟩:=raised bot ch;exact⟨y,h2⟩
   |succ n=>unfold Ex at b;rw[Th (o:=gE (lY "machine/Return: a deferred call of a nil function value, made while the frame is unwinding") ((bot.raise ch).pos P)) (w1:=w) (es:=#[]) rfl (by unfold Bi;simp only[G,bot,aDn];unfold I5;simp only[aFT];rfl)]at b;cases b
 |cons H z I=>
  rename_i c l;intro fr ch w w1 n a h s b;cases n with
  |zero=>
   simp only[Ex,SN]at b;have:a=G fr (c::l):=by have:=congrArg re b;simp[Dr]at this;exact this.symm
   rw[this];exact⟨ch,h⟩
  |succ n=>
   unfold Ex at b;by_cases hc:fr.catches P=A3;·rw[Th (o:=gE (lY "a panic or Goexit out of a method that fmt calls behind a cut's door") (fr.pos P)) (w1:=w) (es:=#[]) rfl (by unfold Bi;simp only[G,h];unfold I5;simp only[s,h,hc,↓reduceIte])]at b;cases b
   rw[Qq (a1:=G (c.raise ch) l) (w1:=w) (es:=#[]) rfl (by unfold Bi;simp only[G,h];unfold I5;simp only[s,h,hc,EJ,↓reduceIte])]at b;simp only at b;obtain⟨y,h2,h3⟩:=raised c ch;exact I (fr:=c.raise ch) h2 (h3.trans H) b
end
def Fin(ret:Bool)(fr:Ag):Prop:=if ret=A3 then fr.mode=MZ else fr.mode=Lw/\fr.todo=[]
def Oh(a d:Nat)(T τ:O1):Prop:=∀i q,a<=i->i<d->T i q=τ i q
section
variable(P:Ap)(fr0:Ag)(w0:A0)(ret:Bool)
def At(T:O1)(n:Nat)(m:Tt):Prop:=Ex P n (Dr (G fr0 [bot]) (on w0 T))=Ds m
def Open(T:O1)(n:Nat):Prop:=∀j,j<n->∀b h,At P fr0 w0 T j (Dr (G b [bot]) h)->¬Fin ret b
structure Zv where
 τ:O1
 n:Nat
 d:Nat
def Zv.ok(p:Zv):Prop:=∀T,Oh w0.drawn p.d T p.τ->Open P fr0 w0 ret T p.n
def Nx(b p:Zv):Prop:=b.n=p.n+1/\p.d<=b.d/\Oh w0.drawn p.d b.τ p.τ/\b.ok P fr0 w0 ret
end
def yH{r:bv->bv->Prop}{x:bv}(h:¬Acc r x):∃y,r y x/\¬Acc r y:=by refine bs λhn=>h ⟨x,λy hy=>bs λb=>hn ⟨y,hy,b⟩⟩
noncomputable def dT{bv:Type}{r:bv->bv->Prop}{x:bv}(h:¬Acc r x):Nat->{y:bv//¬Acc r y}|0=>⟨x,h⟩|n+1=>⟨Z5 (yH (dT h n).2),(To (yH (dT h n).2)).2⟩
def aK4{r:bv->bv->Prop}{x:bv}(h:¬Acc r x)(n:Nat):r (dT h (n+1)).1 (dT h n).1:=(To (yH (dT h n).2)).1
section
variable{P:Ap}{fr0:Ag}{w0:A0}{ret:Bool}
def aAh(h:∀T,∃N y I,At P fr0 w0 T N (Dr (G y [bot]) I)/\Fin ret y)(p:Zv):Acc (Nx P fr0 w0 ret) p:=by
 refine bs λhn=>?_;have hs:=aK4 hn;let s:Nat->Zv:=λj=>(dT hn j).1;have hs:∀j,Nx P fr0 w0 ret (s (j+1)) (s j):=hs;have e:∀j,(s j).n=(s 0).n+j:=by intro j;induction j with|zero=>rfl|succ j ih=>rw[(hs j).1,ih];omega
 have K:∀j i,(s j).d<=(s (j+i)).d/\Oh w0.drawn (s j).d (s (j+i)).τ (s j).τ:=by intro j i;induction i with|zero=>exact⟨Ae _,λ_ _ _ _=>rfl⟩|succ i ih=>have:=hs (j+i);exact⟨G3 ih.1 this.2.1,λa q b h2=>(this.2.2.1 a q b (Ku h2 ih.1)).trans (ih.2 a q b h2)⟩
 have Q:∀j j' i q,w0.drawn<=i->i<(s j).d->i<(s j').d->(s j).τ i q=(s j').τ i q:=by
  intro j j' i q z b h2;rcases Nat.le_total j j' with AE|AE;·have:=(K j (j'-j)).2 i q z b;rw[show j+(j'-j)=j' by omega]at this;exact this.symm
  have:=(K j' (j-j')).2 i q z h2;rw[show j'+(j-j')=j by omega]at this;exact this
 have H:∃T:O1,∀j,Oh w0.drawn (s j).d T (s j).τ:=by classical refine⟨λi q=>if hx:∃j,i<(s j).d then(s (Z5 hx)).τ i q else 0,λj i q z b=>?_⟩;have hx:∃j,i<(s j).d:=⟨j,b⟩;simp only[hx,↓reduceDIte];exact Q _ _ i q z (To hx) b
 obtain⟨T,H⟩:=H;obtain⟨N,y,I,M,U⟩:=h T;have B3:=(hs N).2.2.2 T (H (N+1));exact B3 N (by rw[e];omega) y I M U
def ym(a b:Nat)(m:Tt):Ex P (a+b) m=match Ex P a m with|Ds h=>Ex P b h|e=>e:=by induction a generalizing m with|zero=>simp[Ex]|succ a s=>rw[show a+1+b=a+b+1 by omega];simp only[Ex];cases gO P m with|next h=>exact s h|_=>rfl
def q9{a b:Nat}{m d:Tt}(h:Ex P (a+b) m=Ds d):∃s,Ex P a m=Ds s/\Ex P b s=Ds d:=by
 rw[ym]at h;split at h;·exact⟨_,by assumption,h⟩
 rename_i e he;exact absurd h (he d)
def Rx{b:AR}{w v:A0}(h:Dr a w=Dr b v):a=b/\w=v:=by have s:=congrArg re h;have h2:=congrArg aZz h;simp[Dr]at s h2;exact⟨s,h2⟩
def a4d{n:Nat}{w w2:A0}{v:A1}(h:Ex P n (Dr (G (bot.finish v) []) w)=Ds (Dr a w2)):n=0:=by cases n with|zero=>rfl|succ n=>unfold Ex at h;have b:bot.finish v=bot:=rfl;rw[b]at h;rw[Th (o:=gE (lY "machine/Return: a deferred call of a nil function value, made while the frame is unwinding") (bot.pos P)) (w1:=w) (es:=#[]) rfl (by unfold Bi;simp only[G,bot];unfold I5;simp only[aFT];rfl)]at h;cases h
variable{F:zy}{fb:Nat->Bool}{f1:Hg}{k:Nat}{E:AT}{RO:zy}{so:Dj}{r:List Cb}
def p9(H:RD P){j:Nat}{q:List Cb}{fr fr' d:Ag}{w w' w1:A0}(h:Ei P F fb f1 k E q fr fr')(s:fr.mode=MZ)(M:CC F so RO E w w')(b:Ex P j (Dr (G fr [bot]) w)=Ds (Dr (G d [bot]) w1)):j=0:=by
 cases j with
 |zero=>rfl
 |succ j=>
  unfold Ex at b;have y:Bi P A3 (G fr [bot]) w=I5 P A3 fr [bot] Z w:=Qp rfl s;rcases zQ H A3 (c:=bot) (cs:=[]) h s M with⟨Q,v,N,z,I,K,_⟩|⟨o,N,z,he⟩;·rw[Qq (a1:=G (bot.finish v) []) rfl (y.trans (Rz h.defers.1 s h.kind.1 I K))]at b;simp only at b;have:=a4d b;subst this;simp only[Ex,SN]at b;have:=(Rx b).1;simp[G]at this
  rw[Th rfl (y.trans he)]at b;cases b
def a8c(s:RD P){j:Nat}{q:List Cb}{fr fr' d:Ag}{w w' w1:A0}(h:Ei P F fb f1 k E q fr fr')(AK:Fin ret fr)(Fu:Fin ret d)(y:CC F so RO E w w')(b:Ex P j (Dr (G fr [bot]) w)=Ds (Dr (G d [bot]) w1)):j=0:=by
 unfold Fin at AK Fu;cases ret with
 |true=>exact p9 s h AK y b
 |false=>
  simp only[EJ,↓reduceIte]at AK Fu;cases j with
  |zero=>rfl
  |succ j=>
   unfold Ex at b;have z:Bi P A3 (G fr [bot]) w=CE P A3 A3 fr [bot] Z w:=eo rfl AK.1;have he:CE P A3 A3 fr [bot] Z w=Cw (G {fr with mode:=MZ} [bot]) w:=by unfold CE;simp only[AK.2,h.round.1,↓reduceIte,G]
   rw[Qq rfl (z.trans he)]at b;simp only at b;have h2:Ei P F fb f1 k E q {fr with mode:=MZ} {fr' with mode:=MZ}:=⟨h.fn,h.has,h.todo,h.ok,h.defers,rfl,h.kind,h.round,h.tmps,h.own⟩;have:=p9 s h2 rfl y b;subst this;simp only[Ex,SN]at b;have:=(Rx b).1;simp only[G,VI]at this;rw[<-this.1]at Fu;cases Fu.1
end
structure CB(Sh S:zy)(w d8:A0):Prop where
 size:w.heap.size<=d8.heap.size
 same:∀b,S b∨Sh b->d8.heap[b]?=w.heap[b]?
 os:d8.os=w.os
 output:d8.output=w.output
def CB.refl(Sh S:zy)(w:A0):CB Sh S w w:=⟨Ae _,λ_ _=>rfl,rfl,rfl⟩
def CB.trans{Sh S:zy}{w d e:A0}(h:CB Sh S w d)(k:CB Sh S d e):CB Sh S w e:=⟨G3 h.size k.size,λb s=>(k.same b s).trans (h.same b s),k.os.trans h.os,k.output.trans h.output⟩
inductive LB(Sh S:zy):C5->Prop|cell{a:Ak}(w s:Bool):S a.block∨Sh a.block/\w=A9->LB Sh S ⟨Ie a,w,s⟩|obj{r:Nat}(w s:Bool):S r∨Sh r/\w=A9->LB Sh S ⟨Nz r,w,s⟩|extern(f:Nat):LB Sh S ⟨Ny (a'v f),A9,A3⟩|noRoom:LB Sh S ⟨Ny lF,A9,A3⟩
structure Gb(Sh S:zy)(w w':A0)(es:Array C5)(S':zy):Prop where
 size:w.heap.size<=w'.heap.size
 same:∀b,b<w.heap.size->¬S b->w'.heap[b]?=w.heap[b]?
 os:w'.os=w.os
 output:w'.output=w.output
 tape:w'.tape=w.tape
 grow:∀b,S' b↔S b∨w.heap.size<=b/\b<w'.heap.size
 evs:∀e∈es,LB Sh S' e
structure Leaves where
 g:AR
 w:A0
 es:Array C5
 S:zy
inductive Way(P:Ap)(main:Bool)(Sh:zy)(Stop:zv):zv|stop{S:zy}{g:AR}{w:A0}:(∀d8,CB Sh S w d8->Stop S g d8)->Way P main Sh Stop S g w|go{S:zy}{g:AR}{w:A0}(C0:A0->Leaves):g.status=DJ->(∀d8,CB Sh S w d8->Bi P main g d8=Cw (C0 d8).g (C0 d8).w (C0 d8).es/\Gb Sh S d8 (C0 d8).w (C0 d8).es (C0 d8).S)->(∀d8,CB Sh S w d8->Way P main Sh Stop (C0 d8).S (C0 d8).g (C0 d8).w)->Way P main Sh Stop S g w
def Way.step(hs:g.status=DJ)(h:∀s,CB Sh S w s->∃H w' es z,Bi P main g s=Cw H w' es/\Gb Sh S s w' es z/\Way P main Sh Stop z H w'):Way P main Sh Stop S g w:=by
 have h2:∀s,∃l:Leaves,CB Sh S w s->Bi P main g s=Cw l.g l.w l.es/\Gb Sh S s l.w l.es l.S/\Way P main Sh Stop l.S l.g l.w:=by
  intro s;by_cases y:CB Sh S w s;·obtain⟨H,w',es,z,a,b,c⟩:=h s y;exact⟨⟨H,w',es,z⟩,λ_=>⟨a,b,c⟩⟩
  exact⟨⟨g,w,#[],S⟩,λx=>absurd x y⟩
 refine .go (λs=>Z5 (h2 s)) hs (λs y=>?_) λs y=>?_;·have:=To (h2 s) y;exact⟨this.1,this.2.1⟩
 exact(To (h2 s) y).2.2
def Way.rely{d:A0}(h:Way P main Sh Stop S g w)(y:CB Sh S w d):Way P main Sh Stop S g d:=by cases h with|stop h=>exact .stop λs b=>h s (y.trans b)|go z hs h k=>exact .go z hs (λs b=>h s (y.trans b)) λs b=>k s (y.trans b)
def Way.bind{d:zv}(h:Way P main Sh Stop S g w)(k:∀S g w,Stop S g w->Way P main Sh d S g w):Way P main Sh d S g w:=by
 induction h with
 |stop h=>
  rename_i S g w;cases k _ _ _ (h w (CB.refl _ _ _))with
  |stop h2=>exact .stop h2
  |go b hs h2 h3=>exact .go b hs h2 h3
 |go b hs h _ s=>exact .go b hs h s
section
variable{P:Ap}{F:zy}{fb:Nat->Bool}{f1:Hg}{k:Nat}{RO Sh:zy}{so:Dj}{r:List Cb}
def KD(RO Sh S:zy)(E:AT):Prop:=∀b h,E.rel b h->RO b/\Sh h∨¬RO b/\S h
def join(τ:O1)(n:Nat)(b:O1)(m:Nat):O1:=λi q=>if i<n then τ i q else b (m+(i-n)) q
def CC.rely{S:zy}{wL d:A0}{T:O1}(h:CC F so RO E (on wL T) w)(hc:KD RO Sh S E)(H:CB Sh S w d)(τ:O1):CC F so RO E (on wL (join τ wL.drawn d.tape d.drawn)) d:=by
 refine⟨λb s x=>?_,λi q=>?_,h.kept,⟨h.low.1,G3 h.low.2 H.size⟩,λK b s x o I e z=>?_⟩;·obtain⟨o,I,e,z,M⟩:=h.heap b s x;refine⟨o,I,e,?_,M⟩;rw[H.same s (by rcases hc b s x with y|y;exact AJ y.2;exact AD y.2),z]
 ·show d.tape (d.drawn+i) q=join τ wL.drawn d.tape d.drawn (wL.drawn+i) q;unfold join;rw[if_neg (by omega)];congr 2;omega
 rw[H.same s (by rcases hc b s x with y|y;exact AJ y.2;exact AD y.2)]at z;exact h.even K b s x o I e z
def qs(P:Ap)(F:zy)(fb:Nat->Bool)(f1:Hg)(k:Nat)(so:Dj)(RO Sh:zy)(y:AT)(r:List Cb)(base':List Ag)(ret:Bool)(Q:Ag->A0->Prop)(S:zy)(g:AR)(w':A0):Prop:=∃E h b s,g=G b base'/\Ei P F fb f1 k E r h b/\Fin ret h/\Q h s/\y.le E/\CC F so RO E s w'/\KD RO Sh S E
def aKj{S':zy}(hc:KD RO Sh S' E):∀{l d:List C5},KE RO E l d->∀e∈d,LB Sh S' e:=by
 intro l d h;induction h with
 |nil=>intro e he;cases he
 |snoc t h z=>
  intro e he;rcases List.mem_append.1 he with he|he;·exact z e he
  rw[List.mem_singleton.1 he];cases h with
  |cell w s AB b=>
   refine .cell w s ?_;rcases hc _ _ AB.1 with⟨x,y⟩|⟨_,y⟩;·cases w with|false=>exact AJ ⟨y,rfl⟩|true=>exact absurd x (b rfl)
   exact AD y
  |obj w s AB b=>
   refine .obj w s ?_;rcases hc _ _ AB with⟨x,y⟩|⟨_,y⟩;·cases w with|false=>exact AJ ⟨y,rfl⟩|true=>exact absurd x (b rfl)
   exact AD y
  |mark h=>cases h with|extern f=>exact .extern f|noRoom=>exact .noRoom
def aR{d:AT}{S:zy}{w' BZ:A0}{fn:Nat}{es':Array C5}(hc:KD RO Sh S E)(Q:∀b,RO b->b<w.heap.size)(h:GR RO E w w' d w1 BZ)(he:KE RO d es.toList es'.toList):∃s,Gb Sh S w' BZ (Iz P fn es') s/\KD RO Sh s d:=by
 let s:zy:=λb=>S b∨w'.heap.size<=b/\b<BZ.heap.size;have K:KD RO Sh s d:=by
  intro b I x;rcases h.fresh b I x with y|⟨m,q,f,j⟩
  ·rcases hc b I y with z|⟨U,z2⟩;·exact AD z
   exact AJ ⟨U,AD z2⟩
  exact AJ ⟨λz=>by have:=Q b z;omega,AJ ⟨f,j⟩⟩
 refine⟨s,⟨h.kJ,λb N hs=>h.rest b N λM x=>?_,h.os,h.output,h.tape,λb=>Iff.rfl,λe H=>?_⟩,K⟩
 ·rcases hc M b x with y|y;·exact y.1
  exact absurd y.2 hs
 exact aKj K he e (by simpa using cB H)
end
section
variable{P:Ap}{F:zy}{fb:Nat->Bool}{f1:Hg}{k:Nat}{RO Sh:zy}{so:Dj}{r:List Cb}
def Lv.ne{base':List Ag}{cs cs':List Ag}(h:Lv P F fb f1 k E r base' cs cs'):∃c l,cs=c::l:=by cases h<;>exact⟨_,_,rfl⟩
def aYW(R:Fit P F)(Ce:P.globals.size=Ci)(hC:∀z,Calm P F (B0 f1 z))(MD:so=B0 f1 A3/\∀b,¬RO b↔f1.Jp b)(RC:∀f,fb f=A3->F f)(Ar:Laid P F fb f1 k)(main:Bool){fr0:Ag}{w0:A0}{ret:Bool}(TF:ret=A3->r=[]){base':List Ag}{Pm:AT}{Q:Ag->A0->Prop}(HV:∀T,∃N D w1,At P fr0 w0 T N (Dr (G D [bot]) w1)/\Fin ret D/\Q D w1):∀(p:Zv),Acc (Nx P fr0 w0 ret) p->∀{E:AT}{fr fr':Ag}{cs cs':List Ag}{wL w':A0}{S:zy}{T0:O1},(∀T,Oh w0.drawn p.d T p.τ->At P fr0 w0 T p.n (Dr (G fr cs) (on wL T)))->p.ok P fr0 w0 ret->p.d=wL.drawn->w0.drawn<=p.d->Ei P F fb f1 k E (OV cs r) fr fr'->fr.mode=Lw∨fr.mode=.returning->Lv P F fb f1 k E r base' cs cs'->(∀b,b<Ci->E.rel b b)->Pm.le E->CC F so RO E (on wL T0) w'->KD RO Sh S E->Way P main Sh (qs P F fb f1 k so RO Sh Pm r base' ret Q) S (G fr' cs') w':=by
 intro p hp;induction hp with
 |intro p _ ih=>
  intro E fr fr' cs cs' wL w' S T0 X B3 AS Sy BG CX hc EU iB F5 HC;by_cases DR:cs=[bot]/\Fin ret fr
  ·obtain⟨rfl,DR⟩:=DR;have KU:cs'=base':=by
    cases hc with
    |base=>rfl
    |cons _ _ _ t=>cases t
   subst KU;refine .stop λs A2=>?_;have A:Oh w0.drawn p.d (join p.τ wL.drawn s.tape s.drawn) p.τ:=by intro i q _ h2;unfold join;rw[if_pos (by omega)]
   have K:=F5.rely HC A2 p.τ;obtain⟨N,D,w1,G7,Fu,AH⟩:=HV (join p.τ wL.drawn s.tape s.drawn);have Cy:=X _ A;have a_:p.n<=N:=by refine mf λhlt=>?_;exact B3 _ A N hlt D w1 G7 Fu
   obtain⟨j,rfl⟩:=tZ a_;obtain⟨m1,h1,h2⟩:=q9 G7;have:m1=Dr (G fr [bot]) (on wL (join p.τ wL.drawn s.tape s.drawn)):=by unfold At at Cy;rw[Cy]at h1;exact(ZT h1).symm
   subst this;have H1:=a8c R.Ju BG DR Fu K h2;subst H1;simp only[Ex,SN]at h2;obtain⟨h3,h4⟩:=Rx h2;simp only[G,VI]at h3;obtain⟨rfl,_⟩:=h3;subst h4;exact⟨E,fr,fr',_,rfl,BG,DR,AH,iB,K,HC⟩
  refine .step rfl λs A2=>?_;have A:Oh w0.drawn p.d (join p.τ wL.drawn s.tape s.drawn) p.τ:=by intro i q _ h2;unfold join;rw[if_pos (by omega)]
  have K:=F5.rely HC A2 p.τ;generalize g9:join p.τ wL.drawn s.tape s.drawn=T at A K;obtain⟨N,D,w1,G7,Fu,AH⟩:=HV T;have Cy:=X _ A;have a_:p.n<=N:=by refine mf λhlt=>?_;exact B3 _ A N hlt D w1 G7 Fu
  obtain⟨j,rfl⟩:=tZ a_;obtain⟨m1,h1,h2⟩:=q9 G7;have:m1=Dr (G fr cs) (on wL T):=by unfold At at Cy;rw[Cy]at h1;exact(ZT h1).symm
  subst this;obtain⟨j,rfl⟩:∃i,j=i+1:=by
   cases j with
   |succ j=>exact⟨j,rfl⟩
   |zero=>simp only[Ex,SN]at h2;obtain⟨h3,_⟩:=Rx h2;simp only[G,VI]at h3;obtain⟨rfl,rfl,_⟩:=h3;exact absurd ⟨rfl,Fu⟩ DR
  have ar:∀b,RO b->b<(on wL T).heap.size:=λb hb=>(K.kept b hb).1;have bQ:∀{C9:r_}{fn:Nat},(∀v,Bi P A3 (G fr cs) v=Bi P A3 (G fr cs) v)->Zi (λw=>Bi P A3 (G fr cs) w) (on wL T)->KC P F fb f1 k so RO E r base' fn (on wL T) s (Bi P A3 (G fr cs) (on wL T)) C9->Bi P main (G fr' cs') s=C9->∃g' w' es S',Bi P main (G fr' cs') s=Cw g' w' es/\Gb Sh S s w' es S'/\Way P main Sh (qs P F fb f1 k so RO Sh Pm r base' ret Q) S' g' w':=by
   intro C9 fn _ W Su KZ;obtain⟨g1,M,C,m0,xG,w7,xF⟩:=W;obtain⟨hW,uh,aLP,u9,aJl,U,qR,es,es',Bp,C8,E',HY,Jq,Kd,Jr,bX⟩:=Su.both;have ig:Bi P A3 (G fr cs) (on wL T)=Cw g1 M C:=m0;rw[Bp]at ig;injection ig with AM fk g0;subst AM fk;obtain⟨S',Bn,vx⟩:=aR (P:=P) (fn:=fn) HC ar Jr bX;refine⟨_,qR,_,S',KZ.trans C8,Bn,?_⟩;have aN9:wL.drawn<=U.drawn:=w7;have Vz:∀e,Oh w0.drawn U.drawn e T->Oh w0.drawn p.d e p.τ:=λe h i q h3 h4=>(h i q h3 (by omega)).trans (A i q h3 h4);have xH:U.tape=T:=xG;refine ih ⟨T,p.n+1,U.drawn⟩ ⟨rfl,by show p.d<=U.drawn;omega,A,?_⟩ (wL:=U) (T0:=T) ?_ ?_ rfl (by show w0.drawn<=U.drawn;omega) E' HY Jq (λb hb=>Jr.le _ _ (EU b hb)) (AT.le_trans iB Jr.le) ?_ vx
   ·intro e y;intro i hi aO w4 m T1;have L:=Vz e y;rcases J2 i p.n with hlt|OF;·exact B3 e L i hlt aO w4 m T1
    obtain rfl:i=p.n:=by simp only at hi;omega
    have:=X e L;unfold At at this m;rw[this]at m;obtain⟨h3,_⟩:=Rx (ZT m);simp only[G,VI]at h3;obtain⟨rfl,rfl,_⟩:=h3;exact DR ⟨rfl,T1⟩
   ·intro e y;have L:=Vz e y;have Bm:=xF e λi q h3 h4=>y i q (by have:wL.drawn<=i:=h3;omega) h4;have jN:Bi P A3 (G fr cs) (on wL e)=Cw {frame:=uh,callers:=u9,status:=DJ,dying:=Z} (on U e) C:=Bm;have:=X e L;unfold At at this⊢;rw[ym,this];simp only[Ex,Qq rfl jN];rfl
   ·intro e y;intro i hi aO w4 m T1;have L:=Vz e y;rcases J2 i p.n with hlt|OF;·exact B3 e L i hlt aO w4 m T1
    obtain rfl:i=p.n:=by simp only at hi;omega
    have:=X e L;unfold At at this m;rw[this]at m;obtain⟨h3,_⟩:=Rx (ZT m);simp only[G,VI]at h3;obtain⟨rfl,rfl,_⟩:=h3;exact DR ⟨rfl,T1⟩
   have:on U T=U:=by rw[<-xH];rfl
   rw[this];exact Kd
  rcases CX with I|I
  ·have H:∀v,Bi P A3 (G fr cs) v=CE P A3 A3 fr cs Z v:=λv=>eo rfl I;have Ct:Bi P main (G fr' cs') s=CE P main A3 fr' cs' Z s:=eo rfl (BG.mode.trans I);have RN:fr.todo=[]->OV cs r=[]:=by
    intro AP;cases hc with
    |base=>
     cases ret with
     |true=>exact TF rfl
     |false=>exact absurd ⟨rfl,by unfold Fin;exact⟨I,AP⟩⟩ DR
    |cons _ _ _ t=>obtain⟨c,l,rfl⟩:=t.ne;rfl
   rcases a4r (cs:=cs) R Ce hC MD RC EU A3 BG K with⟨W,d0⟩|⟨he⟩|⟨he⟩;·have m0:=W;obtain⟨g1,M,C,m0,_⟩:=m0;have Su:=a4s R Ce hC MD RC Ar EU A3 main BG I RN hc K ⟨g1,M,C,m0⟩ d0;refine bQ (λ_=>rfl) ?_ (by rw[H];exact Su) Ct;obtain⟨g1,M,C,a,b,c,d⟩:=W;exact⟨g1,M,C,(H _).trans a,b,c,λe y=>(H _).trans (d e y)⟩
   ·rename_i M es ch;unfold Ex at h2;rw[Qq rfl ((H _).trans he)]at h2;simp only at h2;obtain⟨aH,h3,h4⟩:=raised fr ch;obtain⟨a3y,li⟩:=uE hc.yR h3 (h4.trans BG.defers.1) h2;exfalso;unfold Fin at Fu;simp only[G]at li;split at Fu;·rw[li]at Fu;cases Fu
    rw[li]at Fu;cases Fu.1
   unfold Ex at h2;rw[Th rfl ((H _).trans he)]at h2;cases h2
  have H:∀v,Bi P A3 (G fr cs) v=I5 P A3 fr cs Z v:=λv=>Qp rfl I;have Ct:Bi P main (G fr' cs') s=I5 P main fr' cs' Z s:=Qp rfl (BG.mode.trans I);cases hc with
  |base=>have:=p9 R.Ju BG I K h2;omega
  |cons vq Mq dr t=>
   rename_i c c' l hH;rcases zQ R.Ju A3 (c:=c) (cs:=l) BG I K with⟨fn,v,M,es,Bl,F',W⟩|⟨o,M,es,he⟩;·have Su:=aBO R.Ju A3 main BG I vq Mq dr t K Bl F';refine bQ (λ_=>rfl) ?_ (by rw[H];exact Su) Ct;obtain⟨g1,M,C,a,b,c,d⟩:=W;exact⟨g1,M,C,(H _).trans a,b,c,λe y=>(H _).trans (d e y)⟩
   unfold Ex at h2;rw[Th rfl ((H _).trans he)]at h2;cases h2
end
end
variable{w:A0}{v:A1}{t u:Aj}{a:Ak}{P p:Ap}{o:BR}{b:Bool}{ρ:C'->A1}{k:KJ}{bv:Type}{h:Ww}
def seen_cells{at_:Ak}{k:Ak}{r:zw×Aj×(Nat×Nat)×Nat×A1×List (Nat×Nat×zx)}(h:w.seen p at_ u k b=Hr r):∃c e z,w.heap[at_.block]?=Y (AF c e z):=by
 unfold aFQ at h;cases e:w.heap[at_.block]? with
 |none=>
  exfalso;rw[e]at h;simp only[V9,VC,FX,VD,sY,throwThe,tY]at h;repeat' split at h
  all_goals first|cases h|(simp at*)
 |some o=>
  cases o with
  |cells c t z=>exact⟨c,t,z,rfl⟩
  |_=>
   exfalso;rw[e]at h;simp only[V9,VC,FX,VD,sY,throwThe,tY]at h;repeat' split at h
   all_goals first|cases h|(simp at*)
def hK{b:Nat}{o:Df}(h:w.heap[b]?=Y o):b<w.heap.size:=(Array.getElem?_eq_some_iff.1 h).1
def a3s(h:w.cell? a=Y v):a.block<w.heap.size:=by unfold FB at h;cases e:w.heap[a.block]? with|none=>rw[e]at h;cases h|some o=>exact hK e
def aKt{r:A1×List Ak}(h:w.farLoad p a b=Hr r):∀x∈r.2,x.block<w.heap.size:=by
 unfold sQ at h;split at h
 ·split at h
  ·rename_i As e;cases h;unfold aFS at e;simp only[V9,VC,FX,VD,sY,throwThe,tY]at e;split at e;·cases e
   rename_i x hx;obtain⟨c,t,z,s⟩:=seen_cells hx;split at e;·cases e;intro y hy;obtain⟨i,_,rfl⟩:=List.mem_map.1 hy;exact hK s
   cases e
  cases h
 cases h
def aKw{r:A0×List Ak}(h:w.farStore p a v b=Hr r):(∀x∈r.2,x.block<w.heap.size)/\r.1.heap.size=w.heap.size/\r.1.os=w.os/\r.1.output=w.output/\r.1.tape=w.tape:=by
 unfold lb at h;split at h
 ·split at h
  ·rename_i As e;cases h;unfold a1N at e;simp only[V9,VC,FX,VD,sY,throwThe,tY]at e;split at e;·cases e
   split at e;·cases e
   rename_i x hx;obtain⟨c,t,z,s⟩:=seen_cells hx;split at e
   ·split at e;·cases e
    split at e;·cases e
    cases e;refine⟨λy hy=>?_,by simp,rfl,rfl,rfl⟩;obtain⟨i,_,rfl⟩:=List.mem_map.1 hy;exact hK s
   cases e
  cases h
 cases h
def AU(P:Ap){bv:Type}(Q:bv->Prop):BU bv->Prop|Jz a=>Q a|.load _ _ k=>∀v,AU P Q (k v)|sL _ _ _ k=>AU P Q k|.new _ k=>∀b,AU P Q (k b)|sK _ k=>∀s,AU P Q (k s)|sI _ _ k=>AU P Q k|a1B _ k=>∀b,AU P Q (k b)|sJ _ k=>∀o,AU P Q (k o)|a1C _ _ k=>AU P Q k|a1A _ k=>∀n,AU P Q (k n)|.sys _ _=>False|c_ k=>AU P Q (k P)|.mark m k=>m=lF/\AU P Q k|lU h=>US h
def AU.bind{P:Ap}{bv By:Type}{s:BU bv}{f:bv->BU By}{Q:bv->Prop}{R:By->Prop}(h:AU P Q s)(z:∀a,Q a->AU P R (f a)):AU P R (s>>=f):=by show AU P R (s.bind f);induction s with|pure a=>exact z a h|load m a k y=>exact λv=>y v (h v)|store m a v k y=>exact y h|new o k y=>exact λb=>y b (h b)|shape r k y=>exact λb=>y b (h b)|freeze a n k y=>exact y h|frozen a k y=>exact λb=>y b (h b)|getObj r k y=>exact λb=>y b (h b)|setObj r o k y=>exact y h|choose q k y=>exact λb=>y b (h b)|sys c k y=>exact h.elim|program k y=>exact y P h|mark m k y=>exact⟨h.1,y h.2⟩|halt x=>exact h
def any{bv:Type}:bv->Prop:=λ_=>True
def AU.Cn{By:Type}{s:BU bv}{f:bv->BU By}{R:By->Prop}(h:AU P any s)(b:∀a,AU P R (f a)):AU P R (s>>=f):=h.bind λa _=>b a
def AU.ret(a:bv):AU P any (FX a:BU bv):=trivial
def q7{bv:Type}:Result bv->A0|Ac _ w=>w|Tv _ w=>w
structure EB(w w':A0)(es es':Array C5):Prop where
 size:w.heap.size<=w'.heap.size
 os:w'.os=w.os
 output:w'.output=w.output
 tape:w'.tape=w.tape
 evs:∀e∈es',e∈es∨LB (λ_=>False) (λb=>b<w'.heap.size) e
def EB.refl(w:A0)(es:Array C5):EB w w es es:=⟨Ae _,rfl,rfl,rfl,λ_ h=>AD h⟩
def aKi{e:C5}{n m:Nat}(h:LB (λ_=>False) (λb=>b<n) e)(hn:n<=m):LB (λ_=>False) (λb=>b<m) e:=by cases h with|cell w s h=>exact .cell w s (h.imp (λx=>Ku x hn) id)|obj w s h=>exact .obj w s (h.imp (λx=>Ku x hn) id)|extern f=>exact .extern f|noRoom=>exact .noRoom
def EB.trans{w w1 w2:A0}{es es1 d:Array C5}(h:EB w w1 es es1)(k:EB w1 w2 es1 d):EB w w2 es d:=⟨G3 h.size k.size,k.os.trans h.os,k.output.trans h.output,k.tape.trans h.tape,λe he=>by
 rcases k.evs e he with x|x;·exact(h.evs e x).imp id λy=>aKi y k.size
 exact AJ x⟩
def EB.step{w1:A0}{es:Array C5}(b:w.heap.size<=w1.heap.size)(h2:w1.os=w.os)(h3:w1.output=w.output)(h4:w1.tape=w.tape):EB w w1 es es:=⟨b,h2,h3,h4,λ_ h=>AD h⟩
def AU.runs{s:BU bv}{Q:bv->Prop}:∀(w:A0)(es:Array C5),AU P Q s->EB w (q7 (s.runT P w es).1) es (s.runT P w es).2:=by
 induction s with
 |pure a=>exact λw es _=>EB.refl w es
 |load m a k b=>
  intro w es h;simp only[DQ];split
  ·rename_i v hv;refine EB.trans ⟨Ae _,rfl,rfl,rfl,λe he=>?_⟩ (b v w _ (h v));rcases Array.mem_push.1 he with x|rfl;·exact AD x
   exact AJ (.cell _ _ (AD (a3s hv)))
  split
  ·rename_i v touched z;refine EB.trans ⟨Ae _,rfl,rfl,rfl,λe he=>?_⟩ (b v w _ (h v));rcases Array.mem_append.1 he with x|x;·exact AD x
   obtain⟨y,hy,rfl⟩:=Array.mem_map.1 x;exact AJ (.cell _ _ (AD (aKt z y (by simpa using hy))))
  exact EB.refl w es
 |store m a v k b=>
  intro w es h;have K:∀{r:A0×List Ak},w.farStore P a v (m==Ma)=Hr r->EB w (q7 (k.runT P r.1 (es++r.2.toArray.map (⟨Ie ·,A3,m==Ma⟩))).1) es (k.runT P r.1 (es++r.2.toArray.map (⟨Ie ·,A3,m==Ma⟩))).2:=by
   intro r z;obtain⟨M,h2,h3,h4,N⟩:=aKw z;refine EB.trans ⟨by rw[h2];exact Ae _,h3,h4,N,λe he=>?_⟩ (b r.1 _ h);rcases Array.mem_append.1 he with x|x;·exact AD x
   obtain⟨y,hy,rfl⟩:=Array.mem_map.1 x;exact AJ (.cell _ _ (AD (by rw[h2];exact M y (by simpa using hy))))
  have H:∀{u:A1},w.cell? a=Y u->EB w (q7 (k.runT P (w.setCell a v) (es.push ⟨Ie a,A3,m==Ma⟩)).1) es (k.runT P (w.setCell a v) (es.push ⟨Ie a,A3,m==Ma⟩)).2:=by
   intro u hu;have I:(w.setCell a v).heap.size=w.heap.size:=by simp[LK]
   refine EB.trans (w1:=w.setCell a v) ⟨by rw[I];exact Ae _,rfl,rfl,rfl,λe he=>?_⟩ (b _ _ h);rcases Array.mem_push.1 he with x|rfl;·exact AD x
   exact AJ (.cell _ _ (AD (by rw[I];exact a3s hu)))
  cases v<;>simp only[DQ];all_goals
   first
   |exact EB.refl w es
   |
    (
     split
     ·split;·exact EB.refl w es
      exact H (by assumption)
     split;·exact K (by assumption)
     exact EB.refl w es)
 |new o k b=>exact λw es h=>EB.trans (w1:={w with heap:=w.heap.push o}) (.step (by simp) rfl rfl rfl) (b _ _ _ (h _))
 |shape r k b=>exact λw es h=>b _ w es (h _)
 |freeze a n k b=>
  intro w es h;have:(w.freeze a n).heap.size=w.heap.size/\(w.freeze a n).os=w.os/\(w.freeze a n).output=w.output/\(w.freeze a n).tape=w.tape:=by
   unfold cd;repeat' split
   all_goals simp
  exact EB.trans (.step (by rw[this.1];exact Ae _) this.2.1 this.2.2.1 this.2.2.2) (b _ es h)
 |frozen a k b=>exact λw es h=>b _ w es (h _)
 |getObj r k b=>
  intro w es h;simp only[DQ];split;·exact EB.refl w es
  ·rename_i o U _;refine EB.trans ⟨Ae _,rfl,rfl,rfl,λe he=>?_⟩ (b _ w _ (h _));rcases Array.mem_push.1 he with x|rfl;·exact AD x
   exact AJ (.obj _ _ (AD (hK (by assumption))))
  exact EB.refl w es
 |setObj r o k b=>
  intro w es h;simp only[DQ];split;·exact EB.refl w es
  ·refine EB.trans (w1:={w with heap:=w.heap.setIfInBounds r o}) ⟨by simp,rfl,rfl,rfl,λe he=>?_⟩ (b _ _ h);rcases Array.mem_push.1 he with x|rfl;·exact AD x
   exact AJ (.obj _ _ (AD (by simp only[Array.size_setIfInBounds];exact hK (by assumption))))
  exact EB.refl w es
 |choose q k b=>
  intro w es h;simp only[DQ];split;·exact b _ w es (h _)
  exact EB.trans (w1:={w with drawn:=w.drawn+1}) (.step (Ae _) rfl rfl rfl) (b _ _ es (h _))
 |sys c k b=>exact λw es h=>h.elim
 |program k b=>exact λw es h=>b P w es h
 |mark m k b=>
  intro w es h;obtain⟨rfl,h⟩:=h;refine EB.trans ⟨Ae _,rfl,rfl,rfl,λe he=>?_⟩ (b w _ h);rcases Array.mem_push.1 he with x|rfl;·exact AD x
  exact AJ .noRoom
 |halt x=>exact λw es _=>EB.refl w es
def fR(w:A0)(h:Ww):Prop:=US h∨∃g c t,h=a'd (lX g)/\w.heap[g]?=Y (.pending c t)
def aA1(w:A0)(a:Ak)(s:String):fR w (w.noCell a s):=by
 unfold a1M;split;·rename_i c t e;exact AJ ⟨_,c,t,rfl,e⟩
 ·exact AD λg e=>by cases e
 exact AD trivial
def aKs(e:w.farLoad p a b=bx h):fR w h:=by
 unfold sQ at e;split at e
 ·split at e;·cases e
  cases e;exact AD λg e=>by cases e
 cases e;exact aA1 _ _ _
def aKv(e:w.farStore p a v b=bx h):fR w h:=by
 unfold lb at e;split at e
 ·split at e;·cases e
  cases e;exact AD λg e=>by cases e
 cases e;exact aA1 _ _ _
def aHH{bv:Type}(Q:bv->Prop)(r:Result bv):Prop:=match r with|Ac a _=>Q a|Tv h w=>fR w h
def AU.ends{s:BU bv}{Q:bv->Prop}:∀(w:A0)(es:Array C5),AU P Q s->aHH Q (s.runT P w es).1:=by
 induction s with
 |pure a=>exact λw es h=>h
 |load m a k b=>
  intro w es h;simp only[DQ];split;·exact b _ _ _ (h _)
  split;·exact b _ _ _ (h _)
  exact aKs (by assumption)
 |store m a v k b=>
  intro w es h;cases v<;>simp only[DQ];all_goals
   first
   |exact AD trivial
   |
    (
     split
     ·split;·exact AD λg e=>by cases e
      exact b _ _ h
     split;·exact b _ _ h
     exact aKv (by assumption))
 |new o k b=>exact λw es h=>b _ _ _ (h _)
 |shape r k b=>exact λw es h=>b _ w es (h _)
 |freeze a n k b=>exact λw es h=>b _ es h
 |frozen a k b=>exact λw es h=>b _ w es (h _)
 |getObj r k b=>
  intro w es h;simp only[DQ];split;·exact AD trivial
  ·exact b _ _ _ (h _)
  exact AD trivial
 |setObj r o k b=>
  intro w es h;simp only[DQ];split;·exact AD trivial
  ·exact b _ _ h
  exact AD trivial
 |choose q k b=>
  intro w es h;simp only[DQ];split;·exact b _ w es (h _)
  exact b _ _ es (h _)
 |sys c k b=>exact λw es h=>h.elim
 |program k b=>exact λw es h=>b P w es h
 |mark m k b=>exact λw es h=>b w _ h.2
 |halt x=>exact λw es h=>AD h
section
variable{P:Ap}
def HG(s:String):AU P any (U0 s:BU bv):=trivial
def aRg(v:A1):AU P any (aFW v:BU bv):=trivial
def MI{u:aFL}(h:∀g,u≠lX g):AU P any (a1j u:BU bv):=h
def aRo(a:Ak)(m:ZP):AU P any (ck a m):=λ_=>trivial
def ab8(a:Ak)(v:A1)(m:ZP):AU P any (sW a v m):=trivial
def eM(r:Nat):AU P any (shape r):=λ_=>trivial
def aRf(a:Ak):AU P any (frozen a):=λ_=>trivial
def xn(r:Nat):AU P any (getObj r):=λ_=>trivial
def pF(q:sF):AU P any (Ty q):=λ_=>trivial
def a9B(o:Df):AU P any (a1a o):=λ_=>trivial
def YP:AU P any cm:=trivial
def AU.map{By:Type}{s:BU bv}{f:bv->By}(h:AU P any s):AU P any (f<$>s):=AU.Cn (s:=s) (f:=λa=>Jz (f a)) h λ_=>trivial
def eN(t:Aj):AU P any (Q2 t):=by unfold Q2;repeat' first|contradiction|(with_reducible exact AU.ret _)|(with_reducible exact HG _)|(with_reducible exact YP)|(with_reducible refine AU.Cn ?_ λ_=>?_)|split|dsimp only|exact trivial
def Ql(t:Aj):AU P any (Jc t):=by unfold Jc;repeat' first|contradiction|(with_reducible exact AU.ret _)|(with_reducible exact HG _)|(with_reducible exact YP)|(with_reducible refine AU.Cn ?_ λ_=>?_)|split|dsimp only|exact trivial
def WM(t:Aj):AU P any (Q0 t):=by unfold Q0;repeat' first|contradiction|(with_reducible exact AU.ret _)|(with_reducible exact eN ..)|(with_reducible refine AU.Cn ?_ λ_=>?_)|split|dsimp only|exact trivial
def a96(t:Aj):AU P any (VS t):=by unfold VS;repeat' first|contradiction|(with_reducible exact AU.ret _)|(with_reducible exact Ql ..)|(with_reducible refine AU.Cn ?_ λ_=>?_)|split|dsimp only|exact trivial
def xq(t:Aj):AU P any (Q3 t):=by unfold Q3;repeat' first|contradiction|(with_reducible exact AU.ret _)|((with_reducible refine MI λg e=>?_);cases e)|(with_reducible exact eN ..)|(with_reducible refine AU.Cn ?_ λ_=>?_)|split|dsimp only|exact trivial
def a99(a:Ak):∀(n i:Nat)(b:zw),AU P any (sU a i n b)|0,_,_=>trivial|n+1,i,b=>AU.Cn (s:=ck _) (λ_=>trivial) λv=>a99 a n (i+1) (b.push v)
def a98(a:Ak)(n:Nat):AU P any (a1X a n):=a99 a n 0 #[]
def xp(a:Ak):∀(b:List A1)(i:Nat),AU P any (sX a b i)|[],_=>trivial|_::rest,i=>AU.Cn (s:=sW _ _) trivial λ_=>xp a rest (i+1)
def a9A(t:Aj)(a:Ak):AU P any (lo t a):=by unfold lo;repeat' first|contradiction|(with_reducible exact AU.ret _)|(with_reducible exact aRo _ _)|(with_reducible exact WM ..)|(with_reducible exact a96 ..)|(with_reducible exact a98 ..)|(with_reducible refine AU.Cn ?_ λ_=>?_)|split|dsimp only|exact trivial
def aS'(t:Aj)(a:Ak)(v:A1):AU P any (mA t a v):=by unfold mA;repeat' first|contradiction|(with_reducible exact AU.ret _)|(with_reducible exact HG _)|(with_reducible exact WM ..)|(with_reducible exact xp ..)|(with_reducible refine AU.Cn ?_ λ_=>?_)|split|dsimp only|exact trivial
def xo(e:Aj)(c:zw):AU P any (lr e c):=by unfold lr;repeat' first|contradiction|(with_reducible exact AU.ret _)|(with_reducible exact a9B _)|(with_reducible refine AU.Cn ?_ λ_=>?_)|split|dsimp only|exact trivial
def a9C(e:Aj)(v:A1):AU P any (ls e v):=by unfold ls;repeat' first|contradiction|(with_reducible exact AU.ret _)|(with_reducible exact xo ..)|(with_reducible refine AU.Cn ?_ λ_=>?_)|split|dsimp only|exact trivial
def aRZ(t:Aj):AU P any (Tz t):=by unfold Tz;repeat' first|contradiction|(with_reducible exact AU.ret _)|(with_reducible exact HG _)|(with_reducible exact Ql ..)|(with_reducible refine AU.Cn ?_ λ_=>?_)|split|dsimp only|exact trivial
def aRx(t:Aj)(cs:zw)(off:Nat):AU P any (lx t cs off):=by unfold lx;repeat' first|contradiction|(with_reducible exact AU.ret _)|(with_reducible exact HG _)|(with_reducible exact WM ..)|(with_reducible exact a96 ..)|(with_reducible refine AU.Cn ?_ λ_=>?_)|split|dsimp only|exact trivial
def je(e:a19):AU P any (SO e:BU bv):=by unfold SO;repeat' first|contradiction|(with_reducible exact AU.ret _)|(with_reducible exact YP)|(with_reducible exact aRg _)|(with_reducible exact a9C ..)|(with_reducible exact aRZ ..)|(with_reducible refine AU.Cn ?_ λ_=>?_)|split|dsimp only|exact trivial
def aRT(k:KJ)(x y:Int)(c:kj):AU P any (XB k x y c:BU bv):=by unfold XB;repeat' first|contradiction|(with_reducible exact AU.ret _)|(with_reducible exact pF _)|(with_reducible exact je ..)|(with_reducible refine AU.Cn ?_ λ_=>?_)|(with_reducible refine AU.map ?_)|split|dsimp only|exact trivial
def pH(v:A1):AU P any (fx v):=by unfold fx;repeat' first|contradiction|(with_reducible exact AU.ret _)|(with_reducible exact HG _)|(with_reducible refine AU.Cn ?_ λ_=>?_)|split|dsimp only|exact trivial
def a9'(v:A1):AU P any (gM v):=by unfold gM;repeat' first|contradiction|(with_reducible exact AU.ret _)|(with_reducible exact HG _)|((with_reducible refine MI λg e=>?_);cases e)|(with_reducible refine AU.Cn ?_ λ_=>?_)|split|dsimp only|exact trivial
def a8z(v:A1):AU P any (ZV v):=by unfold ZV;repeat' first|contradiction|(with_reducible exact AU.ret _)|(with_reducible exact a9' ..)|(with_reducible refine AU.Cn ?_ λ_=>?_)|split|dsimp only|exact trivial
def a8y(v:A1):AU P any (sR v):=by unfold sR;repeat' first|contradiction|(with_reducible exact AU.ret _)|(with_reducible exact HG _)|(with_reducible refine AU.Cn ?_ λ_=>?_)|split|dsimp only|exact trivial
def a9J(r:Nat):AU P any (mB r):=by unfold mB;repeat' first|contradiction|(with_reducible exact AU.ret _)|(with_reducible exact eM _)|(with_reducible exact xn _)|(with_reducible refine AU.Cn ?_ λ_=>?_)|split|dsimp only|exact trivial
def a9E(r:Nat):AU P any (lv r):=by unfold lv;repeat' first|contradiction|(with_reducible exact AU.ret _)|(with_reducible exact eM _)|(with_reducible exact xn _)|(with_reducible refine AU.Cn ?_ λ_=>?_)|split|dsimp only|exact trivial
def aRv(a:Ak):AU P any (lu a):=by unfold lu;repeat' first|contradiction|(with_reducible exact AU.ret _)|((with_reducible refine MI λg e=>?_);cases e)|(with_reducible exact a9J ..)|(with_reducible refine AU.Cn ?_ λ_=>?_)|split|dsimp only|exact trivial
def pE(a:Ak):AU P any (lj a):=by unfold lj;repeat' first|contradiction|(with_reducible exact AU.ret _)|(with_reducible exact HG _)|(with_reducible exact eM _)|(with_reducible exact YP)|(with_reducible exact aRv ..)|(with_reducible refine AU.Cn ?_ λ_=>?_)|split|dsimp only|exact trivial
def aRy(a:Ak)(n m:Nat):AU P any (ly a n m):=by unfold ly;repeat' first|contradiction|(with_reducible exact AU.ret _)|(with_reducible exact pE ..)|(with_reducible refine AU.Cn ?_ λ_=>?_)|split|dsimp only|exact trivial
def aRd(a:Ak)(f:ft):AU P any (ll a f):=by unfold ll;repeat' first|contradiction|(with_reducible exact AU.ret _)|(with_reducible exact WM ..)|(with_reducible exact aRy ..)|(with_reducible refine AU.Cn ?_ λ_=>?_)|split|dsimp only|exact trivial
def aRc(s:Aj)(v:A1)(f:Nat):AU P any (l4 s v f):=by unfold l4;repeat' first|contradiction|(with_reducible exact AU.ret _)|(with_reducible exact HG _)|(with_reducible exact Ql ..)|(with_reducible exact pH ..)|(with_reducible exact aRd ..)|(with_reducible refine AU.Cn ?_ λ_=>?_)|split|dsimp only|exact trivial
def aRi(t:Aj)(x i:A1):AU P any (ZI t x i):=by unfold ZI;repeat' first|contradiction|(with_reducible exact AU.ret _)|(with_reducible exact HG _)|((with_reducible refine MI λg e=>?_);cases e)|(with_reducible exact Ql ..)|(with_reducible exact WM ..)|(with_reducible exact aRT ..)|(with_reducible exact pH ..)|(with_reducible exact a9' ..)|(with_reducible refine AU.Cn ?_ λ_=>?_)|split|dsimp only|exact trivial
def aRp(t:Aj)(x:A1):AU P any (l6 t x):=by unfold l6;repeat' first|contradiction|(with_reducible exact AU.ret _)|(with_reducible exact a9A ..)|(with_reducible exact pH ..)|(with_reducible refine AU.Cn ?_ λ_=>?_)|split|dsimp only|exact trivial
def aRz(t:Aj)(x y:A1):AU P any (l9 t x y):=by unfold l9;repeat' first|contradiction|(with_reducible exact AU.ret _)|(with_reducible exact aS' ..)|(with_reducible exact pH ..)|(with_reducible refine AU.Cn ?_ λ_=>?_)|split|dsimp only|exact trivial
def xm(a:Ak):AU P any (lg a):=by unfold lg;repeat' first|contradiction|(with_reducible exact AU.ret _)|(with_reducible exact a9E ..)|(with_reducible refine AU.Cn ?_ λ_=>?_)|split|dsimp only|exact trivial
def aRQ(a:Ak)(b:Bool):AU P any (lf a b):=by unfold lf;repeat' first|contradiction|(with_reducible exact AU.ret _)|(with_reducible exact a9B _)|(with_reducible refine AU.Cn ?_ λ_=>?_)|split|dsimp only|exact trivial
def a9I(ts:Array Aj)(t:Aj)(x y:A1):AU P any (ko ts t #[x,y]):=by
 unfold ko;cases x with
 |pointer a=>
  refine AU.Cn (s:=ZV y) (a8z y) λn=>?_;repeat'
   first
   |contradiction
   |(with_reducible exact AU.ret _)
   |(with_reducible exact eM _)
   |(with_reducible exact YP)
   |((with_reducible refine MI λg e=>?_);cases e)
   |(with_reducible exact a8z ..)
   |(with_reducible exact a9J ..)
   |(with_reducible refine AU.Cn ?_ λ_=>?_)
   |(with_reducible refine AU.map ?_)
   |split
   |dsimp only
   |exact trivial
 |_=>exact trivial
def aRr(t:Aj)(x y:A1):AU P any (lp t x y):=by unfold lp;repeat' first|contradiction|(with_reducible exact AU.ret _)|((with_reducible refine MI λg e=>?_);cases e)|(with_reducible exact Ql ..)|(with_reducible exact xm ..)|(with_reducible exact aRQ ..)|(with_reducible exact a9I ..)|(with_reducible refine AU.Cn ?_ λ_=>?_)|split|dsimp only|exact trivial
def aRs(t:Aj)(x y:A1):AU P any (lq t x y):=by unfold lq;repeat' first|contradiction|(with_reducible exact AU.ret _)|((with_reducible refine MI λg e=>?_);cases e)|(with_reducible exact a9E ..)|(with_reducible exact a9I ..)|(with_reducible refine AU.Cn ?_ λ_=>?_)|split|dsimp only|exact trivial
def a90(b:JY)(k:l')(x y:Nat):AU P any (aE5 b k x y):=by unfold aE5;repeat' first|contradiction|(with_reducible exact AU.ret _)|(with_reducible exact HG _)|(with_reducible exact pF _)|(with_reducible refine AU.Cn ?_ λ_=>?_)|split|dsimp only|exact trivial
def a92(b:JY)(k:l')(x y:Nat):AU P any (aE6 b k x y):=by unfold aE6;repeat' first|contradiction|(with_reducible exact AU.ret _)|(with_reducible exact HG _)|(with_reducible refine AU.Cn ?_ λ_=>?_)|split|dsimp only|exact trivial
def aS0(b:JY)(x y:zz):AU P any (cP b x y):=by unfold cP;repeat' first|contradiction|(with_reducible exact AU.ret _)|(with_reducible exact HG _)|((with_reducible refine MI λg e=>?_);cases e)|(with_reducible refine AU.Cn ?_ λ_=>?_)|split|dsimp only|exact trivial
def a95(b:JY)(k:KJ)(x y:Int):AU P any (rl b k x y):=by unfold rl;repeat' first|contradiction|(with_reducible exact AU.ret _)|(with_reducible exact HG _)|(with_reducible refine AU.Cn ?_ λ_=>?_)|split|dsimp only|exact trivial
def aRl(b:JY)(k:KJ)(x y:Int):AU P any (rp b k x y):=by unfold rp;repeat' first|contradiction|(with_reducible exact AU.ret _)|(with_reducible exact HG _)|(with_reducible exact je ..)|(with_reducible refine AU.Cn ?_ λ_=>?_)|split|dsimp only|exact trivial
def aRk(b:JY)(x y:Int):AU P any (rn b x y):=by unfold rn;repeat' first|contradiction|(with_reducible exact AU.ret _)|(with_reducible exact HG _)|(with_reducible refine AU.Cn ?_ λ_=>?_)|split|dsimp only|exact trivial
def aRj(b:JY)(k:KJ)(x y:Int):AU P any (rm b k x y):=by unfold rm;repeat' first|contradiction|(with_reducible exact AU.ret _)|(with_reducible exact HG _)|(with_reducible refine AU.Cn ?_ λ_=>?_)|split|dsimp only|exact trivial
def ab7(h:JY)(k b:KJ)(x y:Int):AU P any (rq h k x b y):=by unfold rq;repeat' first|contradiction|(with_reducible exact AU.ret _)|(with_reducible exact HG _)|(with_reducible exact je ..)|(with_reducible refine AU.Cn ?_ λ_=>?_)|split|dsimp only|exact trivial
def aRO(b:JY)(k:l')(x y:Nat):AU P any (aE2 b k x y):=by unfold aE2;repeat' first|contradiction|(with_reducible exact AU.ret _)|(with_reducible exact HG _)|(with_reducible exact a90 ..)|(with_reducible refine AU.Cn ?_ λ_=>?_)|split|dsimp only|exact trivial
def aRX(b:JY)(k:l')(x y:Nat):AU P any (aE3 b k x y):=by unfold aE3;repeat' first|contradiction|(with_reducible exact AU.ret _)|(with_reducible exact a8y ..)|(with_reducible exact a92 ..)|(with_reducible refine AU.Cn ?_ λ_=>?_)|split|dsimp only|exact trivial
def aS2(b:UnOp)(x:A1):AU P any (lO b x):=by unfold lO;repeat' first|contradiction|(with_reducible exact AU.ret _)|(with_reducible exact HG _)|((with_reducible refine MI λg e=>?_);cases e)|(with_reducible exact a95 ..)|(with_reducible exact aRj ..)|(with_reducible refine AU.Cn ?_ λ_=>?_)|split|dsimp only|exact trivial
def a9G(a b:Ak):AU P any (lN a b):=by unfold lN;repeat' first|contradiction|(with_reducible exact AU.ret _)|(with_reducible exact YP)|((with_reducible refine MI λg e=>?_);cases e)|(with_reducible exact pE ..)|(with_reducible refine AU.Cn ?_ λ_=>?_)|split|dsimp only|exact trivial
def aRM(k:KJ)(a b:Ak):AU P any (lI k a b):=by unfold lI;repeat' first|contradiction|(with_reducible exact AU.ret _)|(with_reducible exact a9G ..)|(with_reducible refine AU.Cn ?_ λ_=>?_)|split|dsimp only|exact trivial
def aRK(h:JY)(a b:Ak):AU P any (lG h a b):=by unfold lG;repeat' first|contradiction|(with_reducible exact AU.ret _)|((with_reducible refine MI λg e=>?_);cases e)|(with_reducible exact a9G ..)|(with_reducible refine AU.Cn ?_ λ_=>?_)|split|dsimp only|exact trivial
def aRL(k:KJ)(a:Ak)(n:Int):AU P any (lH k a n):=by unfold lH;repeat' first|contradiction|(with_reducible exact AU.ret _)|(with_reducible exact eM _)|((with_reducible refine MI λg e=>?_);cases e)|(with_reducible exact eN ..)|(with_reducible exact pE ..)|(with_reducible refine AU.Cn ?_ λ_=>?_)|split|dsimp only|exact trivial
def aRU(e:Aj)(v:A1):AU P any (l1 e v):=by unfold l1;repeat' first|contradiction|(with_reducible exact AU.ret _)|(with_reducible exact a9C ..)|(with_reducible refine AU.Cn ?_ λ_=>?_)|split|dsimp only|exact trivial
def aRn(v:A1):AU P any (qz v):=by unfold qz;repeat' first|contradiction|(with_reducible exact AU.ret _)|(with_reducible exact HG _)|(with_reducible refine AU.Cn ?_ λ_=>?_)|split|dsimp only|exact trivial
def aRe(s n:Nat)(v:A1):AU P any (qy s n v):=by unfold qy;repeat' first|contradiction|(with_reducible exact AU.ret _)|(with_reducible exact HG _)|(with_reducible exact a98 ..)|(with_reducible refine AU.Cn ?_ λ_=>?_)|(with_reducible refine AU.map ?_)|split|dsimp only|exact trivial
def aRh(a:Ak)(n:Nat):AU P any (kl a n):=by unfold kl;repeat' first|contradiction|(with_reducible exact AU.ret _)|(with_reducible exact eM _)|(with_reducible refine AU.Cn ?_ λ_=>?_)|split|dsimp only|exact trivial
def aRq(s l n:Nat)(b:Option Ak)(v:A1):AU P any (r' s l n b v):=by unfold r';repeat' first|contradiction|(with_reducible exact AU.ret _)|(with_reducible exact aRf _)|(with_reducible exact aRh ..)|(with_reducible refine AU.Cn ?_ λ_=>?_)|split|dsimp only|exact trivial
def aRR(n:Nat):AU P any (cg n):=by
 unfold cg;split;·exact⟨rfl,trivial⟩
 exact trivial
def aRu:AU P any (mark lF):=⟨rfl,trivial⟩
def aRm(ts:Array Aj)(t:Aj)(args:zw):AU P any (km ts t args):=by unfold km;repeat' first|contradiction|(with_reducible exact AU.ret _)|(with_reducible exact HG _)|(with_reducible exact xn _)|(with_reducible exact Ql ..)|(with_reducible refine AU.Cn ?_ λ_=>?_)|(with_reducible refine AU.map ?_)|split|dsimp only|exact trivial
def a97{bv By:Type}{f:bv->BU By}(h:∀a,AU P any (f a)):∀(l:List bv)(s:List By),AU P any (a_O f l s)|[],_=>trivial|a::l,s=>AU.Cn (h a) λb=>a97 h l (b::s)
def a8x{By:Type}{f:bv->BU By}(h:∀a,AU P any (f a))(l:Array bv):AU P any (l.mapM f):=by rw[Array.mapM_eq_mapM_toList];exact AU.map (a97 h _ _)
def aRV(t:Aj)(b:Array (Nat×A1)):AU P any (l2 t b):=by unfold l2;repeat' first|contradiction|(with_reducible exact AU.ret _)|(with_reducible exact HG _)|(with_reducible exact Ql ..)|(with_reducible exact WM ..)|(with_reducible exact xq ..)|(with_reducible refine a8x (λ_=>?_) _)|(with_reducible refine AU.Cn ?_ λ_=>?_)|split|dsimp only|exact trivial
def aRW(t:Aj)(n:Nat)(b:Array (Nat×A1)):AU P any (cI t n b):=by unfold cI;repeat' first|contradiction|(with_reducible exact AU.ret _)|(with_reducible exact HG _)|((with_reducible refine MI λg e=>?_);cases e)|(with_reducible exact Ql ..)|(with_reducible exact WM ..)|(with_reducible exact xq ..)|(with_reducible exact xo ..)|(with_reducible refine AU.Cn ?_ λ_=>?_)|(with_reducible refine AU.map ?_)|split|dsimp only|exact trivial
def aRb(s:P.underlying t=Y (R5 k))(x y:A1):AU P any (SL t x y):=by
 unfold SL;rw[show gC=9999+1 from rfl];unfold Ov;have hu:AU P (λd=>d=R5 k) (Jc t):=by unfold Jc;refine AU.bind (Q:=λp=>p=P) (show AU P _ cm from rfl) λp h=>?_;subst h;rw[s];exact rfl
 refine AU.bind hu λd b=>?_;subst b;dsimp only;repeat' first|contradiction|(with_reducible exact AU.ret _)|(with_reducible exact HG _)|(with_reducible exact YP)|((with_reducible refine MI λg e=>?_);cases e)|(with_reducible exact xm ..)|(with_reducible exact pE ..)|(with_reducible exact eN ..)|(with_reducible refine AU.Cn ?_ λ_=>?_)|(with_reducible refine AU.map ?_)|split|dsimp only|exact trivial
def aRY(s:JY)(h:s=.add∨s=.sub∨s=.rem∨s=.lss∨s=.geq∨s=.eql)(k:l')(a b c d:Nat):AU P any (aE4 s k a b c d):=by rcases h with rfl|rfl|rfl|rfl|rfl|rfl<;>unfold aE4<;>dsimp only;all_goals repeat' first|contradiction|(with_reducible exact AU.ret _)|(with_reducible exact HG _)|(with_reducible exact aRO ..)|(with_reducible exact aRX ..)|(with_reducible refine AU.Cn ?_ λ_=>?_)|split|dsimp only|exact trivial
def aRS(z:P.underlying t=Y (R5 k))(s:JY)(h:s=.add∨s=.sub∨s=.rem∨s=.lss∨s=.geq∨s=.eql)(x y:A1):AU P any (KL s t x y):=by have hc:=λk a b c d=>aRY (P:=P) s h k a b c d;rcases h with rfl|rfl|rfl|rfl|rfl|rfl<;>unfold KL<;>split;all_goals repeat' first|contradiction|(with_reducible exact AU.ret _)|(with_reducible exact HG _)|((with_reducible refine MI λg e=>?_);cases e)|(with_reducible exact a95 ..)|(with_reducible exact aRl ..)|(with_reducible exact aRk ..)|(with_reducible exact a90 ..)|(with_reducible exact a92 ..)|(with_reducible exact aS0 ..)|(with_reducible exact hc ..)|(with_reducible exact aRb z ..)|(with_reducible exact Ql ..)|(with_reducible exact aRr ..)|(with_reducible exact aRs ..)|(with_reducible exact aRM ..)|(with_reducible exact aRK ..)|(with_reducible exact aRL ..)|(with_reducible exact xm ..)|(with_reducible refine AU.Cn ?_ λ_=>?_)|split|dsimp only|exact trivial
end
section
variable{P:Ap}
def a9H{d:lV}(h:P.underlying t=Y d):AU P (λx=>x=d) (Jc t):=by unfold Jc;refine AU.bind (Q:=λp=>p=P) (show AU P _ cm from rfl) λp b=>?_;subst b;rw[h];exact rfl
def aRN{ts:Array Aj}{e:Aj}(s:ts[1]?=Y u)(hu:P.underlying u=Y (lW e))(t:Aj)(args:zw):AU P any (VF ts t args):=by
 unfold VF;split
 ·refine AU.Cn (Ql _) λd=>?_;split
  ·split;·refine AU.Cn (WM _) λh=>?_;rw[s];dsimp only;refine AU.bind (a9H hu) λd z=>?_;subst z;refine AU.bind (Q:=λb=>b=A9) rfl λb y=>?_;subst y;simp only[EJ,↓reduceIte,VB];repeat' first|contradiction|(with_reducible exact AU.ret _)|(with_reducible exact pF _)|((with_reducible refine MI λg e=>?_);cases e)|(with_reducible exact Ql ..)|(with_reducible exact WM ..)|(with_reducible exact eN ..)|(with_reducible exact je ..)|(with_reducible exact aRn ..)|(with_reducible exact aRe ..)|(with_reducible exact xq ..)|(with_reducible exact aRq ..)|(with_reducible exact aRR ..)|(with_reducible exact aRu ..)|(with_reducible exact xp ..)|(with_reducible exact xo ..)|(with_reducible refine AU.Cn ?_ λ_=>?_)|split|dsimp only|exact trivial
   exact trivial
  exact trivial
 exact trivial
def a94:∀(l:List FieldStep)(t:Aj)(x:Option A1),AU P any (aFV l t x)|[],_,_=>trivial|s::rest,t,x=>by have b:=λt x=>a94 rest t x;unfold aFV;repeat' first|contradiction|(with_reducible exact AU.ret _)|(with_reducible exact HG _)|(with_reducible exact b ..)|(with_reducible exact Ql ..)|(with_reducible exact aRx ..)|(with_reducible refine AU.Cn ?_ λ_=>?_)|split|dsimp only|exact trivial
def a9D:∀(n:Nat)(t:Aj)(v:A1)(b:String),AU P any (nilAhead n t v b)|0,_,_,_=>trivial|n+1,t,v,b=>by have h:=λt v=>a9D n t v b;unfold nilAhead;repeat' first|contradiction|(with_reducible exact AU.ret _)|(with_reducible exact HG _)|(with_reducible exact h ..)|(with_reducible exact Ql ..)|(with_reducible exact eN ..)|(with_reducible exact a94 ..)|(with_reducible refine AU.Cn ?_ λ_=>?_)|split|dsimp only|exact trivial
def e_:LH->Prop|D6 _|cO=>True|_=>False
def Up{s:BU A1}(h:AU P any s):AU P e_ (do FX (D6 (<-s))):=h.bind λ_ _=>trivial
def aS1{s:BU Unit}(h:AU P any s):AU P e_ (do s;FX cO):=h.bind λ_ _=>trivial
def aAA(P:Ap):Op->Bool|Mb _|SK _|.pick ..|lM _|.load ..|gD ..|gB ..|rk ..|.unOp ..|a'z ..|lJ ..|.box ..=>A3|a'y op t _ _ _=>(match op with|.add|.sub|.rem|.lss|.geq|.eql=>A3|_=>A9)&&(match P.underlying t with|Y (R5 _)=>A3|_=>A9)|If {callee:=Kj .len,..}=>A3|If {callee:=Kj f_,argTypes:=ts,..}=>(match ts[1]? with|Y u=>(match P.underlying u with|Y (lW _)=>A3|_=>A9)|Z=>A9)|_=>A9
def aRa(s:P.underlying t=Y (R5 k))(a b:A1):AU P any (lK gC t a b):=by rw[show gC=9999+1 from rfl];unfold lK;refine AU.bind (a9H s) λd h=>?_;subst h;exact trivial
def aR_(h:P.underlying t=Y (R5 k))(s:JY)(x y:C')(a b:A1):AU P any (lk s t x y a b):=by unfold lk;repeat' first|contradiction|(with_reducible exact AU.ret _)|(with_reducible exact YP)|((with_reducible refine MI λg e=>?_);cases e)|(with_reducible exact aRa h ..)|(with_reducible refine AU.Cn ?_ λ_=>?_)|split|dsimp only|exact trivial
def pG{Q:bv->Prop}:AU P Q (SO aFF:BU bv):=by unfold SO;exact AU.Cn trivial λp=>trivial
def aRt{x:C'}(h:o.op=lM x):AU P e_ (Ab ρ o):=by
 unfold Ab;rw[h];dsimp only;split;·exact pG
 ·exact pG
 ·exact pG
 ·split;·exact pG
  ·refine AU.Cn trivial λp=>AU.Cn (a9D _ _ _ _) λb=>?_;split;·exact λg e=>by cases e
   exact trivial
  exact trivial
 exact trivial
def aRw(h:aAA P o.op=A3):AU P e_ (Ab ρ o):=by
 cases z:o.op with
 |nilCheck x=>exact aRt z
 |move x=>unfold Ab;rw[z];exact trivial
 |assign x=>unfold Ab;rw[z];exact trivial
 |pick c a b=>unfold Ab;rw[z];exact(a8y _).bind λ_ _=>trivial
 |load t a=>unfold Ab;rw[z];exact Up (aRp _ _)
 |store t a x=>unfold Ab;rw[z];exact aS1 (aRz _ _ _)
 |fieldAddr s x f=>unfold Ab;rw[z];exact Up (aRc _ _ _)
 |indexAddr t x i=>unfold Ab;rw[z];exact Up (aRi _ _ _)
 |unOp op t x=>unfold Ab;rw[z];exact Up (aS2 _ _)
 |build t p=>unfold Ab;rw[z];exact Up (aRV _ _)
 |buildSlice t n p=>unfold Ab;rw[z];exact Up (aRW _ _ _)
 |box t x=>unfold Ab;rw[z];exact Up (aRU _ _)
 |binOp op t x y q=>
  rw[z]at h;obtain⟨I,h2⟩:=Bool.and_eq_true_iff.1 h;cases hu:P.underlying t with
  |none=>rw[hu]at h2;cases h2
  |some d=>
   rw[hu]at h2;cases d with
   |int k=>
    have M:op=.add∨op=.sub∨op=.rem∨op=.lss∨op=.geq∨op=.eql:=by
     cases op<;>first
     |(simp;done)
     |cases I
    unfold Ab;rw[z];exact Up (AU.Cn (aR_ hu _ _ _ _ _) λ_=>aRS hu op M _ _)
   |_=>cases h2
 |call c=>
  rw[z]at h;obtain⟨H,K,ts⟩:=c;cases H with
  |builtin b=>
   cases b with
   |len=>unfold Ab;rw[z];exact Up (aRm _ _ _)
   |append=>
    have h:(match ts[1]? with
    |Y u=>match P.underlying u with
     |Y (lW _)=>A3
     |_=>A9
    |Z=>A9)=A3:=h;cases I:ts[1]? with
    |none=>rw[I]at h;cases h
    |some u=>
     rw[I]at h;dsimp only at h;cases hu:P.underlying u with
     |none=>rw[hu]at h;cases h
     |some d=>
      rw[hu]at h;cases d with
      |slice e=>unfold Ab;rw[z];exact Up (aRN I hu _ _)
      |_=>cases h
   |_=>cases h
  |_=>cases h
 |_=>rw[z]at h;cases h
end
section
open Go.Conc(G solo Knows Perm Quiet touchAt touch_of touchAt_of getElem?_append_cases knows_own noRace_append Deaf)
open Go.ConcN(PermW)
variable{l:Loc}
def G2(l:Loc)(b:Nat):Prop:=(∃a:Ak,l=Ie a/\a.block=b)∨l=Nz b
def G2.one{b b':Nat}(h:G2 l b)(k:G2 l b'):b=b':=by
 rcases h with⟨a,rfl,rfl⟩|rfl
 ·rcases k with⟨s,e,rfl⟩|e;·cases e;rfl
  cases e
 rcases k with⟨s,e,rfl⟩|e;·cases e
 cases e;rfl
def G2.low{l:Loc}{b B:Nat}(h:G2 l b):l.low B->b<B:=by
 rcases h with⟨a,rfl,rfl⟩|rfl;·exact id
 exact id
def G2.of_low{b B:Nat}(h:G2 l b)(s:b<B):l.low B:=by
 rcases h with⟨a,rfl,rfl⟩|rfl;·exact s
 exact s
structure Mj(Wb:zy)(n B:Nat)(S Sh:Nat->zy):Prop where
 apart:∀g h b,S g b->S h b->g=h
 Tc:∀g h b,S g b->¬Sh h b
 wg:∀g b,Wb b->¬S g b/\¬Sh g b
 low:∀g b,S g b∨Sh g b->b<B
 num:∀g b,S g b∨Sh g b->g<n
 Pb:∀b,Wb b->b<B
structure JK(Wb:zy)(n B:Nat)(S Sh:Nat->zy)(t:Trace):Prop where
 nr:∀said,¬Race said t
 own:∀g b,S g b->∀l,G2 l b->Perm t g l
 shr:∀g b,Sh g b->∀l,G2 l b->PermW t g l
 quiet:Quiet (λl=>∃b,Wb b/\G2 l b) t
 low:∀op∈t,∀x,op.act.touch?=Y x->x.loc.low B
 gs:∀(i:Nat)(op:MemOp),t[i]?=Y op->op.g<n
def Qs(S:Nat->zy)(g:Nat)(X:zy):Nat->zy:=λh b=>if h=g then X b else S h b
def ev(S:Nat->zy)(g:Nat)(X:zy)(b:Nat):Qs S g X g b↔X b:=by simp[Qs]
def Wf(S:Nat->zy){g h:Nat}(X:zy)(e:h≠g)(b:Nat):Qs S g X h b↔S h b:=by simp[Qs,e]
section
variable{Wb:zy}{n B:Nat}{S Sh:Nat->zy}{t:Trace}
def aYS{d j:zy}{e:C5}{x:Touch}(h:LB j d e)(hx:(LG e).touch?=Y x):∃b,G2 x.loc b/\(d b∨j b/\x.write=A9):=by cases h with|cell w s h=>rename_i a;simp only[LG,cN,Xa]at hx;subst hx;exact⟨a.block,AD ⟨a,rfl,rfl⟩,h⟩|obj w s h=>rename_i r;cases w<;>cases s<;>simp only[LG,cN,Xa,reduceCtorEq]at hx;all_goals(subst hx;exact⟨r,AJ rfl,h⟩)|extern f=>simp[LG,cN]at hx|noRoom=>simp[LG,cN]at hx
def JK.fresh(h:JK Wb n B S Sh t){b:Nat}(I:B<=b)(z:G2 l b)(g:Nat):Perm t g l:=by intro i a y e;obtain⟨x,hx,H⟩:=touch_of y;have s:=h.low x (fN hx) a H;exfalso;subst e;have:=z.low s;omega
def JK.step(R:Mj Wb n B S Sh)(h:JK Wb n B S Sh t){g:Nat}(AI:g<n){B':Nat}(C:B<=B'){X:zy}(d:∀b,X b↔S g b∨B<=b/\b<B'){fn:FuncId}{pos:String}{es:Array C5}(D:∀e∈es,LB (Sh g) X e):Mj Wb n B' (Qs S g X) Sh/\JK Wb n B' (Qs S g X) Sh (t++Km g fn pos es):=by
 have f:∀b,X b∨Sh g b->b<B':=λb H=>by
  rcases H with H|H
  ·rcases(d b).1 H with h1|h1;·have:=R.low g b (AD h1);omega
   exact h1.2
  have:=R.low g b (AJ H);omega
 have A:∀Q b,Q≠g->S Q b->¬X b:=λQ b L hs hx=>by
  rcases(d b).1 hx with h1|h1;·exact L (R.apart _ _ b hs h1)
  have:=R.low Q b (AD hs);omega
 have j:∀Q b,X b->¬Sh Q b:=λQ b hx hs=>by
  rcases(d b).1 hx with h1|h1;·exact R.Tc _ _ b h1 hs
  have:=R.low Q b (AJ hs);omega
 have m:∀b,Wb b->¬X b:=λb K hx=>by
  rcases(d b).1 hx with h1|h1;·exact(R.wg g b K).1 h1
  have:=R.Pb b K;omega
 have U:∀y∈Km g fn pos es,y.g=g/\∀x,y.act.touch?=Y x->∃b,G2 x.loc b/\(X b∨Sh g b/\x.write=A9):=λy z=>by obtain⟨e,he,rfl⟩:=Kl z;exact⟨rfl,λx hx=>aYS (D e he) hx⟩
 refine⟨⟨λa c b=>?_,λa c b=>?_,λa b K=>⟨?_,(R.wg a b K).2⟩,λa b H=>?_,λa b H=>?_,λb H=>by have:=R.Pb b H;omega⟩,λsaid=>?_,λa b hs l AE=>?_,λa b hs l AE=>?_,h.quiet.app λy z x hx K=>?_,λy z=>?_,λi y hi=>?_⟩
 ·by_cases s:a=g<;>by_cases q:c=g;·intros;rw[s,q]
  ·rw[s,ev,Wf _ _ q];exact λh1 h2=>absurd h1 (A c b q h2)
  ·rw[q,ev,Wf _ _ s];exact λh1 h2=>absurd h2 (A a b s h1)
  rw[Wf _ _ s,Wf _ _ q];exact R.apart a c b
 ·by_cases s:a=g;·rw[s,ev];exact j c b
  rw[Wf _ _ s];exact R.Tc a c b
 ·by_cases s:a=g;·rw[s,ev];exact m b K
  rw[Wf _ _ s];exact(R.wg a b K).1
 ·by_cases s:a=g;·rw[s,ev]at H;exact f b H
  rw[Wf _ _ s]at H;have:=R.low a b H;omega
 ·by_cases s:a=g;·rw[s];exact AI
  rw[Wf _ _ s]at H;exact R.num a b H
 ·refine noRace_append (h.nr said) (λy z=>(U y z).1) λi a AB y z b H hc=>?_;obtain⟨I,M,N⟩:=(U y z).2 b H;rcases N with hx|⟨hs,K⟩
  ·rcases(d I).1 hx with h1|h1;·exact h.own g I h1 b.loc M i a AB hc.1
   exact h.fresh h1.1 M g i a AB hc.1
  exact h.shr g I hs b.loc M i a AB hc.1 (hc.2.2.1.resolve_right (by simp[K]))
 ·by_cases s:a=g
  ·subst s;rw[ev]at hs;refine Perm.app ?_ λy z _ _ _=>(U y z).1;rcases(d b).1 hs with h1|h1;·exact h.own a b h1 l AE
   exact h.fresh h1.1 AE a
  rw[Wf _ _ s]at hs;refine(h.own a b hs l AE).app λy z x hx e=>?_;obtain⟨I,M,N⟩:=(U y z).2 x hx;have:I=b:=G2.one (e▸M) AE;subst this;rcases N with h1|⟨h1,_⟩;·exact absurd h1 (A a I s hs)
  exact absurd h1 (R.Tc a g I hs)
 ·refine(h.shr a b hs l AE).app λy z x hx e K=>?_;obtain⟨I,M,N⟩:=(U y z).2 x hx;have:I=b:=G2.one (e▸M) AE;subst this;rcases N with h1|⟨_,h1⟩;·exact absurd hs (j a I h1)
  rw[h1]at K;cases K
 ·obtain⟨T,Au,W⟩:=K;obtain⟨I,M,N⟩:=(U y z).2 x hx;have:I=T:=G2.one M W;subst this;rcases N with h1|⟨h1,_⟩;·exact absurd h1 (m I Au)
  exact absurd h1 (R.wg g I Au).2
 ·rcases Array.mem_append.1 z with z|z;·exact λx hx=>Loc.low_mono C (h.low y z x hx)
  intro x hx;obtain⟨I,M,N⟩:=(U y z).2 x hx;exact M.of_low (f I (N.imp id And.left))
 rcases getElem?_append_cases hi with⟨_,CR⟩|⟨_,dx⟩;·exact h.gs i y CR
 rw[(U y dx).1];exact AI
end
end
end Go.Proofs.YtcfhleenecfghaaGreatDoor.Twin
