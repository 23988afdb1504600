import Derived.Calls
import Derived.Laws.Sem
import GoSem.Extern.BytealgIndex
import GoSem.Extern.BytealgCount
import GoSem.Extern.BytealgIndexByte
import GoSem.Extern.BytealgCompare
import GoSem.Extern.BytealgMakeNoZero
import GoSem.Extern.AbiNoEscape
import Derived.Conc.Own
import Derived.Conc.Fork
import Derived.Conc.Listed
set_option linter.all false
set_option maxHeartbeats 4000000
set_option maxRecDepth 100000
open Array renaming append_empty->U2,ext_getElem?->nD,filter->XV,foldlM_toList->hU,foldl_toList->a6j,forIn_toList->nF,getD_eq_getD_getElem?->JX,getElem?_append_left->vU,getElem?_append_right->vV,getElem?_eq_getElem->ET,getElem?_mapIdx->ck,getElem?_modify->hV,getElem?_push_lt->H4,getElem?_setIfInBounds->H5,getElem?_setIfInBounds_ne->JF,getElem?_toList->Se,length_toList->Ph,mapM_eq_foldlM->hX,mem_of_getElem?->cm,range->nI,toList_append->vY,toList_extract->aZt,toList_filter->a6n,toList_map->aZu,toList_modify->vZ
open Bind renaming bind->aYv
open Bool renaming and_eq_true->IP,eq_iff_iff->U3,false->A5,false_eq_true->EU,not_false->U4,not_true->Sg,true->A0
open Classical renaming byContradiction->nN,choose->aD,choose_spec->U5
open Decidable renaming decide->Bn
open Except renaming bind->Vd,error->aZ',ok->aYO,pure->Ve
open Except.ok renaming injEq->aG
open ForIn renaming forIn->Xb
open Go renaming Addr->Aa,BinOp->Im,BoundsCode->vl,Event->By,Frame->AY,Func->JG,GStep->o7,Goroutine->AK,Halt->hz,IntKind->KY,Item->Cw,Machine->UI,MapEntry->Ft,Mark->iJ,Mode->iK,Next->MF,Obj->Du,Oper->Bf,Operand->C2,PanicEntry->wo,Place->dQ,Program->Ac,Question->aZi,RuntimeError->a9t,Sem->BQ,Tape->Mw,TypeDesc->xR,TypeId->A_,TypeInfo->Mx,Value->A1,World->A',asAddr->ie,asInt->aZ9,asIntOf->aZS,asNumber->xT,askRoom->ig,behindNumber->ij,boundsPanic->Vp,byteOf->xV,byteOfCell->oi,callDeferred->aA6,callFunc->Pw,cellAtBytes->aA7,cellsIn->xW,choose->Sy,convert->dh,elemOf->Vq,eqGuard->xX,execOp->AU,exitTo->Px,fieldPlace->ik,findLabel->il,follow->xY,globalAddr->xZ,gotoIn->Vr,load->xb,loadBytes->Xz,loadCellsFrom->xc,loadVar->xd,mayBeOne->xe,method->xg,movedNumber->im,movedPointer->iq,newRow->xh,newVar->aZq,noView->xi,numberAt->xj,partAt->xk,plainCell->Vs,program->ir,receiverAt->xl,resolve->Y',results->De,runN->Ek,runtimePanic->RJ,sameAddr->xm,seen->IU,seenCells->iu,sizeOf->UK,step->di,stepG->Be,storeCells->xo,storeVar->xp,stringish->xq,stuck->Vt,typeInfo->RL,undef->Y,underlying->Iq,unsupported->a_I,unwind->HL,variablesAt->dj,viewAt->xr,yielded->Gu,zeroValue->RM
open Go.Addr renaming add->Ht
open Go.Addr.mk renaming injEq->aTp
open Go.Builtin renaming append_->U9,cap_->vm,clear_->vn,copy_->vp,firstCells->nR,holdsCells->hZ,lenOf->nS,len_->h_,mayShare->nT,min2->ha,min_->vq,ssaWrapNilChk_->vs,unsafeAdd_->hd,unsafeSliceData->aZA,unsafeSliceData_->vt,unsafeString->aZV,unsafeString_->aK,zeroCells->UA
open Go.Call renaming operands->nU
open Go.CallKind renaming early->aYR,normal->a73,wrapped->a74
open Go.Callee renaming builtin->aYV,value->aYa
open Go.Conc renaming mem_seen->aN,runT_solo_go->vw,solo->EB,stepT_solo->nj
open Go.Conv renaming bytesToString->wE,seenAt->wF,unsafePointer->wG
open Go.Deferred renaming ofValue->aO
open Go.Extern.AbiNoEscape renaming same->hr
open Go.Extern.BytealgCompare renaming compare->o0
open Go.Extern.BytealgCount renaming count->o3
open Go.Extern.BytealgIndex renaming index->o4,maxLen->aU3
open Go.Extern.BytealgIndexByte renaming indexByte->o5
open Go.Extern.BytealgMakeNoZero renaming digits->wH,makeNoZero->o6
open Go.Extern.Bytes renaming asByte->wI,bytesOf->wJ,loadBytes->wK
open Go.Fn renaming func->aYI
open Go.Frame renaming enter->GR,finish->dG,oper?->wN,raise->a7s
open Go.FrameMode renaming panicking->aZH,returning->aYX,run->aYY
open Go.GStep renaming after->Nh,ended->aYs,go->aYE
open Go.GoStatus renaming running->aYF
open Go.Goroutine.mk renaming injEq->UC
open Go.Halt renaming unsupported->aZz
open Go.Instr renaming alloc->wO,box->i',build->iA,buildSlice->dH,checkKey->iB,entryStore->dI,extract->wP,field->wQ,fieldAt->iC,fill->UD,findAsking->wR,findKey->UE,findNow->iD,index->wS,indexAt->Xj,keyThatStays->wT,loadAt->iE,lookup->Hv,makeFunc->a7v,makeInterface->wV,makeMap->aQ,makeSlice->dJ,mapEntry->Xk,mapUpdate->Vl,next->wW,panic->a7w,range->dK,sameBits->Xl,sameNow->wX,slice->o8,sliceAt->wY,sliceBound->iF,sliceBounds->wZ,storeAt->iG,sureAddr->dL,typeAssert->Ob
open Go.IntKind renaming i64->Po
open Go.Item renaming code->aY9,inLoop->aYn,inRegion->aY7
open Go.Loc renaming cell->aYL,mark->aY_,obj->aYb
open Go.Machine renaming gs->oB,world->aU5
open Go.Made renaming infoAt->oC,reckon->oD,reckonStruct->oE
open Go.Mark renaming extern->aZX,noRoom->aZY
open Go.Mode renaming atomic->aYZ,plain->a89
open Go.Next renaming enter->aYl,skip->aYU,value->aYD
open Go.Obj renaming cells->BE,mapIter->aZJ,stringIter->a_0
open Go.Op renaming addrCmp->iL,addrMod->iM,addrSub->iN,assign->aYt,buildSlice->aZL,call->a8E,entryStore->aZa,eqGuardIn->iO,equal->Ss,equalIn->Mt,fieldAddr->a_1,indexAddr->aZ3,insert->aZb,intArith->oG,intBits->oH,intCmp->oI,intDiv->oJ,makeFunc->a_2,makeInterface->a_3,makeMap->aZc,makeSlice->aZ4,mapEntry->aZd,mapUpdate->aZe,nilCheck->aZ5,operands->Dn,range->aZf,shift->oK,stringOp->aT,twoPlaces->iQ,typeAssert->a_4,unary->iR
open Go.Operand renaming const->aU7,func->aYM,tmp->oM
open Go.Outcome renaming stuck->aZN,unsupported->aYy
open Go.Question renaming cut->aUO,forced->aUP,order->aYq
open Go.Region renaming wanted->EY
open Go.Result renaming halt->aYm,ok->aY6
open Go.Result.ok renaming injEq->i_
open Go.Sem renaming bind->Dy,freeze->aZj,getObj->aZk,halt->a9u,program->a9v,pure->Mu,run->aW,runT->DV,shape->aZl,store->aZm
open Go.Stepped renaming next->aYG
open Go.Stepped.next renaming inj->Xy,injEq->RH
open Go.TypeDesc renaming array->aZn,int->aYh,map->aYr,pointer->aYe,string->aZo,unsafePointer->aZp
open Go.Unsupported renaming initOrder->aZ6,noEntry->aZ7
open Go.Value renaming agg->dd,bool->aY5,chan->aYC,func->aYK,iface->aYJ,int->IS,map->E3,nilFunc->aZ8,nilIface->aYA,ofBytes->a9z,pointer->aY4,slice->As,string->AI,tuple->aY8
open Go.World renaming cell?->F3,farLoad->og,farStore->oh,freeze->ib,frozen?->ic,noCell->aA2,setCell->La,viewStore->a_G
open Go.stepG renaming apply->MI,exec->C6,oper->iv
open List renaming all_cons->aBJ,cons_append->ML,cons_ne_nil->aBM,extract_eq_take_drop->a_K,foldlM_cons->pY,foldlM_nil->aBQ,forIn_cons->aBR,forIn_nil->aBS,getElem?_cons_succ->yQ,getElem?_cons_zero->jM,getElem?_toArray->W0,map_cons->GU,map_nil->K8,map_toArray->Le,mem_cons_of_mem->I8,mem_cons_self->N',range->H9
open List.cons renaming inj->Om
open Nat renaming add_zero->a_N,exists_eq_add_of_le->pn,le_of_not_lt->e8,le_refl->AX,le_trans->HA,lt_irrefl->aBu,lt_or_ge->IW
open Option renaming bind_eq_bind->Nu,bind_eq_some_iff->IX,bind_some->RR,elim_none->pr,elim_some->aC1,map_some->MP,none->J,some->Z
open Option.some renaming inj->D3,injEq->W5
open Or renaming inl->AA,inr->AF
open Prod.mk renaming injEq->Ot
open Pure renaming pure->Fi
open Std.Legacy renaming Range->aUX
open Std.Legacy.Range renaming forIn_eq_forIn_range'->yj
namespace Go.Proofs.YtcfhleenecfghaaGreatDoor.Twin
variable{BZ w w' w1:A'}{k k' v v' x x' y y':A1}{g:AK}{fr fr':AY}{t u:A_}{VB:A_->Option Mx}{RY a a' at_ b':Aa}{P:Ac}{c c':Array A1}{es es1:Array By}{s:BQ A1}{b:Bool}{ρ ρ':C2->A1}{o o':Du}{fn:JG}{l:List Aa}{AL:List UInt8}{Bm:MF}{i:Mx}{Bw d8:Type}
def D4:Nat:=6
def veiled(t:Nat):Prop:=t=190∨t=5
structure AN where
 rel:Nat->Nat->Prop
 one:∀b c c',rel b c->rel b c'->c=c'
 other:∀b b' c,rel b c->rel b' c->b=b'
 low:∀b c,rel b c->(b<D4↔c<D4)
variable{E m2:AN}
def AN.le(E f:AN):Prop:=∀b e,E.rel b e->f.rel b e
def AN.cz(E:AN)(b b':Nat):Prop:=(∀c,¬E.rel b c)/\(∀c,¬E.rel c b')/\(b<D4↔b'<D4)
def AN.add(E:AN)(b b':Nat)(h:E.cz b b'):AN where
 rel:=λx y=>E.rel x y∨x=b/\y=b'
 one:=by
  rintro x c f(e|⟨rfl,rfl⟩)(h2|⟨h3,rfl⟩);·exact E.one _ _ _ e h2
  ·subst h3;exact absurd e (h.1 _)
  ·exact absurd h2 (h.1 _)
  ·rfl
 other:=by
  rintro x m c(e|⟨rfl,rfl⟩)(h2|⟨rfl,h3⟩);·exact E.other _ _ _ e h2
  ·subst h3;exact absurd e (h.2.1 _)
  ·exact absurd h2 (h.2.1 _)
  ·rfl
 low:=by
  rintro x c(e|⟨rfl,rfl⟩);·exact E.low _ _ e
  ·exact h.2.2
theorem AN.le_refl(E:AN):E.le E:=λ_ _ h=>h
theorem AN.le_trans{d:AN}(h:E.le m2)(k:m2.le d):E.le d:=λb e x=>k b e (h b e x)
theorem AN.gT(E:AN)(b b':Nat)(h:E.cz b b'):E.le (E.add b b' h):=λ_ _ h=>AA h
theorem AN.RX(E:AN)(b b':Nat)(h:E.cz b b'):(E.add b b' h).rel b b':=AF ⟨rfl,rfl⟩
def D7(E:AN)(a a':Aa):Prop:=E.rel a.block a'.block/\a'.off=a.off/\a'.spot=a.spot
theorem D7.mono(h:D7 E a a')(b:E.le m2):D7 m2 a a':=⟨b _ _ h.1,h.2⟩
theorem D7.add{E:AN}{a a':Aa}(h:D7 E a a')(n:Nat):D7 E (a.add n) (a'.add n):=by
 obtain⟨b,h2,h3⟩:=h;unfold Ht;split;·exact⟨b,h2,h3⟩
 ·exact⟨b,by simp[h2],rfl⟩
mutual inductive AJ(F:Nat->Prop)(E:AN):A1->A1->Prop|bool(b:Bool):AJ F E (aY5 b) (aY5 b)|int(k:KY)(n:Int):AJ F E (IS k n) (IS k n)|string(s:ByteArray):AJ F E (AI s) (AI s)|Gm:AJ F E (aY4 J) (aY4 J)|ptr{a a':Aa}:D7 E a a'->AJ F E (aY4 (Z a)) (aY4 (Z a'))|Gt(l c:Nat):AJ F E (As J l c) (As J l c)|slice{a a':Aa}(l c:Nat):D7 E a a'->AJ F E (As (Z a) l c) (As (Z a') l c)|Qg:AJ F E (E3 J) (E3 J)|map{r Bc:Nat}:E.rel r Bc->AJ F E (E3 (Z r)) (E3 (Z Bc))|WN:AJ F E (aYC J) (aYC J)|chan{r Bc:Nat}:E.rel r Bc->AJ F E (aYC (Z r)) (aYC (Z Bc))|func{f:Nat}{a a' b b':Array A1}:F f->Ab F E a.toList a'.toList->Ab F E b.toList b'.toList->AJ F E (aYK (aYI f) a b) (aYK (aYI f) a' b')|nilFunc:AJ F E aZ8 aZ8|iface(t:Nat){v v':A1}:AJ F E v v'->AJ F E (aYJ t v) (aYJ t v')|nilIface:AJ F E aYA aYA|agg{a a':Array A1}:Ab F E a.toList a'.toList->AJ F E (dd a) (dd a')|tuple{a a':Array A1}:Ab F E a.toList a'.toList->AJ F E (aY8 a) (aY8 a')inductive Ab(F:Nat->Prop)(E:AN):List A1->List A1->Prop|nil:Ab F E [] []|cons{v v':A1}{l g6:List A1}:AJ F E v v'->Ab F E l g6->Ab F E (v::l) (v'::g6)end
mutual theorem AJ.mono{F:Nat->Prop}{E m2:AN}(fd:E.le m2):∀{v v':A1},AJ F E v v'->AJ F m2 v v'|_,_,.bool b=>.bool b|_,_,.int k n=>.int k n|_,_,.string s=>.string s|_,_,.Gm=>.Gm|_,_,.ptr h=>.ptr (h.mono fd)|_,_,.Gt l c=>.Gt l c|_,_,.slice l c h=>.slice l c (h.mono fd)|_,_,.Qg=>.Qg|_,_,.map h=>.map (fd _ _ h)|_,_,.WN=>.WN|_,_,.chan h=>.chan (fd _ _ h)|_,_,.func h a b=>.func h (a.mono fd) (b.mono fd)|_,_,.nilFunc=>.nilFunc|_,_,.iface t h=>.iface t (h.mono fd)|_,_,.nilIface=>.nilIface|_,_,.agg h=>.agg (h.mono fd)|_,_,.tuple h=>.tuple (h.mono fd)theorem Ab.mono{F:Nat->Prop}{E m2:AN}(fd:E.le m2):∀{l g6:List A1},Ab F E l g6->Ab F m2 l g6|_,_,.nil=>.nil|_,_,.cons h t=>.cons (h.mono fd) (t.mono fd)end
section
variable{F:Nat->Prop}{E:AN}
theorem Ab.length:∀{l d:List A1},Ab F E l d->d.length=l.length|_,_,.nil=>rfl|_,_,.cons _ t=>congrArg (·+1) t.length
theorem Ab.get:∀{l d:List A1},Ab F E l d->∀(i:Nat){v:A1},l[i]?=Z v->∃b,d[i]?=Z b/\AJ F E v b|_,_,.nil,i,_,h=>by simp at h|_,_,.cons h t,0,_,e=>by simp at e;subst e;exact⟨_,rfl,h⟩|_,_,.cons h t,i+1,_,e=>by simpa using t.get i (by simpa using e)
theorem Ab.of{l d:List A1}(b:d.length=l.length)(h:∀(i:Nat)(v v':A1),l[i]?=Z v->d[i]?=Z v'->AJ F E v v'):Ab F E l d:=by
 induction l generalizing d with
 |nil=>
  cases d with
  |nil=>exact .nil
  |cons=>simp at b
 |cons v l m=>
  cases d with
  |nil=>simp at b
  |cons v' d=>exact .cons (h 0 v v' rfl rfl) (m (by simpa using b) λi x p e f=>h (i+1) x p (by simpa using e) (by simpa using f))
theorem Ab.append:∀{a a' b b':List A1},Ab F E a a'->Ab F E b b'->Ab F E (a++b) (a'++b')|_,_,_,_,.nil,k=>k|_,_,_,_,.cons h t,k=>.cons h (t.append k)
theorem Ab.drop:∀{l d:List A1}(n:Nat),Ab F E l d->Ab F E (l.drop n) (d.drop n)|_,_,0,h=>by simpa using h|_,_,n+1,.nil=>by simpa using .nil|_,_,n+1,.cons _ t=>by simpa using t.drop n
theorem Ab.take:∀{l d:List A1}(n:Nat),Ab F E l d->Ab F E (l.take n) (d.take n)|_,_,0,_=>by simpa using .nil|_,_,n+1,.nil=>by simpa using .nil|_,_,n+1,.cons h t=>by simpa using .cons h (t.take n)
end
def Mr(p q:Nat×Nat):Prop:=q.1=q.2∨p.1<=q.1/\q.2<=p.2/\p.1≠p.2
theorem Mr.refl(p:Nat×Nat):Mr p p:=by
 by_cases h:p.1=p.2;·exact AA h
 ·exact AF ⟨AX _,AX _,h⟩
inductive E5(F:Nat->Prop)(E:AN):List Ft->List Ft->Prop|nil:E5 F E [] []|cons{k k' v v':A1}{n:Nat}{l g6:List Ft}:AJ F E k k'->AJ F E v v'->E5 F E l g6->E5 F E ({key:=k,val:=v,born:=n}::l) ({key:=k',val:=v',born:=n}::g6)
inductive GI(F:Nat->Prop)(E:AN):Du->Du->Prop|cells{c c':Array A1}(t:Nat){p q:Nat×Nat}:Ab F E c.toList c'.toList->Mr p q->GI F E (BE c t p) (BE c' t q)|number{a a':Aa}(l:Bool):D7 E a a'->GI F E (.number a l) (.number a' l)|map{es es':Array Ft}(n:Nat):E5 F E es.toList es'.toList->GI F E (.map es n) (.map es' n)|chan(cap:Nat){b b':Array A1}(cl:Bool)(s r:Nat)(tm:Bool):Ab F E b.toList b'.toList->GI F E (.chan cap b cl s r tm) (.chan cap b' cl s r tm)|stringIter(s:ByteArray)(p:Nat):GI F E (a_0 s p) (a_0 s p)|gZ(a:Nat)(s:Array Nat)(b:Nat):GI F E (aZJ J a s b) (aZJ J a s b)|mapIter{m Bv:Nat}(a:Nat)(s:Array Nat)(b:Nat):E.rel m Bv->GI F E (aZJ (Z m) a s b) (aZJ (Z Bv) a s b)|view{a a':Aa}(t:Nat):veiled t->D7 E a a'->GI F E (.view a t) (.view a' t)
theorem E5.mono{F:Nat->Prop}{E m2:AN}(b:E.le m2):∀{l d:List Ft},E5 F E l d->E5 F m2 l d|_,_,.nil=>.nil|_,_,.cons h k t=>.cons (h.mono b) (k.mono b) (t.mono b)
theorem GI.mono{F:Nat->Prop}{E m2:AN}(e:E.le m2):∀{o o':Du},GI F E o o'->GI F m2 o o'|_,_,.cells t h z=>.cells t (h.mono e) z|_,_,.number l h=>.number l (h.mono e)|_,_,.map n h=>.map n (h.mono e)|_,_,.chan cap cl s r tm h=>.chan cap cl s r tm (h.mono e)|_,_,.stringIter s p=>.stringIter s p|_,_,.gZ a s b=>.gZ a s b|_,_,.mapIter a s b h=>.mapIter a s b (e _ _ h)|_,_,.view t v h=>.view t v (h.mono e)
inductive YF(E:AN):iJ->iJ->Prop|extern(f:Nat):YF E (aZX f) (aZX f)|noRoom:YF E aZY aZY
def TN:hz->Prop|.panic _|.stuck _=>True|aZz u=>∀g,u≠aZ6 g|_=>False
def BO(P:Ac){d8:Type}(s:BQ d8):Prop:=∀w b,∃h e es1,s.runT P w b=(aYm h e,es1)/\TN h
def F6(P:Ac){d8:Type}(s:BQ d8):Prop:=∀w b h e es1,s.runT P w b=(aYm h e,es1)->TN h
theorem BO.ne{s:BQ d8}(h:BO P s)(w:A')(es:Array By)(a:d8)(w1:A')(es1:Array By):s.runT P w es≠(aY6 a w1,es1):=by obtain⟨x,y,z,e,_⟩:=h w es;rw[e];exact λh=>by cases h
theorem IK(s:BQ d8)(f:d8->BQ Bw):∀(w:A')(es:Array By),(s.bind f).runT P w es=match s.runT P w es with|(aY6 a w1,es1)=>(f a).runT P w1 es1|(aYm h w1,es1)=>(aYm h w1,es1):=by
 induction s with
 |pure a=>intro w es;rfl
 |load m a k b=>
  intro w es;simp only[Dy,DV];split;·exact b _ _ _
  ·split;·exact b _ _ _
   ·rfl
 |store m a v k b=>
  intro w es;cases v<;>simp only[Dy,DV];all_goals
   split
   ·split;·rfl
    ·exact b _ _
   ·split;·exact b _ _
    ·rfl
 |new o k b=>intro w es;exact b _ _ _
 |shape r k b=>intro w es;exact b _ _ _
 |freeze a n k b=>intro w es;exact b _ _
 |frozen a k b=>intro w es;exact b _ _ _
 |getObj r k b=>
  intro w es;simp only[Dy,DV];split;·rfl
  ·exact b _ _ _
  ·rfl
 |setObj r o k b=>
  intro w es;simp only[Dy,DV];split;·rfl
  ·exact b _ _
  ·rfl
 |choose q k b=>
  intro w es;simp only[Dy,DV];split;·exact b _ _ _
  ·exact b _ _ _
 |sys c k b=>intro w es;exact b _ _ _
 |program k b=>intro w es;exact b _ _ _
 |mark m k b=>intro w es;exact b _ _
 |halt h=>intro w es;rfl
theorem BO.bind{P:Ac}{d8 Bw:Type}{s:BQ d8}{f:d8->BQ Bw}(h:BO P s):BO P (s.bind f):=by intro w b;obtain⟨x,y,z,e,k⟩:=h w b;exact⟨x,y,z,by rw[IK,e],k⟩
theorem BO.behind{s:BQ d8}{f:d8->BQ Bw}(b:F6 P s)(h:∀a,BO P (f a)):BO P (s.bind f):=by
 intro w m;rw[IK];split;·exact h _ _ _
 ·rename_i e;exact⟨_,_,_,rfl,b _ _ _ _ _ e⟩
theorem BO.halt(h:hz)(b:TN h:=by first|trivial|(intro g e;cases e)):BO P (a9u h:BQ d8):=λ_ _=>⟨_,_,_,rfl,b⟩
theorem F6.bind{P:Ac}{d8 Bw:Type}{s:BQ d8}{f:d8->BQ Bw}(hs:F6 P s)(h:∀a,F6 P (f a)):F6 P (s.bind f):=by
 intro w b x m es1 e;rw[IK]at e;split at e;·exact h _ _ _ _ _ _ e
 ·rename_i e2;cases e;exact hs _ _ _ _ _ e2
theorem F6.pure(a:d8):F6 P (Mu a):=λ_ _ _ _ _ e=>by cases e
theorem F6.program{k:Ac->BQ d8}(h:F6 P (k P)):F6 P (a9v k):=λ_ _ _ _ _ e=>h _ _ _ _ _ e
theorem F6.dead{s:BQ d8}(h:BO P s):F6 P s:=by intro w b x f es1 e;obtain⟨y,_,_,e2,k⟩:=h w b;rw[e2]at e;cases e;exact k
structure Dr where
 obj:Nat->Prop
 Lm:Prop
 own:Nat->List Nat
 HP:Prop
def Vf(o o':Du):Prop:=∀c t p b e q,o=BE c t p->o'=BE b e q->q=p
def AN.Self(E:AN):Prop:=∀b e,E.rel b e->e=b
theorem D7.self(f:E.Self)(h:D7 E a a'):a'=a:=by obtain⟨b,o,s⟩:=a;obtain⟨m,p,x⟩:=a';obtain⟨e,h2,h3⟩:=h;simp only at e h2 h3;rw[f _ _ e,h2,h3]
mutual theorem AJ.same{F:Nat->Prop}{E:AN}(fd:E.Self):∀{v v':A1},AJ F E v v'->v'=v|_,_,.bool b=>rfl|_,_,.int k n=>rfl|_,_,.string s=>rfl|_,_,.Gm=>rfl|_,_,.ptr h=>by rw[h.self fd]|_,_,.Gt l c=>rfl|_,_,.slice l c h=>by rw[h.self fd]|_,_,.Qg=>rfl|_,_,.map h=>by rw[fd _ _ h]|_,_,.WN=>rfl|_,_,.chan h=>by rw[fd _ _ h]|_,_,.func (a:=a) (a':=a') (b:=b) (b':=b') _ x y=>by have h1:a'=a:=Array.toList_inj.1 (x.same fd);have h2:b'=b:=Array.toList_inj.1 (y.same fd);rw[h1,h2]|_,_,.nilFunc=>rfl|_,_,.iface t h=>by rw[h.same fd]|_,_,.nilIface=>rfl|_,_,.agg (a:=a) (a':=a') h=>by have h1:a'=a:=Array.toList_inj.1 (h.same fd);rw[h1]|_,_,.tuple (a:=a) (a':=a') h=>by have h1:a'=a:=Array.toList_inj.1 (h.same fd);rw[h1]theorem Ab.same{F:Nat->Prop}{E:AN}(fd:E.Self):∀{l g6:List A1},Ab F E l g6->g6=l|_,_,.nil=>rfl|_,_,.cons h t=>by rw[h.same fd,t.same fd]end
theorem E5.same{F:Nat->Prop}{E:AN}(b:E.Self):∀{l d:List Ft},E5 F E l d->d=l|_,_,.nil=>rfl|_,_,.cons h k t=>by rw[h.same b,k.same b,t.same b]
theorem GI.same{F:Nat->Prop}{E:AN}(e:E.Self){o o':Du}(h:GI F E o o')(y:Vf o o'):o'=o:=by cases h with|cells t hv _=>rename_i c f p q z;have m:f=c:=Array.toList_inj.1 (hv.same e);rw[m,y _ _ _ _ _ _ rfl rfl]|number l h=>rw[h.self e]|map n h=>rename_i c f;have m:f=c:=Array.toList_inj.1 (h.same e);rw[m]|chan x cl s r A h=>rename_i c f;have m:f=c:=Array.toList_inj.1 (h.same e);rw[m]|stringIter s p=>rfl|gZ a s b=>rfl|mapIter a s b h=>rw[e _ _ h]|view t _ h=>rw[h.self e]
inductive AG(P:Ac)(F:Nat->Prop)(so:Dr){d8:Type}(Q:AN->d8->d8->Prop):AN->BQ d8->BQ d8->Prop|pure{E:AN}{a a':d8}:Q E a a'->AG P F so Q E (Mu a) (Mu a')|load{E:AN}(m:iK){a a':Aa}{k k':A1->BQ d8}:D7 E a a'->(∀v v',AJ F E v v'->AG P F so Q E (k v) (k' v'))->AG P F so Q E (.load m a k) (.load m a' k')|store{E:AN}(m:iK){a a':Aa}{v v':A1}{k k':BQ d8}:D7 E a a'->AJ F E v v'->AG P F so Q E k k'->AG P F so Q E (aZm m a v k) (aZm m a' v' k')|new{E:AN}{o o':Du}{k k':Nat->BQ d8}(A7:GI F E o o')(hk:∀b b'(hb:E.cz b b'),AG P F so Q (E.add b b' hb) (k b) (k' b'))(AR:Vf o o':=by(intro _ _ _ _ _ _ e e';first|(cases e;cases e';rfl)|cases e)):AG P F so Q E (.new o k) (.new o' k')|shape{E:AN}{r Bc:Nat}{k k':Option (A_×Nat)->BQ d8}:E.rel r Bc->(∀s,AG P F so Q E (k s) (k' s))->AG P F so Q E (aZl r k) (aZl Bc k')|freeze{E:AN}{a a':Aa}(n:Nat){k k':BQ d8}:so.Lm->D7 E a a'->AG P F so Q E k k'->AG P F so Q E (aZj a n k) (aZj a' n k')|frozen{E:AN}{a a':Aa}{k k':Bool->BQ d8}:so.HP->D7 E a a'->(∀b:Bool,AG P F so Q E (k b) (k' b))->AG P F so Q E (.frozen a k) (.frozen a' k')|getObj{E:AN}{r Bc:Nat}{k k':Du->BQ d8}:E.rel r Bc->(∀o o',GI F E o o'->AG P F so Q E (k o) (k' o'))->AG P F so Q E (aZk r k) (aZk Bc k')|setObj{E:AN}{r Bc:Nat}{o o':Du}{k k':BQ d8}:so.obj r->E.rel r Bc->(∀c t p,o≠BE c t p)->GI F E o o'->AG P F so Q E k k'->AG P F so Q E (.setObj r o k) (.setObj Bc o' k')|choose{E:AN}(q:aZi){k k':Nat->BQ d8}:(∀n,AG P F so Q E (k n) (k' n))->AG P F so Q E (.choose q k) (.choose q k')|program{E:AN}{k k':Ac->BQ d8}:AG P F so Q E (k P) (k' P)->AG P F so Q E (a9v k) (a9v k')|mark{E:AN}{m Bv:iJ}{k k':BQ d8}:YF E m Bv->AG P F so Q E k k'->AG P F so Q E (.mark m k) (.mark Bv k')|dead{E:AN}{s:BQ d8}(D9:BQ d8):BO P s->AG P F so Q E s D9
theorem AG.halt{P:Ac}{F:Nat->Prop}{so:Dr}{d8:Type}{Q:AN->d8->d8->Prop}{E:AN}(h:hz)(s:BQ d8)(b:TN h:=by first|trivial|(intro g e;cases e)):AG P F so Q E (a9u h) s:=.dead s (BO.halt h b)
theorem AG.bind{P:Ac}{F:Nat->Prop}{so:Dr}{d8 Bw:Type}{Q:AN->d8->d8->Prop}{R:AN->Bw->Bw->Prop}{E:AN}{s d:BQ d8}{f f':d8->BQ Bw}(h:AG P F so Q E s d)(p:∀x,E.le x->∀a y,Q x a y->AG P F so R x (f a) (f' y)):AG P F so R E (s.bind f) (d.bind f'):=by induction h with|pure q=>exact p _ (AN.le_refl _) _ _ q|load m a _ e=>exact .load m a λv M hv=>e v M hv p|store m a v _ e=>exact .store m a v (e p)|new o _ I e=>exact .new o (λb C A=>e b C A λx D=>p x (AN.le_trans (AN.gT _ _ _ A) D)) I|shape r _ e=>exact .shape r λs=>e s p|freeze n z a _ e=>exact .freeze n z a (e p)|frozen z a _ e=>exact .frozen z a λb=>e b p|getObj r _ e=>exact .getObj r λo K H=>e o K H p|setObj w r hc o _ e=>exact .setObj w r hc o (e p)|choose q _ e=>exact .choose q λn=>e n p|program _ e=>exact .program (e p)|mark m _ e=>exact .mark m (e p)|dead d h=>exact .dead _ h.bind
structure C3(F:Nat->Prop)(so:Dr)(RO:Nat->Prop)(E:AN)(w w':A'):Prop where
 heap:∀b b',E.rel b b'->∃o o',w.heap[b]?=Z o/\w'.heap[b']?=Z o'/\GI F E o o'
 tape:∀i q,w'.tape (w'.drawn+i) q=w.tape (w.drawn+i) q
 kept:∀b,RO b->b<w.heap.size/\((∃c t p,w.heap[b]?=Z (BE c t p)/\∀x,x<c.size->p.1<=x/\x<p.2/\True)∨¬so.obj b/\∀c t p,w.heap[b]?≠Z (BE c t p))
 low:D4<=w.heap.size/\D4<=w'.heap.size
 even:so.HP->∀b b',E.rel b b'->∀o o',w.heap[b]?=Z o->w'.heap[b']?=Z o'->Vf o o'
def ag(E:AN)(w w':A'):Prop:=E.Self/\w'.heap=w.heap
structure GF(Pr:Nat->Prop)(E:AN)(w w':A')(v2:AN)(w1 BZ:A'):Prop where
 le:E.le v2
 fresh:∀b b',v2.rel b b'->E.rel b b'∨w.heap.size<=b/\b<w1.heap.size/\w'.heap.size<=b'/\b'<BZ.heap.size
 size:w.heap.size<=w1.heap.size
 hB:w'.heap.size<=BZ.heap.size
 os:BZ.os=w'.os
 output:BZ.output=w'.output
 tape:BZ.tape=w'.tape
 cW:w1.tape=w.tape
 drawn:∃n,w1.drawn=w.drawn+n/\BZ.drawn=w'.drawn+n
 rest:∀b',b'<w'.heap.size->(∀b,E.rel b b'->Pr b)->BZ.heap[b']?=w'.heap[b']?
 X5:ag E w w'->ag v2 w1 BZ
theorem GF.refl(Pr:Nat->Prop)(E:AN)(w w':A'):GF Pr E w w' E w w':=⟨AN.le_refl _,λ_ _ h=>AA h,AX _,AX _,rfl,rfl,rfl,rfl,⟨0,rfl,rfl⟩,λ_ _ _=>rfl,id⟩
theorem GF.trans{Pr:Nat->Prop}{E d j:AN}{w w' w1 BZ w2 q:A'}(h:GF Pr E w w' d w1 BZ)(k:GF Pr d w1 BZ j w2 q):GF Pr E w w' j w2 q:=by
 obtain⟨n,a,I⟩:=h.drawn;obtain⟨m,c,K⟩:=k.drawn;have M:=h.size;have s:=h.hB;have N:=k.size;have A:=k.hB;refine⟨AN.le_trans h.le k.le,λb e x=>?_,by omega,by omega,k.os.trans h.os,k.output.trans h.output,k.tape.trans h.tape,k.cW.trans h.cW,⟨n+m,by omega,by omega⟩,λe p hn=>?_,λi=>k.X5 (h.X5 i)⟩
 ·rcases k.fresh b e x with y|⟨Q,C,U,D⟩
  ·rcases h.fresh b e y with z|⟨H,B,f,L⟩;·exact AA z
   ·exact AF ⟨H,by omega,f,by omega⟩
  ·exact AF ⟨by omega,C,by omega,D⟩
 ·rw[k.rest e (by omega) λb x=>?_,h.rest e p hn];rcases h.fresh b e x with z|⟨_,_,f,_⟩;·exact hn b z
  ·omega
inductive Vb(RO:Nat->Prop)(E:AN):By->By->Prop|cell{a a':Aa}(w s:Bool):D7 E a a'->(w=A0->¬RO a.block)->Vb RO E ⟨aYL a,w,s⟩ ⟨aYL a',w,s⟩|obj{r Bc:Nat}(w s:Bool):E.rel r Bc->(w=A0->¬RO r)->Vb RO E ⟨aYb r,w,s⟩ ⟨aYb Bc,w,s⟩|mark{m Bv:iJ}:YF E m Bv->Vb RO E ⟨aY_ m,A5,A0⟩ ⟨aY_ Bv,A5,A0⟩
inductive J_(RO:Nat->Prop)(E:AN):List By->List By->Prop|nil:J_ RO E [] []|snoc{l g6:List By}{e e':By}:J_ RO E l g6->Vb RO E e e'->J_ RO E (l++[e]) (g6++[e'])
theorem YF.mono:∀{m d:iJ},YF E m d->YF m2 m d|_,_,.extern f=>.extern f|_,_,.noRoom=>.noRoom
theorem Vb.mono{RO:Nat->Prop}{E m2:AN}(b:E.le m2):∀{e e':By},Vb RO E e e'->Vb RO m2 e e'|_,_,.cell w s h r=>.cell w s (h.mono b) r|_,_,.obj w s h r=>.obj w s (b _ _ h) r|_,_,.mark h=>.mark h.mono
theorem J_.mono{RO:Nat->Prop}{E m2:AN}(b:E.le m2):∀{l d:List By},J_ RO E l d->J_ RO m2 l d|_,_,.nil=>.nil|_,_,.snoc t h=>.snoc (t.mono b) (h.mono b)
section
variable{P:Ac}{F:Nat->Prop}{so:Dr}{RO:Nat->Prop}
theorem C3.cell{E:AN}{w w':A'}{a a':Aa}{v:A1}(h:C3 F so RO E w w')(A6:D7 E a a')(hc:w.cell? a=Z v):∃b,w'.cell? a'=Z b/\AJ F E v b:=by
 obtain⟨o,p,e,f,m⟩:=h.heap _ _ A6.1;unfold F3 at hc⊢;rw[e]at hc;rw[f];cases m with
 |cells t hv z=>
  simp only at hc⊢;rw[A6.2.2,A6.2.1];split at hc;·cases hc
  ·rename_i hs;obtain⟨b,x,y⟩:=hv.get a.off (by simpa using hc);exact⟨b,by rw[if_neg hs];simpa using x,y⟩
 |_=>cases hc
theorem C3.frozen{E:AN}{w w':A'}{a a':Aa}(h:C3 F so RO E w w')(A6:D7 E a a')(b:w'.frozen? a'=A0):w.frozen? a=A0:=by
 obtain⟨o,s,e,f,m⟩:=h.heap _ _ A6.1;unfold ic at b⊢;rw[f]at b;rw[e];cases m with
 |cells t hv z=>
  rename_i p q;simp only[A6.2.1,IP,decide_eq_true_eq]at b⊢;rcases z with z|z;·omega
  ·omega
 |_=>cases b
theorem C3.aFp(h:C3 F so RO E w w')(p:so.HP)(A6:D7 E a a'):w'.frozen? a'=w.frozen? a:=by obtain⟨o,s,e,b,f⟩:=h.heap _ _ A6.1;have m:=h.even p _ _ A6.1 o s e b;unfold ic;rw[e,b];cases f with|cells t hv z=>rw[m _ _ _ _ _ _ rfl rfl,A6.2.1]|_=>rfl
theorem C3.shape{E:AN}{w w':A'}{r Bc:Nat}(h:C3 F so RO E w w')(m:E.rel r Bc):w'.shape? Bc=w.shape? r:=by obtain⟨o,p,e,b,f⟩:=h.heap _ _ m;unfold World.shape?;rw[e,b];cases f with|cells t hv z=>have:=hv.length;simp only[Ph]at this;simp[this]|_=>rfl
theorem C3.draw(h:C3 F so RO E w w'):C3 F so RO E {w with drawn:=w.drawn+1} {w' with drawn:=w'.drawn+1}:=⟨h.heap,λi q=>by have:=h.tape (i+1) q;rw[show w'.drawn+(i+1)=w'.drawn+1+i by omega,show w.drawn+(i+1)=w.drawn+1+i by omega]at this;exact this,h.kept,h.low,h.even⟩
theorem r5(a:Array d8)(x:d8):(a.push x)[a.size]?=Z x:=by simp
theorem C3.lt(h:C3 F so RO E w w'){b b':Nat}(x:E.rel b b'):b<w.heap.size/\b'<w'.heap.size:=by obtain⟨o,m,e,f,_⟩:=h.heap b b' x;exact⟨(Array.getElem?_eq_some_iff.1 e).1,(Array.getElem?_eq_some_iff.1 f).1⟩
theorem C3.fresh(h:C3 F so RO E w w'):E.cz w.heap.size w'.heap.size:=⟨λ_ x=>aBu _ (h.lt x).1,λ_ x=>aBu _ (h.lt x).2,by have:=h.low;omega⟩
theorem C3.push{E:AN}{w w':A'}{o o':Du}(h:C3 F so RO E w w')(A:GI F E o o')(C:Vf o o'):C3 F so RO (E.add w.heap.size w'.heap.size h.fresh) {w with heap:=w.heap.push o} {w' with heap:=w'.heap.push o'}:=by
 refine⟨λb f x=>?_,h.tape,λb z=>?_,by have:=h.low;simp only[Array.size_push];omega,λD b f x p s e m=>?_⟩
 ·rcases x with x|⟨rfl,rfl⟩
  ·obtain⟨H,I,e,m,k⟩:=h.heap b f x;have:=h.lt x;refine⟨H,I,?_,?_,k.mono (AN.gT _ _ _ _)⟩;·show(w.heap.push o)[b]?=_;rw[H4 this.1];rw[<-e,ET this.1]
   ·show(w'.heap.push o')[f]?=_;rw[H4 this.2];rw[<-m,ET this.2]
  ·exact⟨o,o',r5 _ _,r5 _ _,A.mono (AN.gT _ _ _ _)⟩
 ·obtain⟨y,k⟩:=h.kept b z;have e:({w with heap:=w.heap.push o}:A').heap[b]?=w.heap[b]?:=by show(w.heap.push o)[b]?=_;rw[H4 y,ET y]
  rw[e];exact⟨by simp;omega,k⟩
 ·rcases x with x|⟨rfl,rfl⟩;·have l:=h.lt x;have e1:(w.heap.push o)[b]?=Z p:=e;have e2:(w'.heap.push o')[f]?=Z s:=m;rw[H4 l.1]at e1;rw[H4 l.2]at e2;exact h.even D b f x p s (by rw[ET l.1];exact e1) (by rw[ET l.2];exact e2)
  ·have e1:(w.heap.push o)[w.heap.size]?=Z p:=e;have e2:(w'.heap.push o')[w'.heap.size]?=Z s:=m;rw[r5]at e1 e2;obtain rfl:=D3 e1;obtain rfl:=D3 e2;exact C
end
section
variable{P:Ac}{F:Nat->Prop}{so:Dr}{RO:Nat->Prop}
theorem aFe{a a':Array Du}{r n:Nat}(h:n<=a.size)(m:a'[r]?=Z o)(f:∀b,b≠r->a'[b]?=a[b]?):n<=a'.size:=by
 cases n with
 |zero=>exact Nat.zero_le _
 |succ n=>
  by_cases e:n=r;·subst e;exact(Array.getElem?_eq_some_iff.1 m).1
  ·have:=f n e;rw[ET (by omega:n<a.size)]at this;exact(Array.getElem?_eq_some_iff.1 this).1
theorem C3.put{r Bc:Nat}(h:C3 F so RO E w w')(s:E.rel r Bc)(A7:GI F E o o')(U:w1.heap.size=w.heap.size)(I:w1.heap[r]?=Z o)(D:∀b,b≠r->w1.heap[b]?=w.heap[b]?)(t1:w1.tape=w.tape)(d1:w1.drawn=w.drawn)(K:BZ.heap[Bc]?=Z o')(H:∀b,b≠Bc->BZ.heap[b]?=w'.heap[b]?)(t2:BZ.tape=w'.tape)(d2:BZ.drawn=w'.drawn)(hk:RO r->(∃c t p,o=BE c t p/\∀x,x<c.size->p.1<=x/\x<p.2/\True)∨¬so.obj r/\∀c t p,o≠BE c t p)(AR:so.HP->Vf o o'):C3 F so RO E w1 BZ:=by
 refine⟨λb m x=>?_,λi q=>by rw[t1,d1,t2,d2];exact h.tape i q,λb N=>?_,⟨by rw[U];exact h.low.1,aFe h.low.2 K H⟩,λQ b m x p M e f=>?_⟩
 ·by_cases e:b=r;·subst e;obtain rfl:=E.one _ _ _ s x;exact⟨o,o',I,K,A7⟩
  ·have f:m≠Bc:=λf=>e (E.other _ _ _ x (f▸s));obtain⟨p,M,y,y',z⟩:=h.heap b m x;exact⟨p,M,by rw[D b e];exact y,by rw[H m f];exact y',z⟩
 ·obtain⟨A9,k⟩:=h.kept b N;refine⟨by rw[U];exact A9,?_⟩;by_cases e:b=r
  ·subst e;rw[I];rcases hk N with⟨c,t,p,rfl,y⟩|⟨y,z⟩;·exact AA ⟨c,t,p,rfl,y⟩
   ·exact AF ⟨y,λc t p x=>z c t p (D3 x)⟩
  ·rw[D b e];exact k
 ·by_cases A:b=r;·subst A;obtain rfl:=E.one _ _ _ s x;rw[I]at e;rw[K]at f;obtain rfl:=D3 e;obtain rfl:=D3 f;exact AR Q
  ·have C:m≠Bc:=λy=>A (E.other _ _ _ x (y▸s));rw[D b A]at e;rw[H m C]at f;exact h.even Q b m x p M e f
theorem GF.put{Pr:Nat->Prop}{Bc:Nat}(h:∃b,E.rel b Bc/\¬Pr b)(H:w1.heap.size=w.heap.size)(y:w1.tape=w.tape)(C:w1.drawn=w.drawn)(I:BZ.heap.size=w'.heap.size)(s:∀b,b≠Bc->BZ.heap[b]?=w'.heap[b]?)(z:BZ.tape=w'.tape)(D:BZ.drawn=w'.drawn)(o2:BZ.os=w'.os)(A:BZ.output=w'.output)(hi:ag E w w'->BZ.heap=w1.heap):GF Pr E w w' E w1 BZ:=⟨AN.le_refl _,λ_ _ x=>AA x,by omega,by omega,o2,A,z,y,⟨0,by omega,by omega⟩,λf _ hn=>s f λe=>by obtain⟨b,m,p⟩:=h;exact p (hn b (e▸m)),λi=>⟨i.1,hi i⟩⟩
theorem Ab.set{E:AN}{l d:List A1}{v v':A1}(h:Ab F E l d)(hv:AJ F E v v')(i:Nat):Ab F E (l.set i v) (d.set i v'):=by
 refine Ab.of (by simp[h.length]) λj x z e b=>?_;rw[List.getElem?_set]at e b;have s:=h.length;split at e
 ·rename_i f;split at e;·rw[if_pos f,if_pos (by omega)]at b;obtain rfl:=D3 e;obtain rfl:=D3 b;exact hv
  ·cases e
 ·rename_i f;rw[if_neg f]at b;obtain⟨y,m,p⟩:=h.get j e;rw[m]at b;obtain rfl:=D3 b;exact p
theorem VK(a:Array d8)(i:Nat)(f:d8->d8){x:d8}(h:a[i]?=Z x):(a.modify i f)[i]?=Z (f x):=by rw[hV,if_pos rfl,h];rfl
theorem Mf(a:Array d8)(i:Nat)(f:d8->d8){j:Nat}(h:j≠i):(a.modify i f)[j]?=a[j]?:=by rw[hV,if_neg λe=>h e.symm]
theorem Vf.cells{d f:Array A1}{j m:A_}{p q:Nat×Nat}(h:Vf (BE c t p) (BE c' j q)):Vf (BE d u p) (BE f m q):=by intro _ _ _ _ _ _ e b;cases e;cases b;exact h _ _ _ _ _ _ rfl rfl
theorem C3.set{E:AN}{w w':A'}{a a':Aa}{v v' u:A1}(h:C3 F so RO E w w')(A6:D7 E a a')(hv:AJ F E v v')(hc:w.cell? a=Z u)(s:¬RO a.block):C3 F so RO E (w.setCell a v) (w'.setCell a' v')/\GF RO E w w' E (w.setCell a v) (w'.setCell a' v'):=by
 obtain⟨o,o',e,m,H⟩:=h.heap _ _ A6.1;have K:=hc;unfold F3 at hc;rw[e]at hc;cases H with
 |cells t D z=>
  rename_i c A p q;simp only at hc;have y:a.spot.isSome=A5:=by
   split at hc;·cases hc
   ·simpa using‹¬a.spot.isSome=A0›
  have I:a'.spot.isSome=A5:=by rw[A6.2.2];exact y
  refine⟨h.put A6.1 (o:=BE (c.setIfInBounds a.off v) t p) (o':=BE (A.setIfInBounds a'.off v') t q) (.cells t ?_ z) ?_ ?_ ?_ rfl rfl ?_ ?_ rfl rfl (λx=>absurd x s) λC=>h.even C _ _ A6.1 _ _ e m|>.cells,GF.put ⟨_,A6.1,s⟩ ?_ rfl rfl ?_ ?_ rfl rfl rfl rfl λi=>by unfold La;rw[A6.self i.1,hv.same i.1,i.2]⟩;·rw[A6.2.1];simpa using D.set hv a.off
  ·simp[La]
  ·simp only[La];rw[VK _ _ _ e];simp[y]
  ·intro b f;simp only[La];exact Mf _ _ _ f
  ·simp only[La];rw[VK _ _ _ m];simp[I]
  ·intro b f;simp only[La];exact Mf _ _ _ f
  ·simp[La]
  ·simp[La]
  ·intro b f;simp only[La];exact Mf _ _ _ f
 |_=>cases hc
end
section
variable{P:Ac}{F:Nat->Prop}{so:Dr}{RO:Nat->Prop}
def TJ(p:Nat×Nat)(o n:Nat):Nat×Nat:=if p.1==p.2 then(o,o+n)else(min p.1 o,max p.2 (o+n))
theorem Mr.TJ{p q:Nat×Nat}(h:Mr p q)(o n:Nat)(hn:n≠0):Mr (TJ p o n) (TJ q o n):=by
 unfold Twin.TJ;rcases h with h|⟨b,h2,h3⟩
 ·rw[if_pos (by simpa using h:(q.1==q.2)=A0)];right;split;·exact⟨AX _,AX _,by simp;omega⟩
  ·simp only;refine⟨by omega,by omega,by omega⟩
 ·rw[if_neg (by simpa using h3:¬(p.1==p.2)=A0)];right;split;·simp only;refine⟨by omega,by omega,by omega⟩
  ·simp only;refine⟨by omega,by omega,by omega⟩
theorem GI.kind(h:GI F E o o'):(∃c b t p q,o=BE c t p/\o'=BE b t q/\Ab F E c.toList b.toList/\Mr p q)∨(∀c t p,o≠BE c t p)/\∀c t p,o'≠BE c t p:=by cases h with|cells t e z=>exact AA ⟨_,_,_,_,_,rfl,rfl,e,z⟩|_=>right;refine⟨λc t p x=>?_,λc t p x=>?_⟩<;>cases x
theorem GI.isChan{E:AN}{o o':Du}(h:GI F E o o'):o'.isChan=o.isChan:=by cases h<;>rfl
theorem C3.freeze{E:AN}{w w':A'}{a a':Aa}{Pr:Nat->Prop}(h:C3 F so RO E w w')(A6:D7 E a a')(n:Nat)(H:¬Pr a.block):C3 F so RO E (w.freeze a n) (w'.freeze a' n)/\GF Pr E w w' E (w.freeze a n) (w'.freeze a' n):=by
 unfold ib;by_cases hn:n=0;·rw[if_pos hn,if_pos hn];exact⟨h,GF.refl _ _ _ _⟩
 ·rw[if_neg hn,if_neg hn];obtain⟨o,o',e,m,D⟩:=h.heap _ _ A6.1;rcases D.kind with⟨c,K,t,p,q,rfl,rfl,N,z⟩|⟨x,x'⟩
  ·skip;refine⟨h.put A6.1 (o:=BE c t (TJ p a.off n)) (o':=BE K t (TJ q a.off n)) (.cells t N (z.TJ _ _ hn)) (by simp) ?_ (λb f=>Mf _ _ _ f) rfl rfl ?_ (λb f=>Mf _ _ _ f) rfl rfl ?_ ?_,GF.put ⟨_,A6.1,H⟩ (by simp) rfl rfl (by simp) (λb f=>Mf _ _ _ f) rfl rfl rfl rfl λi=>by simp only[A6.self i.1,i.2]⟩;·show(w.heap.modify a.block _)[a.block]?=_;rw[VK _ _ _ e];rfl
   ·show(w'.heap.modify a'.block _)[a'.block]?=_;rw[VK _ _ _ m,A6.2.1];rfl
   ·intro A;left;refine⟨c,t,_,rfl,λx hx=>?_⟩;obtain⟨_,k⟩:=h.kept _ A;rcases k with⟨c2,I,U,e2,y⟩|⟨_,y⟩
    ·rw[e]at e2;injection e2 with e2;injection e2 with d j B;subst d j B;have:=y x hx;suffices hs:(TJ p a.off n).1<=x/\x<(TJ p a.off n).2 from⟨hs.1,hs.2,this.2.2⟩;unfold TJ;split
     ·rename_i s;have:p.1=p.2:=by simpa using s
      omega
     ·simp only;omega
    ·exact absurd e (y c t p)
   ·intro M c1 t1 Q c2 I R C L;have s:=h.even M _ _ A6.1 _ _ e m;cases C;cases L;rw[s _ _ _ _ _ _ rfl rfl]
  ·refine⟨h.put A6.1 D (by simp) ?_ (λb f=>Mf _ _ _ f) rfl rfl ?_ (λb f=>Mf _ _ _ f) rfl rfl ?_ ?_,GF.put ⟨_,A6.1,H⟩ (by simp) rfl rfl (by simp) (λb f=>Mf _ _ _ f) rfl rfl rfl rfl λi=>by simp only[A6.self i.1,i.2]⟩;·show(w.heap.modify a.block _)[a.block]?=_;rw[VK _ _ _ e];cases o<;>first|rfl|exact absurd rfl (x _ _ _)
   ·show(w'.heap.modify a'.block _)[a'.block]?=_;rw[VK _ _ _ m];cases o'<;>first|rfl|exact absurd rfl (x' _ _ _)
   ·intro A;obtain⟨_,k⟩:=h.kept _ A;rcases k with⟨c2,I,U,e2,y⟩|⟨y,_⟩;·rw[e]at e2;exact absurd (D3 e2) (x _ _ _)
    ·exact AF ⟨y,x⟩
   ·intro _ c1 t1 Q _ _ _ C _;exact absurd C (x _ _ _)
theorem C3.setObj{r Bc:Nat}{old:Du}(h:C3 F so RO E w w')(hs:so.obj r)(m:E.rel r Bc)(hn:∀c t p,o≠BE c t p)(A:GI F E o o')(e:w.heap[r]?=Z old)(C:∀c t p,old≠BE c t p):C3 F so RO E {w with heap:=w.heap.setIfInBounds r o} {w' with heap:=w'.heap.setIfInBounds Bc o'}/\GF RO E w w' E {w with heap:=w.heap.setIfInBounds r o} {w' with heap:=w'.heap.setIfInBounds Bc o'}/\¬RO r/\∃D,w'.heap[Bc]?=Z D/\∀c t p,D≠BE c t p:=by
 obtain⟨p,K,y,H,z⟩:=h.heap r Bc m;rw[e]at y;obtain rfl:=D3 y;have s:¬RO r:=λx=>by
  obtain⟨_,k⟩:=h.kept _ x;rcases k with⟨c2,t2,U,e2,_⟩|⟨q,_⟩;·rw[e]at e2;exact C _ _ _ (D3 e2)
  ·exact q hs
 have l:=(Array.getElem?_eq_some_iff.1 e).1;have I:=(Array.getElem?_eq_some_iff.1 H).1;refine⟨h.put m A (by simp) ?_ ?_ rfl rfl ?_ ?_ rfl rfl (λx=>absurd x s) λ_ c t p _ _ _ e _=>absurd e (hn c t p),GF.put ⟨_,m,s⟩ (by simp) rfl rfl (by simp) ?_ rfl rfl rfl rfl λi=>by simp only[i.1 _ _ m,i.2,A.same i.1 λc t p _ _ _ e _=>absurd e (hn c t p)],s,K,H,?_⟩;·show(w.heap.setIfInBounds r o)[r]?=_;rw[H5,if_pos rfl,if_pos l]
 ·intro b f;show(w.heap.setIfInBounds r o)[b]?=_;rw[H5,if_neg λx=>f x.symm]
 ·show(w'.heap.setIfInBounds Bc o')[Bc]?=_;rw[H5,if_pos rfl,if_pos I]
 ·intro b f;show(w'.heap.setIfInBounds Bc o')[b]?=_;rw[H5,if_neg λx=>f x.symm]
 ·intro b f;show(w'.heap.setIfInBounds Bc o')[b]?=_;rw[H5,if_neg λx=>f x.symm]
 ·intro c t q x;rcases z.kind with⟨c1,c2,t1,Q,d,M,_⟩|⟨_,N⟩;·exact C _ _ _ M
  ·exact N _ _ _ x
end
section
variable{P:Ac}{F:Nat->Prop}{so:Dr}{RO:Nat->Prop}{E:AN}
theorem zL(h:AJ F E v v')(b:v.bytes?=Z AL):v'=v:=by cases h<;>first|rfl|cases b
theorem a3i{u:A1}(h:AJ F E v v')(e:v.ofBytes AL=Z u):v'=v/\AJ F E u u:=by
 cases h with
 |bool b=>
  refine⟨rfl,?_⟩;simp only[a9z]at e;split at e;·cases e;exact .bool _
  ·cases e;exact .bool _
  ·cases e
 |int k n=>
  refine⟨rfl,?_⟩;simp only[a9z]at e;split at e;·cases e;exact .int _ _
  ·cases e
 |_=>cases e
theorem a5R(p:Ac){c c':Array A1}(h:Ab F E c.toList c'.toList)(e:A_):∀(f x y:Nat)(l:List (Nat×Nat×List UInt8)),iu p c e f x y=aYO l->iu p c' e f x y=aYO l
 |0,_,_,_,A9=>by cases A9
 |f+1,x,y,l,A9=>by
  unfold iu at A9⊢;split at A9;·rename_i hx;rw[if_pos hx];exact A9
  ·rename_i hx;rw[if_neg hx];dsimp only at A9⊢;split at A9;·cases A9
   ·rename_i H;rw[if_neg H];cases hc:(cellHolding p p.depth e (x%p.bytesOf e)).map λ(i,s)=>(x/p.bytesOf e*p.cellsOf e+i,x/p.bytesOf e*p.bytesOf e+s)with
    |none=>rw[hc]at A9;cases A9
    |some q=>
     obtain⟨i,s⟩:=q;rw[hc]at A9;simp only at A9⊢;cases hv:c[i]? with
     |none=>rw[hv]at A9;cases A9
     |some v=>
      rw[hv]at A9;obtain⟨I,e1,e2⟩:=h.get i (by simpa using hv);have D:c'[i]?=Z I:=by simpa using e1
      rw[D];simp only at A9⊢;cases z:v.bytes? with|none=>rw[z]at A9;cases A9|some A=>rw[zL e2 z,z];rw[z]at A9;cases A with|nil=>cases A9|cons b A=>simp only at A9⊢;cases C:iu p c e f (s+(b::A).length) y with|error m=>rw[C]at A9;cases A9|ok r=>rw[a5R p h e f _ _ r C];rw[C]at A9;exact A9
theorem a5S{p:Ac}{k k':Aa}{e:A_}{Lm:Nat×Nat}{first:Nat}{d:A1}{cells:List (Nat×Nat×List UInt8)}(Ev:D7 E at_ RY)(hk:k'.off=k.off/\k'.spot=k.spot)(B:∃o Q,w.heap[at_.block]?=Z o/\w'.heap[RY.block]?=Z Q/\GI F E o Q)(h:w.seen p at_ u k b=aYO (c,e,Lm,first,d,cells)):∃H I,w.heap[at_.block]?=Z (BE c e Lm)/\w'.heap[RY.block]?=Z (BE H e I)/\Ab F E c.toList H.toList/\Mr Lm I/\Vs p p.depth u k.off=Z d/\w'.seen p RY u k' b=aYO (H,e,I,first,d,cells):=by
 obtain⟨o,Q,e1,e2,A7⟩:=B;unfold World.seen at h⊢;rw[hk.1,hk.2,Ev.2.1,Ev.2.2];by_cases hs:(k.spot.isSome||at_.spot.isSome)=A0;·rw[if_pos hs]at h;cases h
 rw[if_neg hs]at h⊢;cases hp:Vs p p.depth u k.off with
 |none=>rw[hp]at h;cases h
 |some N=>
  rw[hp]at h;cases y:N.bytes?.map (·.length)with
  |none=>simp only[y]at h;cases h
  |some f=>
   cases C:oi p p.depth u k.off with
   |none=>simp only[y,C]at h;cases h
   |some D=>
    cases A7 with
    |cells t hv z=>
     rename_i c0 U j n;simp only[y,C,e1]at h;simp only[y,C,e2];by_cases AR:p.cellsOf t=0;·rw[if_pos AR]at h;cases h
     rw[if_neg AR]at h⊢;cases q:oi p p.depth t (at_.off%p.cellsOf t)with
     |none=>rw[q]at h;cases h
     |some A=>
      rw[q]at h;simp only at h⊢;cases M:iu p c0 t (f+1) (at_.off/p.cellsOf t*p.bytesOf t+A+D) (at_.off/p.cellsOf t*p.bytesOf t+A+D+f)with
      |error m=>rw[M]at h;cases h
      |ok cs=>
       rw[M]at h;rw[a5R p hv t _ _ _ cs M];have s:∀(x:Except String (Array A1×A_×(Nat×Nat)×Nat×A1×List (Nat×Nat×List UInt8))),x=aYO (c,e,Lm,first,d,cells)->x=aYO (c0,t,j,at_.off/p.cellsOf t*p.bytesOf t+A+D,N,cs)->c=c0/\e=t/\Lm=j/\first=at_.off/p.cellsOf t*p.bytesOf t+A+D/\d=N/\cells=cs:=by intro x h1 h2;rw[h1]at h2;injection h2 with h2;simp only[Ot]at h2;exact h2
       cases b with
       |false=>obtain⟨rfl,rfl,rfl,rfl,rfl,rfl⟩:=s _ h rfl;exact⟨U,n,e1,rfl,hv,z,rfl,rfl⟩
       |true=>
        simp only[aYv,Vd,if_true]at h⊢;split at h
        ·split at h;·cases h
         ·rename_i K;obtain⟨rfl,rfl,rfl,rfl,rfl,rfl⟩:=s _ h rfl;refine⟨U,n,e1,rfl,hv,z,rfl,?_⟩;simp only[if_neg K];rfl
        ·cases h
    |_=>simp only[y,C,e1]at h;cases h
inductive U1(E:AN):List Aa->List Aa->Prop|nil:U1 E [] []|cons{a a':Aa}{l g6:List Aa}:D7 E a a'->U1 E l g6->U1 E (a::l) (a'::g6)
def Q4(P:Ac):Prop:=∀t,veiled t->∀b v,Vs P P.depth t b=Z v->∃k n,v=IS k n
theorem aT7{p:Ac}{k k':Aa}(A:Q4 p)(hu:veiled u)(Ev:D7 E at_ RY)(C:k'.off=k.off/\k'.spot=k.spot)(D:∃o y,w.heap[at_.block]?=Z o/\w'.heap[RY.block]?=Z y/\GI F E o y)(h:w.viewLoad p at_ u k b=aYO (v,l)):∃x,w'.viewLoad p RY u k' b=aYO (v,x)/\AJ F E v v/\U1 E l x:=by
 unfold World.viewLoad at h⊢;cases hs:w.seen p at_ u k b with
 |error m=>rw[hs]at h;cases h
 |ok r=>
  obtain⟨c,e,N,first,U,f⟩:=r;rw[hs]at h;obtain⟨M,Q,d,j,B,L,K,z⟩:=a5S Ev C D hs;rw[z];simp only[aYv,Vd]at h⊢;obtain⟨I,n,rfl⟩:=A u hu _ _ K;split at h;·rename_i v0 s;simp only[Fi,Ve,aG,Ot]at h⊢;obtain⟨rfl,rfl⟩:=h;refine⟨_,⟨rfl,rfl⟩,(a3i (F:=F) (E:=E) (.int I n) s).2,?_⟩;clear s z hs;induction f with|nil=>exact .nil|cons q f H=>exact .cons ⟨Ev.1,rfl,rfl⟩ H
  ·cases h
theorem a'N{X:Type}{N:Nat->Prop}{g g':Array A1->X->Except String (Array A1)}(s:∀c c' x r,Ab F E c.toList c'.toList->g c x=aYO r->∃e,g' c' x=aYO e/\Ab F E r.toList e.toList/\r.size=c.size/\∃i,i<c.size/\N i):∀(b:List X){c c' r:Array A1},Ab F E c.toList c'.toList->b.foldlM g c=aYO r->∃e,b.foldlM g' c'=aYO e/\Ab F E r.toList e.toList/\r.size=c.size/\(b≠[]->∃i,i<c.size/\N i)/\(b=[]->e=c')|[],c,c',r,hc,h=>by simp only[aBQ,Fi,Ve,aG]at h⊢;subst h;exact⟨c',rfl,hc,rfl,λx=>absurd rfl x,λ_=>rfl⟩|x::b,c,c',r,hc,h=>by simp only[pY,aYv,Vd]at h⊢;cases f:g c x with|error m=>rw[f]at h;cases h|ok I=>rw[f]at h;obtain⟨K,A,C,D,H⟩:=s c c' x I hc f;rw[A];obtain⟨e,y,z,p,_⟩:=a'N s b C h;exact⟨e,y,z,p.trans D,λ_=>H,λx=>by cases x⟩
theorem aFd{X d:Type}{N:Nat->Prop}{g g':Array A1->X->Except String (Array A1)}{K:Array A1->Except String d}{R:d->Prop}{cells:List X}{r:Array A1}(h:cells.foldlM g c=aYO r)(hc:Ab F E c.toList c'.toList)(e:∀c c' x r,Ab F E c.toList c'.toList->g c x=aYO r->∃b,g' c' x=aYO b/\Ab F E r.toList b.toList/\r.size=c.size/\∃i,i<c.size/\N i)(f:∀b,Ab F E r.toList b.toList->r.size=c.size->(cells≠[]->∃i,i<c.size/\N i)->(cells=[]->b=c')->∃y,K b=aYO y/\R y):∃y,Vd (cells.foldlM g' c') K=aYO y/\R y:=by obtain⟨b,m,p,s,z,A⟩:=a'N e cells hc h;rw[m];exact f b p s z A
theorem a5X{h:Array Du}{i:Nat}(e:h[i]?=Z o):h.setIfInBounds i o=h:=by
 apply nD;intro j;rw[H5];split;·rename_i b;subst b;rw[if_pos (Array.getElem?_eq_some_iff.1 e).1,e]
 ·rfl
theorem aT8{p:Ac}{k k':Aa}(Ev:D7 E at_ RY)(hk:k'.off=k.off/\k'.spot=k.spot)(hv:AJ F E v v')(D:C3 F so RO E w w')(h:w.viewStore p at_ u k v b=aYO (w1,l)):∃Bc,w'.viewStore p RY u k' v' b=aYO Bc/\C3 F so RO E w1 Bc.1/\GF RO E w w' E w1 Bc.1/\U1 E l Bc.2/\∀a∈l,¬RO a.block:=by
 unfold a_G at h⊢;by_cases AH:(!tight p p.depth u)=A0;·rw[if_pos AH]at h;cases h
 rw[if_neg AH]at h⊢;cases hs:w.seen p at_ u k b with
 |error m=>rw[hs]at h;cases h
 |ok r=>
  obtain⟨c,e,Lm,first,X6,cells⟩:=r;rw[hs]at h;obtain⟨c',WT,A,z,W,j,m0,n⟩:=a5S Ev hk (D.heap _ _ Ev.1) hs;rw[n];simp only[aYv,Vd]at h⊢;cases s:v.bytes? with
  |none=>simp only[s]at h;cases h
  |some bytes=>
   obtain rfl:=zL hv s;simp only[s]at h⊢;split at h;·cases h
   ·rename_i X;rw[if_neg X];split at h;·cases h
    ·rename_i r H;simp only[Fi,Ve,aG,Ot]at h;obtain⟨rfl,rfl⟩:=h;refine aFd (F:=F) (E:=E) (N:=λi=>¬(Lm.1<=i/\i<Lm.2)) H W ?_ ?_
     ·intro d DW x r Q f;split at f;·cases f
      rename_i h1;rw[if_neg h1];split at f;·cases f
      rename_i h2;have Rk:¬(Bn (WT.1<=x.1)&&Bn (x.1<WT.2))=A0:=by intro y;apply h2;simp only[IP,decide_eq_true_eq]at y⊢;rcases j with AR|AR<;>omega
      rw[if_neg Rk];split at f
      ·rename_i old B;obtain⟨v',e1,e2⟩:=Q.get x.1 (by simpa using B);have qU:DW[x.1]?=Z v':=by simpa using e1
       rw[qU];split at f;·rename_i new U;obtain⟨rfl,hu⟩:=a3i e2 U;simp only[U];simp only[Fi,Ve,aG]at f⊢;subst f;refine⟨_,rfl,by simpa using Q.set hu x.1,by simp,x.1,(Array.getElem?_eq_some_iff.1 B).1,?_⟩;simpa using h2
       ·cases f
      ·cases f
     ·intro Bc L FG R T;refine⟨_,rfl,?_⟩;dsimp only;by_cases hn:cells=[];·subst hn;simp only[aBQ,Fi,Ve,aG]at H;subst H;obtain rfl:=T rfl;rw[a5X A,a5X z];exact⟨D,GF.refl _ _ _ _,.nil,λa K=>by cases K⟩
      ·obtain⟨i,hi,M⟩:=R hn;have C:¬RO at_.block:=λC=>by
        obtain⟨_,tP⟩:=D.kept _ C;rcases tP with⟨c2,t2,LS,I,Bi⟩|⟨_,y⟩;·rw[A]at I;injection I with I;injection I with E2 z2 z3;subst E2 z2 z3;have:=Bi i hi;exact M ⟨this.1,this.2.1⟩
        ·exact y _ _ _ A
       have DK:=(Array.getElem?_eq_some_iff.1 A).1;have Cd:=(Array.getElem?_eq_some_iff.1 z).1;refine⟨D.put Ev.1 (o:=BE r e Lm) (o':=BE Bc e WT) (.cells e L j) (by simp) ?_ ?_ rfl rfl ?_ ?_ rfl rfl (λy=>absurd y C) λAE=>D.even AE _ _ Ev.1 _ _ A z|>.cells,GF.put ⟨_,Ev.1,C⟩ (by simp) rfl rfl (by simp) ?_ rfl rfl rfl rfl λi=>?_,?_,?_⟩;·show(w.heap.setIfInBounds _ _)[_]?=_;rw[H5,if_pos rfl,if_pos DK]
       ·intro b s;show(w.heap.setIfInBounds _ _)[b]?=_;rw[H5,if_neg λx=>s x.symm]
       ·show(w'.heap.setIfInBounds _ _)[_]?=_;rw[H5,if_pos rfl,if_pos Cd]
       ·intro b s;show(w'.heap.setIfInBounds _ _)[b]?=_;rw[H5,if_neg λx=>s x.symm]
       ·intro b s;show(w'.heap.setIfInBounds _ _)[b]?=_;rw[H5,if_neg λx=>s x.symm]
       ·have e1:=i.1 _ _ Ev.1;rw[e1,i.2]at z;rw[A]at z;injection z with z;injection z with _ _ z3;have z4:Bc=r:=Array.toList_inj.1 (L.same i.1);simp only[e1,i.2,z4,z3]
       ·clear H n hs R T hn;induction cells with|nil=>exact .nil|cons q cells ih=>exact .cons ⟨Ev.1,rfl,rfl⟩ ih
       ·intro a K;obtain⟨x,_,rfl⟩:=List.mem_map.1 K;exact C
theorem C3.WQ{p:Ac}(h:C3 F so RO E w w')(z:Q4 p)(A6:D7 E a a')(f:w.farLoad p a b=aYO (v,l)):∃s,w'.cell? a'=J/\w'.farLoad p a' b=aYO (v,s)/\AJ F E v v/\U1 E l s:=by
 obtain⟨o,K,e,y,A⟩:=h.heap _ _ A6.1;unfold og at f⊢;unfold F3;rw[e]at f;rw[y];cases A with
 |view t C Ev=>
  rename_i x M;simp only at f⊢;cases hv:w.viewLoad p x t a b with
  |error m=>rw[hv]at f;cases f
  |ok r=>rw[hv]at f;cases f;obtain⟨s,D,H,I⟩:=aT7 z C Ev A6.2 (h.heap _ _ Ev.1) hv;exact⟨s,trivial,by rw[D],H,I⟩
 |_=>cases f
theorem C3.ql{p:Ac}(h:C3 F so RO E w w')(A6:D7 E a a')(hv:AJ F E v v')(f:w.farStore p a v b=aYO (w1,l)):∃Bc,w'.cell? a'=J/\w'.farStore p a' v' b=aYO Bc/\C3 F so RO E w1 Bc.1/\GF RO E w w' E w1 Bc.1/\U1 E l Bc.2/\∀a∈l,¬RO a.block:=by
 obtain⟨o,I,e,y,A⟩:=h.heap _ _ A6.1;unfold oh at f⊢;unfold F3;rw[e]at f;rw[y];cases A with
 |view t H z=>
  rename_i x K;simp only at f⊢;cases s:w.viewStore p x t a v b with
  |error m=>rw[s]at f;cases f
  |ok r=>rw[s]at f;cases f;obtain⟨Bc,C,D⟩:=aT8 z A6.2 hv h s;exact⟨Bc,trivial,by rw[C],D⟩
 |_=>cases f
theorem C3.aFE{p:Ac}{x:hz}(h:C3 F so RO E w w')(A6:D7 E a a')(f:w.farLoad p a b=aZ' x):TN x:=by
 obtain⟨o,D,e,z,s⟩:=h.heap _ _ A6.1;unfold og aA2 at f;rw[e]at f;cases s with
 |view t C A=>
  rename_i y H;simp only at f;cases hv:w.viewLoad p y t a b with
  |error m=>rw[hv]at f;cases f;exact λg x=>by cases x
  |ok r=>rw[hv]at f;cases f
 |_=>cases f;trivial
theorem C3.aFF{p:Ac}{x:hz}(h:C3 F so RO E w w')(A6:D7 E a a')(f:w.farStore p a v b=aZ' x):TN x:=by
 obtain⟨o,D,e,z,s⟩:=h.heap _ _ A6.1;unfold oh aA2 at f;rw[e]at f;cases s with
 |view t C A=>
  rename_i y H;simp only at f;cases hv:w.viewStore p y t a v b with
  |error m=>rw[hv]at f;cases f;exact λg x=>by cases x
  |ok r=>rw[hv]at f;cases f
 |_=>cases f;trivial
end
section
variable{P:Ac}{F:Nat->Prop}{so:Dr}{RO:Nat->Prop}
theorem J_.push{E:AN}{es es':Array By}{e e':By}(h:J_ RO E es.toList es'.toList)(k:Vb RO E e e'):J_ RO E (es.push e).toList (es'.push e').toList:=by simpa using J_.snoc h k
theorem J_.WQ(w s:Bool):∀{l d:List Aa}{es es':Array By},J_ RO E es.toList es'.toList->U1 E l d->(w=A0->∀a∈l,¬RO a.block)->J_ RO E (es++l.toArray.map λx=>(⟨aYL x,w,s⟩:By)).toList (es'++d.toArray.map λx=>(⟨aYL x,w,s⟩:By)).toList:=by
 intro l d es es' h k b;have e:∀{l d:List Aa}{es es':List By},J_ RO E es es'->U1 E l d->(w=A0->∀a∈l,¬RO a.block)->J_ RO E (es++l.map λx=>(⟨aYL x,w,s⟩:By)) (es'++d.map λx=>(⟨aYL x,w,s⟩:By)):=by intro l d es es' h k b;induction k generalizing es es' with|nil=>simpa using h|cons f _ p=>have:=p (h.snoc (.cell w s f λx=>b x _ (by simp))) λx a m=>b x a (by simp[m]);simpa using this
 simpa using e h k b
theorem AJ.one(h:AJ F E v v'):(∀c,v'=dd c->∃d,v=dd d)/\∀c,v'=aY8 c->∃d,v=aY8 d:=by cases h<;>refine⟨λc x=>?_,λc x=>?_⟩<;>first|exact⟨_,rfl⟩|cases x
theorem Za{m:iK}{k:BQ d8}(b:∀c,v≠dd c)(h2:∀c,v≠aY8 c):(aZm m a v k).runT P w es=match w.cell? a with|Z _=>if w.frozen? a then(aYm (aZz (.unsafePointer "a write to bytes that a string shares")) w,es)else k.runT P (w.setCell a v) (es.push ⟨aYL a,A0,m==aYZ⟩)|J=>match w.farStore P a v (m==aYZ)with|aYO (w,touched)=>k.runT P w (es++touched.toArray.map (⟨aYL ·,A0,m==aYZ⟩))|aZ' h=>(aYm h w,es):=by cases v<;>first|rfl|exact absurd rfl (b _)|exact absurd rfl (h2 _)
theorem GF.less{Pr d:Nat->Prop}{j:AN}(h:GF Pr E w w' j w1 BZ)(k:∀b,d b->Pr b):GF d E w w' j w1 BZ:=⟨h.le,h.fresh,h.size,h.hB,h.os,h.output,h.tape,h.cW,h.drawn,λe f hn=>h.rest e f λb x=>k b (hn b x),h.X5⟩
theorem AG.runs(HQ:Q4 P){Q:AN->d8->d8->Prop}{Pr:Nat->Prop}(X0:∀b,Pr b->RO b)(ND:so.Lm->∀b,¬Pr b){s D9:BQ d8}(h:AG P F so Q E s D9):∀{w w':A'}{es es':Array By}{a:d8}{w1:A'}{es1:Array By},C3 F so RO E w w'->J_ RO E es.toList es'.toList->s.runT P w es=(aY6 a w1,es1)->∃D I H K,D9.runT P w' es'=(aY6 I H,K)/\Q D a I/\C3 F so RO D w1 H/\GF Pr E w w' D w1 H/\J_ RO D es1.toList K.toList:=by
 induction h with
 |pure q=>intro w w' es es' a w1 es1 A he f;simp only[DV,Ot,i_]at f;obtain⟨⟨rfl,rfl⟩,rfl⟩:=f;exact⟨_,_,_,_,rfl,q,A,GF.refl _ _ _ _,he⟩
 |load m M _ C=>intro w w' es es' a w1 es1 A he f;rename_i x x' k k' _;simp only[DV]at f⊢;cases hc:w.cell? x with|some v=>rw[hc]at f;obtain⟨v',Hb,hv⟩:=A.cell M hc;rw[Hb];exact C v v' hv A (he.push (.cell _ _ M λx=>by cases x)) f|none=>rw[hc]at f;simp only at f;cases AE:w.farLoad P x (m==aYZ)with|error h=>rw[AE]at f;simp at f|ok r=>obtain⟨v,l⟩:=r;rw[AE]at f;obtain⟨g6,L,R,W,X⟩:=A.WQ HQ M AE;rw[L];simp only[R];exact C v v W A (he.WQ A5 (m==aYZ) X λx=>by cases x) f
 |store m M hv _ C=>
  intro w w' es es' a w1 es1 A he f;rename_i x x' v v' k k' _;by_cases g1:∃c,v=dd c;·obtain⟨c,rfl⟩:=g1;simp[DV]at f
  by_cases Ds:∃c,v=aY8 c;·obtain⟨c,rfl⟩:=Ds;simp[DV]at f
  rw[Za (λc x=>g1 ⟨c,x⟩) λc x=>Ds ⟨c,x⟩]at f;rw[Za (λc x=>g1 (hv.one.1 c x)) λc x=>Ds (hv.one.2 c x)];cases hc:w.cell? x with
  |some u=>
   rw[hc]at f;simp only at f;obtain⟨XQ,Hb,_⟩:=A.cell M hc;rw[Hb];simp only;by_cases AE:w.frozen? x=A0;·rw[if_pos AE]at f;simp at f
   ·rw[if_neg AE]at f;rw[if_neg λy=>AE (A.frozen M y)];have FE:¬RO x.block:=λy=>by
     obtain⟨_,k⟩:=A.kept _ y;rcases k with⟨c,t,p,e,z⟩|⟨_,z⟩
     ·apply AE;unfold ic;unfold F3 at hc;rw[e]at hc⊢;simp only at hc⊢;split at hc;·cases hc
      ·have:=z x.off (Array.getElem?_eq_some_iff.1 hc).1;simp[this]
     ·unfold F3 at hc;split at hc;·exact z _ _ _ ‹_›
      ·cases hc
    obtain⟨L,R⟩:=A.set M hv hc FE;obtain⟨D,I,H,K,N,U,d,j,B⟩:=C L (he.push (.cell _ _ M λ_=>FE)) f;exact⟨D,I,H,K,N,U,d,(R.less X0).trans j,B⟩
  |none=>rw[hc]at f;simp only at f;cases AE:w.farStore P x v (m==aYZ)with|error h=>rw[AE]at f;simp at f|ok r=>obtain⟨w2,l⟩:=r;rw[AE]at f;obtain⟨Bc,L,R,W,X,J9,K'⟩:=A.ql M hv AE;rw[L];simp only[R];obtain⟨D,I,H,K,N,U,d,j,B⟩:=C W (he.WQ A0 (m==aYZ) J9 λ_=>K') f;exact⟨D,I,H,K,N,U,d,(X.less X0).trans j,B⟩
 |new A7 _ AR C=>
  intro w w' es es' a w1 es1 A he f;rename_i E o o' k k' _;simp only[DV]at f⊢;obtain⟨D,I,H,K,N,U,d,j,B⟩:=C w.heap.size w'.heap.size A.fresh (A.push A7 AR) (he.mono (AN.gT _ _ _ _)) f;have Df:GF Pr E w w' (E.add w.heap.size w'.heap.size A.fresh) {w with heap:=w.heap.push o} {w' with heap:=w'.heap.push o'}:=by
   refine⟨AN.gT _ _ _ _,λb b' x=>?_,by simp,by simp,rfl,rfl,rfl,rfl,⟨0,rfl,rfl⟩,λb' hb _=>?_,λi=>⟨λb b' x=>?_,by rw[i.2,A7.same i.1 AR]⟩⟩
   ·rcases x with x|⟨rfl,rfl⟩;·exact AA x
    ·exact AF ⟨AX _,by simp,AX _,by simp⟩
   ·show(w'.heap.push o')[b']?=_;rw[H4 hb,ET hb]
   ·rcases x with x|⟨rfl,rfl⟩;·exact i.1 b b' x
    ·rw[i.2]
  exact⟨D,I,H,K,N,U,d,Df.trans j,B⟩
 |shape T _ C=>intro w w' es es' a w1 es1 A he f;simp only[DV]at f⊢;rw[A.shape T];exact C _ A he f
 |freeze n AR M _ C=>intro w w' es es' a w1 es1 A he f;simp only[DV]at f⊢;obtain⟨L,R⟩:=A.freeze (Pr:=Pr) M n (ND AR _);obtain⟨D,I,H,K,N,U,d,j,B⟩:=C L he f;exact⟨D,I,H,K,N,U,d,R.trans j,B⟩
 |frozen AR M _ C=>intro w w' es es' a w1 es1 A he f;simp only[DV]at f⊢;rw[A.aFp AR M];exact C _ A he f
 |getObj T _ C=>
  intro w w' es es' a w1 es1 A he f;rename_i r Bc k k' _;obtain⟨o,o',e,e',A7⟩:=A.heap _ _ T;simp only[DV]at f⊢;rw[e]at f;rw[e'];rcases A7.kind with⟨c,c',t,p,q,rfl,rfl,_,_⟩|⟨x,x'⟩;·simp at f
  ·have FW:(k o).runT P w (es.push ⟨aYb r,A5,o.isChan⟩)=(aY6 a w1,es1):=by rw[<-f];cases o<;>first|rfl|exact absurd rfl (x _ _ _)
   obtain⟨D,I,H,K,N,U⟩:=C o o' A7 A (he.push (.obj _ _ T λx=>by cases x)) FW;refine⟨D,I,H,K,?_,U⟩;rw[<-N,<-A7.isChan];cases o'<;>first|rfl|exact absurd rfl (x' _ _ _)
 |setObj hs T hn A7 _ C=>
  intro w w' es es' a w1 es1 A he f;rename_i r Bc o o' k k' _;simp only[DV]at f⊢;cases e:w.heap[r]? with
  |none=>rw[e]at f;simp at f
  |some old=>
   rw[e]at f;by_cases Da:∃c t p,old=BE c t p;·obtain⟨c,t,p,rfl⟩:=Da;simp at f
   ·have V6:∀c t p,old≠BE c t p:=λc t p x=>Da ⟨c,t,p,x⟩;obtain⟨L,R,W,To,X,J9⟩:=A.setObj hs T hn A7 e V6;rw[X];have FW:k.runT P {w with heap:=w.heap.setIfInBounds r o} (es.push ⟨aYb r,A0,o.isChan⟩)=(aY6 a w1,es1):=by rw[<-f];cases old<;>first|rfl|exact absurd rfl (V6 _ _ _)
    obtain⟨D,I,H,K,N,U,d,j,B⟩:=C L (he.push (.obj _ _ T λ_=>W)) FW;refine⟨D,I,H,K,?_,U,d,(R.less X0).trans j,B⟩;rw[<-N,<-A7.isChan];cases To<;>first|rfl|exact absurd rfl (J9 _ _ _)
 |choose q _ C=>
  intro w w' es es' a w1 es1 A he f;rename_i E k k' _;simp only[DV]at f⊢;split at f;·rename_i AD;rw[if_pos AD];exact C _ A he f
  ·rename_i AD;rw[if_neg AD];have AH:=A.tape 0 q;simp only[a_N]at AH;rw[AH];obtain⟨D,I,H,K,N,U,d,j,B⟩:=C _ A.draw he f;have Df:GF Pr E w w' E {w with drawn:=w.drawn+1} {w' with drawn:=w'.drawn+1}:=⟨AN.le_refl _,λ_ _ x=>AA x,AX _,AX _,rfl,rfl,rfl,rfl,⟨1,rfl,rfl⟩,λ_ _ _=>rfl,id⟩;exact⟨D,I,H,K,N,U,d,Df.trans j,B⟩
 |program _ C=>intro w w' es es' a w1 es1 A he f;simp only[DV]at f⊢;exact C A he f
 |mark hm _ C=>intro w w' es es' a w1 es1 A he f;simp only[DV]at f⊢;exact C A (he.push (.mark hm)) f
 |dead D9 h=>intro w w' es es' a w1 es1 A he f;exact absurd f (h.ne _ _ _ _ _)
end
abbrev FC{d8:Type}:AN->d8->d8->Prop:=λ_ a a'=>a=a'
abbrev W8:AN->Aa->Aa->Prop:=λE a a'=>D7 E a a'
abbrev Ci(F:Nat->Prop):AN->A1->A1->Prop:=λE v v'=>AJ F E v v'
abbrev Q0(F:Nat->Prop):AN->Array A1->Array A1->Prop:=λE v v'=>Ab F E v.toList v'.toList
abbrev Ny:AN->Unit->Unit->Prop:=λ_ _ _=>True
structure Fit(P:Ac)(F:Nat->Prop):Prop where
 zero:∀t i z,P.info? t=Z i->i.zero=Z z->∀E,AJ F E z z
 JD:Q4 P
section
variable{P:Ac}{F:Nat->Prop}{so:Dr}{E:AN}
theorem AG.andThen{Q:AN->d8->d8->Prop}{R:AN->Bw->Bw->Prop}{s d:BQ d8}{f f':d8->BQ Bw}(h:AG P F so Q E s d)(m:∀b,E.le b->∀a e,Q b a e->AG P F so R b (f a) (f' e)):AG P F so R E (s>>=f) (d>>=f'):=AG.bind h m
theorem AG.AM{Q:AN->d8->d8->Prop}{a a':d8}(h:Q E a a'):AG P F so Q E (Fi a:BQ d8) (Fi a'):=.pure h
theorem AG.weaken{Q R:AN->d8->d8->Prop}{s d:BQ d8}(h:AG P F so Q E s d)(z:∀p,E.le p->∀a x,Q p a x->R p a x):AG P F so R E s d:=by
 have:=AG.bind (f:=Mu) (f':=Mu) h λp y a x q=>AG.pure (z p y a x q);have e:∀s:BQ d8,s.bind Mu=s:=by intro s;induction s with|pure a=>rfl|load m a k b=>simp only[Dy];congr 1;funext v;exact b v|store m a v k b=>simp only[Dy];congr 1|new o k b=>simp only[Dy];congr 1;funext v;exact b v|shape r k b=>simp only[Dy];congr 1;funext v;exact b v|freeze a n k b=>simp only[Dy];congr 1|frozen a k b=>simp only[Dy];congr 1;funext v;exact b v|getObj r k b=>simp only[Dy];congr 1;funext v;exact b v|setObj r o k b=>simp only[Dy];congr 1|choose q k b=>simp only[Dy];congr 1;funext v;exact b v|sys c k b=>simp only[Dy];congr 1;funext v;exact b v|program k b=>simp only[Dy];congr 1;funext v;exact b v|mark m k b=>simp only[Dy];congr 1|halt h=>rfl
 rwa[e,e]at this
theorem AG.prog{Q:AN->d8->d8->Prop}{f f':Ac->BQ d8}(h:AG P F so Q E (f P) (f' P)):AG P F so Q E (ir>>=f) (ir>>=f'):=.program h
theorem AG.stuck{Q:AN->d8->d8->Prop}{m:String}{s:BQ d8}:AG P F so Q E (Vt m) s:=.halt _ _
theorem AG.DM{Q:AN->d8->d8->Prop}{u:Unsupported}{s:BQ d8}(hu:∀g,u≠aZ6 g:=by intro g e;cases e):AG P F so Q E (a_I u) s:=.halt _ _ hu
theorem AG.goPanic{d8:Type}{Q:AN->d8->d8->Prop}{v:A1}{s:BQ d8}:AG P F so Q E (Go.goPanic v) s:=.halt _ _
theorem G1(t:A_):AG P F so FC E (Iq t) (Iq t):=by unfold Iq;refine .prog ?_;cases P.underlying t with|none=>exact .stuck|some d=>exact .AM rfl
theorem He(t:A_):AG P F so (λ_ a b=>a=b/\P.info? t=Z a) E (RL t) (RL t):=by unfold RL;refine .prog ?_;cases P.info? t with|none=>exact .stuck|some d=>exact .AM ⟨rfl,rfl⟩
theorem Hp(t:A_):AG P F so FC E (UK t) (UK t):=by unfold UK;refine(He t).andThen ?_;rintro b _ a _⟨rfl,_⟩;exact .AM rfl
theorem a4a(t:A_):AG P F so FC E (isAgg t) (isAgg t):=by unfold isAgg;refine(G1 t).andThen ?_;rintro b _ a _ rfl;cases a<;>exact .AM rfl
theorem LU(e:Fit P F)(t:A_):AG P F so (Ci F) E (RM t) (RM t):=by unfold RM;refine(He t).andThen ?_;rintro b _ a _⟨rfl,hi⟩;cases f:a.zero with|none=>exact .DM|some z=>exact .AM (e.zero t a z hi f b)
theorem h'(h:D7 E a a')(m:iK):AG P F so (Ci F) E (xb a m) (xb a' m):=.load m h λ_ _ hv=>.pure hv
theorem aPU(h:D7 E a a')(hv:AJ F E v v')(m:iK):AG P F so Ny E (store a v m) (store a' v' m):=.store m h hv (.pure trivial)
theorem Ab.snoc{a a':List A1}(h:Ab F E a a')(hv:AJ F E v v'):Ab F E (a++[v]) (a'++[v']):=h.append (.cons hv .nil)
theorem a4d{a a':Aa}:∀(n i:Nat){E:AN}{d j:Array A1},D7 E a a'->Ab F E d.toList j.toList->AG P F so (Q0 F) E (xc a i n d) (xc a' i n j)|0,i,_,d,j,_,hc=>.AM hc|n+1,i,_,d,j,h,hc=>by unfold xc;refine(h' (h.add i) a89).andThen ?_;intro e b v f hv;exact a4d n (i+1) (h.mono b) (by simpa using(hc.mono b).snoc hv)
theorem uW(h:D7 E a a')(n:Nat):AG P F so (Q0 F) E (loadCells a n) (loadCells a' n):=a4d n 0 h .nil
theorem ZX{a a':Aa}:∀{d f:List A1}{E:AN}(i:Nat),D7 E a a'->Ab F E d f->AG P F so Ny E (xo a d i) (xo a' f i)|_,_,_,i,_,.nil=>.AM trivial|_,_,_,i,h,.cons hv t=>by unfold xo;refine(aPU (h.add i) hv a89).andThen ?_;intro e b _ _ _;exact ZX (i+1) (h.mono b) (t.mono b)
theorem h0(h:D7 E a a')(t:A_):AG P F so (Ci F) E (xd t a) (xd t a'):=by
 unfold xd;refine(a4a t).andThen ?_;rintro m e b _ rfl;cases b;·exact h' (h.mono e) a89
 ·refine(Hp t).andThen ?_;rintro p f n _ rfl;refine(uW ((h.mono e).mono f) n).andThen ?_;intro s y c x hc;exact .AM (.agg hc)
theorem AJ.cells{v v':A1}(h:AJ F E v v'):Ab F E v.cells.toList v'.cells.toList:=by cases h with|agg h=>exact h|_=>exact .cons (by constructor<;>assumption) .nil
theorem aPW(h:D7 E a a')(hv:AJ F E v v')(t:A_):AG P F so Ny E (xp t a v) (xp t a' v'):=by
 unfold xp;refine(Hp t).andThen ?_;rintro f b n _ rfl;have e:v'.cells.size=v.cells.size:=by simpa using hv.cells.length
 rw[e];by_cases hs:v.cells.size≠n;·simp only[if_pos hs];exact .stuck
 ·simp only[if_neg hs];exact ZX 0 (h.mono b) (hv.cells.mono b)
end
section
variable{P:Ac}{F:Nat->Prop}{so:Dr}{E:AN}
theorem Qq(t:A_)(h:Ab F E c.toList c'.toList):AG P F so W8 E (xh t c) (xh t c'):=by unfold xh newObj;exact .new (.cells t h (.refl _)) λb f e=>.pure ⟨AN.RX _ _ _ e,rfl,rfl⟩
theorem a4j(t:A_)(h:AJ F E v v'):AG P F so W8 E (aZq t v) (aZq t v'):=Qq t h.cells
theorem h6(h:AJ F E v v'):AG P F so W8 E (dL v) (dL v'):=by cases h with|ptr h=>exact .AM h|_=>exact .stuck
theorem gy(h:AJ F E v v'):AG P F so W8 E (ie v) (ie v'):=by cases h with|ptr h=>exact .AM h|Gm=>unfold ie RJ;exact .prog .goPanic|_=>exact .stuck
theorem mQ(h:AJ F E v v'):AG P F so FC E (aZS v) (aZS v'):=by cases h with|int k n=>exact .AM rfl|ptr h=>exact .DM|_=>exact .stuck
theorem SS(h:AJ F E v v'):AG P F so FC E (aZ9 v) (aZ9 v'):=by unfold aZ9;refine(mQ h).andThen ?_;rintro b _ a _ rfl;exact .AM rfl
theorem a4U(h:AJ F E v v'):AG P F so FC E (asBool v) (asBool v'):=by cases h with|bool b=>exact .AM rfl|_=>exact .stuck
theorem aOh(h:AJ F E v v'):AG P F so (Q0 F) E (asAgg v) (asAgg v'):=by cases h with|agg h=>exact .AM h|_=>exact .stuck
theorem cJ{Q:AN->d8->d8->Prop}(k:KY)(x y:Int)(c:vl):AG P F so Q E (Vp k x y c) (Vp k x y c):=by
 unfold Vp;have e:∀(E:AN)(b:Bool),AG P F so Q E (RJ (.bounds (Po.wrap x) y b c)) (RJ (.bounds (Po.wrap x) y b c)):=λE b=>by unfold RJ;exact .prog .goPanic
 simp only;split;·exact .choose _ λn=>e _ _
 ·exact e _ _
theorem aP7(t:A_)(h:AJ F E v v'):AG P F so (Ci F) E (iE t v) (iE t v'):=by unfold iE;refine(h6 h).andThen ?_;intro e m a f b;exact h0 b t
theorem aPV(t:A_)(h:AJ F E v v')(hx:AJ F E x x'):AG P F so Ny E (iG t v x) (iG t v' x'):=by unfold iG;refine(h6 h).andThen ?_;intro f b a m e;exact aPW e (hx.mono b) t
theorem aOe(b:Fit P F)(t:A_):AG P F so (Ci F) E (wO t A0 (aY8 #[])) (wO t A0 (aY8 #[])):=by unfold wO;refine(LU b t).andThen ?_;intro h s z z' f;refine(a4j t f).andThen ?_;intro m x a p e;exact .AM (.ptr e)
theorem aOk(t:A_)(h:AJ F E v v'):AG P F so (Ci F) E (i' t v) (i' t v'):=by unfold i';refine(a4j t h).andThen ?_;intro e m a f b;exact .AM (.ptr b)
theorem PX(t:A_)(h:Ab F E c.toList c'.toList)(off:Nat):AG P F so (Ci F) E (part t c off) (part t c' off):=by
 unfold part;refine(a4a t).andThen ?_;rintro x f b _ rfl;cases b
 ·cases hc:c[off]? with
  |none=>exact .stuck
  |some v=>
   obtain⟨s,e,hv⟩:=(h.mono f).get off (v:=v) (by simpa using hc);have m:c'[off]?=Z s:=by simpa using e
   rw[m];exact .AM hv
 ·refine(Hp t).andThen ?_;rintro y p n _ rfl;refine .AM (.agg ?_);simpa[aZt,a_K]using(((h.mono f).mono p).drop off).take (off+n-off)
theorem aP1(t:A_)(h:AJ F E v v')(i:Nat):AG P F so (Ci F) E (wQ t v i) (wQ t v' i):=by
 unfold wQ;refine(G1 t).andThen ?_;rintro m e d _ rfl;cases d with
 |struct b=>
  simp only;cases b[i]? with
  |none=>exact .stuck
  |some f=>simp only;refine(aOh (h.mono e)).andThen ?_;intro p x c s hc;exact PX f.type hc f.offset
 |_=>exact .stuck
theorem aP0(h:AJ F E v v')(i:Nat):AG P F so (Ci F) E (wP v i) (wP v' i):=by
 cases h with
 |tuple h=>
  rename_i a b;unfold wP;simp only;cases hc:a[i]? with
  |none=>exact .stuck
  |some v=>
   obtain⟨v',e,hv⟩:=h.get i (v:=v) (by simpa using hc);have f:b[i]?=Z v':=by simpa using e
   rw[f];exact .AM hv
 |_=>exact .stuck
theorem aP4(t:A_)(h:AJ F E v v')(hx:AJ F E x x'):AG P F so (Ci F) E (wS t v x) (wS t v' x'):=by
 unfold wS;refine(mQ hx).andThen ?_;rintro y b⟨k,i⟩_ rfl;refine(G1 t).andThen ?_;rintro z f d _ rfl;have h2:=(h.mono b).mono f;cases d with
 |array n e=>
  cases h2 with
  |agg hc=>
   simp only;split;·refine(Hp e).andThen ?_;rintro A p m _ rfl;exact PX e (hc.mono p) _
   ·exact cJ _ _ _ _
  |_=>exact .stuck
 |string=>
  cases h2 with
  |string s=>
   simp only;split;·exact .AM (.int _ _)
   ·exact cJ _ _ _ _
  |_=>exact .stuck
 |_=>cases h2<;>exact .stuck
end
section
variable{P:Ac}{F:Nat->Prop}{so:Dr}{E:AN}
theorem aP5(t:A_)(h:AJ F E v v')(hx:AJ F E x x'):AG P F so (Ci F) E (Xj t v x) (Xj t v' x'):=by
 unfold Xj;refine(mQ hx).andThen ?_;rintro D A⟨k,i⟩_ rfl;refine(G1 t).andThen ?_;rintro H C d _ rfl;have h2:=(h.mono A).mono C;cases d with
 |array n e=>
  refine(h6 h2).andThen ?_;intro I M a K p;refine(G1 t).andThen ?_;rintro s b y _ rfl;dsimp only;split;·refine(Hp _).andThen ?_;rintro z f m _ rfl;exact .AM (.ptr (((p.mono b).mono f).add _))
  ·(repeat' split)<;>first|exact .DM|exact cJ _ _ _ _
 |slice e=>
  cases h2 with
  |Gt l c=>refine(G1 t).andThen ?_;rintro s b y _ rfl;exact cJ _ _ _ _
  |slice l c p=>
   refine(G1 t).andThen ?_;rintro s b y _ rfl;dsimp only;split;·refine(Hp _).andThen ?_;rintro z f m _ rfl;exact .AM (.ptr (((p.mono b).mono f).add _))
   ·(repeat' split)<;>first|exact .DM|exact cJ _ _ _ _
  |_=>exact .stuck
 |_=>cases h2<;>exact .stuck
theorem aPS(h:AJ F E v v')(y:Nat)(c:vl):AG P F so FC E (iF v y c) (iF v' y c):=by
 unfold iF;refine(mQ h).andThen ?_;rintro b e⟨k,i⟩_ rfl;simp only;split;·exact .AM rfl
 ·exact cJ _ _ _ _
def Ke(F:Nat->Prop)(E:AN)(o o':Option A1):Prop:=o=J/\o'=J∨∃v b,o=Z v/\o'=Z b/\AJ F E v b
theorem Ke.mono{m2:AN}{o o':Option A1}(h:Ke F E o o')(b:E.le m2):Ke F m2 o o':=by
 rcases h with h|⟨v,e,x,y,z⟩;·exact AA h
 ·exact AF ⟨v,e,x,y,z.mono b⟩
theorem h5{d j hi q I K:Option A1}(b:Bool)(l c:Nat)(z:Ke F E d j)(h2:Ke F E hi q)(h3:Ke F E I K):AG P F so FC E (wZ b l c d hi I) (wZ b l c j q K):=by
 unfold wZ;have B:∀{E:AN}{v v':A1}{y:Nat}{c:vl}{Bw:Type}{R:AN->Bw->Bw->Prop}{f f':Nat->BQ Bw},AJ F E v v'->(∀p,E.le p->∀n,AG P F so R p (f n) (f' n))->AG P F so R E (iF v y c>>=f) (iF v' y c>>=f'):=λhv k=>(aPS hv _ _).andThen λp h a _ e=>e▸k p h a;rcases h3 with⟨rfl,rfl⟩|⟨m,C,rfl,rfl,s⟩<;>rcases h2 with⟨rfl,rfl⟩|⟨u,H,rfl,rfl,hu⟩<;>rcases z with⟨rfl,rfl⟩|⟨o,D,rfl,rfl,x⟩;·exact .AM rfl
 ·exact B x λ_ _ _=>.AM rfl
 ·exact B hu λ_ _ _=>.AM rfl
 ·exact B hu λ_ h _=>B (x.mono h) λ_ _ _=>.AM rfl
 ·exact B s λ_ _ _=>.stuck
 ·exact B s λ_ _ _=>.stuck
 ·exact B s λ_ h _=>B (hu.mono h) λ_ _ _=>.AM rfl
 ·exact B s λ_ h _=>B (hu.mono h) λ_ A _=>B ((x.mono h).mono A) λ_ _ _=>.AM rfl
theorem D7.pick(h:D7 E a a')(p:Prop)[Decidable p](n:Nat):D7 E (if p then a else a.add n) (if p then a' else a'.add n):=by
 split;·exact h
 ·exact h.add n
theorem aPQ{B L hi R j q:Option A1}(t:A_)(h:AJ F E v v')(M:Ke F E B L)(h2:Ke F E hi R)(h3:Ke F E j q):AG P F so (Ci F) E (o8 t v B hi j) (o8 t v' L R q):=by
 unfold o8;have U:q.isSome=j.isSome:=by rcases h3 with⟨rfl,rfl⟩|⟨v,v',rfl,rfl,_⟩<;>rfl
 refine(G1 t).andThen ?_;rintro m2 p d _ rfl;have hv:=h.mono p;have y:=M.mono p;have z:=h2.mono p;have H:=h3.mono p;cases d with
 |string=>
  cases hv with
  |string s=>
   simp only[U];cases j.isSome;·refine(h5 A5 _ _ y z (AA ⟨rfl,rfl⟩)).andThen ?_;rintro A b⟨l,D,m⟩_ rfl;exact .AM (.string _)
   ·exact .stuck
  |_=>exact .stuck
 |slice e=>
  cases hv with
  |Gt l c=>refine(h5 A0 _ _ y z H).andThen ?_;rintro A b⟨l,D,m⟩_ rfl;refine(Hp e).andThen ?_;rintro I f n _ rfl;refine .AM ?_;simp only[Option.map_none,ite_self];exact .Gt _ _
  |slice l c x=>
   refine(h5 A0 _ _ y z H).andThen ?_;rintro A b⟨l,D,m⟩_ rfl;refine(Hp e).andThen ?_;rintro I f n _ rfl;refine .AM ?_;simp only[MP];split;·exact .slice _ _ ((x.mono b).mono f)
   ·exact .slice _ _ (((x.mono b).mono f).add _)
  |_=>exact .stuck
 |pointer C=>simp only;refine(gy hv).andThen ?_;intro A b a a' x;refine(G1 C).andThen ?_;rintro I f K _ rfl;cases K with|array n e=>simp only;refine(h5 A5 _ _ ((y.mono b).mono f) ((z.mono b).mono f) ((H.mono b).mono f)).andThen ?_;rintro T N⟨l,D,m⟩_ rfl;refine(Hp e).andThen ?_;rintro W Q n _ rfl;exact .AM (.slice _ _ ((((x.mono f).mono N).mono Q).pick _ _))|_=>exact .stuck
 |_=>cases hv<;>exact .stuck
theorem aPR{j q hi B K L:Option A1}(t:A_)(h:AJ F E v v')(p:Ke F E j q)(h2:Ke F E hi B)(h3:Ke F E K L):AG P F so (Ci F) E (wY t v j hi K) (wY t v' q B L):=by unfold wY;refine(G1 t).andThen ?_;rintro z b d _ rfl;cases d with|array n e=>simp only;refine(h6 (h.mono b)).andThen ?_;intro A f a H y;refine(h5 A5 _ _ ((p.mono b).mono f) ((h2.mono b).mono f) ((h3.mono b).mono f)).andThen ?_;rintro C s⟨l,I,m⟩_ rfl;refine(Hp e).andThen ?_;rintro D x n _ rfl;exact .AM (.slice _ _ (((y.mono s).mono x).pick _ _))|_=>exact aPQ t (h.mono b) (p.mono b) (h2.mono b) (h3.mono b)
end
section
variable{P:Ac}{F:Nat->Prop}{so:Dr}{E:AN}
inductive Nw(F:Nat->Prop)(E:AN):List (Nat×A1)->List (Nat×A1)->Prop|nil:Nw F E [] []|cons(i:Nat){v v':A1}{l g6:List (Nat×A1)}:AJ F E v v'->Nw F E l g6->Nw F E ((i,v)::l) ((i,v')::g6)
theorem Nw.mono{m2:AN}(b:E.le m2):∀{l d:List (Nat×A1)},Nw F E l d->Nw F m2 l d|_,_,.nil=>.nil|_,_,.cons i h t=>.cons i (h.mono b) (t.mono b)
theorem Ab.a5V(h:Ab F E c.toList c'.toList)(hv:AJ F E v v')(i:Nat):Ab F E (c.setIfInBounds i v).toList (c'.setIfInBounds i v').toList:=by simpa using h.set hv i
theorem Ab.laid:∀(l b:List (A1×Nat))(off:Nat){c c':Array A1},Ab F E c.toList c'.toList->b.length=l.length->(∀(i:Nat)x x',l[i]?=Z x->b[i]?=Z x'->AJ F E x.1 x'.1/\x'.2=x.2)->Ab F E (l.foldl (λcs(c,j)=>cs.setIfInBounds (off+j) c) c).toList (b.foldl (λcs(c,j)=>cs.setIfInBounds (off+j) c) c').toList|[],[],_,_,_,h,_,_=>h|[],_::_,_,_,_,_,A9,_=>by simp at A9|_::_,[],_,_,_,_,A9,_=>by simp at A9|(v,j)::l,(v',j')::b,off,c,c',h,A9,hk=>by obtain⟨f,h2⟩:=hk 0 _ _ rfl rfl;simp only at f h2;subst h2;exact Ab.laid l b off (h.a5V f _) (by simpa using A9) λi x x' e m=>hk (i+1) x x' (by simpa using e) (by simpa using m)
theorem ei(b:Nat->Option (Nat×Nat)):∀{l n:List (Nat×A1)}{c c' d:Array A1},Nw F E l n->Ab F E c.toList c'.toList->UD b c l=Z d->∃m,UD b c' n=Z m/\Ab F E d.toList m.toList
 |_,_,c,c',d,.nil,hc,e=>by simp only[UD,W5]at e⊢;subst e;exact⟨_,rfl,hc⟩
 |_,_,c,c',d,.cons i hv t,hc,e=>by
  rename_i v H l n;simp only[UD]at e⊢;cases s:b i with
  |none=>rw[s]at e;simp at e
  |some q=>
   obtain⟨h,size⟩:=q;rw[s]at e;simp only at e⊢;have p:H.cells.size=v.cells.size:=by simpa using hv.cells.length
   have D:c'.size=c.size:=by simpa using hc.length
   rw[p,D];split at e;·cases e
   ·rename_i hn;rw[if_neg hn];refine ei b t ?_ e;have z:∀a:Array A1,a.zipIdx.toList=a.toList.zipIdx:=λa=>by simp
    rw[<-a6j,<-a6j,z,z];refine Ab.laid _ _ h hc (by simp[p]) λj x I e1 e2=>?_;rw[List.getElem?_zipIdx]at e1 e2;cases f:v.cells.toList[j]? with|none=>rw[f]at e1;simp at e1|some y=>obtain⟨K,A,C⟩:=hv.cells.get j f;rw[f]at e1;rw[A]at e2;simp only[MP,W5]at e1 e2;subst e1 e2;exact⟨C,rfl⟩
theorem Ab.hT{z z':Array A1}(h:Ab F E z.toList z'.toList)(n:Nat):Ab F E ((nI n).map (z[·%z.size]!)).toList ((nI n).map (z'[·%z'.size]!)).toList:=by
 have m:z'.size=z.size:=by simpa using h.length
 refine Ab.of (by simp) λi v C e b=>?_;simp only[aZu,List.getElem?_map,Array.toList_range]at e b;cases g:(H9 n)[i]? with
 |none=>rw[g]at e;simp at e
 |some k=>
  rw[g]at e b;simp only[MP,W5]at e b;subst e b;rw[m];by_cases f:k%z.size<z.size
  ·obtain⟨p,s,x⟩:=h.get (k%z.size) (v:=z[k%z.size]) (by simp[f]);have y:z'[k%z.size]?=Z p:=by simpa using s
   rw[getElem!_pos z _ f,getElem!_pos z' _ (by omega)];obtain⟨_,A⟩:=Array.getElem?_eq_some_iff.1 y;rw[A];exact x
  ·rw[getElem!_neg z _ f,getElem!_neg z' _ (by omega)];exact .bool _
theorem aOm(U:Fit P F){l j:Array (Nat×A1)}(t:A_)(n:Nat)(h:Nw F E l.toList j.toList):AG P F so (Ci F) E (dH t n l) (dH t n j):=by
 unfold dH;refine(G1 t).andThen ?_;rintro m2 I d _ rfl;cases d with
 |slice e=>
  simp only;refine(Hp e).andThen ?_;rintro q K size _ rfl;have x:=(h.mono I).mono K;split;·exact .DM
  ·split
   ·refine AG.andThen (Q:=Q0 F) (.AM .nil) ?_;intro A f z z' s;try dsimp only
    cases g:UD (λi=>Z (i*size,size)) ((nI (n*size)).map (z[·%z.size]!)) l.toList with|none=>exact .stuck|some d=>obtain⟨H,b,p⟩:=ei _ (x.mono f) ((s).hT (n*size)) g;rw[b];dsimp only;refine(Qq e p).andThen ?_;intro C M a D m;exact .AM (.slice _ _ m)
   ·refine(LU U e).andThen ?_;intro A f y y' hy;refine AG.andThen (Q:=Q0 F) (.AM hy.cells) ?_;intro B N z z' s;try dsimp only
    cases g:UD (λi=>Z (i*size,size)) ((nI (n*size)).map (z[·%z.size]!)) l.toList with|none=>exact .stuck|some d=>obtain⟨H,b,p⟩:=ei _ ((x.mono f).mono N) ((s).hT (n*size)) g;rw[b];dsimp only;refine(Qq e p).andThen ?_;intro C M a D m;exact .AM (.slice _ _ m)
 |_=>exact .stuck
end
section
variable{P:Ac}{F:Nat->Prop}{so:Dr}{E:AN}
theorem AG.HD{Q:AN->d8->d8->Prop}{s d:BQ d8}(h:BO P s):AG P F so Q E s d:=.dead d h
theorem OM:F6 P ir:=.program (.pure _)
theorem Qf(t:A_):F6 P (Iq t):=by
 unfold Iq;refine F6.bind OM λp=>?_;split;·exact .pure _
 ·exact .dead (BO.halt _)
theorem Qe(t:A_):F6 P (RL t):=by
 unfold RL;refine F6.bind OM λp=>?_;split;·exact .pure _
 ·exact .dead (BO.halt _)
theorem a3B(t:A_):F6 P (Vq t):=by
 unfold Vq;refine F6.bind (Qf t) λp=>?_;split;·exact .pure _
 ·exact .dead (BO.halt _)
theorem Ti(t:A_):F6 P (typeStr t):=by
 unfold typeStr;refine F6.bind (Qe t) λp=>?_;dsimp only;split;·exact .dead (BO.halt _)
 ·exact .pure _
theorem NR(q:aZi):F6 P (Sy q):=λ_ _ _ _ _ e=>by unfold Sy at e;simp only[DV]at e;split at e<;>cases e
theorem Tg(m:iJ):F6 P (mark m):=λ_ _ _ _ _ e=>by cases e
theorem aMa(a:Aa):F6 P (frozen a):=λ_ _ _ _ _ e=>by cases e
theorem aMb(r:Nat):F6 P (shape r):=λ_ _ _ _ _ e=>by cases e
theorem a3C(a:Aa)(n:Nat):F6 P (hZ a n):=by unfold hZ;refine F6.bind (aMb _) λs=>?_;first|exact .pure _|(split<;>exact .pure _)
theorem Th(a b c:Nat)(base:Option Aa)(x:A1):F6 P (nT a b c base x):=by
 unfold nT;have f:F6 P (match x with|As (Z y) _ _=>do Fi (!(<-hZ y (c*a))||base.any (·.block==y.block))|_=>Fi A5:BQ Bool):=by
  split;·exact F6.bind (a3C _ _) λ_=>.pure _
  ·exact .pure _
 cases base with
 |none=>exact f
 |some y=>
  dsimp only;refine F6.bind (a3C _ _) λu=>?_;refine F6.bind (aMa _) λv=>?_;refine F6.bind (F6.pure (u&&!v)) λe=>?_;cases e;·exact .pure _
  ·exact f
theorem a3D(t:A_)(v:A1):F6 P (aZq t v):=λ_ _ _ _ _ e=>by cases e
theorem GW(e:a9t):BO P (RJ e:BQ d8):=by unfold RJ;refine BO.behind (s:=ir) OM λp=>?_;cases e with|typeAssertion i c a m=>exact BO.behind (a3B _) λ_=>BO.behind (a3D _ _) λ_=>BO.halt _|panicNil=>exact BO.behind (a3B _) λ_=>BO.behind (a3D _ _) λ_=>BO.halt _|_=>exact BO.halt _
theorem Qr{Q:AN->d8->d8->Prop}(e:a9t){s:BQ d8}:AG P F so Q E (RJ e) s:=.HD (GW e)
theorem XJ(n:Nat):AG P F so Ny E (ig n) (ig n):=by
 unfold ig;split;·exact .mark .noRoom (.pure trivial)
 ·exact .AM trivial
theorem aPA(t:A_)(h:AJ F E v v'):AG P F so (Ci F) E (wV t v) (wV t v'):=by unfold wV;refine(G1 t).andThen ?_;rintro e b d _ rfl;cases d with|interface m=>exact .stuck|_=>exact .AM (.iface t (h.mono b))
theorem aP9{a a' b b':Array A1}(f:Nat)(e:F f)(h:Ab F E a.toList a'.toList)(k:Ab F E b.toList b'.toList):AG P F so (Ci F) E (a7v (aYI f) a b) (a7v (aYI f) a' b'):=.AM (.func e h k)
theorem aPB{o o':Option A1}(t:A_)(h:Ke F E o o'):AG P F so (Ci F) E (aQ t o) (aQ t o'):=by
 unfold aQ;rcases h with⟨rfl,rfl⟩|⟨v,z,rfl,rfl,hv⟩;·exact .new (.map 0 .nil) λb m f=>.pure (.map (AN.RX _ _ _ f))
 ·simp only;refine(G1 t).andThen ?_;rintro s p d _ rfl;cases d with|map k e=>simp only;refine(SS (hv.mono p)).andThen ?_;rintro x y n _ rfl;exact .new (.map 0 .nil) λb m f=>.pure (.map (AN.RX _ _ _ f))|_=>exact .stuck
theorem aPC(I:Fit P F){l j c c':A1}(t:A_)(h:AJ F E l j)(k:AJ F E c c'):AG P F so (Ci F) E (dJ t l c) (dJ t j c'):=by
 unfold dJ;refine(G1 t).andThen ?_;rintro K p d _ rfl;cases d with
 |slice e=>
  simp only;refine(SS (h.mono p)).andThen ?_;rintro M C n _ rfl;refine(SS ((k.mono p).mono C)).andThen ?_;rintro N q m _ rfl;refine(He e).andThen ?_;rintro U B i _⟨rfl,_⟩;split
  ·split;·exact .HD (BO.bind (GW _))
   ·split;·exact .HD (BO.bind (GW _))
    ·exact .HD (BO.behind (by first|exact NR _|exact Tg _|exact Th _ _ _ _ _|exact Ti _|exact Qe _|exact Qf _|exact OM) λ_=>BO.bind (GW _))
  ·refine(XJ _).andThen ?_;intro L R _ _ _;refine(Hp e).andThen ?_;rintro T W X _ rfl;try dsimp only
   split;·refine AG.andThen (Q:=Q0 F) (.AM .nil) ?_;intro s D z z' f;refine(Qq e (f.hT _)).andThen ?_;intro x H a A b;exact .AM (.slice _ _ b)
   ·refine(LU I e).andThen ?_;intro s D y y' hy;refine AG.andThen (Q:=Q0 F) (.AM hy.cells) ?_;intro aF TK z z' f;refine(Qq e (f.hT _)).andThen ?_;intro x H a A b;exact .AM (.slice _ _ b)
 |_=>exact .stuck
theorem cL(h:AJ F E v v'):AG P F so FC E (nS v) (nS v'):=by cases h with|Gt l c=>exact .AM rfl|slice l c h=>exact .AM rfl|string s=>exact .AM rfl|_=>exact .stuck
theorem Ab.self:∀{l:List A1},(∀v∈l,AJ F E v v)->Ab F E l l|[],_=>.nil|_::_,h=>.cons (h _ (N' ..)) (Ab.self λv hv=>h v (I8 _ hv))
theorem Mj(e n:Nat)(h:AJ F E v v'):AG P F so (Q0 F) E (nR e n v) (nR e n v'):=by cases h with|Gt l c=>exact .AM .nil|slice l c h=>exact uW h _|string s=>refine .AM ?_;refine Ab.self λv hv=>?_;have f:v∈(s.extract 0 n).data.map λb=>IS .u8 b.toNat:=Array.mem_toList_iff.1 hv;obtain⟨b,_,rfl⟩:=Array.mem_map.1 f;exact .int _ _|_=>exact .stuck
theorem Ab.zeroCells{z z':Array A1}(h:Ab F E z.toList z'.toList)(n:Nat):Ab F E (UA z n).toList (UA z' n).toList:=by
 unfold UA;have b:z'.size=z.size:=by simpa using h.length
 have:=h.hT (n*z.size);rw[b]at this⊢;exact this
theorem a4q(t:A_):AG P F so (λ_ a b=>a=b/\P.underlying t=Z a) E (Iq t) (Iq t):=by unfold Iq;refine .prog ?_;cases P.underlying t with|none=>exact .stuck|some d=>exact .AM ⟨rfl,rfl⟩
theorem aOf(Cr:Fit P F){s D9:A1}(ts:Array A_)(t:A_)(h:AJ F E s D9)(k:AJ F E x x')(l0:∀u,ts[1]?=Z u->∀q,P.underlying u≠Z (aYh q)):AG P F so (Ci F) E (U9 ts t #[s,x]) (U9 ts t #[D9,x']):=by
 unfold U9;cases AH:ts[0]? with
 |none=>exact .stuck
 |some ue=>
  simp only[W0,jM,yQ];refine(G1 ue).andThen ?_;rintro M D d _ rfl;cases d with
  |slice e=>
   have h2:=h.mono D;cases h2 with
   |Gt l c=>
    dsimp only;refine(Hp e).andThen ?_;rintro C1 m f _ rfl;cases h1:ts[1]? with
    |none=>
     dsimp only;refine AG.andThen (Q:=λ_ a U=>a=A5/\U=A5) (.AM ⟨rfl,rfl⟩) ?_;rintro Ed p _ _⟨rfl,rfl⟩;simp only[EU,if_false,U4,if_true,false_or];refine(cL (((k.mono D).mono m).mono p)).andThen ?_;rintro GP y n _ rfl;split;·refine(Mj f n ((((k.mono D).mono m).mono p).mono y)).andThen ?_;intro N A C B H;exact .AM (.Gt _ _)
     ·refine(He e).andThen ?_;rintro N A i _⟨rfl,_⟩;split;·exact .HD (BO.bind (GW _))
      ·refine(He e).andThen ?_;rintro Pk I j _⟨rfl,_⟩;split;·exact .HD (BO.bind (BO.behind (by first|exact NR _|exact Tg _|exact Th _ _ _ _ _|exact Ti _|exact Qe _|exact Qf _|exact OM) λ_=>by split<;>first|exact BO.behind (by first|exact NR _|exact Tg _|exact Th _ _ _ _ _|exact Ti _|exact Qe _|exact Qf _|exact OM) λ_=>BO.halt _|exact BO.halt _))
       ·refine .choose _ λSK=>?_;refine(He e).andThen ?_;rintro XZ L NM _⟨rfl,_⟩;refine(XJ _).andThen ?_;intro X_ R _ _ _;have K:=λ(v v':A1)(hv:AJ F M v v')=>((((((hv.mono m).mono p).mono y).mono A).mono I).mono L).mono R;refine(Mj f _ (K _ _ (.Gt l c:AJ F M _ _))).andThen ?_;intro aF T old To W;refine(Mj f n ((K _ _ (k.mono D)).mono T)).andThen ?_;intro cq X C B H;refine(LU Cr e).andThen ?_;intro cr Rm z z' AR;refine(Qq e ?_).andThen ?_;·have:=(((W.mono X).append H).mono Rm).append (AR.cells.zeroCells (SK-(l+n)));simpa using this
        ·intro cu ey b b' hb;exact .AM (.slice _ _ hb)
    |some u=>
     dsimp only;refine(a4q u).andThen ?_;rintro nO Yn d2 _⟨rfl,AT⟩;replace m:=AN.le_trans m Yn;refine AG.andThen (Q:=λ_ a U=>a=A5/\U=A5) (.AM ?_) ?_;·cases d2 with|int q=>exact absurd AT (l0 u h1 q)|_=>exact⟨rfl,rfl⟩
     ·skip;rintro Ed p _ _⟨rfl,rfl⟩;simp only[EU,if_false,U4,if_true,false_or];refine(cL (((k.mono D).mono m).mono p)).andThen ?_;rintro GP y n _ rfl;split;·refine(Mj f n ((((k.mono D).mono m).mono p).mono y)).andThen ?_;intro N A C B H;exact .AM (.Gt _ _)
      ·refine(He e).andThen ?_;rintro N A i _⟨rfl,_⟩;split;·exact .HD (BO.bind (GW _))
       ·refine(He e).andThen ?_;rintro Pk I j _⟨rfl,_⟩;split;·exact .HD (BO.bind (BO.behind (by first|exact NR _|exact Tg _|exact Th _ _ _ _ _|exact Ti _|exact Qe _|exact Qf _|exact OM) λ_=>by split<;>first|exact BO.behind (by first|exact NR _|exact Tg _|exact Th _ _ _ _ _|exact Ti _|exact Qe _|exact Qf _|exact OM) λ_=>BO.halt _|exact BO.halt _))
        ·refine .choose _ λSK=>?_;refine(He e).andThen ?_;rintro XZ L NM _⟨rfl,_⟩;refine(XJ _).andThen ?_;intro X_ R _ _ _;have K:=λ(v v':A1)(hv:AJ F M v v')=>((((((hv.mono m).mono p).mono y).mono A).mono I).mono L).mono R;refine(Mj f _ (K _ _ (.Gt l c:AJ F M _ _))).andThen ?_;intro aF T old To W;refine(Mj f n ((K _ _ (k.mono D)).mono T)).andThen ?_;intro cq X C B H;refine(LU Cr e).andThen ?_;intro cr Rm z z' AR;refine(Qq e ?_).andThen ?_;·have:=(((W.mono X).append H).mono Rm).append (AR.cells.zeroCells (SK-(l+n)));simpa using this
         ·intro cu ey b b' hb;exact .AM (.slice _ _ hb)
   |slice l c A6=>
    dsimp only;refine(Hp e).andThen ?_;rintro C1 m f _ rfl;cases h1:ts[1]? with
    |none=>
     dsimp only;refine AG.andThen (Q:=λ_ a U=>a=A5/\U=A5) (.AM ⟨rfl,rfl⟩) ?_;rintro Ed p _ _⟨rfl,rfl⟩;simp only[EU,if_false,U4,if_true,false_or];refine(cL (((k.mono D).mono m).mono p)).andThen ?_;rintro GP y n _ rfl;split;·refine(Mj f n ((((k.mono D).mono m).mono p).mono y)).andThen ?_;intro N A C B H;refine(ZX 0 (((((A6.mono m).mono p).mono y).mono A).add _) H).andThen ?_;intro Pk I _ _ _;exact .AM (.slice _ _ (((((A6.mono m).mono p).mono y).mono A).mono I))
     ·refine(He e).andThen ?_;rintro N A i _⟨rfl,_⟩;split;·exact .HD (BO.bind (GW _))
      ·refine(He e).andThen ?_;rintro Pk I j _⟨rfl,_⟩;split;·exact .HD (BO.bind (BO.behind (by first|exact NR _|exact Tg _|exact Th _ _ _ _ _|exact Ti _|exact Qe _|exact Qf _|exact OM) λ_=>by split<;>first|exact BO.behind (by first|exact NR _|exact Tg _|exact Th _ _ _ _ _|exact Ti _|exact Qe _|exact Qf _|exact OM) λ_=>BO.halt _|exact BO.halt _))
       ·refine .choose _ λSK=>?_;refine(He e).andThen ?_;rintro XZ L NM _⟨rfl,_⟩;refine(XJ _).andThen ?_;intro X_ R _ _ _;have K:=λ(v v':A1)(hv:AJ F M v v')=>((((((hv.mono m).mono p).mono y).mono A).mono I).mono L).mono R;refine(Mj f _ (K _ _ (.slice l c A6:AJ F M _ _))).andThen ?_;intro aF T old To W;refine(Mj f n ((K _ _ (k.mono D)).mono T)).andThen ?_;intro cq X C B H;refine(LU Cr e).andThen ?_;intro cr Rm z z' AR;refine(Qq e ?_).andThen ?_;·have:=(((W.mono X).append H).mono Rm).append (AR.cells.zeroCells (SK-(l+n)));simpa using this
        ·intro cu ey b b' hb;exact .AM (.slice _ _ hb)
    |some u=>
     dsimp only;refine(a4q u).andThen ?_;rintro nO Yn d2 _⟨rfl,AT⟩;replace m:=AN.le_trans m Yn;refine AG.andThen (Q:=λ_ a U=>a=A5/\U=A5) (.AM ?_) ?_;·cases d2 with|int q=>exact absurd AT (l0 u h1 q)|_=>exact⟨rfl,rfl⟩
     ·skip;rintro Ed p _ _⟨rfl,rfl⟩;simp only[EU,if_false,U4,if_true,false_or];refine(cL (((k.mono D).mono m).mono p)).andThen ?_;rintro GP y n _ rfl;split;·refine(Mj f n ((((k.mono D).mono m).mono p).mono y)).andThen ?_;intro N A C B H;refine(ZX 0 (((((A6.mono m).mono p).mono y).mono A).add _) H).andThen ?_;intro Pk I _ _ _;exact .AM (.slice _ _ (((((A6.mono m).mono p).mono y).mono A).mono I))
      ·refine(He e).andThen ?_;rintro N A i _⟨rfl,_⟩;split;·exact .HD (BO.bind (GW _))
       ·refine(He e).andThen ?_;rintro Pk I j _⟨rfl,_⟩;split;·exact .HD (BO.bind (BO.behind (by first|exact NR _|exact Tg _|exact Th _ _ _ _ _|exact Ti _|exact Qe _|exact Qf _|exact OM) λ_=>by split<;>first|exact BO.behind (by first|exact NR _|exact Tg _|exact Th _ _ _ _ _|exact Ti _|exact Qe _|exact Qf _|exact OM) λ_=>BO.halt _|exact BO.halt _))
        ·refine .choose _ λSK=>?_;refine(He e).andThen ?_;rintro XZ L NM _⟨rfl,_⟩;refine(XJ _).andThen ?_;intro X_ R _ _ _;have K:=λ(v v':A1)(hv:AJ F M v v')=>((((((hv.mono m).mono p).mono y).mono A).mono I).mono L).mono R;refine(Mj f _ (K _ _ (.slice l c A6:AJ F M _ _))).andThen ?_;intro aF T old To W;refine(Mj f n ((K _ _ (k.mono D)).mono T)).andThen ?_;intro cq X C B H;refine(LU Cr e).andThen ?_;intro cr Rm z z' AR;refine(Qq e ?_).andThen ?_;·have:=(((W.mono X).append H).mono Rm).append (AR.cells.zeroCells (SK-(l+n)));simpa using this
         ·intro cu ey b b' hb;exact .AM (.slice _ _ hb)
   |_=>exact .stuck
  |_=>exact .stuck
end
section
variable{P:Ac}{F:Nat->Prop}{so:Dr}{E:AN}
theorem E5.length:∀{l d:List Ft},E5 F E l d->d.length=l.length|_,_,.nil=>rfl|_,_,.cons _ _ t=>congrArg (·+1) t.length
theorem aP6(ts:Array A_)(t:A_)(h:AJ F E x x'):AG P F so (Ci F) E (h_ ts t #[x]) (h_ ts t #[x']):=by
 unfold h_;cases ts[0]? with
 |none=>exact .stuck
 |some u=>
  simp only[W0,jM];refine(G1 u).andThen ?_;rintro p A d _ rfl;have h2:=h.mono A;cases d with
  |array n e=>exact .AM (.int _ _)
  |pointer a=>
   dsimp only;refine(G1 a).andThen ?_;rintro I K z _ rfl;cases z with
   |array n e=>exact .AM (.int _ _)
   |_=>exact .stuck
  |string=>
   cases h2 with
   |string s=>exact .AM (.int _ _)
   |_=>exact .stuck
  |slice e=>
   cases h2 with
   |Gt l c=>exact .AM (.int _ _)
   |slice l c M=>exact .AM (.int _ _)
   |_=>exact .stuck
  |map k e=>
   cases h2 with
   |Qg=>exact .AM (.int _ _)
   |map m=>
    refine .getObj m λo H f=>?_;cases f with
    |map n D=>have:=D.length;simp only[Ph]at this;show AG P F so (Ci F) p (Fi _) (Fi _);rw[this];exact .AM (.int _ _)
    |_=>exact .stuck
   |_=>exact .stuck
  |chan a b=>
   cases h2 with
   |WN=>exact .AM (.int _ _)
   |chan m=>
    refine .getObj m λo H f=>?_;cases f with
    |chan y cl s r N C=>have:=C.length;simp only[Ph]at this;show AG P F so (Ci F) p (Fi _) (Fi _);rw[this];exact .AM (.int _ _)
    |_=>exact .stuck
   |_=>exact .stuck
  |_=>cases h2<;>exact .stuck
theorem aOp(ts:Array A_)(t:A_)(h:AJ F E x x'):AG P F so (Ci F) E (vm ts t #[x]) (vm ts t #[x']):=by
 unfold vm;cases ts[0]? with
 |none=>exact .stuck
 |some u=>
  simp only[W0,jM];refine(G1 u).andThen ?_;rintro A p d _ rfl;have h2:=h.mono p;cases d with
  |array n e=>exact .AM (.int _ _)
  |pointer a=>
   dsimp only;refine(G1 a).andThen ?_;rintro C D m _ rfl;cases m with
   |array n e=>exact .AM (.int _ _)
   |_=>exact .stuck
  |slice e=>
   cases h2 with
   |Gt l c=>exact .AM (.int _ _)
   |slice l c H=>exact .AM (.int _ _)
   |_=>exact .stuck
  |chan a b=>
   cases h2 with
   |WN=>exact .AM (.int _ _)
   |chan z=>
    refine .getObj z λo K y=>?_;cases y with
    |chan f cl s r M I=>exact .AM (.int _ _)
    |_=>exact .stuck
   |_=>exact .stuck
  |_=>cases h2<;>exact .stuck
theorem aOu(ts:Array A_)(t:A_)(h:AJ F E x x')(k:AJ F E y y'):AG P F so (Ci F) E (vp ts t #[x,y]) (vp ts t #[x',y']):=by
 unfold vp;cases ts[0]? with
 |none=>exact .stuck
 |some u=>
  simp only[W0,jM,yQ];refine(G1 u).andThen ?_;rintro K b d _ rfl;have h2:=h.mono b;cases d with
  |slice e=>
   cases h2 with
   |Gt l c=>dsimp only;refine(cL (k.mono b)).andThen ?_;rintro C f n _ rfl;refine(Hp e).andThen ?_;rintro D p m _ rfl;refine(Mj m _ (((k.mono b).mono f).mono p)).andThen ?_;intro H z cs s A;exact .AM (.int _ _)
   |slice l c I=>dsimp only;refine(cL (k.mono b)).andThen ?_;rintro C f n _ rfl;refine(Hp e).andThen ?_;rintro D p m _ rfl;refine(Mj m _ (((k.mono b).mono f).mono p)).andThen ?_;intro H z cs s A;refine(ZX 0 (((I.mono f).mono p).mono z) A).andThen ?_;intro M N _ _ _;exact .AM (.int _ _)
   |_=>exact .stuck
  |_=>exact .stuck
inductive TB(P:Ac)(F:Nat->Prop):BQ A1->Prop|AM{v:A1}:(∀E,AJ F E v v)->TB P F (Mu v)|dead{s:BQ A1}:BO P s->TB P F s
theorem TB.VV(h:TB P F s):AG P F so (Ci F) E s s:=by cases h with|AM h=>exact .pure (h E)|dead h=>exact .HD h
theorem a5x(b:Im)(k:KY)(x y:Int):TB P F (oG b k x y):=by unfold oG;split<;>first|exact .AM λ_=>.int _ _|exact .dead (BO.halt _)
theorem aRy(b:Im)(k:KY)(x y:Int):TB P F (oJ b k x y):=by
 unfold oJ;split;·exact .dead (GW _)
 ·split<;>first|exact .AM λ_=>.int _ _|exact .dead (BO.halt _)
theorem a5y(b:Im)(k:KY)(x y:Int):TB P F (oH b k x y):=by unfold oH;dsimp only;split<;>first|exact .AM λ_=>.int _ _|exact .dead (BO.halt _)
theorem aRz(b:Im)(k q:KY)(x y:Int):TB P F (oK b k x q y):=by
 unfold oK;split;·exact .dead (GW _)
 ·dsimp only;split<;>first|exact .AM λ_=>.int _ _|exact .dead (BO.halt _)
theorem aRx(b:Im)(x y:Int):TB P F (oI b x y):=by unfold oI;split<;>first|exact .AM λ_=>.bool _|exact .dead (BO.halt _)
theorem a5z(b:Im)(x y:ByteArray):TB P F (aT b x y):=by
 unfold aT;dsimp only;split
 ·split;·exact .dead (BO.halt _)
  ·exact .AM λ_=>.string _
 all_goals first|exact .AM λ_=>.bool _|exact .dead (BO.halt _)
theorem aPY(b:UnOp)(h:AJ F E x x'):AG P F so (Ci F) E (iR b x) (iR b x'):=by unfold iR;cases b<;>cases h<;>first|exact(a5x _ _ _ _).VV|exact(a5y _ _ _ _).VV|exact .AM (.bool _)|exact .stuck|exact .DM
end
section
variable{P:Ac}{F:Nat->Prop}{so:Dr}{E:AN}
inductive YY{Bw:Type}(Q:AN->Bw->Bw->Prop)(E:AN):ForInStep Bw->ForInStep Bw->Prop|yield{b b':Bw}:Q E b b'->YY Q E (.yield b) (.yield b')|done{b b':Bw}:Q E b b'->YY Q E (.done b) (.done b')
theorem AG.forIn{d8 Bw:Type}{Q:AN->Bw->Bw->Prop}{f f':d8->Bw->BQ (ForInStep Bw)}:∀(l:List d8){E:AN}{b b':Bw},(∀e,E.le e->∀x,x∈l->∀b b',Q e b b'->AG P F so (YY Q) e (f x b) (f' x b'))->Q E b b'->AG P F so Q E (Xb l b f) (Xb l b' f')|[],_,_,_,_,h=>by simp only[aBS];exact .AM h|x::l,E,b,b',AE,h=>by simp only[aBR];refine(AE E (AN.le_refl _) x (N' ..) b b' h).andThen ?_;intro e z s C hs;cases hs with|done m=>exact .AM m|yield m=>exact AG.forIn l (λp A y hy=>AE p (AN.le_trans z A) y (I8 _ hy)) m
theorem AG.qs{Q:AN->Bw->Bw->Prop}{f f':d8->Bw->BQ (ForInStep Bw)}(l:Array d8){b b':Bw}(p:∀e,E.le e->∀x,x∈l->∀b b',Q e b b'->AG P F so (YY Q) e (f x b) (f' x b'))(h:Q E b b'):AG P F so Q E (Xb l b f) (Xb l b' f'):=by rw[<-nF,<-nF];exact AG.forIn l.toList (λe m x hx=>p e m x (by simpa using hx)) h
inductive pv:AN->Option (Aa×A_)->Option (Aa×A_)->Prop|none{E:AN}:pv E none none|some{E:AN}{a a':Aa}(t:Nat):veiled t->D7 E a a'->pv E (some (a,t)) (some (a',t))
theorem mX{r Bc:Nat}(h:E.rel r Bc):AG P F so pv E (xr r) (xr Bc):=by unfold xr;refine .shape h λs=>?_;cases s with|some s=>exact .pure .none|none=>refine .getObj h λo f e=>?_;cases e with|view t v b=>exact .pure (.some t v b)|_=>exact .pure .none
theorem uX(h:D7 E a a'):AG P F so Ny E (xi a) (xi a'):=by unfold xi;refine(mX h.1).andThen ?_;intro b e x m hx;cases hx with|none=>exact .AM trivial|some t v f=>exact .DM
theorem ZV(h:D7 E a a'):AG P F so FC E (xV a) (xV a'):=by
 obtain⟨b,C,y⟩:=a;obtain⟨z,m,p⟩:=a';obtain⟨f,h2,h3⟩:=h;simp only at f h2 h3;subst h2 h3;unfold xV;cases p with
 |some s=>exact .AM rfl
 |none=>
  refine .prog ?_;refine(uX (a:=⟨b,m,J⟩) (a':=⟨z,m,J⟩) ⟨f,rfl,rfl⟩).andThen ?_;rintro D A _ _ _;refine .shape (A _ _ f) λs=>?_;cases s with
  |none=>exact .stuck
  |some s=>
   obtain⟨e,n⟩:=s;simp only[Dy];by_cases x:P.cellsOf e=0;·simp only[x,if_true];exact .pure rfl
   ·simp only[x,if_false];cases oi P P.depth e (m%P.cellsOf e)with|none=>exact .stuck|some _=>exact .AM rfl
theorem aPL(h:D7 E a a')(c n:Nat):AG P F so W8 E (xk a c n) (xk a' c n):=by
 unfold xk;refine(ZV h).andThen ?_;rintro e f x _ rfl;have hp:D7 e {block:=a.block,off:=a.off+c} {block:=a'.block,off:=a'.off+c}:=⟨f _ _ h.1,by simp only[h.2.1],rfl⟩;refine(ZV hp).andThen ?_;rintro m b y _ rfl;by_cases he:y=x+n;·simp only[he,if_true];exact .AM (hp.mono b)
 ·simp only[he,if_false];exact .AM ⟨(hp.mono b).1,hp.2.1,rfl⟩
theorem uT(h:D7 E a a')(f:Field):AG P F so W8 E (ik a f) (ik a' f):=by
 unfold ik;refine(Hp f.type).andThen ?_;rintro m b n _ rfl;by_cases e:n=0;·simp only[e,if_true];exact aPL (h.mono b) f.offset f.byteOffset
 ·simp only[e,if_false];exact .AM ((h.mono b).add f.offset)
theorem aP2(t:A_)(h:AJ F E v v')(i:Nat):AG P F so (Ci F) E (iC t v i) (iC t v' i):=by
 unfold iC;refine(G1 t).andThen ?_;rintro x m d _ rfl;cases d with
 |struct e=>
  simp only;cases e[i]? with
  |none=>exact .stuck
  |some f=>simp only;refine(h6 (h.mono m)).andThen ?_;intro y D a A p;refine(uT p f).andThen ?_;intro z H b C s;exact .AM (.ptr s)
 |_=>exact .stuck
end
section
variable{P:Ac}{F:Nat->Prop}{so:Dr}{E:AN}
theorem a4_{d8 Bw:Type}{g:Bw->d8->BQ Bw}(e:∀(E:AN)b x,AG P F so FC E (g b x) (g b x)):∀(l:List d8){E:AN}(b:Bw),AG P F so FC E (l.foldlM g b) (l.foldlM g b)|[],_,_=>.AM rfl|x::l,E,b=>by simp only[pY];refine(e E b x).andThen ?_;rintro f h y _ rfl;exact a4_ e l y
theorem aPE{g:d8->BQ Bw}(e:∀(E:AN)x,AG P F so FC E (g x) (g x))(l:Array d8):AG P F so FC E (l.mapM g) (l.mapM g):=by rw[hX,<-hU];refine a4_ (λE b x=>?_) l.toList _;refine(e E x).andThen ?_;rintro f h y _ rfl;exact .AM rfl
theorem aOl(M:Fit P F){l j:Array (Nat×A1)}(t:A_)(h:Nw F E l.toList j.toList):AG P F so (Ci F) E (iA t l) (iA t j):=by
 unfold iA;refine(LU M t).andThen ?_;intro U K z z' N;refine(G1 t).andThen ?_;rintro q y d _ rfl;have C:=(N.mono y).cells;have A:=(h.mono K).mono y;cases d with
 |struct I=>
  simp only;refine(aPE (g:=λf:Field=>do Fi (f.offset,<-UK f.type)) (λE f=>?_) I).andThen ?_;·refine(Hp f.type).andThen ?_;rintro Q _ n _ rfl;exact .AM rfl
  ·rintro D p b _ rfl;cases g:UD (b[·]?) z.cells l.toList with|none=>exact .stuck|some d=>obtain⟨H,s,x⟩:=ei _ (A.mono p) (C.mono p) g;rw[s];exact .AM (.agg x)
 |array n e=>simp only;refine(Hp e).andThen ?_;rintro D p m _ rfl;cases g:UD (λi=>Z (i*m,m)) z.cells l.toList with|none=>exact .stuck|some d=>obtain⟨H,s,x⟩:=ei _ (A.mono p) (C.mono p) g;rw[s];exact .AM (.agg x)
 |_=>exact .stuck
end
section
variable{P:Ac}{F:Nat->Prop}{so:Dr}{E:AN}
theorem AG.same{s d:BQ (ForInStep Bw)}(h:AG P F so FC E s d):AG P F so (YY FC) E s d:=h.weaken λf _ a m e=>by cases e;cases a with|done b=>exact .done rfl|yield b=>exact .yield rfl
theorem AG.qt{Q:AN->Bw->Bw->Prop}{f f':Nat->Bw->BQ (ForInStep Bw)}(r:aUX){b b':Bw}(p:∀e,E.le e->∀x b b',Q e b b'->AG P F so (YY Q) e (f x b) (f' x b'))(h:Q E b b'):AG P F so Q E (Xb r b f) (Xb r b' f'):=by rw[yj,yj];exact AG.forIn _ (λe m x _=>p e m x) h
theorem mR:∀(d:Nat){E:AN}(t:A_){x x' y y':A1},AJ F E x x'->AJ F E y y'->AG P F so FC E (iO d t x y) (iO d t x' y')
 |0,_,_,_,_,_,_,_,_=>.DM
 |d+1,E,t,x,x',y,y',hx,hy=>by
  unfold iO;refine(G1 t).andThen ?_;rintro q D u _ rfl;replace hx:=hx.mono D;replace hy:=hy.mono D;cases u with
  |interface ms=>cases hx with|nilIface=>cases hy<;>exact .AM rfl|_=>exact .AM rfl
  |struct U=>
   cases hx with
   |agg hx=>
    cases hy with
    |agg hy=>
     dsimp only;refine(AG.qs (Q:=FC) U (λs p f _ b N e=>?_) rfl).andThen ?_
     ·cases e;refine AG.same ?_;split;·refine(PX f.type (hx.mono p) f.offset).andThen ?_;intro I z v v' hv;refine(PX f.type ((hy.mono p).mono z) f.offset).andThen ?_;intro K A w w' C;refine(mR d f.type (hv.mono A) C).andThen ?_;rintro M j r _ rfl;split<;>exact .AM rfl
      ·exact .AM rfl
     ·rintro s p r _ rfl;split<;>exact .AM rfl
    |_=>exact .AM rfl
   |_=>exact .AM rfl
  |array n e=>
   cases hx with
   |agg hx=>
    cases hy with
    |agg hy=>
     dsimp only;refine(Hp e).andThen ?_;rintro B H m _ rfl;replace hx:=hx.mono H;replace hy:=hy.mono H;refine(AG.qt (Q:=FC) _ (λs p f b N h=>?_) rfl).andThen ?_;·cases h;refine AG.same ?_;refine(PX e (hx.mono p) (f*m)).andThen ?_;intro I z v v' hv;refine(PX e ((hy.mono p).mono z) (f*m)).andThen ?_;intro K A w w' C;refine(mR d e (hv.mono A) C).andThen ?_;rintro M j r _ rfl;split<;>exact .AM rfl
     ·rintro s p r _ rfl;split<;>exact .AM rfl
    |_=>exact .AM rfl
   |_=>exact .AM rfl
  |_=>exact .AM rfl
end
section
variable{P:Ac}{F:Nat->Prop}{so:Dr}{E:AN}
theorem Mk(t:A_):AG P F so (λ_ a b=>a=b/\P.underlying t=Z a) E (Iq t) (Iq t):=by unfold Iq;refine .prog ?_;cases P.underlying t with|none=>exact .stuck|some d=>exact .AM ⟨rfl,rfl⟩
theorem a4l{r Bc:Nat}(h:E.rel r Bc):AG P F so (λE a b=>a=J/\b=J∨∃x e l,a=Z (x,l)/\b=Z (e,l)/\D7 E x e) E (xj r) (xj Bc):=by unfold xj;refine .shape h λs=>?_;cases s with|some s=>exact .pure (AA ⟨rfl,rfl⟩)|none=>refine .getObj h λo p m=>?_;cases m with|number l f=>exact .pure (AF ⟨_,_,_,rfl,rfl,f⟩)|_=>exact .pure (AA ⟨rfl,rfl⟩)
theorem ZU(h:D7 E a a'):AG P F so (λE p E1=>E1.2=p.2/\D7 E p.1 E1.1) E (ij a) (ij a'):=by
 unfold ij;refine(a4l h.1).andThen ?_;rintro e b _ _(⟨rfl,rfl⟩|⟨x,f,l,rfl,rfl,hx⟩);·exact .AM ⟨rfl,h.mono b⟩
 ·exact .AM ⟨rfl,hx⟩
theorem D7.same{b:Aa}(z:D7 E a a')(A:D7 E b b'):(a'==b')=(a==b):=by obtain⟨x,o,s⟩:=a;obtain⟨C,H,M⟩:=a';obtain⟨y,q,r⟩:=b;obtain⟨D,I,K⟩:=b';obtain⟨f,h2,h3⟩:=z;obtain⟨h,m,p⟩:=A;simp only at f h2 h3 h m p;subst h2 h3 m p;have e:C=D↔x=y:=⟨λe=>by subst e;exact E.other _ _ _ f h,λe=>by subst e;exact E.one _ _ _ f h⟩;rw[U3,beq_iff_eq,beq_iff_eq];simp only[aTp,e]
theorem D7.ug{b:Aa}(A6:D7 E a a')(hb:D7 E b b'):(a'.block==b'.block)=(a.block==b.block):=by rw[U3,beq_iff_eq,beq_iff_eq];exact⟨λe=>E.other _ _ _ A6.1 (e▸hb.1),λe=>E.one _ _ _ A6.1 (e▸hb.1)⟩
def flat(P:Ac):Nat->A_->Bool|0,_=>A5|d+1,t=>match P.underlying t with|Z .bool|Z (aYh _)|Z aZo=>A0|Z (.struct fs)=>fs.all λf=>flat P d f.type|Z (aZn _ e)=>flat P d e|_=>A5
end
section
variable{P:Ac}{F:Nat->Prop}{so:Dr}{E:AN}
theorem uS(K:P.globals.size=D4):∀(d:Nat){E:AN}(k:Nat)(t:A_){x x' y y':A1},flat P k t=A0->AJ F E x x'->AJ F E y y'->AG P F so FC E (Mt d t x y) (Mt d t x' y')
 |0,_,_,_,_,_,_,_,_,_,_=>.DM
 |d+1,E,0,t,x,x',y,y',AE,hx,hy=>by cases AE
 |d+1,E,k+1,t,x,x',y,y',AE,hx,hy=>by
  unfold Mt;refine(Mk t).andThen ?_;rintro W j u _⟨rfl,hu⟩;unfold flat at AE;rw[hu]at AE;replace hx:=hx.mono j;replace hy:=hy.mono j;cases u with
  |bool=>
   cases hx with
   |bool a=>
    cases hy with
    |bool b=>exact .AM rfl
    |_=>exact .stuck
   |_=>exact .stuck
  |string=>
   cases hx with
   |string a=>
    cases hy with
    |string b=>exact .AM rfl
    |_=>exact .stuck
   |_=>exact .stuck
  |int kind=>
   cases hx with
   |int k1 a=>
    cases hy with
    |int T b=>
     dsimp only;split;·exact .AM rfl
     ·exact .stuck
    |ptr D=>
     by_cases M:a=0;·subst M;exact .AM rfl
     ·split<;>first
      |exact .AM rfl
      |exact .DM
      |exact .stuck
      |simp_all
    |Gm=>
     split<;>first
     |exact .AM rfl
     |exact .DM
     |exact .stuck
     |simp_all
    |_=>exact .stuck
   |ptr M=>
    cases hy with
    |int T b=>
     by_cases D:b=0;·subst D;exact .AM rfl
     ·split<;>first
      |exact .AM rfl
      |exact .DM
      |exact .stuck
      |simp_all
    |ptr D=>
     dsimp only;refine(ZU M).andThen ?_;rintro C s p E1⟨_,hp⟩;refine(ZU (D.mono s)).andThen ?_;rintro H A q X⟨_,N⟩;replace hp:=hp.mono A;refine .prog ?_;rw[D7.ug hp N,D7.same hp N];have A9:Bn (E1.1.block<P.globals.size)=Bn (p.1.block<P.globals.size):=by rw[K];have:=H.low _ _ hp.1;simp[this]
     rw[A9];split;·refine(ZV hp).andThen ?_;rintro I z m _ rfl;refine(ZV (N.mono z)).andThen ?_;rintro B L n _ rfl;exact .AM rfl
     ·refine(He t).andThen ?_;rintro I z i _⟨rfl,_⟩;split
      ·split;·exact .AM rfl
       ·exact .DM
      ·exact .DM
    |_=>exact .DM
   |Gm=>exact .DM
   |_=>
    cases hy<;>first
    |exact .DM
    |exact .stuck
  |struct fs=>
   cases hx with
   |agg hx=>
    cases hy with
    |agg hy=>
     dsimp only;refine .prog ?_;split;·exact .DM
     refine(AG.qs (Q:=FC) fs (λC s f hm b b' e=>?_) rfl).andThen ?_
     ·cases e;refine AG.same ?_;split
      ·refine(PX f.type (hx.mono s) f.offset).andThen ?_;intro H A v v' hv;refine(PX f.type ((hy.mono s).mono A) f.offset).andThen ?_;intro I z w w' U;refine(uS K d k f.type ?_ (hv.mono z) U).andThen ?_;·exact Array.all_eq_true_iff_forall_mem.1 AE f hm
       rintro B L r _ rfl;split<;>exact .AM rfl
      ·exact .AM rfl
     ·rintro C s r _ rfl;split<;>exact .AM rfl
    |_=>exact .stuck
   |_=>exact .stuck
  |array n e=>
   cases hx with
   |agg hx=>
    cases hy with
    |agg hy=>
     dsimp only;refine(Hp e).andThen ?_;rintro Pk R size _ rfl;replace hx:=hx.mono R;replace hy:=hy.mono R;refine(AG.qt (Q:=FC) _ (λC s f b b' h=>?_) rfl).andThen ?_;·cases h;refine AG.same ?_;refine(PX e (hx.mono s) (f*size)).andThen ?_;intro H A v v' hv;refine(PX e ((hy.mono s).mono A) (f*size)).andThen ?_;intro I z w w' U;refine(uS K d k e AE (hv.mono z) U).andThen ?_;rintro B L r _ rfl;split<;>exact .AM rfl
     ·rintro C s r _ rfl;split<;>exact .AM rfl
    |_=>exact .stuck
   |_=>exact .stuck
  |_=>cases AE
end
section
variable{P:Ac}{F:Nat->Prop}{so:Dr}{E:AN}
inductive Nil:A1->Prop|ptr:Nil (aY4 J)|slice(l c:Nat):Nil (As J l c)|map:Nil (E3 J)|chan:Nil (aYC J)|func:Nil aZ8|iface:Nil aYA
theorem Nil.fixed(h:Nil v)(hv:AJ F E v v'):v'=v:=by cases h<;>cases hv<;>rfl
theorem aOz:∀(d:Nat){E:AN}(t:A_){x x' y:A1},AJ F E x x'->Nil y->AG P F so FC E (Mt d t x y) (Mt d t x' y)
 |0,_,_,_,_,_,_,_=>.DM
 |d+1,E,t,x,x',y,hx,hy=>by
  unfold Mt;refine(Mk t).andThen ?_;rintro s m u _⟨rfl,hu⟩;replace hx:=hx.mono m;cases hy with
  |ptr=>
   cases u with
   |int k=>
    cases hx with
    |int A b=>
     by_cases z:b=0<;>(
      split<;>first
      |exact .DM
      |exact .stuck
      |simp_all)
    |_=>exact .DM
   |pointer e=>
    cases hx with
    |Gm=>exact .AM rfl
    |ptr h=>exact .AM rfl
    |_=>exact .stuck
   |unsafePointer=>
    cases hx with
    |Gm=>exact .AM rfl
    |ptr h=>exact .AM rfl
    |_=>exact .stuck
   |_=>cases hx<;>exact .stuck
  |slice l c=>
   cases u with
   |slice e=>
    cases hx with
    |Gt p c2=>exact .AM rfl
    |slice p c2 h=>exact .AM rfl
    |_=>exact .stuck
   |int k=>
    cases hx<;>first
    |exact .DM
    |exact .stuck
   |_=>cases hx<;>exact .stuck
  |map=>
   cases u with
   |map e f=>
    cases hx with
    |Qg=>exact .AM rfl
    |map h=>exact .AM rfl
    |_=>exact .stuck
   |int k=>
    cases hx<;>first
    |exact .DM
    |exact .stuck
   |_=>cases hx<;>exact .stuck
  |chan=>
   cases u with
   |chan e f=>
    cases hx with
    |WN=>exact .AM rfl
    |chan h=>exact .AM rfl
    |_=>exact .stuck
   |int k=>
    cases hx<;>first
    |exact .DM
    |exact .stuck
   |_=>cases hx<;>exact .stuck
  |func=>
   cases u with
   |func e f g=>
    cases hx with
    |nilFunc=>exact .AM rfl
    |func _ _ _=>
     first
     |exact .AM rfl
     |exact .stuck
    |_=>exact .stuck
   |int k=>
    cases hx<;>first
    |exact .DM
    |exact .stuck
   |_=>cases hx<;>exact .stuck
  |iface=>
   cases u with
   |interface C=>
    cases hx with
    |nilIface=>exact .AM rfl
    |iface t h=>exact .AM rfl
    |_=>exact .stuck
   |int k=>
    cases hx<;>first
    |exact .DM
    |exact .stuck
   |_=>cases hx<;>exact .stuck
theorem a4o(b:so.HP)(A6:D7 E a a'):AG P F so FC E (xq a) (xq a'):=by unfold xq;refine .frozen b A6 λx=>?_;cases x with|true=>exact .pure rfl|false=>refine .shape A6.1 λs=>?_;cases s with|none=>exact .pure rfl|some s=>exact .frozen b (a:=⟨a.block,s.2,J⟩) (a':=⟨a'.block,s.2,J⟩) ⟨A6.1,rfl,rfl⟩ λy=>.pure rfl
theorem aPF(h:so.HP){b:Aa}(A6:D7 E a a')(hb:D7 E b b'):AG P F so FC E (xe a b) (xe a' b'):=by unfold xe;refine(a4o h A6).andThen ?_;rintro p e m _ rfl;refine(a4o h (hb.mono e)).andThen ?_;rintro x f el _ rfl;replace A6:=(A6.mono e).mono f;replace hb:=(hb.mono e).mono f;refine .shape A6.1 λs=>?_;exact .shape hb.1 λu=>.pure rfl
theorem aPP(p:so.HP){b:Aa}(e:D7 E a a')(f:D7 E b b'):AG P F so FC E (xm a b) (xm a' b'):=by
 unfold xm;rw[e.ug f,e.same f];split;·exact .AM rfl
 ·refine .frozen p e λx=>?_;refine .frozen p f λy=>?_;simp only[Dy];split;·exact .DM
  ·refine(uX e).andThen ?_;intro z h _ _ _;refine(uX (f.mono h)).andThen ?_;intro A s _ _ _;refine(aPF p ((e.mono h).mono s) ((f.mono h).mono s)).andThen ?_;rintro C D m _ rfl;cases m with|true=>exact .choose _ λn=>.pure rfl|false=>exact .AM rfl
theorem aP'(s:so.HP)(d:Nat)(t:A_)(p:∃e,P.underlying t=Z (aYe e))(hx:AJ F E x x')(hy:AJ F E y y'):AG P F so FC E (Mt d t x y) (Mt d t x' y'):=by
 cases d with
 |zero=>exact .DM
 |succ d=>
  unfold Mt;refine(Mk t).andThen ?_;rintro z b u _⟨rfl,hu⟩;obtain⟨e,he⟩:=p;rw[he]at hu;obtain rfl:=D3 hu;replace hx:=hx.mono b;replace hy:=hy.mono b;cases hx with
  |Gm=>cases hy<;>first|exact .AM rfl|exact .stuck
  |ptr h=>
   cases hy with
   |Gm=>exact .AM rfl
   |ptr m=>
    dsimp only;refine(Hp e).andThen ?_;rintro A f n _ rfl;split;·exact aPP s (h.mono f) (m.mono f)
    ·rw[h.same m];split;·exact .AM rfl
     ·exact .choose _ λn=>.pure rfl
   |_=>exact .stuck
  |_=>cases hy<;>exact .stuck
end
section
variable{P:Ac}{F:Nat->Prop}{so:Dr}{E:AN}
theorem a4p(p:P.globals.size=D4){b:Aa}(A6:D7 E a a')(e:D7 E b b'):AG P F so FC E (iQ a b) (iQ a' b'):=by
 unfold iQ;refine .prog ?_;have f:(a'.block !=b'.block)=(a.block !=b.block):=by unfold bne;rw[D7.ug A6 e]
 have h2:Bn (a'.block≥P.globals.size)=Bn (a.block≥P.globals.size):=by rw[p];have:=E.low _ _ A6.1;rw[U3,decide_eq_true_eq,decide_eq_true_eq];omega
 rw[f,h2];split;·exact .DM
 ·refine(ZV A6).andThen ?_;rintro s h m _ rfl;refine(ZV (e.mono h)).andThen ?_;rintro x y n _ rfl;exact .AM rfl
theorem aOd(e:P.globals.size=D4)(k:KY){b:Aa}(f:D7 E a a')(h:D7 E b b'):AG P F so (Ci F) E (iN k a b) (iN k a' b'):=by unfold iN;refine(a4p e f h).andThen ?_;rintro p s m _ rfl;exact .AM (.int _ _)
theorem aOc(f:P.globals.size=D4)(e:Im){b:Aa}(h:D7 E a a')(p:D7 E b b'):AG P F so (Ci F) E (iL e a b) (iL e a' b'):=by unfold iL;refine(a4p f h p).andThen ?_;rintro s x m _ rfl;cases e<;>first|exact .AM (.bool _)|exact .DM
theorem a4T(k:KY)(n:Int)(A6:D7 E a a'):AG P F so (Ci F) E (iM k a n) (iM k a' n):=by
 unfold iM;refine .shape A6.1 λs=>?_;cases s with
 |none=>exact .DM
 |some s=>
  obtain⟨e,c⟩:=s;refine(He e).andThen ?_;rintro f b i _⟨rfl,_⟩;dsimp only;split;·exact .DM
  ·refine(ZV (A6.mono b)).andThen ?_;rintro h p m _ rfl;exact .AM (.int _ _)
end
section
variable{P:Ac}{F:Nat->Prop}{so:Dr}{E:AN}
theorem aOi(h:D7 E a a')(l:Bool):AG P F so (Ci F) E (xT a l) (xT a' l):=by unfold xT newObj;exact .new (.number l h) λb f e=>.pure (.ptr ⟨AN.RX _ _ _ e,rfl,rfl⟩)
theorem mW(ts:Array A_)(t:A_)(hx:AJ F E x x')(hy:AJ F E y y'):AG P F so (Ci F) E (hd ts t #[x,y]) (hd ts t #[x',y']):=by
 unfold hd;cases hx with
 |Gm=>
  dsimp only;refine(SS hy).andThen ?_;rintro f b n _ rfl;split;·exact .DM
  ·split;·exact .DM
   ·exact .DM
 |ptr A6=>
  dsimp only;refine(SS hy).andThen ?_;rintro f b n _ rfl;replace A6:=A6.mono b;split;·refine(mX A6.1).andThen ?_;intro p h x x' hx;cases hx with|none=>exact .AM (.ptr (A6.mono h))|some t v z=>exact .DM
  ·split;·exact .DM
   ·refine .shape A6.1 λs=>?_;cases s with|none=>exact .DM|some s=>obtain⟨e,c⟩:=s;simp only[Dy];refine .prog ?_;rw[A6.2.1];cases aA7 P P.depth e (c/P.cellsOf e) _ n with|none=>exact .DM|some m=>exact .AM (.ptr ⟨A6.1,rfl,A6.2.2⟩)
 |_=>exact .stuck
theorem cM(t:A_)(hx:AJ F E x x')(hy:AJ F E y y'):AG P F so (Ci F) E (im t x y) (im t x' y'):=by
 unfold im;refine(G1 t).andThen ?_;rintro D e u _ rfl;replace hx:=hx.mono e;replace hy:=hy.mono e;dsimp only;split;·exact .DM
 ·cases hx with
  |ptr z=>
   dsimp only;refine(ZU z).andThen ?_;rintro H s⟨p,l⟩⟨M,C⟩⟨f,m⟩;simp only at f m;subst f;dsimp only;refine(mW #[] t (.ptr m) (hy.mono s)).andThen ?_;intro I K v N hv;cases hv with
   |ptr A=>exact aOi A C
   |agg h=>exact .AM (.agg h)
   |tuple h=>exact .AM (.tuple h)
   |iface t h=>exact .AM (.iface t h)
   |func a b c=>exact .AM (.func a b c)
   |map h=>exact .AM (.map h)
   |chan h=>exact .AM (.chan h)
   |slice l c h=>exact .AM (.slice l c h)
   |_=>exact .AM (by constructor)
  |Gm=>exact mW #[] t .Gm hy
  |_=>exact .stuck
theorem a4i(t:A_)(hx:AJ F E x x')(hy:AJ F E y y'):AG P F so (Ci F) E (iq t x y) (iq t x' y'):=by
 unfold iq;cases hx with
 |ptr A6=>
  dsimp only;refine(a4l A6.1).andThen ?_;rintro e b _ _(⟨rfl,rfl⟩|⟨p,f,l,rfl,rfl,_⟩);·exact mW #[] t (.ptr (A6.mono b)) (hy.mono b)
  ·exact .DM
 |Gm=>exact mW #[] t .Gm hy
 |_=>exact .stuck
end
section
variable{P:Ac}{F:Nat->Prop}{so:Dr}{E:AN}
theorem uR(b:P.globals.size=D4)(k:Nat)(t:A_)(hx:AJ F E x x')(hy:AJ F E y y')(f:flat P k t=A0∨Nil y∨so.HP/\∃e,P.underlying t=Z (aYe e)):AG P F so FC E (Ss t x y) (Ss t x' y'):=by
 unfold Ss;rcases f with h|h|h;·exact uS b _ k t h hx hy
 ·rw[h.fixed hy];exact aOz _ t hx h
 ·exact aP' h.1 _ t h.2 hx hy
theorem aOy(f:P.globals.size=D4)(k:Nat)(t:A_)(hx:AJ F E x x')(hy:AJ F E y y')(h:flat P k t=A0∨Nil y∨so.HP/\∃e,P.underlying t=Z (aYe e)):AG P F so (Ci F) E (do Fi (aY5 (<-Ss t x y))) (do Fi (aY5 (<-Ss t x' y'))):=by refine(uR f k t hx hy h).andThen ?_;rintro m p b _ rfl;exact .AM (.bool _)
theorem aPI(f:P.globals.size=D4)(k:Nat)(t:A_)(hx:AJ F E x x')(hy:AJ F E y y')(h:flat P k t=A0∨Nil y∨so.HP/\∃e,P.underlying t=Z (aYe e)):AG P F so (Ci F) E (do Fi (aY5 (!(<-Ss t x y)))) (do Fi (aY5 (!(<-Ss t x' y')))):=by refine(uR f k t hx hy h).andThen ?_;rintro m p b _ rfl;exact .AM (.bool _)
theorem aOj(C:P.globals.size=D4)(k:Nat)(f:Im)(t:A_)(hx:AJ F E x x')(hy:AJ F E y y')(A:f=.eql∨f=.neq->flat P k t=A0∨Nil y∨so.HP/\∃e,P.underlying t=Z (aYe e)):AG P F so (Ci F) E (binOp f t x y) (binOp f t x' y'):=by
 have he:=λh=>aOy (so:=so) C k t hx hy (A (AA h));have hn:=λh=>aPI (so:=so) C k t hx hy (A (AF h));unfold binOp;cases hx with
 |int N a=>
  cases hy with
  |int m b=>
   cases f<;>dsimp only<;>first
   |exact(aRz _ _ _ _ _).VV
   |
    (
     split;·exact .stuck
     ·first
      |exact(a5x _ _ _ _).VV
      |exact(aRy _ _ _ _).VV
      |exact(a5y _ _ _ _).VV
      |exact(aRx _ _ _).VV)
  |ptr D=>
   cases f<;>dsimp only<;>first
   |exact he rfl
   |exact hn rfl
   |exact cM t (.ptr D) (.int N a)
   |(refine(ZU D).andThen ?_;rintro K I p Q⟨_,s⟩;exact a4T _ _ s)
   |exact .DM
  |Gm=>
   cases f<;>dsimp only<;>first
   |exact he rfl
   |exact hn rfl
   |exact cM t .Gm (.int N a)
   |exact .DM
  |_=>
   cases f<;>dsimp only<;>first
   |exact he rfl
   |exact hn rfl
   |exact .stuck
 |string a=>
  cases hy with
  |string b=>cases f<;>exact(a5z _ _ _).VV
  |_=>
   cases f<;>dsimp only<;>first
   |exact he rfl
   |exact hn rfl
   |exact .stuck
   |exact .DM
 |ptr z=>
  cases hy with
  |int m b=>
   cases f<;>dsimp only<;>first
   |exact he rfl
   |exact hn rfl
   |exact cM t (.ptr z) (.int _ _)
   |
    (
     refine(G1 t).andThen ?_;rintro U H u _ rfl;cases u<;>first
     |exact cM t (.ptr (z.mono H)) (.int _ _)
     |exact a4i t (.ptr (z.mono H)) (.int _ _))
   |(refine(ZU z).andThen ?_;rintro K I p Q⟨_,s⟩;exact a4T _ _ s)
   |exact .DM
  |ptr D=>
   cases f<;>dsimp only<;>first
   |exact he rfl
   |exact hn rfl
   |
    (
     refine(ZU z).andThen ?_;rintro K I p Q⟨_,s⟩;refine(ZU (D.mono I)).andThen ?_;rintro d M q j⟨_,A⟩;first
     |exact aOd C _ (s.mono M) A
     |exact aOc C _ (s.mono M) A)
   |exact .DM
  |_=>
   cases f<;>dsimp only<;>first
   |exact he rfl
   |exact hn rfl
   |exact .stuck
   |exact .DM
 |Gm=>
  cases hy with
  |int m b=>
   cases f<;>dsimp only<;>first
   |exact he rfl
   |exact hn rfl
   |exact cM t .Gm (.int _ _)
   |
    (
     refine(G1 t).andThen ?_;rintro U H u _ rfl;cases u<;>first
     |exact cM (x:=aY4 J) (x':=aY4 J) (y:=IS m b) (y':=IS m b) t .Gm (.int m b)
     |exact a4i (x:=aY4 J) (x':=aY4 J) (y:=IS m b) (y':=IS m b) t .Gm (.int m b))
   |exact .DM
  |_=>
   cases f<;>dsimp only<;>first
   |exact he rfl
   |exact hn rfl
   |exact .stuck
   |exact .DM
 |_=>
  cases hy<;>cases f<;>dsimp only<;>first
  |exact he rfl
  |exact hn rfl
  |exact .stuck
  |exact .DM
end
section
variable{P:Ac}{F:Nat->Prop}{so:Dr}{E:AN}
theorem ZW(m:Bool):∀(d:Nat){E:AN}(t:A_){v v':A1},AJ F E v v'->AG P F so Ny E (iB m d t v) (iB m d t v')
 |0,_,_,_,_,_=>.DM
 |d+1,E,t,v,v',hv=>by
  unfold iB;refine(G1 t).andThen ?_;rintro U I u _ rfl;replace hv:=hv.mono I;cases u with
  |interface ms=>
   cases hv with
   |iface z hx=>
    dsimp only;refine(He z).andThen ?_;rintro x p i _⟨rfl,_⟩;split
    ·refine .HD ?_;split;·exact(GW _).bind
     ·exact BO.behind (by first|exact NR _|exact Tg _|exact Th _ _ _ _ _|exact Ti _|exact Qe _|exact Qf _|exact OM) λ_=>(GW _).bind
    ·exact ZW m d z (hx.mono p)
   |nilIface=>exact .AM trivial
   |_=>exact .stuck
  |array n e=>
   cases hv with
   |agg h=>
    dsimp only;refine(AG.qt (Q:=Ny) _ (λx p f b D _=>?_) trivial).andThen ?_;·refine(Hp e).andThen ?_;rintro j K s _ rfl;refine(PX e ((h.mono p).mono K) (f*s)).andThen ?_;intro A M w w' y;refine(ZW m d e y).andThen ?_;intro C N _ _ _;exact .AM (.yield trivial)
    ·intro x p _ _ _;exact .AM trivial
   |_=>exact .stuck
  |struct H=>
   cases hv with
   |agg h=>
    dsimp only;refine(AG.qs (Q:=Ny) H (λx p f _ b D _=>?_) trivial).andThen ?_
    ·split;·refine(PX f.type (h.mono p) f.offset).andThen ?_;intro A M w w' y;refine(ZW m d f.type y).andThen ?_;intro C N _ _ _;exact .AM (.yield trivial)
     ·exact .AM (.yield trivial)
    ·intro x p _ _ _;exact .AM trivial
   |_=>exact .stuck
  |_=>exact .AM trivial
theorem aQt(u:xR)(b:AJ F E k k')(hy:AJ F E y y'):wX u k' y'=wX u k y:=by cases b<;>cases hy<;>cases u<;>rfl
inductive cw(F:Nat->Prop)(E:AN):Option (Nat×A1)->Option (Nat×A1)->Prop|none:cw F E none none|some(i:Nat){v v':A1}:AJ F E v v'->cw F E (some (i,v)) (some (i,v'))
theorem a'J(u:xR){k k':A1}(e:AJ F E k k'):∀{l d:List Ft}(i:Nat),E5 F E l d->iD u k l i=J/\iD u k' d i=J∨∃r f,iD u k l i=Z r/\iD u k' d i=Z f/\cw F E r f
 |_,_,_,.nil=>AF ⟨_,_,rfl,rfl,.none⟩
 |_,_,i,.cons (k:=y) (k':=y') hy hv t=>by
  unfold iD;dsimp only;rw[aQt u e hy];cases wX u k y with
  |none=>exact AA ⟨rfl,rfl⟩
  |some b=>
   cases b;·exact a'J u e (i+1) t
   ·exact AF ⟨_,_,rfl,rfl,.some i hv⟩
theorem a4Y(f:P.globals.size=D4)(n:Nat)(t:A_)(h:flat P n t=A0):∀{E:AN}{k k':A1}{l d:List Ft}(i:Nat),AJ F E k k'->E5 F E l d->AG P F so (cw F) E (wR t k l i) (wR t k' d i)
 |_,_,_,_,_,_,_,.nil=>.AM .none
 |_,_,_,_,_,i,hk,.cons hy hv tl=>by
  unfold wR;refine(uR f n t hk hy (AA h)).andThen ?_;rintro m e b _ rfl;cases b;·exact a4Y f n t h (i+1) (hk.mono e) (tl.mono e)
  ·exact .AM (.some i (hv.mono e))
theorem mT(p:P.globals.size=D4)(n:Nat)(t:A_)(s:flat P n t=A0){l d:List Ft}(h:AJ F E k k')(m:E5 F E l d):AG P F so (cw F) E (UE t k l) (UE t k' d):=by
 unfold UE;refine(G1 t).andThen ?_;rintro y b u _ rfl;rcases a'J u (h.mono b) 0 (m.mono b)with⟨e,f⟩|⟨r,z,e,f,x⟩;·rw[e,f];exact a4Y p n t s 0 (h.mono b) (m.mono b)
 ·rw[e,f];exact .AM x
theorem E5.empty{a a':Array Ft}(h:E5 F E a.toList a'.toList):a'.isEmpty=a.isEmpty:=by have:=h.length;simp only[Ph]at this;simp[Array.isEmpty,this]
theorem aP8(A:Fit P F)(z:P.globals.size=D4)(n:Nat)(t:A_)(AE:∀k e,P.underlying t=Z (aYr k e)->flat P n k=A0){i d:A1}(m:Bool)(hx:AJ F E x x')(hi:AJ F E i d):AG P F so (Ci F) E (Hv t x i m) (Hv t x' d m):=by
 unfold Hv;refine(Mk t).andThen ?_;rintro D y u _⟨rfl,hu⟩;replace hx:=hx.mono y;replace hi:=hi.mono y;cases u with
 |map f b=>
  dsimp only;have C:=AE f b hu;cases hx with
  |Qg=>
   have h:E5 F D (#[]:Array Ft).toList (#[]:Array Ft).toList:=.nil;refine(ZW _ _ _ hi).andThen ?_;intro H p _ _ _;refine(mT z n f C (hi.mono p) (h.mono p)).andThen ?_;intro I U r Bc s;cases s with
   |none=>
    refine(LU A b).andThen λK q v v' hv=>?_;cases m;·exact .AM hv
    ·exact .AM (.tuple (.cons hv (.cons (.bool _) .nil)))
   |some j hv=>
    cases m;·exact .AM hv
    ·exact .AM (.tuple (.cons hv (.cons (.bool _) .nil)))
  |map s=>
   refine .getObj s λo o' A7=>?_;cases A7 with
   |map c h=>
    refine AG.andThen (Q:=λE(a a':Array Ft)=>E5 F E a.toList a'.toList) (.AM h) ?_;intro B N es M h;replace hi:=hi.mono N;rw[h.empty];refine(ZW _ _ _ hi).andThen ?_;intro H p _ _ _;refine(mT z n f C (hi.mono p) (h.mono p)).andThen ?_;intro I U r Bc s;cases s with
    |none=>
     refine(LU A b).andThen λK q v v' hv=>?_;cases m;·exact .AM hv
     ·exact .AM (.tuple (.cons hv (.cons (.bool _) .nil)))
    |some j hv=>
     cases m;·exact .AM hv
     ·exact .AM (.tuple (.cons hv (.cons (.bool _) .nil)))
   |_=>exact .stuck
  |_=>exact .stuck
 |_=>exact .stuck
end
section
variable{P:Ac}{F:Nat->Prop}{so:Dr}{E:AN}
theorem a6f{g:A1->A1->Bool}(e:∀x f y m,AJ F E x f->AJ F E y m->g f m=g x y):∀{a a' b b':List A1},Ab F E a a'->Ab F E b b'->((a'.zip b').all λp=>g p.1 p.2)=(a.zip b).all λp=>g p.1 p.2|_,_,_,_,.nil,_=>by simp|_,_,_,_,.cons _ _,.nil=>by simp|_,_,_,_,.cons h t,.cons k u=>by have:=a6f e t u;simp only[List.zip_cons_cons,aBJ,this,e _ _ _ _ h k]
theorem a56{a a' b b':Nat}(f:E.rel a a')(h:E.rel b b'):(a'==b')=(a==b):=by rw[U3,beq_iff_eq,beq_iff_eq];exact⟨λe=>E.other _ _ _ f (e▸h),λe=>E.one _ _ _ f (e▸h)⟩
theorem uf:∀(n:Nat){x x' y y':A1},AJ F E x x'->AJ F E y y'->Xl n x' y'=Xl n x y
 |0,_,_,_,_,hx,hy=>by
  cases hx with
  |ptr b=>
   cases hy with
   |ptr e=>simpa[Xl]using b.same e
   |_=>rfl
  |chan b=>
   cases hy with
   |chan e=>simpa[Xl]using a56 b e
   |_=>rfl
  |_=>cases hy<;>rfl
 |n+1,_,_,_,_,hx,hy=>by
  cases hx with
  |ptr b=>
   cases hy with
   |ptr e=>simpa[Xl]using b.same e
   |_=>rfl
  |chan b=>
   cases hy with
   |chan e=>simpa[Xl]using a56 b e
   |_=>rfl
  |iface t b=>
   cases hy with
   |iface u e=>unfold Xl;rw[uf n b e]
   |_=>rfl
  |agg b=>
   cases hy with
   |agg e=>have f:=b.length;have h2:=e.length;simp only[Ph]at f h2;unfold Xl;rw[f,h2];congr 1;exact a6f (λx x' y y' h k=>uf n h k) b e
   |_=>rfl
  |_=>cases hy<;>rfl
theorem a4b(hx:AJ F E x x')(hy:AJ F E y y'):AG P F so (Ci F) E (wT x y) (wT x' y'):=by
 unfold wT;rw[uf _ hx hy];split;·exact .AM hy
 ·refine .choose _ λn=>?_;refine .pure ?_;split;·exact hy
  ·exact hx
theorem E5.get:∀{l d:List Ft},E5 F E l d->∀(i:Nat),l[i]?=J/\d[i]?=J∨∃e b,l[i]?=Z e/\d[i]?=Z b/\AJ F E e.key b.key/\AJ F E e.val b.val/\b.born=e.born|_,_,.nil,_=>AA ⟨rfl,rfl⟩|_,_,.cons h k _,0=>AF ⟨_,_,rfl,rfl,h,k,rfl⟩|_,_,.cons _ _ t,i+1=>by simpa using t.get i
theorem E5.a2'{es es':Array Ft}(h:E5 F E es.toList es'.toList)(i:Nat)(f:AJ F E k k'):AJ F E ((es[i]?.map (·.key)).getD k) ((es'[i]?.map (·.key)).getD k'):=by
 have:=h.get i;simp only[Se]at this;rcases this with⟨e,b⟩|⟨x,m,e,b,hx,_⟩;·rw[e,b];exact f
 ·rw[e,b];exact hx
theorem E5.snoc:∀{l d:List Ft}{k k' v v':A1}(n:Nat),E5 F E l d->AJ F E k k'->AJ F E v v'->E5 F E (l++[{key:=k,val:=v,born:=n}]) (d++[{key:=k',val:=v',born:=n}])|_,_,_,_,_,_,_,.nil,hk,hv=>.cons hk hv .nil|_,_,_,_,_,_,n,.cons h k t,hk,hv=>.cons h k (t.snoc n hk hv)
theorem E5.modify:∀{l d:List Ft}{k k' v v':A1}(i:Nat),E5 F E l d->AJ F E k k'->AJ F E v v'->E5 F E (l.modify i λe=>{e with key:=k,val:=v}) (d.modify i λe=>{e with key:=k',val:=v'})|_,_,_,_,_,_,i,.nil,_,_=>by cases i<;>exact .nil|_,_,_,_,_,_,0,.cons _ _ t,hk,hv=>.cons hk hv t|_,_,_,_,_,_,i+1,.cons h k t,hk,hv=>.cons h k (t.modify i hk hv)
def M9:A1->Option Nat|E3 (Z r)=>Z r|aY4 (Z a)=>Z a.block|As (Z a) _ _=>Z a.block|_=>J
theorem a4f(hs:∀b,M9 x=Z b->so.obj b)(K:P.globals.size=D4)(n:Nat)(t:A_)(M:∀k e,P.underlying t=Z (aYr k e)->flat P n k=A0)(hx:AJ F E x x')(f:AJ F E k k')(hv:AJ F E v v'):AG P F so Ny E (Vl t x k v) (Vl t x' k' v'):=by
 unfold Vl;refine(Mk t).andThen ?_;rintro d C u _⟨rfl,hu⟩;replace hx:=hx.mono C;replace f:=f.mono C;replace hv:=hv.mono C;cases u with
 |map z s=>
  dsimp only;have N:=M z s hu;cases hx with
  |Qg=>exact Qr _
  |map H=>
   refine .getObj H λo o' U=>?_;cases U with
   |map c p=>
    refine(ZW _ _ _ f).andThen ?_;intro q m _ _ _;refine(mT K n z N (f.mono m) (p.mono m)).andThen ?_;intro B A r Bc Q;replace f:=(f.mono m).mono A;replace hv:=(hv.mono m).mono A;replace p:=(p.mono m).mono A;have I:=A _ _ (m _ _ H);cases Q with
    |none=>refine .setObj (hs _ rfl) I (λ_ _ _ h=>by cases h) (.map _ ?_) (.pure trivial);simpa using p.snoc _ f hv
    |some j _=>refine(a4b (p.a2' j f) f).andThen ?_;intro L D y y' hy;refine .setObj (hs _ rfl) (D _ _ I) (λ_ _ _ h=>by cases h) (.map _ ?_) (.pure trivial);simpa[vZ]using(p.mono D).modify j hy (hv.mono D)
   |_=>exact .stuck
  |_=>exact .stuck
 |_=>exact .stuck
end
section
variable{P:Ac}{F:Nat->Prop}{so:Dr}{E:AN}
theorem aPM(t:A_)(hx:AJ F E x x'):AG P F so (Ci F) E (dK t x) (dK t x'):=by
 unfold dK;refine(G1 t).andThen ?_;rintro z p u _ rfl;replace hx:=hx.mono p;cases u with
 |string=>
  cases hx with
  |string s=>exact .new (.stringIter s 0) λb h f=>.pure (.ptr ⟨AN.RX _ _ _ f,rfl,rfl⟩)
  |_=>exact .stuck
 |map k e=>
  cases hx with
  |Qg=>exact .new (.gZ _ _ _) λb h f=>.pure (.ptr ⟨AN.RX _ _ _ f,rfl,rfl⟩)
  |map m=>
   refine .getObj m λo C y=>?_;cases y with
   |map c A=>exact .new (.mapIter _ _ _ m) λb h f=>.pure (.ptr ⟨AN.RX _ _ _ f,rfl,rfl⟩)
   |_=>exact .stuck
  |_=>exact .stuck
 |_=>cases hx<;>exact .stuck
theorem E5.filter{p:Ft->Bool}(b:∀e f:Ft,f.born=e.born->p f=p e):∀{l d:List Ft},E5 F E l d->E5 F E (l.filter p) (d.filter p)
 |_,_,.nil=>.nil
 |_,_,.cons (k:=y) (k':=y') (v:=z) (v':=z') (n:=n) h k t=>by
  have e:=b {key:=y,val:=z,born:=n} {key:=y',val:=z',born:=n} rfl;simp only[List.filter_cons,e];split;·exact .cons h k (t.filter b)
  ·exact t.filter b
theorem E5.all{p:Ft->Bool}(f:∀e b:Ft,b.born=e.born->p b=p e):∀{l d:List Ft},E5 F E l d->d.all p=l.all p|_,_,.nil=>rfl|_,_,.cons (k:=y) (k':=y') (v:=z) (v':=z') (n:=n) h k t=>by have e:=f {key:=y,val:=z,born:=n} {key:=y',val:=z',born:=n} rfl;simp only[aBJ,e,t.all f]
theorem E5.append:∀{a a' b b':List Ft},E5 F E a a'->E5 F E b b'->E5 F E (a++b) (a'++b')|_,_,_,_,.nil,k=>k|_,_,_,_,.cons h v t,k=>.cons h v (t.append k)
theorem E5.pick{c:Array (Option Ft)}{a a':Array Ft}(h:E5 F E a.toList a'.toList)(i:Nat):(c++a.map Z)[i]?=J/\(c++a'.map Z)[i]?=J∨(c++a.map Z)[i]?=c[i]?/\(c++a'.map Z)[i]?=c[i]?/\i<c.size∨∃e b,(c++a.map Z)[i]?=Z (Z e)/\(c++a'.map Z)[i]?=Z (Z b)/\AJ F E e.key b.key/\AJ F E e.val b.val/\b.born=e.born:=by
 by_cases hi:i<c.size;·exact AF (AA ⟨vU hi,vU hi,hi⟩)
 ·have f:c.size<=i:=by omega
  rw[vV f,vV f];simp only[Array.getElem?_map];have:=h.get (i-c.size);simp only[Se]at this;rcases this with⟨e,b⟩|⟨x,m,e,b,hx⟩;·rw[e,b];exact AA ⟨rfl,rfl⟩
  ·rw[e,b];exact AF (AF ⟨x,m,rfl,rfl,hx⟩)
theorem aPJ(hs:∀b,M9 x=Z b->so.obj b)(b:Bool)(t:A_)(hx:AJ F E x x'):AG P F so (Ci F) E (wW x b t) (wW x' b t):=by
 unfold wW;cases hx with
 |ptr A6=>
  rename_i a a';obtain⟨r,off,sp⟩:=a;obtain⟨Bc,d,q⟩:=a';obtain⟨K,h2,h3⟩:=A6;simp only at K h2 h3;subst h2 h3;cases d with
  |succ n=>exact .stuck
  |zero=>
   refine .getObj K λo o' z=>?_;cases z with
   |stringIter s p=>
    cases b;·exact .stuck
    ·show AG P F so (Ci F) E (ite _ _ _) (ite _ _ _);split;·exact .setObj (hs _ rfl) K (λ_ _ _ h=>by cases h) (.stringIter _ _) (.pure (.tuple (.cons (.bool _) (.cons (.int _ _) (.cons (.int _ _) .nil)))))
     ·exact .pure (.tuple (.cons (.bool _) .nil))
   |gZ x s y=>
    cases b;·exact .pure (.tuple (.cons (.bool _) .nil))
    ·exact .stuck
   |mapIter x s y U=>
    cases b
    ·refine .getObj U λo o' z=>?_;cases z with
     |map c N=>
      rename_i m f;have e1:f.isEmpty=m.isEmpty:=N.empty;have e2:f.all (λe=>Bn (e.born≥y))=m.all λe=>Bn (e.born≥y):=by have:=N.all (p:=λe=>Bn (e.born≥y)) (λe I h=>by simp only[h]);simpa using this
      have Q:E5 F E (m.filter λe=>!s.contains e.born).toList (f.filter λe=>!s.contains e.born).toList:=by simpa using N.filter (p:=λe=>!s.contains e.born) λe I h=>by simp only[h]
      have z:E5 F E ((m.filter λe=>!s.contains e.born).filter λe=>Bn (e.born<x)).toList ((f.filter λe=>!s.contains e.born).filter λe=>Bn (e.born<x)).toList:=by simpa only[a6n]using Q.filter (p:=λe=>Bn (e.born<x)) λe I h=>by simp only[h]
      have hn:E5 F E ((m.filter λe=>!s.contains e.born).filter λe=>Bn (e.born≥x)).toList ((f.filter λe=>!s.contains e.born).filter λe=>Bn (e.born≥x)).toList:=by simpa only[a6n]using Q.filter (p:=λe=>Bn (e.born≥x)) λe I h=>by simp only[h]
      have B:=z.empty;have H:=z.append hn;simp only[<-vY]at H;simp only[aYv,Dy,e1,e2,B];obtain⟨C,M,hC⟩:∃C:Array (Option Ft),C=(if((m.filter λe=>!s.contains e.born).filter λe=>Bn (e.born<x)).isEmpty=A0 then#[J]else#[])/\∀i,i<C.size->C[i]?=Z J:=by
       refine⟨_,rfl,?_⟩;split
       ·intro i hi;have:i=0:=by simpa using hi
        subst this;rfl
       ·intro i hi;simp at hi
      rw[<-M];generalize XV (λe=>Bn (e.born<x)) (XV (λe=>!s.contains e.born) m)++XV (λe=>Bn (e.born≥x)) (XV (λe=>!s.contains e.born) m)=A at H⊢;generalize XV (λe=>Bn (e.born<x)) (XV (λe=>!s.contains e.born) f)++XV (λe=>Bn (e.born≥x)) (XV (λe=>!s.contains e.born) f)=L at H⊢;have AR:(C++L.map Z).size=(C++A.map Z).size:=by have:=H.length;simp only[Ph]at this;simp[this]
      rw[AR];split;·exact .HD (BO.halt _).bind
      ·refine .choose _ λj=>?_;show AG P F so (Ci F) E (Dy (Mu j) _) (Dy (Mu j) _);simp only[Dy];rcases H.pick (c:=C) j with⟨g,D⟩|⟨g,D,R⟩|⟨e,I,g,D,k1,T,W⟩;·rw[g,D];exact .stuck
       ·rw[g,D,hC j R];exact .pure (.tuple (.cons (.bool _) .nil))
       ·rw[g,D];dsimp only;rw[W];exact .setObj (hs _ rfl) K (λ_ _ _ h=>by cases h) (.mapIter _ _ _ U) (.pure (.tuple (.cons (.bool _) (.cons k1 (.cons T .nil)))))
     |_=>exact .stuck
    ·exact .stuck
   |_=>cases b<;>exact .stuck
 |_=>exact .stuck
theorem AG.cond{Q:AN->d8->d8->Prop}{c:Prop}[Decidable c]{s d t e:BQ d8}(h:AG P F so Q E s d)(k:AG P F so Q E t e):AG P F so Q E (if c then s else t) (if c then d else e):=by
 split;·exact h
 ·exact k
theorem aOx(h:Im)(t:A_)(x y:C2){a a' b b':A1}(f:AJ F E a a')(e:AJ F E b b'):AG P F so Ny E (xX h t x y a b) (xX h t x y a' b'):=by
 unfold xX;cases h;case eql|neq=>
  all_goals
   simp only[Sg,EU,↓reduceIte];cases f with
   |nilIface=>cases e with|nilIface=>refine AG.cond (.AM trivial) ?_;refine AG.andThen (Q:=FC) (mR _ t .nilIface .nilIface) ?_;rintro m p r _ rfl;exact AG.cond .DM (.AM trivial)|_=>exact .AM trivial
   |agg f=>
    cases e with
    |agg e=>
     refine .program ?_;refine .program ?_;show AG P F so Ny E (ite _ _ _) (ite _ _ _);split;·exact .AM trivial
     ·refine AG.andThen (Q:=FC) (mR _ t (.agg f) (.agg e)) ?_;rintro m p r _ rfl;split;·exact .DM
      ·exact .AM trivial
    |_=>exact .AM trivial
   |_=>exact .AM trivial
 all_goals simp only[U4,↓reduceIte];exact .AM trivial
theorem aPX(f:Fit P F)(t u:A_)(b:Bool)(hx:AJ F E x x'):AG P F so (Ci F) E (Ob x t u b) (Ob x' t u b):=by
 unfold Ob;refine(G1 u).andThen ?_;rintro y s d _ rfl;replace hx:=hx.mono s;cases hx with
 |nilIface=>
  cases b;·simp only[EU,↓reduceIte];cases d<;>exact Qr _
  ·cases d<;>exact(LU f u).andThen λ_ _ _ _ e=>.AM (.tuple (.cons e (.cons (.bool _) .nil)))
 |iface k hv=>
  cases d with
  |interface h=>
   refine(He k).andThen ?_;rintro z p i _⟨rfl,_⟩;cases Instr.missingMethod h i.methods with
   |none=>
    cases b;·exact .AM (.iface k (hv.mono p))
    ·exact .AM (.tuple (.cons (.iface k (hv.mono p)) (.cons (.bool _) .nil)))
   |some m=>
    cases b;·simp only[EU,↓reduceIte];exact Qr _
    ·exact(LU f u).andThen λ_ _ _ _ e=>.AM (.tuple (.cons e (.cons (.bool _) .nil)))
  |_=>
   dsimp only;split
   ·cases b;·exact .AM hv
    ·exact .AM (.tuple (.cons hv (.cons (.bool _) .nil)))
   ·cases b;·simp only[EU,↓reduceIte];exact Qr _
    ·exact(LU f u).andThen λ_ _ _ _ e=>.AM (.tuple (.cons e (.cons (.bool _) .nil)))
 |_=>cases d<;>exact .stuck
end
section
variable{P:Ac}{F:Nat->Prop}{so:Dr}{E:AN}
def word(P:Ac)(t:A_):Bool:=match P.underlying t with|Z (aYh _)|Z aZo=>A0|_=>A5
theorem aOt(e b:A_)(hs:word P e=A0)(f:word P b=A0)(hx:AJ F E x x'):AG P F so (Ci F) E (dh e b x) (dh e b x'):=by
 unfold dh;refine(Mk e).andThen ?_;rintro s h u _⟨rfl,hu⟩;refine(Mk b).andThen ?_;rintro y m v _⟨rfl,hv⟩;unfold word at hs f;rw[hu]at hs;rw[hv]at f;replace hx:=(hx.mono h).mono m;cases u with
 |int k=>
  cases v with
  |int p=>
   cases hx<;>first
   |exact .AM (.int _ _)
   |exact .DM
  |string=>
   cases hx<;>first
   |exact .AM (.string _)
   |exact .DM
  |_=>cases f
 |string=>
  cases v with
  |int p=>
   cases hx<;>first
   |exact .AM (.int _ _)
   |exact .DM
  |string=>
   cases hx<;>first
   |exact .AM (.string _)
   |exact .DM
  |_=>cases f
 |_=>cases hs
theorem aPH(hx:AJ F E x x')(hy:AJ F E y y'):AG P F so (Ci F) E (ha x y) (ha x' y'):=by
 cases hx with
 |int k a=>
  cases hy with
  |int s b=>exact .AM (.int _ _)
  |ptr h=>exact .DM
  |_=>exact .stuck
 |string a=>
  cases hy with
  |string b=>unfold ha;refine(a5z (P:=P) (F:=F) .leq a b).VV (so:=so) (E:=E).andThen ?_;intro e m v z hv;refine(a4U hv).andThen ?_;rintro f p c _ rfl;exact .AM (.string _)
  |ptr h=>exact .DM
  |_=>exact .stuck
 |ptr h=>cases hy<;>exact .DM
 |_=>
  cases hy<;>first
  |exact .stuck
  |exact .DM
theorem a4h:∀{l d:List A1}{E:AN}{x x':A1},AJ F E x x'->Ab F E l d->AG P F so (Ci F) E (l.foldlM ha x) (d.foldlM ha x')|_,_,_,_,_,hx,.nil=>.AM hx|_,_,_,_,_,hx,.cons h t=>by simp only[pY];refine(aPH hx h).andThen ?_;intro e b v f hv;exact a4h hv (t.mono b)
theorem aPG(ts:Array A_)(t:A_){a a':Array A1}(h:Ab F E a.toList a'.toList):AG P F so (Ci F) E (vq ts t a) (vq ts t a'):=by unfold vq;generalize a.toList=l at h;generalize a'.toList=b at h;cases h with|nil=>exact .stuck|cons h t=>exact a4h h t
theorem aOv(t:A_):AG P F so FC E (Vq t) (Vq t):=by unfold Vq;refine(G1 t).andThen ?_;rintro b e u _ rfl;cases u<;>first|exact .AM rfl|exact .stuck
theorem a4s(h:D7 E a a')(t:A_)(n:Nat):AG P F so FC E (dj a t n) (dj a' t n):=by unfold dj;refine .prog ?_;refine .shape h.1 λs=>?_;cases s with|none=>exact .pure rfl|some s=>exact .pure (by rw[h.2.1])
theorem a4c:∀(n:Nat){E:AN}{a a':Aa}(e:ByteArray),D7 E a a'->AG P F so FC E (Xz a e n) (Xz a' e n)
 |0,_,_,_,e,_=>.AM rfl
 |n+1,E,a,a',e,h=>by
  unfold Xz;refine(h' h a89).andThen ?_;intro m f v p hv;cases hv with
  |int k b=>
   cases k<;>first
   |exact a4c n _ ((h.mono f).add 1)
   |exact .stuck
  |_=>exact .stuck
theorem aPZ(D:so.Lm)(ts:Array A_)(t:A_)(hx:AJ F E x x')(hy:AJ F E y y'):AG P F so (Ci F) E (aK ts t #[x,y]) (aK ts t #[x',y']):=by
 unfold aK;cases hx with
 |Gm=>
  dsimp only;refine(SS hy).andThen ?_;rintro A m n _ rfl;cases ts[0]? with
  |none=>exact .stuck
  |some z=>
   dsimp only;split;·exact .HD (GW _).bind
   ·split;·exact .DM
    ·split;·exact .AM (.string _)
     ·exact Qr _
 |ptr f=>
  dsimp only;refine(SS hy).andThen ?_;rintro A m n _ rfl;replace f:=f.mono m;cases ts[0]? with
  |none=>exact .stuck
  |some z=>
   dsimp only;split;·exact .HD (GW _).bind
   ·split;·exact .DM
    ·split;·exact .AM (.string _)
     ·refine(aOv z).andThen ?_;rintro H h e _ rfl;refine(a4s (f.mono h) e n.toNat).andThen ?_;rintro I p b _ rfl;cases b;·exact .DM
      ·refine(a4c n.toNat _ ((f.mono h).mono p)).andThen ?_;rintro K C s _ rfl;exact .freeze _ D (((f.mono h).mono p).mono C) (.pure (.string _))
 |_=>exact .stuck
theorem a4W:∀(n:Nat){E:AN}{a a':Aa}(e:ByteArray),D7 E a a'->AG P F so FC E (wK a n e) (wK a' n e)
 |0,_,_,_,e,_=>.AM rfl
 |n+1,E,a,a',e,h=>by
  unfold wK;refine(h' h a89).andThen ?_;intro m f v p hv;cases hv with
  |int k b=>
   cases k<;>first
   |exact a4W n _ ((h.mono f).add 1)
   |exact .stuck
  |_=>exact .stuck
theorem cK(hx:AJ F E x x'):AG P F so FC E (wJ x) (wJ x'):=by unfold wJ;cases hx with|string s=>exact .AM rfl|Gt l c=>exact .AM rfl|slice l c h=>exact a4W l _ h|_=>exact .stuck
theorem a4V(hx:AJ F E x x'):AG P F so FC E (wI x) (wI x'):=by
 unfold wI;cases hx with
 |int k n=>
  cases k<;>first
  |exact .AM rfl
  |exact .stuck
 |_=>exact .stuck
theorem uQ(hx:AJ F E x x')(hy:AJ F E y y'):AG P F so (Ci F) E (o3 #[x,y]) (o3 #[x',y']):=by unfold o3;refine(cK hx).andThen ?_;rintro f e b _ rfl;refine(a4V (hy.mono e)).andThen ?_;rintro h m c _ rfl;exact .AM (.int _ _)
theorem uU(hx:AJ F E x x')(hy:AJ F E y y'):AG P F so (Ci F) E (o5 #[x,y]) (o5 #[x',y']):=by unfold o5;refine(cK hx).andThen ?_;rintro f e b _ rfl;refine(a4V (hy.mono e)).andThen ?_;rintro h m c _ rfl;split<;>exact .AM (.int _ _)
theorem aP3(e:P.globals.size=D4)(f:∀b,b<D4->E.rel b b)(name:String):AG P F so W8 E (xZ name) (xZ name):=by
 unfold xZ;refine .prog ?_;cases h:P.globals.findIdx? (·.name==name)with
 |none=>exact .stuck
 |some g=>
  have hlt:g<D4:=by rw[<-e];exact(Array.findIdx?_eq_some_iff_getElem.1 h).1
  exact .AM ⟨f g hlt,rfl,rfl⟩
theorem uV(p:P.globals.size=D4)(A:∀b,b<D4->E.rel b b)(hx:AJ F E x x')(hy:AJ F E y y'):AG P F so (Ci F) E (o4 #[x,y]) (o4 #[x',y']):=by
 unfold o4;refine(cK hx).andThen ?_;rintro C e b _ rfl;refine(cK (hy.mono e)).andThen ?_;rintro D h c _ rfl;refine AG.andThen (Q:=FC) ?_ ?_;·unfold aU3;refine(aP3 p (λb z=>h _ _ (e _ _ (A b z))) _).andThen ?_;intro f m a I s;refine(h' s a89).andThen ?_;intro H K v M hv;exact SS hv
 ·rintro f m n _ rfl;dsimp only;split;·exact .HD (BO.halt _)
  ·split;·exact .HD (BO.halt _)
   ·split<;>exact .AM (.int _ _)
end
section
variable{P:Ac}{F:Nat->Prop}{so:Dr}{E:AN}
theorem E5.modifyKey:∀{l d:List Ft}{k k':A1}(i:Nat),E5 F E l d->AJ F E k k'->E5 F E (l.modify i λe=>{e with key:=k}) (d.modify i λe=>{e with key:=k'})|_,_,_,_,i,.nil,_=>by cases i<;>exact .nil|_,_,_,_,0,.cons _ hv t,hk=>.cons hk hv t|_,_,_,_,i+1,.cons h k t,hk=>.cons h k (t.modifyKey i hk)
theorem E5.a3H:∀{l d:List Ft}{v v':A1}(i:Nat),E5 F E l d->AJ F E v v'->E5 F E (l.modify i λe=>{e with val:=v}) (d.modify i λe=>{e with val:=v'})|_,_,_,_,i,.nil,_=>by cases i<;>exact .nil|_,_,_,_,0,.cons hk _ t,hv=>.cons hk hv t|_,_,_,_,i+1,.cons h k t,hv=>.cons h k (t.a3H i hv)
theorem E5.aD2{es es':Array Ft}(h:E5 F E es.toList es'.toList)(i:Nat):(es'[i]?.map λx=>(x.born:Int)).getD 0=(es[i]?.map λx=>(x.born:Int)).getD 0:=by
 have:=h.get i;simp only[Se]at this;rcases this with⟨e,b⟩|⟨x,m,e,b,_,_,f⟩;·rw[e,b]
 ·rw[e,b];simp[f]
theorem E5.a'I{g:Nat->Bool}:∀{l d:List Ft},E5 F E l d->d.findIdx? (λe=>g e.born)=l.findIdx? λe=>g e.born|_,_,.nil=>rfl|_,_,.cons _ _ t=>by simp only[List.findIdx?_cons];rw[t.a'I]
theorem aPD(U:Fit P F)(hs:∀b,M9 x=Z b->so.obj b)(Q:P.globals.size=D4)(n:Nat)(t:A_)(AE:∀k e,P.underlying t=Z (aYr k e)->flat P n k=A0)(hx:AJ F E x x')(f:AJ F E k k'):AG P F so (Ci F) E (Xk t x k) (Xk t x' k'):=by
 unfold Xk;refine(Mk t).andThen ?_;rintro q H u _⟨rfl,hu⟩;replace hx:=hx.mono H;replace f:=f.mono H;cases u with
 |map C m=>
  dsimp only;have d:=AE C m hu;cases hx with
  |Qg=>exact Qr _
  |map I=>
   refine .getObj I λo o' A7=>?_;cases A7 with
   |map c s=>
    refine(ZW _ _ _ f).andThen ?_;intro B A _ _ _;refine(mT Q n C d (f.mono A) (s.mono A)).andThen ?_;intro L D r Bc BM;replace f:=(f.mono A).mono D;replace s:=(s.mono A).mono D;have K:=D _ _ (A _ _ I);cases BM with
    |none=>refine(LU U m).andThen ?_;intro N p z z' M;refine .setObj (hs _ rfl) (p _ _ K) (λ_ _ _ h=>by cases h) (.map _ ?_) (.pure (.tuple (.cons M (.cons (.int _ _) .nil))));simpa using(s.mono p).snoc _ (f.mono p) M
    |some j hv=>
     refine(a4b (s.a2' j f) f).andThen ?_;intro N p y y' hy;refine .setObj (hs _ rfl) (p _ _ K) (λ_ _ _ h=>by cases h) (.map _ ?_) (.pure (.tuple (.cons (hv.mono p) (.cons ?_ .nil))));·simpa[vZ]using(s.mono p).modifyKey j hy
     ·rw[s.aD2 j];exact .int _ _
   |_=>exact .stuck
  |_=>exact .stuck
 |_=>exact .stuck
theorem aOw(hs:∀b,M9 x=Z b->so.obj b)(t:A_)(hx:AJ F E x x')(A:AJ F E k k')(hv:AJ F E v v'):AG P F so Ny E (dI t x k v) (dI t x' k' v'):=by
 unfold dI;cases hx with
 |map y=>
  refine .getObj y λo I C=>?_;cases C with
  |map c s=>
   refine(SS A).andThen ?_;rintro D p b _ rfl;have hi:=s.a'I (g:=λn=>(n:Int)==b);rename_i m f;have z:f.findIdx? λe=>(e.born:Int)==b=m.findIdx? λe=>(e.born:Int)==b:=by obtain⟨l⟩:=m;obtain⟨H⟩:=f;simpa using hi
   rw[z];cases m.findIdx? λe=>(e.born:Int)==b with|none=>exact .DM|some i=>refine .setObj (hs _ rfl) (p _ _ y) (λ_ _ _ h=>by cases h) (.map _ ?_) (.pure trivial);simpa[vZ]using(s.mono p).a3H i (hv.mono p)
  |_=>exact .stuck
 |_=>exact .stuck
theorem aOr(y:Fit P F)(hs:∀b,so.obj b)(ts:Array A_)(t:A_)(hx:AJ F E x x'):AG P F so (Ci F) E (vn ts t #[x]) (vn ts t #[x']):=by
 unfold vn;cases ts[0]? with
 |none=>exact .stuck
 |some H=>
  dsimp only;refine(G1 H).andThen ?_;rintro I p u _ rfl;replace hx:=hx.mono p;have e:∀{E:AN},AG P F so (Ci F) E (Fi (aY8 #[]):BQ A1) (Fi (aY8 #[])):=.AM (.tuple .nil);cases hx with
  |Qg=>exact e
  |Gt l c=>exact e
  |map m=>
   refine .getObj m λo U C=>?_;cases C with
   |map c Q=>exact .setObj (hs _) m (λ_ _ _ h=>by cases h) (.map _ .nil) e
   |_=>exact .stuck
  |slice l c A=>
   cases l with
   |zero=>exact e
   |succ l=>
    cases u with
    |slice f=>refine(LU y f).andThen ?_;intro K s z z' D;refine(ZX 0 (A.mono s) (D.cells.zeroCells _)).andThen ?_;intro M N _ _ _;exact e
    |_=>exact .stuck
  |_=>cases u<;>exact .stuck
theorem AG.a'O{Bw:Type}{Q:AN->Bw->Bw->Prop}{f f':A1->Bw->BQ (ForInStep Bw)}:∀{l d:List A1}{E:AN}{b b':Bw},Ab F E l d->(∀e,E.le e->∀x m,AJ F e x m->∀b b',Q e b b'->AG P F so (YY Q) e (f x b) (f' m b'))->Q E b b'->AG P F so Q E (Xb l b f) (Xb d b' f')|_,_,_,_,_,.nil,_,h=>by simp only[aBS];exact .AM h|_,_,E,b,b',.cons hv t,AE,h=>by simp only[aBR];refine(AE E (AN.le_refl _) _ _ hv b b' h).andThen ?_;intro A p x m hx;cases hx with|done h=>exact .AM h|yield h=>exact AG.a'O (t.mono p) (λe s y z=>AE e (AN.le_trans p s) y z) h
theorem aOn(hx:AJ F E x x'):AG P F so (Ci F) E (wE x) (wE x'):=by
 unfold wE;cases hx with
 |Gt l c=>exact .AM (.string _)
 |slice l c f=>
  dsimp only;refine(uW f l).andThen ?_;intro z H cs e m;refine AG.andThen (Q:=FC) ?_ ?_
  ·rw[<-nF,<-nF];refine AG.a'O m (λp D y K hy b C h=>?_) rfl;subst h;cases hy with
   |int k n=>
    cases k<;>first
    |exact .AM (.yield rfl)
    |exact .stuck
   |_=>exact .stuck
  ·rintro A I s _ rfl;exact .AM (.string _)
 |_=>exact .stuck
theorem a4n(h:D7 E a a'):AG P F so W8 E (wF a) (wF a'):=by
 unfold wF;refine(mX h.1).andThen ?_;intro p f x z hx;replace h:=h.mono f;cases hx with
 |none=>exact .AM h
 |some t v hs=>
  rename_i s y;dsimp only;rw[h.2.1,h.2.2];split;·exact .AM hs
  ·rw[hs.2.2];split;·exact .DM
   ·refine .prog ?_;cases oi P P.depth t a.off with
    |none=>exact .DM
    |some m=>
     refine .shape hs.1 λb=>?_;cases b with
     |none=>exact .DM
     |some b=>
      obtain⟨e,n⟩:=b;simp only[Dy];split;·exact .DM
      ·rw[hs.2.1];cases aA7 P P.depth e (n/P.cellsOf e) s.off m with|none=>exact .DM|some c=>exact .AM ⟨hs.1,rfl,rfl⟩
theorem aOq{r Bc:Nat}(h:E.rel r Bc):AG P F so FC E (xW r) (xW Bc):=by unfold xW;refine .shape h λs=>?_;cases s with|some s=>exact .AM rfl|none=>refine .getObj h λo e b=>?_;cases b<;>exact .pure rfl
theorem a4r(h f:A_)(hc:(∃t,veiled t/\P.underlying h=Z (aYe t)/\P.underlying f=Z .unsafePointer)∨∃t,veiled t/\P.underlying h=Z aZp/\P.underlying f=Z (aYe t))(hx:AJ F E x x'):AG P F so (Ci F) E (wG h f x) (wG h f x'):=by
 unfold wG;refine(Mk h).andThen ?_;rintro q M u _⟨rfl,hu⟩;refine(Mk f).andThen ?_;rintro B N v _⟨rfl,hv⟩;replace hx:=(hx.mono M).mono N;rcases hc with⟨t,p,y,h2⟩|⟨t,p,y,h2⟩
 ·rw[y]at hu;rw[h2]at hv;obtain rfl:=D3 hu;obtain rfl:=D3 hv;cases hx with
  |Gm=>exact .AM .Gm
  |ptr C=>
   dsimp only;refine(a4n C).andThen ?_;intro I Q s d hs;refine(aOq hs.1).andThen ?_;rintro L U n _ rfl;refine(Hp t).andThen ?_;rintro K A z _ rfl;replace hs:=(hs.mono U).mono A;rw[hs.2.1,hs.2.2];cases n with
   |none=>
    dsimp only;split;·exact .new (.view t p hs) λb H m=>.pure (.ptr ⟨AN.RX _ _ _ m,rfl,rfl⟩)
    ·exact .AM (.ptr hs)
   |some n=>
    dsimp only;split;·exact .new (.view t p hs) λb H m=>.pure (.ptr ⟨AN.RX _ _ _ m,rfl,rfl⟩)
    ·exact .AM (.ptr hs)
  |_=>exact .stuck
 ·rw[y]at hu;rw[h2]at hv;obtain rfl:=D3 hu;obtain rfl:=D3 hv;cases hx with
  |Gm=>exact .AM .Gm
  |ptr C=>
   dsimp only;refine(a4n C).andThen ?_;intro I Q s d hs;refine(Hp t).andThen ?_;rintro K A z _ rfl;replace hs:=hs.mono A;refine(a4s hs t 1).andThen ?_;rintro R j b _ rfl;replace hs:=hs.mono j;split;·exact .AM (.ptr hs)
   ·refine .shape hs.1 λD=>?_;cases D with
    |none=>exact .DM
    |some D=>
     obtain⟨e,n⟩:=D;simp only[Dy];refine .prog ?_;refine .prog ?_;split;·exact .DM
     ·exact .new (.view t p hs) λb H m=>.pure (.ptr ⟨AN.RX _ _ _ m,rfl,rfl⟩)
  |_=>exact .stuck
theorem aPT(ts:Array A_)(t:A_)(s:∀e,P.underlying t=Z (aYe e)->veiled e)(hx:AJ F E x x'):AG P F so (Ci F) E (vt ts t #[x]) (vt ts t #[x']):=by
 unfold vt;cases hx with
 |Gt l c=>exact .AM .Gm
 |slice l c A6=>
  change AG P F so (Ci F) E (ite (c≠0) _ _) (ite (c≠0) _ _);split;·exact .AM (.ptr A6)
  ·refine(mX A6.1).andThen ?_;intro z m y C hy;replace A6:=A6.mono m;cases hy with
   |some u v hs=>exact .AM (.ptr A6)
   |none=>
    unfold Vq;refine AG.andThen (Q:=λ_(e e':A_)=>e'=e/\veiled e) ?_ ?_;·refine(Mk t).andThen ?_;rintro h f u _⟨rfl,hu⟩;cases u with|pointer e=>exact .AM ⟨rfl,s e hu⟩|_=>exact .stuck
    ·rintro h f e _⟨rfl,he⟩;exact .new (.view _ he (A6.mono f)) λb A p=>.pure (.ptr ⟨AN.RX _ _ _ p,rfl,rfl⟩)
 |_=>exact .stuck
theorem aMc(c:Sys):F6 P (sys c):=λ_ _ _ _ _ e=>by cases e
theorem aEG(x:A1):BO P (a7w x):=by
 unfold a7w;cases x with
 |iface t v=>exact BO.halt _
 |nilIface=>
  refine BO.behind ?_ λn=>?_;·unfold Instr.panicnil;refine F6.bind (aMc _) λr=>?_;cases r with|strings b=>refine F6.bind OM λp=>?_;exact F6.pure _|_=>exact F6.dead (BO.halt _)
  ·skip;split;·exact BO.halt _
   ·exact GW _
 |_=>exact BO.halt _
theorem a4X(hx:AJ F E x x')(hy:AJ F E y y'):AG P F so (Ci F) E (o0 #[x,y]) (o0 #[x',y']):=by unfold o0;refine(cK hx).andThen ?_;rintro f e b _ rfl;refine(cK (hy.mono e)).andThen ?_;rintro h m c _ rfl;exact .AM (.int _ _)
theorem zz:∀(n t:Nat){d:Array A1},Ab F E d.toList d.toList->Ab F E (wH n t d).toList (wH n t d).toList|0,_,_,h=>h|n+1,t,d,h=>by unfold wH;exact zz n _ (by simpa using h.append (.cons (.int _ _) .nil))
theorem a4e(f b:Array A_)(hx:AJ F E x x'):AG P F so (Ci F) E (o6 f b #[x]) (o6 f b #[x']):=by
 unfold o6;cases hx with
 |int k n=>
  cases k with
  |i64=>
   dsimp only;cases b[0]? with
   |none=>exact .stuck
   |some t=>
    refine(G1 t).andThen ?_;rintro p A u _ rfl;cases u with
    |slice e=>
     dsimp only;split;·exact .HD (GW _).bind
     ·refine .choose _ λc=>?_;refine(XJ c).andThen ?_;intro s C _ _ _;refine .choose _ λh=>?_;refine(Qq e (zz c h .nil)).andThen ?_;intro y D a z m;exact .AM (.slice _ _ m)
    |_=>exact .stuck
  |_=>exact .stuck
 |_=>exact .stuck
theorem a4k{a a':Array A1}(h:Ab F E a.toList a'.toList):AG P F so (Ci F) E (hr a) (hr a'):=by obtain⟨l⟩:=a;obtain⟨b⟩:=a';unfold hr;match l,b,h with|[],[],_=>exact .stuck|[x],[x'],.cons hx .nil=>exact .AM hx|_::_::_,_::_::_,_=>exact .stuck
def hA(t:Nat):Bool:=t==190||t==5
theorem uj{t:Nat}(h:hA t=A0):veiled t:=by unfold hA at h;simpa[veiled]using h
def jj(P:Ac)(f b:A_):Bool:=word P f&&word P b||match P.underlying f,P.underlying b with|Z (.slice e),Z aZo=>(match P.underlying e with|Z (aYh .u8)=>A0|_=>A5)|Z (aYe t),Z aZp=>hA t|Z aZp,Z (aYe t)=>hA t|_,_=>A5
theorem aOs(f b:A_)(h:jj P f b=A0)(hx:AJ F E x x'):AG P F so (Ci F) E (dh f b x) (dh f b x'):=by
 unfold jj at h;rcases Bool.or_eq_true_iff.1 h with h|h;·exact aOt f b (Bool.and_eq_true_iff.1 h).1 (Bool.and_eq_true_iff.1 h).2 hx
 unfold dh;refine(Mk f).andThen ?_;rintro D y u _⟨rfl,hu⟩;refine(Mk b).andThen ?_;rintro m z v _⟨rfl,hv⟩;rw[hu,hv]at h;replace hx:=(hx.mono y).mono z;cases u with
 |slice e=>
  cases v with
  |string=>
   simp only at h;cases he:P.underlying e with
   |none=>rw[he]at h;cases h
   |some d=>
    rw[he]at h;cases d with
    |int k=>
     cases k with
     |u8=>
      have C:=hx;cases hx with
      |int k n=>exact .AM (.string _)
      |string s=>exact .AM (.string _)
      |_=>refine(Mk e).andThen ?_;rintro H A d _⟨rfl,p⟩;rw[he]at p;obtain rfl:=D3 p;exact aOn (C.mono A)
     |_=>cases h
    |_=>cases h
  |_=>cases h
 |pointer t=>
  cases v with
  |unsafePointer=>have go:=a4r (P:=P) (F:=F) (so:=so) (E:=m) f b (AA ⟨t,uj h,hu,hv⟩) hx;cases hx<;>exact go
  |_=>cases h
 |unsafePointer=>
  cases v with
  |pointer t=>have go:=a4r (P:=P) (F:=F) (so:=so) (E:=m) f b (AF ⟨t,uj h,hu,hv⟩) hx;cases hx<;>exact go
  |_=>cases h
 |_=>cases h
theorem aOg(B:Fit P F){s D9:A1}(ts:Array A_)(t:A_)(h:AJ F E s D9)(k:AJ F E x x')(l0:∃u q,ts[1]?=Z u/\P.underlying u=Z (aYh q)):AG P F so (Ci F) E (U9 ts t #[s,x]) (U9 ts t #[D9,x']):=by
 obtain⟨u,q,h1,AD⟩:=l0;unfold U9;cases AH:ts[0]? with
 |none=>exact .stuck
 |some ue=>
  simp only[W0,jM,yQ];refine(G1 ue).andThen ?_;rintro N L d _ rfl;cases d with
  |slice e=>
   have h2:=h.mono L;have U:∀{E:AN}(f n:Nat),AG P F so (Q0 F) E (if n*f=0 then Fi #[]else do Fi (UA (<-RM e).cells n)) (if n*f=0 then Fi #[]else do Fi (UA (<-RM e).cells n)):=by
    intro E f n;split;·exact .AM .nil
    ·refine(LU B e).andThen ?_;intro v2 _ z z' M;exact .AM (M.cells.zeroCells n)
   cases h2 with
   |Gt l c=>
    dsimp only;refine(Hp e).andThen ?_;rintro C1 p f _ rfl;rw[h1];dsimp only;refine(Mk u).andThen ?_;rintro nO R d2 _⟨rfl,K⟩;rw[AD]at K;obtain rfl:=D3 K;replace p:=AN.le_trans p R;refine AG.andThen (Q:=λ_ a a'=>a=A0/\a'=A0) (.AM ⟨rfl,rfl⟩) ?_;rintro T A _ _⟨rfl,rfl⟩;simp only[↓reduceIte,Sg,EU,true_or,and_true];refine(SS (((k.mono L).mono p).mono A)).andThen ?_;rintro W X m _ rfl;split;·exact .HD (GW _).bind
    refine(He e).andThen ?_;rintro a6y rF i _⟨rfl,_⟩;split;·exact .HD (BO.behind (NR _) λ_=>(GW _).bind)
    ·refine AG.andThen (Q:=FC) (.AM rfl) ?_;rintro nP rG n _ rfl;have y:T.le nP:=AN.le_trans X (AN.le_trans rF rG);split;·refine(U f n).andThen ?_;intro Gd C D SJ H;exact .AM (.Gt _ _)
     ·refine(He e).andThen ?_;rintro Gd C OJ _⟨rfl,_⟩;replace y:=AN.le_trans y C;split;·exact .HD (GW _).bind
      ·refine(He e).andThen ?_;rintro Pk I j _⟨rfl,_⟩;split;·exact .HD (GW _).bind
       ·refine .choose _ λSK=>?_;refine(He e).andThen ?_;rintro XZ P4 NM _⟨rfl,_⟩;refine(XJ _).andThen ?_;intro X_ P5 _ _ _;have NZ:=λ(v v':A1)(hv:AJ F N v v')=>(((((hv.mono p).mono A).mono y).mono I).mono P4).mono P5;refine(Mj f _ (NZ _ _ (.Gt l c:AJ F N _ _))).andThen ?_;intro aF TK old To Da;refine(U f n).andThen ?_;intro cq Rl D SJ H;refine(LU B e).andThen ?_;intro cr Rm z z' M;refine(Qq e ?_).andThen ?_;·have:=(((Da.mono Rl).append H).mono Rm).append (M.cells.zeroCells (SK-(l+n)));simpa using this
        ·intro cu ey b b' hb;exact .AM (.slice _ _ hb)
   |slice l c A6=>
    dsimp only;refine(Hp e).andThen ?_;rintro C1 p f _ rfl;rw[h1];dsimp only;refine(Mk u).andThen ?_;rintro nO R d2 _⟨rfl,K⟩;rw[AD]at K;obtain rfl:=D3 K;replace p:=AN.le_trans p R;refine AG.andThen (Q:=λ_ a a'=>a=A0/\a'=A0) (.AM ⟨rfl,rfl⟩) ?_;rintro T A _ _⟨rfl,rfl⟩;rw[if_pos rfl,if_pos rfl];refine(SS (((k.mono L).mono p).mono A)).andThen ?_;rintro W X m _ rfl;by_cases c1:Po.wrap m<0;·rw[if_pos c1];exact .HD (GW _).bind
    rw[if_neg c1,if_neg c1];refine(He e).andThen ?_;rintro a6y rF i _⟨rfl,_⟩;by_cases c2:Po.wrap m*i.bytes>2^48;·rw[if_pos c2];exact .HD (BO.behind (NR _) λ_=>(GW _).bind)
    ·rw[if_neg c2,if_neg c2];refine AG.andThen (Q:=FC) (.AM rfl) ?_;rintro nP rG n _ rfl;have y:T.le nP:=AN.le_trans X (AN.le_trans rF rG);simp only[↓reduceIte,Sg,EU,true_or,and_true];split;·refine(U f n).andThen ?_;intro Gd C D SJ H;refine(ZX 0 (((((A6.mono p).mono A).mono y).mono C).add _) H).andThen ?_;intro Pk I _ _ _;exact .AM (.slice _ _ (((((A6.mono p).mono A).mono y).mono C).mono I))
     ·refine(He e).andThen ?_;rintro Gd C OJ _⟨rfl,_⟩;replace y:=AN.le_trans y C;split;·exact .HD (GW _).bind
      ·refine(He e).andThen ?_;rintro Pk I j _⟨rfl,_⟩;split;·exact .HD (GW _).bind
       ·refine .choose _ λSK=>?_;refine(He e).andThen ?_;rintro XZ P4 NM _⟨rfl,_⟩;refine(XJ _).andThen ?_;intro X_ P5 _ _ _;have NZ:=λ(v v':A1)(hv:AJ F N v v')=>(((((hv.mono p).mono A).mono y).mono I).mono P4).mono P5;refine(Mj f _ (NZ _ _ (.slice l c A6:AJ F N _ _))).andThen ?_;intro aF TK old To Da;refine(U f n).andThen ?_;intro cq Rl D SJ H;refine(LU B e).andThen ?_;intro cr Rm z z' M;refine(Qq e ?_).andThen ?_;·have:=(((Da.mono Rl).append H).mono Rm).append (M.cells.zeroCells (SK-(l+n)));simpa using this
        ·intro cu ey b b' hb;exact .AM (.slice _ _ hb)
   |_=>exact .stuck
  |_=>exact .stuck
end
section
variable{P:Ac}{F:Nat->Prop}{so:Dr}{E:AN}
inductive UY(F:Nat->Prop)(E:AN):dQ->dQ->Prop|val{v v':A1}:AJ F E v v'->UY F E (.val v) (.val v')|var{a a':Aa}:D7 E a a'->UY F E (.var a) (.var a')
theorem UY.mono{m2:AN}(b:E.le m2):∀{x x':dQ},UY F E x x'->UY F m2 x x'|_,_,.val h=>.val (h.mono b)|_,_,.var h=>.var (h.mono b)
theorem gz(t:A_){x x':dQ}(h:UY F E x x'):AG P F so (Ci F) E (x.get t) (x'.get t):=by cases h with|val h=>exact .AM h|var h=>exact h0 h t
theorem mU:∀(l:List FieldStep){E:AN}(t:A_){x x':dQ},UY F E x x'->AG P F so (λE a a'=>a'.1=a.1/\UY F E a.2 a'.2) E (xY l t x) (xY l t x')
 |[],_,t,_,_,h=>.AM ⟨rfl,h⟩
 |s::rest,E,t,x,x',h=>by
  unfold xY;refine(G1 s.struct).andThen ?_;rintro D C u _ rfl;replace h:=h.mono C;cases u with
  |struct e=>
   dsimp only;cases e[s.index]? with
   |none=>exact .stuck
   |some f=>
    dsimp only;split;·refine(gz t h).andThen ?_;intro H K v N hv;refine(gy hv).andThen ?_;intro I M a a' m;refine(uT m f).andThen ?_;intro y z p A b;exact mU rest f.type (.var b)
    ·cases h with|var m=>refine(uT m f).andThen ?_;intro y z p A b;exact mU rest f.type (.var b)|val hv=>cases hv with|agg hc=>refine(PX f.type hc f.offset).andThen ?_;intro y z p A b;exact mU rest f.type (.val b)|_=>exact .stuck
  |_=>exact .stuck
theorem aP_(ts:Array A_)(t:A_)(h:AJ F E x x')(a b:ByteArray):AG P F so (Ci F) E (vs ts t #[x,AI a,AI b]) (vs ts t #[x',AI a,AI b]):=by
 unfold vs;cases h with
 |ptr f=>exact .AM (.ptr f)
 |Gm=>
  refine .HD ?_;refine BO.behind (NR _) λn=>?_;dsimp only;split;·exact(GW _).bind
  ·cases ts[0]? with
   |none=>exact BO.halt _
   |some p=>
    refine BO.behind (Qf _) λu=>?_;cases u with
    |pointer t=>
     refine BO.behind (Qe _) λi=>?_;cases i.desc with
     |named e _=>
      dsimp only;cases String.fromUTF8? b with
      |none=>exact BO.halt _
      |some m=>
       dsimp only;split;·exact GW _
       ·exact BO.halt _
     |_=>exact BO.halt _
    |_=>exact BO.halt _
 |_=>exact .stuck
theorem aPN(b:A_){x x':dQ}(h:UY F E x x')(ptr:Bool)(wr:Option String):AG P F so (Ci F) E (xl b x ptr wr) (xl b x' ptr wr):=by
 unfold xl;refine(G1 b).andThen ?_;rintro I A u _ rfl;replace h:=h.mono A;cases u with
 |pointer e=>
  cases ptr with
  |true=>exact gz b h
  |false=>
   dsimp only;refine(gz b h).andThen ?_;intro K M v N hv;cases wr with
   |none=>dsimp only;refine AG.andThen (Q:=Ci F) (.AM hv) ?_;intro p C y H hy;refine(gy hy).andThen ?_;intro s D a z f;exact h0 f e
   |some m=>dsimp only;refine(aP_ _ _ hv _ _).andThen ?_;intro p C y H hy;refine(gy hy).andThen ?_;intro s D a z f;exact h0 f e
 |_=>
  cases ptr with
  |true=>
   cases h with
   |val hv=>exact .stuck
   |var f=>exact .AM (.ptr f)
  |false=>exact gz b h
def pf(P:Ac)(F:Nat->Prop)(name:String):Prop:=∀t i,P.info? t=Z i->∀m,i.methods.find? (·.name==name)=Z m->∀f b,m.func=Z (f,b)->F f
theorem a4g{name:String}(s:pf P F name):∀(n:Nat){E:AN}(t:A_){v v':A1},AJ F E v v'->AG P F so (λE a a'=>a'.1=a.1/\F a.1/\AJ F E a.2 a'.2) E (xg n t v name) (xg n t v' name)
 |0,_,_,_,_,_=>.DM
 |n+1,E,t,v,v',h=>by
  unfold xg;refine(He t).andThen ?_;rintro M A i _⟨rfl,hi⟩;cases H:i.methods.find? (·.name==name)with
  |none=>exact .stuck
  |some m=>
   dsimp only;refine(mU m.path.toList t (.val (h.mono A))).andThen ?_;rintro N Q⟨d,x⟩⟨p,U⟩⟨e,hx⟩;simp only at e hx;subst e;dsimp only;cases D:m.func with
   |none=>
    dsimp only;refine(gz p hx).andThen ?_;intro z C y K hy;cases hy with
    |iface u I=>exact a4g s n u I
    |nilIface=>exact Qr _
    |_=>exact .stuck
   |some q=>obtain⟨f,b⟩:=q;dsimp only;refine(aPN p hx b _).andThen ?_;intro z C y K hy;exact .AM ⟨rfl,s t i hi m H f b D,hy⟩
theorem aRq{fs:Array Field}(h:oE VB fs=Z i):i.methods=#[]:=by unfold oE at h;simp only[Nu,IX]at h;obtain⟨st,_,h⟩:=h;split at h<;>(cases h;rfl)
theorem aPr{d:xR}(h:oD VB d=Z i):i.methods=#[]:=by
 unfold oD at h;cases d with
 |pointer e=>
  simp only[Nu,IX]at h;obtain⟨j,f,h⟩:=h;split at h;·cases h
  ·split at h;·cases h
   ·simp only[IX]at h;obtain⟨s,_,h⟩:=h;cases h;rfl
  ·simp only[IX]at h;obtain⟨s,_,h⟩:=h;cases h;rfl
 |slice e=>simp only[Nu,IX]at h;obtain⟨j,_,s,_,h⟩:=h;cases h;rfl
 |map a b=>simp only[Nu,IX]at h;obtain⟨j,_,s,_,p,_,x,_,h⟩:=h;cases h;rfl
 |chan a b=>simp only[Nu,IX]at h;obtain⟨j,_,s,_,h⟩:=h;cases h;rfl
 |func a b c=>simp only[Nu,IX]at h;obtain⟨s,_,h⟩:=h;cases h;rfl
 |array n e=>simp only[Nu,IX]at h;obtain⟨j,f,s,_,h⟩:=h;cases h;rfl
 |struct m=>exact aRq h
 |_=>cases h
def a3A(P:Ac)(fb:Nat->Bool)(name:String):Bool:=P.types.toList.all λi=>match i.methods.find? (·.name==name)with|Z m=>(match m.func with|Z (f,_)=>fb f|J=>A0)|J=>A0
theorem aJi{P:Ac}(h:P.info? t=Z i):i∈P.types.toList∨i.methods=#[]:=by
 unfold Tables.info? at h;have e:∀(b t:Nat)(i:Mx),oC P.toTables b t=Z i->i∈P.types.toList∨i.methods=#[]:=by
  intro b;cases b with
  |zero=>intro t i h;cases h
  |succ f=>
   intro t i h;unfold oC at h;split at h;·exact AA (by simpa using cm h)
   ·simp only[IX]at h;obtain⟨d,_,h⟩:=h;exact AF (aPr h)
 split at h;·exact AA (by simpa using cm h)
 ·exact e _ t i h
theorem aMZ{fb:Nat->Bool}(s:∀f,fb f=A0->F f){name:String}(h:a3A P fb name=A0):pf P F name:=by
 intro t i hi m p f b x;rcases aJi hi with e|e;·have:=List.all_eq_true.1 h i e;rw[p]at this;simp only[x]at this;exact s f this
 ·rw[e]at p;cases p
end
def Hi(l:List Nat):List Nat:=if l.contains 1000007 then[0,15]else[]
def YN(l:List Nat):Prop:=l≠[]/\Hi l=[]
section
variable{P:Ac}{F:Nat->Prop}{so:Dr}{E:AN}
inductive jP(P:Ac)(F:Nat->Prop)(own:Nat->List Nat)(E:AN):MF->MF->Prop|value{v v':A1}:AJ F E v v'->jP P F own E (aYD v) (aYD v')|skip:jP P F own E aYU aYU|enter{f:Nat}{a a':Array A1}:F f∨YN (own f)->(∃fn c,P.funcs[f]?=Z fn/\fn.body=Z c)->(∀t∈own f,a.size<=t)->Ab F E a.toList a'.toList->jP P F own E (aYl f a) (aYl f a')
abbrev L6(P:Ac)(F:Nat->Prop)(own:Nat->List Nat):AN->MF->MF->Prop:=λE a a'=>jP P F own E a a'
def Calm(P:Ac)(F:Nat->Prop)(so:Dr):Prop:=(∀f,F f->so.own f=[])/\∀f,F f∨YN (so.own f)->∀(E:AN),(∀b,b<D4->E.rel b b)->∀(a a':Array A1),(∀t∈so.own f,a.size<=t)->Ab F E a.toList a'.toList->AG P F so (L6 P F so.own) E (Pw f a) (Pw f a')
theorem uP{f:Nat}(m:F f∨YN (so.own f))(e:P.funcs[f]?=Z fn)(hn:(fn.name== "runtime.NumGoroutine")=A5)(b:fn.body.isNone=A5){a a':Array A1}(p:∀t∈so.own f,a.size<=t)(h:Ab F E a.toList a'.toList):AG P F so (L6 P F so.own) E (Pw f a) (Pw f a'):=by unfold Pw;refine .prog ?_;rw[e];simp only[hn,b,EU,↓reduceIte];exact .AM (.enter m ⟨fn,fn.body.get (by simpa using b),e,by simp⟩ p h)
theorem Ga{d:BQ A1}(h:AG P F so (Ci F) E s d):AG P F so (L6 P F so.own) E (do Fi (aYD (<-s))) (do Fi (aYD (<-d))):=h.andThen λ_ _ _ _ hv=>.AM (.value hv)
theorem mV{s d:BQ Unit}(h:AG P F so Ny E s d):AG P F so (L6 P F so.own) E (do s;Fi aYU) (do d;Fi aYU):=h.andThen λ_ _ _ _ _=>.AM .skip
def jQ(P:Ac)(F:Nat->Prop)(so:Dr)(k:Nat):Op->Prop
 |.move _|aYt _|.pick ..|.alloc _|.box ..|.build ..|aZL ..|.load ..|.store ..|aZ5 _|.unOp ..|a_3 ..|aZc ..|aZ4 ..|.slice ..=>True
 |a_1 ..|.field ..|aZ3 ..|.index ..|aZf ..|a_4 ..|.extract ..=>True
 |.binOp op t _ y _=>op=.eql∨op=.neq->flat P k t=A0∨(∃v,y=aU7 v/\Nil v)∨so.HP/\∃e,P.underlying t=Z (aYe e)
 |.convert s d _=>jj P s d=A0
 |a_2 fn _ _=>∃f,fn=aYI f/\F f
 |.lookup t _ _ _=>∀h e,P.underlying t=Z (aYr h e)->flat P k h=A0
 |aZe t _ _ _|aZb t _ _ _=>∀h e,P.underlying t=Z (aYr h e)->flat P k h=A0
 |aZd t _ _=>∀h e,P.underlying t=Z (aYr h e)->flat P k h=A0
 |.next _ _|aZa ..|.panic _=>True
 |a8E c=>match c.callee with
  |aYV .append=>c.args.size=2
  |aYV .len|aYV .cap=>c.args.size=1
  |aYV .copy=>c.args.size=2
  |aYV aZV=>so.Lm/\c.args.size=2
  |aYV .min=>True
  |aYV .clear=>(∀b,so.obj b)/\c.args.size=1
  |aYV aZA=>c.args.size=1
  |aYa (aYM f)=>(F f∨YN (so.own f))/\∀t∈so.own f,c.args.size<=t
  |aYa _=>True
  |.invoke _ name=>pf P F name
  |_=>False
 |_=>False
def eK(P:Ac)(o:Bf):Prop:=match o.op with
 |a8E c=>match c.callee with
  |aYV aZA=>∀e,P.underlying o.type=Z (aYe e)->veiled e
  |_=>True
 |_=>True
def opsOf:Op->List C2
 |a8E c=>match c.callee with
  |aYa (aYM _)=>c.args.toList
  |_=>(a8E c).operands.toList
 |o=>o.operands.toList
def setOf:Op->Option C2|aZe _ x _ _|aZb _ x _ _|.next x _|aZd _ x _|aZa _ x _ _=>Z x|_=>J
theorem Ab.ofMap{d8:Type}{f f':d8->A1}:∀(l:List d8),(∀x∈l,AJ F E (f x) (f' x))->Ab F E (l.map f) (l.map f')|[],_=>.nil|x::l,h=>.cons (h x (by simp)) (Ab.ofMap l λy hy=>h y (by simp[hy]))
theorem Nw.ofMap{f f':C2->A1}:∀(l:List (Nat×C2)),(∀x∈l.map (·.2),AJ F E (f x) (f' x))->Nw F E (l.map λp=>(p.1,f p.2)) (l.map λp=>(p.1,f' p.2))|[],_=>.nil|x::l,h=>.cons x.1 (h x.2 (by simp)) (Nw.ofMap l λy hy=>h y (by simp only[GU,List.mem_cons];exact AF hy))
theorem Ke.ofMap{f f':C2->A1}{o:Option C2}(h:∀x,o=Z x->AJ F E (f x) (f' x)):Ke F E (o.map f) (o.map f'):=by cases o with|none=>exact AA ⟨rfl,rfl⟩|some x=>exact AF ⟨_,_,rfl,rfl,h x rfl⟩
theorem two{a:Array d8}(h:a.size=2):∃x y,a=#[x,y]:=by obtain⟨l⟩:=a;match l,h with|[x,y],_=>exact⟨x,y,rfl⟩
theorem one{a:Array d8}(h:a.size=1):∃x,a=#[x]:=by obtain⟨l⟩:=a;match l,h with|[x],_=>exact⟨x,rfl⟩
theorem aPK(o:Bf)(y:C2)(f:o.op=aZ5 y)(e:ρ y=x)(e':ρ' y=x')(h:AJ F E x x'):AG P F so (L6 P F so.own) E (AU ρ o) (AU ρ' o):=by unfold AU;rw[f];simp only[e,e'];cases h with|Gm=>exact Qr _|nilIface=>exact Qr _|nilFunc=>exact Qr _|ptr h=>exact .AM (.value (.ptr h))|slice l c h=>exact .AM (.value (.slice l c h))|map h=>exact .AM (.value (.map h))|chan h=>exact .AM (.value (.chan h))|func a b c=>exact .AM (.value (.func a b c))|iface t h=>exact .AM (.value (.iface t h))|agg h=>exact .AM (.value (.agg h))|tuple h=>exact .AM (.value (.tuple h))|_=>exact .AM (.value (by constructor))
end
section
variable{P:Ac}{F:Nat->Prop}{so:Dr}{E:AN}
theorem aOo(C:Fit P F)(hC:Calm P F so)(D:∀b,b<D4->E.rel b b)(NC:∀f,ρ (aYM f)=aYK (aYI f) #[] #[])(d:∀f,ρ' (aYM f)=aYK (aYI f) #[] #[])(o:Bf)(c:Call)(A7:o.op=a8E c)(k:Nat)(h:jQ P F so k o.op)(I:eK P o)(m:∀x∈opsOf o.op,AJ F E (ρ x) (ρ' x)):AG P F so (L6 P F so.own) E (AU ρ o) (AU ρ' o):=by
 unfold AU;unfold eK at I;rw[A7]at h m I⊢;obtain⟨callee,args,ts⟩:=c;cases callee with
 |value f=>
  by_cases N:∃g,f=aYM g
  ·obtain⟨g,rfl⟩:=N;have A:Ab F E (args.map ρ).toList (args.map ρ').toList:=by simpa using Ab.ofMap (f:=ρ) (f':=ρ') args.toList λx hx=>m x hx
   show AG P F so (L6 P F so.own) E (aO (ρ (aYM g)) (args.map ρ)>>=_) (aO (ρ' (aYM g)) (args.map ρ')>>=_);rw[NC,d];refine hC.2 _ h.1 E D _ _ ?_ ?_;·intro t z;have:=h.2 t z;simpa using this
   ·simpa using A
  have m:∀x∈((a8E {callee:=aYa f,args:=args,argTypes:=ts}).operands).toList,AJ F E (ρ x) (ρ' x):=by intro x hx;refine m x ?_;cases f<;>first|exact hx|exact absurd ⟨_,rfl⟩ N
  simp only[Dn,nU]at m;have s:=m f (by simp);have A:Ab F E (args.map ρ).toList (args.map ρ').toList:=by simpa using Ab.ofMap (f:=ρ) (f':=ρ') args.toList λx hx=>m x (by simpa using AF hx)
  show AG P F so (L6 P F so.own) E (aO (ρ f) (args.map ρ)>>=_) (aO (ρ' f) (args.map ρ')>>=_);generalize ρ f=x at s;generalize ρ' f=x' at s;cases s with|func a b c=>refine hC.2 _ (AA a) E D _ _ (λt z=>by rw[hC.1 _ a]at z;cases z) ?_;simpa using(b.append A).append c|nilFunc=>show AG P F so (L6 P F so.own) E (RJ .nilDeref) _;exact Qr _|_=>exact .stuck
 |invoke r n=>
  simp only[opsOf,Dn,nU]at m;have H:=m r (by simp);have A:Ab F E (args.map ρ).toList (args.map ρ').toList:=by simpa using Ab.ofMap (f:=ρ) (f':=ρ') args.toList λx hx=>m x (by simpa using AF hx)
  have e1:∀p:C2->A1,(#[p r]++args.map p).extract 1 (#[p r]++args.map p).size=args.map p:=by intro p;apply Array.ext';simp only[aZt,vY,a_K,Array.size_append,aZu];simp only[ML,List.nil_append,List.drop_succ_cons,List.drop_zero];exact List.take_of_length_le (by simp)
  have U:∀p:C2->A1,(#[p r]++args.map p)[0]?=Z (p r):=by intro p;rw[vU (by simp)];rfl
  change AG P F so (L6 P F so.own) E (invoke (.fn (.method n) #[]) (#[ρ r]++args.map ρ)) (invoke (.fn (.method n) #[]) (#[ρ' r]++args.map ρ'));unfold invoke;simp only[U,e1];unfold callMethod;generalize ρ r=x at H;generalize ρ' r=x' at H;cases H with|iface t hv=>dsimp only;refine .prog ?_;refine(a4g h _ t hv).andThen ?_;rintro Q M⟨f,y⟩⟨f',y'⟩⟨e,s,hy⟩;simp only at e s hy;subst e;refine hC.2 _ (AA s) Q (λb hb=>M _ _ (D b hb)) _ _ (λt z=>by rw[hC.1 _ s]at z;cases z) ?_;simpa using Ab.cons hy (A.mono M)|nilIface=>exact Qr _|_=>exact .stuck
 |builtin b=>
  simp only[opsOf,Dn,nU]at m;unfold jQ at h;simp only at h;cases b with
  |append=>
   obtain⟨x,y,rfl⟩:=two h;simp only[Y',Le,GU,K8];by_cases hi:∃u q,ts[1]?=Z u/\P.underlying u=Z (aYh q);·exact Ga (aOg C ts o.type (m x (by simp)) (m y (by simp)) hi)
   ·exact Ga (aOf C ts o.type (m x (by simp)) (m y (by simp)) λu hu q AD=>hi ⟨u,q,hu,AD⟩)
  |len=>obtain⟨x,rfl⟩:=one h;simp only[Y',Le,GU,K8];exact Ga (aP6 ts o.type (m x (by simp)))
  |cap=>obtain⟨x,rfl⟩:=one h;simp only[Y',Le,GU,K8];exact Ga (aOp ts o.type (m x (by simp)))
  |copy=>obtain⟨x,y,rfl⟩:=two h;simp only[Y',Le,GU,K8];exact Ga (aOu ts o.type (m x (by simp)) (m y (by simp)))
  |unsafeString=>obtain⟨K,h⟩:=h;obtain⟨x,y,rfl⟩:=two h;simp only[Y',Le,GU,K8];exact Ga (aPZ K ts o.type (m x (by simp)) (m y (by simp)))
  |clear=>obtain⟨K,h⟩:=h;obtain⟨x,rfl⟩:=one h;simp only[Y',Le,GU,K8];exact Ga (aOr C K ts o.type (m x (by simp)))
  |unsafeSliceData=>obtain⟨x,rfl⟩:=one h;simp only[Y',Le,GU,K8];exact Ga (aPT ts o.type I (m x (by simp)))
  |min=>refine Ga (aPG ts o.type ?_);simpa using Ab.ofMap (f:=ρ) (f':=ρ') args.toList λx hx=>m x (by simpa using hx)
  |_=>exact h.elim
theorem mS(C:Fit P F)(H:P.globals.size=D4)(N:Calm P F so)(AB:∀b,b<D4->E.rel b b)(hc:∀v,ρ (aU7 v)=v)(U:∀f,ρ (aYM f)=aYK (aYI f) #[] #[])(j:∀f,ρ' (aYM f)=aYK (aYI f) #[] #[])(o:Bf)(k:Nat)(h:jQ P F so k o.op)(q:eK P o)(p:∀x∈opsOf o.op,AJ F E (ρ x) (ρ' x))(I:∀x,setOf o.op=Z x->∀b,M9 (ρ x)=Z b->so.obj b):AG P F so (L6 P F so.own) E (AU ρ o) (AU ρ' o):=by
 cases A:o.op with
 |call c=>exact aOo C N AB U j o c A k h q p
 |nilCheck y=>exact aPK o y A rfl rfl (p y (by rw[A];simp[opsOf,Dn]))
 |move x=>unfold AU;rw[A]at p⊢;exact .AM (.value (p x (by simp[opsOf,Dn])))
 |assign x=>unfold AU;rw[A]at p⊢;exact .AM (.value (p x (by simp[opsOf,Dn])))
 |pick c a b=>
  unfold AU;rw[A]at p⊢;refine(a4U (p c (by simp[opsOf,Dn]))).andThen ?_;rintro M D r _ rfl;cases r;·exact .AM (.value ((p b (by simp[opsOf,Dn])).mono D))
  ·exact .AM (.value ((p a (by simp[opsOf,Dn])).mono D))
 |alloc t=>unfold AU;rw[A];exact Ga (aOe C t)
 |box t x=>unfold AU;rw[A]at p⊢;exact Ga (aOk t (p x (by simp[opsOf,Dn])))
 |build t K=>unfold AU;rw[A]at p⊢;refine Ga (aOl C t ?_);simpa using Nw.ofMap (f:=ρ) (f':=ρ') K.toList λx hx=>p x (by simpa[opsOf,Dn]using hx)
 |buildSlice t n K=>unfold AU;rw[A]at p⊢;refine Ga (aOm C t n ?_);simpa using Nw.ofMap (f:=ρ) (f':=ρ') K.toList λx hx=>p x (by simpa[opsOf,Dn]using hx)
 |load t x=>unfold AU;rw[A]at p⊢;exact Ga (aP7 t (p x (by simp[opsOf,Dn])))
 |store t x y=>unfold AU;rw[A]at p⊢;exact mV (aPV t (p x (by simp[opsOf,Dn])) (p y (by simp[opsOf,Dn])))
 |unOp op t x=>unfold AU;rw[A]at p⊢;exact Ga (aPY op (p x (by simp[opsOf,Dn])))
 |convert s d x=>unfold AU;rw[A]at p h⊢;exact Ga (aOs s d h (p x (by simp[opsOf,Dn])))
 |makeInterface t x=>unfold AU;rw[A]at p⊢;exact Ga (aPA t (p x (by simp[opsOf,Dn])))
 |makeFunc fn a b=>
  unfold AU;rw[A]at p h⊢;obtain⟨f,rfl,Q⟩:=h;refine Ga (aP9 f Q ?_ ?_);·simpa using Ab.ofMap (f:=ρ) (f':=ρ') a.toList λx hx=>p x (by simpa[opsOf,Dn]using AA hx)
  ·simpa using Ab.ofMap (f:=ρ) (f':=ρ') b.toList λx hx=>p x (by simpa[opsOf,Dn]using AF hx)
 |makeMap t r=>unfold AU;rw[A]at p⊢;exact Ga (aPB t (Ke.ofMap λx e=>p x (by subst e;simp[opsOf,Dn])))
 |makeSlice t x y=>unfold AU;rw[A]at p⊢;exact Ga (aPC C t (p x (by simp[opsOf,Dn])) (p y (by simp[opsOf,Dn])))
 |slice t x l hi m=>unfold AU;rw[A]at p⊢;exact Ga (aPR t (p x (by simp[opsOf,Dn])) (Ke.ofMap λy e=>p y (by subst e;simp[opsOf,Dn])) (Ke.ofMap λy e=>p y (by subst e;simp[opsOf,Dn])) (Ke.ofMap λy e=>p y (by subst e;simp[opsOf,Dn])))
 |fieldAddr t x f=>unfold AU;rw[A]at p⊢;exact Ga (aP2 t (p x (by simp[opsOf,Dn])) f)
 |field t x f=>unfold AU;rw[A]at p⊢;exact Ga (aP1 t (p x (by simp[opsOf,Dn])) f)
 |indexAddr t x y=>unfold AU;rw[A]at p⊢;exact Ga (aP5 t (p x (by simp[opsOf,Dn])) (p y (by simp[opsOf,Dn])))
 |index t x y=>unfold AU;rw[A]at p⊢;exact Ga (aP4 t (p x (by simp[opsOf,Dn])) (p y (by simp[opsOf,Dn])))
 |lookup t x y b=>unfold AU;rw[A]at p h⊢;exact Ga (aP8 C H k t h b (p x (by simp[opsOf,Dn])) (p y (by simp[opsOf,Dn])))
 |mapUpdate t x y z=>unfold AU;rw[A]at p h⊢;exact mV (a4f (I x (by rw[A];rfl)) H k t h (p x (by simp[opsOf,Dn])) (p y (by simp[opsOf,Dn])) (p z (by simp[opsOf,Dn])))
 |insert t x y z=>unfold AU;rw[A]at p h⊢;exact mV (a4f (I x (by rw[A];rfl)) H k t h (p x (by simp[opsOf,Dn])) (p y (by simp[opsOf,Dn])) (p z (by simp[opsOf,Dn])))
 |mapEntry t x y=>unfold AU;rw[A]at p h⊢;exact Ga (aPD C (I x (by rw[A];rfl)) H k t h (p x (by simp[opsOf,Dn])) (p y (by simp[opsOf,Dn])))
 |entryStore t x y z=>unfold AU;rw[A]at p⊢;exact mV (aOw (I x (by rw[A];rfl)) t (p x (by simp[opsOf,Dn])) (p y (by simp[opsOf,Dn])) (p z (by simp[opsOf,Dn])))
 |panic x=>unfold AU;rw[A];exact .HD (aEG _).bind
 |range t x=>unfold AU;rw[A]at p⊢;exact Ga (aPM t (p x (by simp[opsOf,Dn])))
 |next x b=>unfold AU;rw[A]at p h⊢;exact Ga (aPJ (I x (by rw[A];rfl)) b o.type (p x (by simp[opsOf,Dn])))
 |typeAssert x t u b=>unfold AU;rw[A]at p⊢;exact Ga (aPX C t u b (p x (by simp[opsOf,Dn])))
 |extract x i=>unfold AU;rw[A]at p⊢;exact Ga (aP0 (p x (by simp[opsOf,Dn])) i)
 |binOp op t x y u=>
  unfold AU;rw[A]at p h⊢;have hx:=p x (by simp[opsOf,Dn]);have hy:=p y (by simp[opsOf,Dn]);refine Ga ?_;refine(aOx op t x y hx hy).andThen ?_;intro M D _ _ _;refine aOj H k op t (hx.mono D) (hy.mono D) λe=>?_;rcases h e with g|⟨v,rfl,hv⟩|g;·exact AA g
  ·exact AF (AA (by rw[hc];exact hv))
  ·exact AF (AF g)
 |_=>rw[A]at h;exact h.elim
end
section
variable{P:Ac}{F:Nat->Prop}{E:AN}
def gv:Nat->A1->Bool|0,_=>A5|_+1,aY5 _|_+1,IS _ _|_+1,AI _|_+1,aY4 J|_+1,As J _ _|_+1,E3 J|_+1,aYC J|_+1,aZ8|_+1,aYA=>A0|n+1,aYJ _ v=>gv n v|n+1,dd a|n+1,aY8 a=>a.toList.all (gv n)|_+1,_=>A5
theorem Ab.XD:∀{l:List A1},(∀v∈l,AJ F E v v)->Ab F E l l|[],_=>.nil|v::l,h=>.cons (h v (by simp)) (Ab.XD λu hu=>h u (by simp[hu]))
theorem gw:∀(n:Nat){v:A1},gv n v=A0->AJ F E v v
 |0,_,h=>by cases h
 |n+1,v,h=>by
  cases v with
  |bool b=>exact .bool b
  |int k a=>exact .int k a
  |string s=>exact .string s
  |pointer a=>
   cases a with
   |none=>exact .Gm
   |some a=>cases h
  |slice a l c=>
   cases a with
   |none=>exact .Gt l c
   |some a=>cases h
  |map a=>
   cases a with
   |none=>exact .Qg
   |some a=>cases h
  |chan a=>
   cases a with
   |none=>exact .WN
   |some a=>cases h
  |nilFunc=>exact .nilFunc
  |nilIface=>exact .nilIface
  |iface t v=>exact .iface t (gw n h)
  |agg a=>exact .agg (Ab.XD λv hv=>gw n (List.all_eq_true.1 h v hv))
  |tuple a=>exact .tuple (Ab.XD λv hv=>gw n (List.all_eq_true.1 h v hv))
  |_=>cases h
def a3Z:A1->Bool|aY4 J|As J _ _|E3 J|aYC J|aZ8|aYA=>A0|_=>A5
theorem aN4(h:a3Z v=A0):Nil v:=by
 cases v with
 |pointer a=>
  cases a with
  |none=>exact .ptr
  |some a=>cases h
 |slice a l c=>
  cases a with
  |none=>exact .slice l c
  |some a=>cases h
 |map a=>
  cases a with
  |none=>exact .map
  |some a=>cases h
 |chan a=>
  cases a with
  |none=>exact .chan
  |some a=>cases h
 |nilFunc=>exact .func
 |nilIface=>exact .iface
 |_=>cases h
def jW(ow:List Nat)(t:Nat):Bool:=!(Hi ow).contains t
def SQ(fb:Nat->Bool)(ow:List Nat):C2->Bool|oM t=>jW ow t|aU7 v=>gv 20 v|.global g=>Bn (g<D4)|aYM f=>fb f
def lG(P:Ac)(k:Nat)(t:A_):Bool:=match P.underlying t with|Z (aYr key _)=>flat P k key|_=>A0
theorem lI{k:Nat}(h:lG P k t=A0):∀b e,P.underlying t=Z (aYr b e)->flat P k b=A0:=by intro b e he;unfold lG at h;rw[he]at h;exact h
def a3_:C2->Bool|aU7 v=>a3Z v|_=>A5
def uL(P:Ac)(t:A_):Bool:=match P.underlying t with|Z (aYe _)=>A0|_=>A5
def aEv(P:Ac)(b:Bool)(k:Nat)(e:Im)(t:A_)(y:C2):Bool:=match e with|.eql|.neq=>flat P k t||(a3_ y||b&&uL P t)|_=>A0
structure HC where
 own:Nat->List Nat
 J5:Nat->Prop
 all:own 4294967296≠[]->∀b,J5 b
 HP:Prop
 aFL:own 4294967296≠[]->HP
def P0(own:Nat->List Nat):Bool:=!(own 4294967296).isEmpty
def W6(el:HC)(v:A1):Prop:=∀b,M9 v=Z b->el.J5 b
def VP(ow:List Nat):C2->Bool|oM t=>ow.contains t|_=>A5
def qv(ow:List Nat):Op->Bool|aZc _ J|aZf ..|aZ4 ..=>A0|.move x|aYt x|aZ3 _ x _=>VP ow x|_=>A5
def jm(ow:List Nat)(o:Bf):Bool:=match o.dst with|Z d=>jW ow d&&(!ow.contains d||qv ow o.op)|J=>A0
def PV(P:Ac)(fb:Nat->Bool)(own:Nat->List Nat)(ow:List Nat)(k:Nat):Op->Bool
 |.move _|aYt _|.pick ..|.alloc _|.box ..|.build ..|aZL ..|.load ..|.store ..|aZ5 _|.unOp ..|a_3 ..|aZc ..|aZ4 ..|.slice ..=>A0
 |a_1 ..|.field ..|aZ3 ..|.index ..|aZf ..|a_4 ..|.extract ..=>A0
 |.next x _|aZa _ x _ _=>P0 own||VP ow x
 |.panic _=>A0
 |.binOp op t _ y _=>aEv P (P0 own) k op t y
 |.convert s d _=>jj P s d
 |a_2 fn _ _=>match fn with
  |aYI f=>fb f
  |_=>A5
 |.lookup t _ _ _=>lG P k t
 |aZe t x _ _|aZb t x _ _|aZd t x _=>(P0 own||VP ow x)&&lG P k t
 |a8E c=>match c.callee with
  |aYV b=>match b with
   |.append=>Bn (c.args.size=2)
   |.len|.cap=>Bn (c.args.size=1)
   |.copy=>Bn (c.args.size=2)
   |aZV=>Bn (c.args.size=2)&&(P0 own||match c.args[0]? with
    |Z x=>VP ow x
    |J=>A5)
   |.min=>A0
   |.clear=>P0 own&&Bn (c.args.size=1)
   |aZA=>Bn (c.args.size=1)
   |_=>A5
  |aYa (aYM f)=>(fb f||!(own f).isEmpty&&!(own f).contains 1000007)&&(own f).all λt=>Bn (c.args.size<=t)
  |aYa _=>A0
  |.invoke _ name=>a3A P fb name
 |_=>A5
def LX:Op->Bool
 |a8E c=>match c.callee with
  |aYV aZV=>A0
  |_=>A5
 |_=>A5
def B4(el:HC)(z:Bool):Dr:=⟨el.J5,z=A0,el.own,el.HP⟩
theorem mG{fb:Nat->Bool}(I:∀f,fb f=A0->F f){el:HC}{ow:List Nat}{k:Nat}{o:Op}(h:PV P fb el.own ow k o=A0):jQ P F (B4 el (LX o)) k o:=by
 cases o with
 |binOp U t x y u=>
  intro e;have h2:(flat P k t||(a3_ y||P0 el.own&&uL P t))=A0:=by rcases e with rfl|rfl<;>exact h
  rcases Bool.or_eq_true_iff.1 h2 with g|g;·exact AA g
  rcases Bool.or_eq_true_iff.1 g with g|g;·cases y with|const v=>exact AF (AA ⟨v,rfl,aN4 g⟩)|_=>cases g
  ·obtain⟨D,H⟩:=Bool.and_eq_true_iff.1 g;refine AF (AF ⟨el.aFL λe=>?_,?_⟩);·unfold P0 at D;rw[e]at D;cases D
   ·unfold uL at H;split at H;·exact⟨_,‹_›⟩
    ·cases H
 |convert s d x=>exact h
 |makeFunc N a b=>unfold PV at h;cases N with|func f=>exact⟨f,rfl,I f h⟩|_=>cases h
 |lookup t x y b=>exact lI h
 |mapUpdate t x y z=>exact lI (Bool.and_eq_true_iff.1 h).2
 |insert t x y z=>exact lI (Bool.and_eq_true_iff.1 h).2
 |mapEntry t x y=>exact lI (Bool.and_eq_true_iff.1 h).2
 |entryStore t x y z=>exact trivial
 |panic x=>exact trivial
 |next x b=>exact trivial
 |call c=>
  obtain⟨A,m,ts⟩:=c;cases A with
  |value f=>
   cases f with
   |func g=>
    obtain⟨C,h2⟩:=Bool.and_eq_true_iff.1 h;refine⟨?_,λt Q=>of_decide_eq_true (List.all_eq_true.1 h2 t Q)⟩;rcases Bool.or_eq_true_iff.1 C with e|e;·exact AA (I _ e)
    ·right;obtain⟨K,M⟩:=Bool.and_eq_true_iff.1 e;refine⟨λe2=>?_,?_⟩;·have e2:el.own g=[]:=e2;rw[e2]at K;cases K
     ·show Hi (el.own g)=[];unfold Hi;rw[if_neg (by simpa using M)]
   |_=>exact trivial
  |invoke r n=>exact aMZ I h
  |builtin b=>cases b with|append=>exact of_decide_eq_true (p:=m.size=2) h|len=>exact of_decide_eq_true (p:=m.size=1) h|cap=>exact of_decide_eq_true (p:=m.size=1) h|copy=>exact of_decide_eq_true (p:=m.size=2) h|unsafeString=>exact⟨rfl,of_decide_eq_true (p:=m.size=2) (Bool.and_eq_true_iff.1 h).1⟩|min=>exact trivial|clear=>obtain⟨C,h2⟩:=Bool.and_eq_true_iff.1 h;refine⟨el.all λe=>?_,of_decide_eq_true h2⟩;unfold P0 at C;rw[e]at C;cases C|unsafeSliceData=>exact of_decide_eq_true (p:=m.size=1) h|_=>cases h
 |_=>first|exact trivial|cases h
theorem aR'{fb:Nat->Bool}{own:Nat->List Nat}{ow:List Nat}{k:Nat}{o:Op}(h:PV P fb own ow k o=A0){x:C2}(hx:setOf o=Z x):P0 own=A0∨∃t,x=oM t/\t∈ow:=by
 have e:∀y,(P0 own||VP ow y)=A0->P0 own=A0∨∃t,y=oM t/\t∈ow:=by
  intro y hy;rcases Bool.or_eq_true_iff.1 hy with hy|hy;·exact AA hy
  right;cases y with|tmp t=>exact⟨t,rfl,by simpa[VP]using hy⟩|_=>cases hy
 cases o with|mapUpdate t y z u=>cases hx;exact e _ (Bool.and_eq_true_iff.1 h).1|insert t y z u=>cases hx;exact e _ (Bool.and_eq_true_iff.1 h).1|mapEntry t y z=>cases hx;exact e _ (Bool.and_eq_true_iff.1 h).1|entryStore t y z u=>cases hx;exact e _ h|next y b=>cases hx;exact e _ h|_=>cases hx
theorem aPa(f:(dK t x).runT P w es=(aY6 v w1,es1)):∀b,M9 v=Z b->w.heap.size<=b:=by
 unfold dK at f;change(Dy (Iq t) _).runT P w es=_ at f;rw[IK]at f;split at f
 ·rename_i u p y e2;have hs:p=w:=by unfold Iq at e2;cases hu:P.underlying t with|none=>change(match P.underlying t with|Z d=>Mu d|J=>Vt _:BQ _).runT P w es=_ at e2;rw[hu]at e2;cases e2|some d=>change(match P.underlying t with|Z d=>Mu d|J=>Vt _:BQ _).runT P w es=_ at e2;rw[hu]at e2;cases e2;rfl
  subst hs;cases u with
  |string=>cases x with|string s=>cases f;intro b h;cases h;exact AX _|_=>cases f
  |map k e=>
   cases x with
   |map r=>
    cases r with
    |none=>cases f;intro b h;cases h;exact AX _
    |some m=>
     change(aZk m _).runT P p y=_ at f;simp only[DV]at f;split at f;·cases f
     ·rename_i o _ _;cases o with|map c n=>cases f;intro b h;cases h;exact AX _|_=>cases f
     ·cases f
   |_=>cases f
  |_=>cases x<;>cases f
 ·cases f
def I9(P:Ac){d8:Type}(s:BQ d8):Prop:=∀w e a b es1,s.runT P w e=(aY6 a b,es1)->b.heap=w.heap
theorem I9.bind{d8 Bw:Type}{s:BQ d8}{f:d8->BQ Bw}(h:I9 P s)(k:∀a,I9 P (f a)):I9 P (s.bind f):=by
 intro w p a y es1 b;rw[IK]at b;split at b;·rename_i m w0 x e;exact(k _ _ _ _ _ _ b).trans (h _ _ _ _ _ e)
 ·cases b
theorem I9.pure(a:d8):I9 P (Mu a):=by intro w f b h es1 e;cases e;rfl
theorem I9.dead{s:BQ d8}(h:BO P s):I9 P s:=λ_ _ _ _ _ b=>absurd b (h.ne _ _ _ _ _)
theorem I9.stuck{d8:Type}(m:String):I9 P (stuck m:BQ d8):=.dead (BO.halt _)
theorem I9.program{k:Ac->BQ d8}(h:I9 P (k P)):I9 P (a9v k):=λ_ _ _ _ _ e=>h _ _ _ _ _ e
theorem aOZ(t:A_):I9 P (Iq t):=by refine .program ?_;show I9 P (match P.underlying t with|Z d=>Mu d|J=>Vt _:BQ _);cases P.underlying t with|some d=>exact .pure _|none=>exact .stuck _
theorem uO(t:A_):I9 P (RL t):=by refine .program ?_;show I9 P (match P.info? t with|Z d=>Mu d|J=>Vt _:BQ _);cases P.info? t with|some d=>exact .pure _|none=>exact .stuck _
theorem aOY(t:A_):I9 P (UK t):=by unfold UK;exact(uO t).bind λi=>.pure _
theorem aO_(t:A_):I9 P (RM t):=by
 unfold RM;refine(uO t).bind λi=>?_;split;·exact .pure _
 ·exact .dead (BO.halt _)
theorem aOW(v:A1):I9 P (aZS v):=by unfold aZS;split<;>first|exact .pure _|exact .dead (BO.halt _)
theorem a4R(v:A1):I9 P (aZ9 v):=by unfold aZ9;exact(aOW v).bind λ_=>.pure _
theorem aOX(n:Nat):I9 P (ig n):=by
 unfold ig;split;·intro w b a e es1 h;cases h;rfl
 ·exact .pure _
def N3(P:Ac)(s:BQ A1):Prop:=∀w e v f es1,s.runT P w e=(aY6 v f,es1)->∀b,M9 v=Z b->w.heap.size<=b
theorem N3.bind{d8:Type}{s:BQ d8}{f:d8->BQ A1}(h:I9 P s)(k:∀a,N3 P (f a)):N3 P (s.bind f):=by
 intro w y a A es1 e b p;rw[IK]at e;split at e;·rename_i x w0 z m;have:=k _ _ _ _ _ _ e b p;rw[h _ _ _ _ _ m]at this;exact this
 ·cases e
theorem N3.dead(h:BO P s):N3 P s:=λ_ _ _ _ _ b=>absurd b (h.ne _ _ _ _ _)
theorem aM6(t:A_)(l c:A1):N3 P (dJ t l c):=by
 unfold dJ;refine N3.bind (aOZ t) λd=>?_;cases d with
 |slice e=>
  refine N3.bind (a4R l) λn=>?_;refine N3.bind (a4R c) λm=>?_;refine N3.bind (uO e) λi=>?_;dsimp only;split
  ·split;·exact .dead (BO.bind (GW _))
   ·split;·exact .dead (BO.bind (GW _))
    ·exact .dead (BO.behind (NR _) λ_=>BO.bind (GW _))
  ·refine N3.bind (aOX _) λ_=>?_;refine N3.bind (aOY e) λx=>?_;split;·refine N3.bind (I9.pure _) λz=>?_;intro w p v s es1 h b f;cases h;cases f;exact AX _
   ·refine N3.bind (aO_ e) λy=>?_;refine N3.bind (I9.pure _) λz=>?_;intro w p v s es1 h b f;cases h;cases f;exact AX _
 |_=>exact .dead (BO.halt _)
def YV(P:Ac)(x:A1)(s:BQ A1):Prop:=∀w e v f es1,s.runT P w e=(aY6 v f,es1)->∀b,M9 v=Z b->M9 x=Z b
theorem YV.bind{d8:Type}{x:A1}{s:BQ d8}{f:d8->BQ A1}(k:∀a,YV P x (f a)):YV P x (s.bind f):=by
 intro w m a p es1 e b h;rw[IK]at e;split at e;·exact k _ _ _ _ _ _ e b h
 ·cases e
theorem YV.dead(h:BO P s):YV P x s:=λ_ _ _ _ _ b=>absurd b (h.ne _ _ _ _ _)
theorem aCG(a:Aa)(n:Nat):(a.add n).block=a.block:=by unfold Ht;split<;>rfl
theorem zw(k:KY)(x y:Int)(c:vl):BO P (Vp k x y c:BQ d8):=by
 unfold Vp;simp only;split;·exact BO.behind (F6.bind (NR _) λ_=>F6.pure _) λ_=>GW _
 ·exact BO.behind (F6.pure _) λ_=>GW _
theorem aJf(t:A_)(x i:A1):YV P x (Xj t x i):=by
 have m:∀(k:KY)(j:Int)(base:Option Aa)(f:Nat)(h:A_),(∀a,base=Z a->M9 x=Z a.block)->YV P x (Dy (Iq t) λd=>match base with
 |Z a=>if 0<=j/\j<f then Dy (UK h) λA=>Mu (aY4 (Z (a.add (j.toNat*A))))else if(Bn (f<=1)&&match d with
  |aZn ..=>A0
  |_=>A5)=A0 then a_I (aZ7 "op/indexAddr.an index out of range at an array of length 0 or 1 (ledger 616)")else Vp k j f .index
 |J=>Vp k j 0 .index):=by
  intro k j base f h C;refine .bind λd=>?_;cases base with
  |none=>exact .dead (zw _ _ _ _)
  |some a=>
   dsimp only;by_cases z:0<=j/\j<f;·rw[if_pos z];refine .bind λA=>?_;intro w H v I es1 D b hv;cases D;cases hv;rw[aCG];exact C a rfl
   ·rw[if_neg z];generalize(Bn (f<=1)&&match d with
    |aZn ..=>A0
    |_=>A5)=q;cases q;·exact .dead (zw _ _ _ _)
    ·exact .dead (BO.halt _)
 unfold Xj;refine .bind λy=>?_;obtain⟨k,j⟩:=y;refine .bind λd=>?_;cases d with
 |array n e=>
  cases x with
  |pointer p=>
   cases p with
   |none=>exact .dead (BO.bind (BO.halt _))
   |some p=>exact m k j (Z p) n e λa s=>by cases s;rfl
  |_=>exact .dead (BO.bind (BO.halt _))
 |slice e=>
  cases x with
  |slice p n c=>exact m k j p n e λa s=>by subst s;rfl
  |_=>exact .dead (BO.bind (BO.halt _))
 |_=>cases x<;>exact .dead (BO.bind (BO.halt _))
theorem a'P{o:Bf}{ow:List Nat}(h:qv ow o.op=A0)(f:(AU ρ o).runT P w es=(aY6 Bm w1,es1)):(∃t,t∈ow/\∃v,Bm=aYD v/\∀b,M9 v=Z b->M9 (ρ (oM t))=Z b)∨∃v,Bm=aYD v/\∀b,M9 v=Z b->w.heap.size<=b:=by
 unfold AU at f;have own:∀y,VP ow y=A0->∃t,y=oM t/\t∈ow:=by intro y hy;cases y with|tmp t=>exact⟨t,rfl,by simpa[VP]using hy⟩|_=>cases hy
 cases m:o.op with
 |move x=>rw[m]at h f;obtain⟨t,rfl,p⟩:=own _ h;cases f;exact AA ⟨t,p,_,rfl,λ_ h=>h⟩
 |assign x=>rw[m]at h f;obtain⟨t,rfl,p⟩:=own _ h;cases f;exact AA ⟨t,p,_,rfl,λ_ h=>h⟩
 |makeMap t r=>rw[m]at h f;cases r with|some r=>cases h|none=>cases f;exact AF ⟨_,rfl,λb A=>by cases A;exact AX _⟩
 |range t x=>
  rw[m]at f;change(Dy (dK t (ρ x)) _).runT P w es=_ at f;rw[IK]at f;split at f;·rename_i v z s e;cases f;exact AF ⟨_,rfl,aPa e⟩
  ·cases f
 |makeSlice t l c=>
  rw[m]at f;change(Dy (dJ t (ρ l) (ρ c)) _).runT P w es=_ at f;rw[IK]at f;split at f;·rename_i v z s e;cases f;exact AF ⟨_,rfl,aM6 _ _ _ _ _ _ _ _ e⟩
  ·cases f
 |indexAddr t x i=>
  rw[m]at h f;obtain⟨u,rfl,hu⟩:=own _ h;change(Dy (Xj t (ρ (oM u)) (ρ i)) _).runT P w es=_ at f;rw[IK]at f;split at f;·rename_i v z s e;cases f;exact AA ⟨u,hu,_,rfl,aJf _ _ _ _ _ _ _ _ e⟩
  ·cases f
 |_=>rw[m]at h;cases h
def Kz(P:Ac)(o:Bf):Bool:=match o.op with
 |a8E c=>match c.callee with
  |aYV aZA=>match P.underlying o.type with
   |Z (aYe e)=>hA e
   |_=>A0
  |_=>A0
 |_=>A0
theorem mm{o:Bf}(h:Kz P o=A0):eK P o:=by
 unfold eK Kz at*;split
 ·rename_i c hc;rw[hc]at h;simp only at h;split;·rename_i b;rw[b]at h;simp only at h;intro e he;rw[he]at h;exact uj h
  ·trivial
 ·trivial
def cF(P:Ac)(fb:Nat->Bool)(own:Nat->List Nat)(ow:List Nat)(k:Nat)(o:Bf):Bool:=PV P fb own ow k o.op&&(jm ow o&&((opsOf o.op).all (SQ fb ow)&&Kz P o))
def F8(P:Ac)(fb:Nat->Bool)(own:Nat->List Nat)(el:List Nat)(k:Nat):Code->Bool|.skip|.exit _|.label _|.goto _|.ret|.refuse _=>A0|.region _ ops _=>ops.toList.all (cF P fb own el k)|.seq a b=>F8 P fb own el k a&&F8 P fb own el k b|.cond c a b=>SQ fb el c&&(F8 P fb own el k a&&F8 P fb own el k b)|.block _ b|.loop b|.scope b=>F8 P fb own el k b|.rangeFunc ..=>A5
end
section
variable{P:Ac}{F:Nat->Prop}{fb:Nat->Bool}{el:HC}{own:Nat->List Nat}{ow:List Nat}{k:Nat}{E:AN}{r:List Cw}
def PS(P:Ac)(fb:Nat->Bool)(own:Nat->List Nat)(ow:List Nat)(k:Nat):Cw->Bool|aY9 c|aYn c|.inScope c=>F8 P fb own ow k c|.inBlock _=>A0|aY7 ops _=>ops.toList.all (cF P fb own ow k)|_=>A5
def E_(D:List Nat)(T:Array A1):Array A1:=T.mapIdx λi v=>if D.contains i then Y else v
theorem a1O(T:Array A1):E_ [] T=T:=by unfold E_;apply Array.ext (by simp);intro i b h2;simp
theorem a1P(D:List Nat)(T:Array A1):(E_ D T).size=T.size:=by simp[E_]
theorem Ta{D:List Nat}{t:Nat}(h:D.contains t=A5)(T:Array A1):(E_ D T)[t]?=T[t]?:=by unfold E_;rw[ck];cases T[t]? with|none=>rfl|some v=>simp only[MP,h,EU,↓reduceIte]
theorem ss(D:List Nat)(T:Array A1){d:Nat}(h:D.contains d=A5)(v:A1):E_ D (T.setIfInBounds d v)=(E_ D T).setIfInBounds d v:=by
 apply nD;intro i;by_cases e:d=i;·subst e;rw[Ta h,H5,H5,a1P];simp only[↓reduceIte]
 ·unfold E_;rw[JF e,ck,ck,JF e]
theorem Ab.bp{F:Nat->Prop}{E:AN}{T d:Array A1}(h:Ab F E T.toList d.toList)(D:List Nat):Ab F E (E_ D T).toList (E_ D d).toList:=by
 have m:=h.length;simp only[Ph]at m;refine Ab.of (by simp[a1P,m]) λi v s e b=>?_;simp only[Se]at e b;unfold E_ at e b;rw[ck]at e b;obtain⟨x,hx,rfl⟩:=Option.map_eq_some_iff.1 e;obtain⟨z,p,rfl⟩:=Option.map_eq_some_iff.1 b;by_cases f:D.contains i=A0;·simp only[f,↓reduceIte];exact .tuple .nil
 ·simp only[f,EU,↓reduceIte];obtain⟨y,hy,hv⟩:=h.get i (v:=x) (by simpa using hx);simp only[Se]at hy;rw[p]at hy;obtain rfl:=D3 hy;exact hv
def Qt(D:List Nat)(f:JG):Bool:=f.results.all λr=>match r with|.tmp t=>!D.contains t|.cell a _=>!D.contains a
theorem h9(f:JG):Qt [] f=A0:=by unfold Qt;rw[Array.all_eq_true];intro i hi;split<;>rfl
structure Ej(P:Ac)(F:Nat->Prop)(fb:Nat->Bool)(el:HC)(k:Nat)(E:AN)(r:List Cw)(fr fr':AY):Prop where
 fn:fr'.fn=fr.fn
 has:∃f,P.funcs[fr.fn]?=Z f/\Qt (Hi (el.own fr.fn)) f=A0
 todo:fr'.todo=fr.todo++r
 ok:∀i∈fr.todo,PS P fb el.own (el.own fr.fn) k i=A0
 defers:fr.defers=[]/\fr'.defers=[]
 mode:fr'.mode=fr.mode
 kind:fr.kind=a73/\fr'.kind=.normal
 round:fr.roundOf=J/\fr'.roundOf=J
 tmps:Ab F E (E_ (Hi (el.own fr.fn)) fr.tmps).toList (E_ (Hi (el.own fr.fn)) fr'.tmps).toList
 own:∀t∈el.own fr.fn,W6 el (fr.tmps.getD t Y)
def Q'(el:HC)(fr:AY)(v:A1):Prop:=∀ops j rest l d,fr.todo=aY7 ops (j::rest)::l->ops[j]?.bind (·.dst)=Z d->d∈el.own fr.fn->W6 el v
theorem W6.undef:W6 el undef:=λ_ h=>by cases h
theorem Q'.undef{fr:AY}:Q' el fr undef:=λ_ _ _ _ _ _ _ _=>W6.undef
theorem Ej.mono{m2:AN}{fr fr':AY}(h:Ej P F fb el k E r fr fr')(b:E.le m2):Ej P F fb el k m2 r fr fr':=⟨h.fn,h.has,h.todo,h.ok,h.defers,h.mode,h.kind,h.round,h.tmps.mono b,h.own⟩
theorem Ej.eval{fr fr':AY}(h:Ej P F fb el k E r fr fr')(s:∀b,b<D4->E.rel b b)(p:∀f,fb f=A0->F f)(x:C2)(hx:SQ fb (el.own fr.fn) x=A0):AJ F E (fr.eval x) (fr'.eval x):=by
 cases x with
 |tmp t=>
  unfold Frame.eval;simp only[JX];have y:=h.tmps.length;have hx:(!(Hi (el.own fr.fn)).contains t)=A0:=hx;have hx:(Hi (el.own fr.fn)).contains t=A5:=by simpa using hx
  rw[<-Ta hx fr.tmps,<-Ta hx fr'.tmps];cases e:(E_ (Hi (el.own fr.fn)) fr.tmps)[t]? with|none=>have hs:=Array.getElem?_eq_none_iff.1 e;have m:(E_ (Hi (el.own fr.fn)) fr'.tmps)[t]?=J:=Array.getElem?_eq_none_iff.2 (by simp only[Ph]at y;omega);rw[m];exact .tuple .nil|some v=>obtain⟨z,m,hv⟩:=h.tmps.get t (by simpa using e);simp only[Se]at m;rw[m];exact hv
 |const v=>exact gw 20 hx
 |global g=>exact .ptr ⟨s g (of_decide_eq_true hx),rfl,rfl⟩
 |func f=>exact .func (p f hx) .nil .nil
theorem Ej.to(h:Ej P F fb el k E r fr fr')(l:List Cw)(b:∀i∈l,PS P fb el.own (el.own fr.fn) k i=A0):Ej P F fb el k E r {fr with todo:=l} {fr' with todo:=l++r}:=⟨h.fn,h.has,rfl,b,h.defers,h.mode,h.kind,h.round,h.tmps,h.own⟩
theorem Ej.finish{fr fr':AY}(h:Ej P F fb el k E r fr fr')(D:fr.todo≠[]){v v':A1}(hv:AJ F E v v')(z:Q' el fr v):Ej P F fb el k E r (fr.finish v) (fr'.finish v'):=by
 unfold dG;rw[h.todo];have y:=h.ok;cases e:fr.todo with
 |nil=>exact absurd e D
 |cons i l=>
  rw[e]at y;have hi:=y i (by simp);simp only[ML];cases i with
  |inRegion ops todo=>
   cases todo with
   |nil=>exact h
   |cons j rest=>
    refine⟨h.fn,h.has,rfl,λx hx=>?_,h.defers,h.mode,h.kind,h.round,?_,?_⟩
    ·rcases List.mem_cons.1 hx with rfl|hx;·exact hi
     ·exact y x (by simp[hx])
    ·dsimp only;cases f:ops[j]?.bind (·.dst)with
     |none=>exact h.tmps
     |some d=>
      have C:(Hi (el.own fr.fn)).contains d=A5:=by cases p:ops[j]? with|none=>rw[p]at f;cases f|some o=>rw[p]at f;have f:o.dst=Z d:=f;have I:cF P fb el.own (el.own fr.fn) k o=A0:=List.all_eq_true.1 hi o (by obtain⟨hlt,rfl⟩:=Array.getElem?_eq_some_iff.1 p;simp);have s:=(Bool.and_eq_true_iff.1 (Bool.and_eq_true_iff.1 I).2).1;unfold jm at s;rw[f]at s;have h2:=(Bool.and_eq_true_iff.1 s).1;unfold jW at h2;simpa using h2
      rw[ss _ _ C,ss _ _ C];exact h.tmps.a5V hv d
    ·intro t A;dsimp only;cases f:ops[j]?.bind (·.dst)with
     |none=>exact h.own t A
     |some d=>
      dsimp only;by_cases m:d=t
      ·subst m;have H:=z ops j rest l d e f A;simp only[JX,H5,↓reduceIte];split;·exact H
       ·exact W6.undef
      ·have:=h.own t A;simp only[JX]at this⊢;rw[H5,if_neg m];exact this
  |code c=>exact h
  |inBlock b=>exact h
  |inLoop b=>exact h
  |inScope b=>exact h
  |_=>cases hi
theorem Ej.enter{f:Nat}{c:Code}(e:P.funcs[f]?=Z fn)(m:fn.body=Z c)(hc:F8 P fb el.own (el.own f) k c=A0){a a':Array A1}(p:Hi (el.own f)=[])(s:∀t∈el.own f,a.size<=t)(b:Ab F E a.toList a'.toList):Ej P F fb el k E [] (GR P f a a73) (GR P f a' a73):=by
 have h:=b.length;simp only[Ph]at h;unfold GR;refine⟨rfl,⟨_,e,by show Qt (Hi (el.own f)) fn=A0;rw[p];exact h9 fn⟩,rfl,λi hi=>?_,⟨rfl,rfl⟩,rfl,⟨rfl,rfl⟩,⟨rfl,rfl⟩,Ab.bp ?_ _,λt x=>?_⟩;·simp only[e,m,RR,Option.getD_some,List.mem_singleton]at hi;subst hi;exact hc
 ·simp only[vY,h];refine b.append (Ab.XD λv hv=>?_);simp only[Array.toList_replicate,List.mem_replicate]at hv;rw[hv.2];exact .tuple .nil
 ·have:=s t x;simp only[JX];rw[vV this,Array.getElem?_replicate];split<;>exact W6.undef
theorem qg{id:Nat}(r:List Cw):∀{l d:List Cw},Px id l=Z d->Px id (l++r)=Z (d++r)
 |[],_,h=>by simp[Px]at h
 |i::l,d,h=>by
  rw[ML];unfold Px at h⊢;split at h
  ·rename_i f;obtain⟨rfl,rfl⟩:=Om f;split at h;·rename_i b;cases h;simp only[b,↓reduceIte]
   ·rename_i b;simp only[b,EU,↓reduceIte];exact qg r h
  ·rename_i m f;obtain⟨rfl,rfl⟩:=Om f;split;·rename_i e;obtain⟨rfl,rfl⟩:=Om e;exact(m _ rfl).elim
   ·rename_i e;obtain⟨rfl,rfl⟩:=Om e;exact qg r h
   ·rename_i e;cases e
  ·cases h
theorem r6{n:Nat}(r:List Cw):∀{l d:List Cw},Vr n l=Z d->Vr n (l++r)=Z (d++r)
 |[],_,h=>by simp[Vr]at h
 |i::l,d,h=>by
  rw[ML];unfold Vr at h⊢;split at h
  ·rename_i m _ f;obtain⟨rfl,rfl⟩:=Om f;split at h;·rename_i rest e;cases h;simp only[e,ML]
   ·rename_i e;simp only[e];exact r6 r h
  ·rename_i p f;obtain⟨rfl,rfl⟩:=Om f;split;·rename_i b;obtain⟨rfl,rfl⟩:=Om b;exact(p _ rfl).elim
   ·rename_i b;obtain⟨rfl,rfl⟩:=Om b;exact r6 r h
   ·rename_i b;cases b
  ·cases h
theorem qi{id:Nat}:∀{l d:List Cw},Px id l=Z d->(∀i∈l,PS P fb own ow k i=A0)->∀i∈d,PS P fb own ow k i=A0
 |[],_,h,_=>by simp[Px]at h
 |i::l,d,h,f=>by
  unfold Px at h;split at h
  ·rename_i e;obtain⟨rfl,rfl⟩:=Om e;split at h;·cases h;exact λj b=>f j (by simp[b])
   ·exact qi h λj b=>f j (by simp[b])
  ·rename_i e;obtain⟨rfl,rfl⟩:=Om e;exact qi h λj b=>f j (by simp[b])
  ·cases h
theorem aK3:∀{c r:Code}{l:Nat},il c l=Z r->F8 P fb own ow k c=A0->F8 P fb own ow k r=A0:=by
 intro c;induction c with
 |seq a b f m=>intro r l h hc;unfold F8 at hc;obtain⟨p,h2⟩:=Bool.and_eq_true_iff.1 hc;unfold il at h;cases e:il a l with|some rest=>rw[e]at h;cases h;unfold F8;exact Bool.and_eq_true_iff.2 ⟨f e p,h2⟩|none=>rw[e]at h;exact m h h2
 |label s=>
  intro r l h hc;unfold il at h;split at h;·cases h;rfl
  ·cases h
 |_=>intro r l h;unfold il at h;cases h
theorem r7{n:Nat}:∀{l q:List Cw},Vr n l=Z q->(∀i∈l,PS P fb own ow k i=A0)->∀i∈q,PS P fb own ow k i=A0
 |[],_,h,_=>by simp[Vr]at h
 |i::l,q,h,d=>by
  unfold Vr at h;split at h
  ·rename_i m _ f;obtain⟨rfl,rfl⟩:=Om f;split at h
   ·rename_i rest e;cases h;have p:=d _ (N' ..);intro j b;rcases List.mem_cons.1 b with rfl|b;·exact aK3 e p
    ·exact d j b
   ·exact r7 h λj b=>d j (by simp[b])
  ·rename_i f;obtain⟨rfl,rfl⟩:=Om f;exact r7 h λj b=>d j (by simp[b])
  ·cases h
end
section
variable{P:Ac}{F:Nat->Prop}{fb:Nat->Bool}{el:HC}{k:Nat}{E:AN}{RO:Nat->Prop}{r:List Cw}
def behind(P:Ac)(fr:AY)(cs:List AY):MF->Option (AY×List AY)|aYD v=>Z (fr.finish v,cs)|aYU=>Z (fr.finish Y,cs)|aYl f a=>Z (GR P f a (match fr.todo with|.call _ A0 _ _::_=>a74|_=>a73),fr::cs)|_=>J
theorem It{d:AY}{cs j:List AY}{s:BQ MF}(e:(fr.kind==aYR)=A5)(h:s.runT P w #[]=(aY6 Bm w1,es))(b:behind P fr cs Bm=Z (d,j)):MI P A0 fr cs J s w=aYE {frame:=d,callers:=j,status:=aYF,dying:=J} w1 (IU P fr.fn es):=by unfold MI;cases Bm with|value v=>cases b;simp only[↓reduceIte,h,e,EU,Nh,U2]|skip=>cases b;simp only[↓reduceIte,h,e,EU,Nh,U2]|enter f a=>cases b;simp only[↓reduceIte,h,e,EU,Nh,U2];rfl|_=>cases b
def NX(cs:List AY)(r:List Cw):List Cw:=match cs with|_::_::_=>[]|_=>r
def bot:AY:={(default:AY)with defers:=[{target:=.nil,args:=#[]}],mode:=aZH []}
inductive L1(P:Ac)(F:Nat->Prop)(fb:Nat->Bool)(el:HC)(k:Nat)(E:AN)(r:List Cw)(base':List AY):List AY->List AY->Prop|base:L1 P F fb el k E r base' [bot] base'|cons{fr fr':AY}{l g6:List AY}:Ej P F fb el k E (NX l r) fr fr'->fr.mode=aYY->(fr.todo≠[]/\∀v,Q' el fr v)->L1 P F fb el k E r base' l g6->L1 P F fb el k E r base' (fr::l) (fr'::g6)
theorem L1.mono{m2:AN}{base':List AY}(b:E.le m2):∀{l d:List AY},L1 P F fb el k E r base' l d->L1 P F fb el k m2 r base' l d|_,_,.base=>.base|_,_,.cons h m n t=>.cons (h.mono b) m n (t.mono b)
def Laid(P:Ac)(F:Nat->Prop)(fb:Nat->Bool)(el:HC)(k:Nat):Prop:=∀f b c,F f∨YN (el.own f)->P.funcs[f]?=Z b->b.body=Z c->F8 P fb el.own (el.own f) k c=A0/\Hi (el.own f)=[]
theorem yt(W:Q4 P){so:Dr}{Pr:Nat->Prop}(X:∀b,Pr b->RO b)(ND:so.Lm->∀b,¬Pr b){cs cs' base':List AY}{s d:BQ MF}(hs:AG P F so (L6 P F el.own) E s d)(d0:C3 F so RO E w w')(h:Ej P F fb el k E (NX cs r) fr fr')(N:fr.mode=aYY)(z:fr.todo≠[])(hc:L1 P F fb el k E r base' cs cs')(B:Laid P F fb el k)(A:s.runT P w #[]=(aY6 Bm w1,es))(SB:∀v,Bm=aYD v->Q' el fr v)(kQ:∀f a,Bm=aYl f a->∀v,Q' el fr v):∃m D L C R p es',MI P A0 fr cs J s w=aYE {frame:=D,callers:=C,status:=aYF,dying:=J} w1 (IU P fr.fn es)/\MI P A0 fr' cs' J d w'=aYE {frame:=L,callers:=R,status:=aYF,dying:=J} p (IU P fr.fn es')/\Ej P F fb el k m (NX C r) D L/\D.mode=aYY/\L1 P F fb el k m r base' C R/\C3 F so RO m w1 p/\GF Pr E w w' m w1 p/\J_ RO m es.toList es'.toList/\∃T,d.runT P w' #[]=(aY6 T p,es'):=by
 obtain⟨m,T,p,es',x,r2,j,y,n⟩:=AG.runs W X ND hs d0 (es:=#[]) (es':=#[]) .nil A;have K:(fr.kind==aYR)=A5:=by rw[h.kind.1];rfl
 have M:(fr'.kind==aYR)=A5:=by rw[h.kind.2];rfl
 have Q:(match fr.todo with|.call _ A0 _ _::_=>a74|_=>a73)=a73:=by
  have B8:=h.ok;split;·rename_i e;exact absurd (B8 _ (by rw[e];exact N' ..)) (by simp[PS])
  ·rfl
 have U:(match fr'.todo with|.call _ A0 _ _::_=>a74|_=>a73)=a73:=by rw[h.todo];cases e:fr.todo with|nil=>exact absurd e z|cons i l=>rw[e]at Q;rw[ML];cases i<;>first|rfl|(rename_i b _ _;cases b<;>first|rfl|exact Q)
 have H:=h.mono y.le;have I:=hc.mono (P:=P) (fb:=fb) (k:=k) y.le;have Dk:∀v,(fr.finish v).mode=fr.mode:=by intro v;unfold dG;split<;>rfl
 cases r2 with
 |value hv=>exact⟨m,_,_,_,_,p,es',It K A rfl,by rw[<-h.fn];exact It M x rfl,H.finish z hv (SB _ rfl),by rw[Dk];exact N,I,j,y,n,_,x⟩
 |skip=>exact⟨m,_,_,_,_,p,es',It K A rfl,by rw[<-h.fn];exact It M x rfl,H.finish z (.tuple .nil) Q'.undef,by rw[Dk];exact N,I,j,y,n,_,x⟩
 |enter AE hb B3 A6=>
  obtain⟨fn,c,e1,e2⟩:=hb;refine⟨m,_,_,_,_,p,es',It K A rfl,by rw[<-h.fn];exact It M x rfl,?_,rfl,.cons H N ⟨z,kQ _ _ rfl⟩ I,j,y,n,_,x⟩;have q:NX (fr::cs) r=[]:=by cases hc<;>rfl
  rw[Q,U,q];exact Ej.enter e1 e2 (B _ _ _ AE e1 e2).1 (B _ _ _ AE e1 e2).2 B3 A6
end
section
variable{P:Ac}{F:Nat->Prop}{so:Dr}{RO:Nat->Prop}{E:AN}
def Hz(P:Ac){d8:Type}(s:BQ d8):Prop:=∀w e a b es1,s.runT P w e=(aY6 a b,es1)->b=w
theorem Hz.bind{d8 Bw:Type}{s:BQ d8}{f:d8->BQ Bw}(h:Hz P s)(k:∀a,Hz P (f a)):Hz P (s.bind f):=by
 intro w p a y es1 b;rw[IK]at b;split at b;·rename_i m w0 x e;have:=h _ _ _ _ _ e;subst this;exact k _ _ _ _ _ _ b
 ·cases b
theorem Hz.pure(a:d8):Hz P (Mu a):=by intro w e b f es1 A2;simp only[DV,Ot,i_]at A2;exact A2.1.2.symm
theorem Hz.dead{s:BQ d8}(h:BO P s):Hz P s:=λw e a f es1 b=>absurd b (h.ne _ _ _ _ _)
theorem Hz.load(a:Aa)(m:iK):Hz P (load a m):=by
 intro w b v e es1 A2;unfold xb at A2;simp only[DV]at A2;split at A2;·simp only[Ot,i_]at A2;exact A2.1.2.symm
 ·split at A2;·simp only[Ot,i_]at A2;exact A2.1.2.symm
  ·cases A2
theorem b8(m:String):BO P (Vt m:BQ d8):=BO.halt _
theorem Hz.loadBytes:∀(n:Nat)(a:Aa)(b:ByteArray),Hz P (Xz a b n)
 |0,a,b=>Hz.pure _
 |n+1,a,b=>by
  unfold Xz;refine(Hz.load a a89).bind λv=>?_;split;·exact Hz.loadBytes n _ _
  ·exact .dead (b8 _)
theorem aKp{n:Nat}{d s:ByteArray}(h:(Xz a d (n+1)).runT P w es=(aY6 s w1,es1)):(w.cell? a=J->∃e,w.farLoad P a (a89==aYZ)=aZ' e)->∃x,w.cell? a=Z (IS .u8 x):=by
 intro f;unfold Xz at h;change(Dy (xb a a89) _).runT P w es=_ at h;rw[IK]at h;unfold xb at h;simp only[DV]at h;cases hc:w.cell? a with
 |none=>obtain⟨e,he⟩:=f hc;rw[hc,he]at h;simp at h
 |some v=>
  rw[hc]at h;simp only at h;split at h;·rename_i b;exact⟨b,rfl⟩
  ·exact absurd h ((b8 _).ne _ _ _ _ _)
theorem aRh(h:A_):Hz P (Vq h):=by
 unfold Vq;intro w f v m es1 b;change(a9v _).runT P w f=_ at b;simp only[DV]at b;change(Dy (Mu _) _).runT P w f=_ at b;simp only[Dy]at b;split at b;·rename_i d _;cases d with|pointer e=>exact Hz.pure _ _ _ _ _ _ b|_=>exact absurd b ((b8 _).ne _ _ _ _ _)
 ·exact absurd b ((BO.bind (b8 _)).ne _ _ _ _ _)
theorem aRi(a:Aa)(e:A_)(n:Nat):Hz P (dj a e n):=by
 unfold dj;intro w f v h es1 b;change(a9v _).runT P w f=_ at b;simp only[DV]at b;change(aZl _ _).runT P w f=_ at b;simp only[DV]at b;change(Dy (Mu _) _).runT P w f=_ at b;simp only[Dy]at b;split at b;·exact Hz.pure _ _ _ _ _ _ b
 ·exact Hz.pure _ _ _ _ _ _ b
theorem a6C{ts:Array A_}(h:(aK ts t #[x,y]).runT P w es=(aY6 v w1,es1)):w1=w/\((∃q,y=IS q 0)∨x=aY4 J)∨∃a n q m,x=aY4 (Z a)/\y=IS q m/\m≠0/\w1=w.freeze a n/\((w.cell? a=J->∃e,w.farLoad P a (a89==aYZ)=aZ' e)->∃z,w.cell? a=Z (IS .u8 z)):=by
 unfold aK at h;cases x with
 |pointer p=>
  cases y with
  |int q n=>
   change(match ts[0]? with|Z C=>_|_=>_:BQ A1).runT P w es=_ at h;cases M:ts[0]? with
   |none=>rw[M]at h;exact absurd h ((b8 _).ne _ _ _ _ _)
   |some C=>
    rw[M]at h;dsimp only at h;by_cases I:n<0;·rw[if_pos I]at h;exact absurd h ((GW _).bind.ne _ _ _ _ _)
    ·rw[if_neg I]at h;by_cases h2:n>Po.max;·rw[if_pos h2]at h;exact absurd h ((BO.halt _).bind.ne _ _ _ _ _)
     ·rw[if_neg h2]at h;cases p with
      |none=>
       dsimp only at h;by_cases f:n=0;·rw[if_pos f]at h;exact AA ⟨Hz.pure _ _ _ _ _ _ h,AF rfl⟩
       ·rw[if_neg f]at h;exact absurd h ((GW _).ne _ _ _ _ _)
      |some a=>
       dsimp only at h;by_cases f:n=0;·rw[if_pos f]at h;exact AA ⟨Hz.pure _ _ _ _ _ _ h,AA ⟨q,by rw[f]⟩⟩
       ·rw[if_neg f]at h;change(Dy (Vq C) _).runT P w es=_ at h;rw[IK]at h;split at h
        ·rename_i e D U e2;have d:D=w:=(aRh C) _ _ _ _ _ e2;subst d;change(Dy (dj a e n.toNat) _).runT P D U=_ at h;rw[IK]at h;split at h
         ·rename_i b N j Q;have B:N=D:=(aRi a e n.toNat) _ _ _ _ _ Q;subst B;cases b with
          |false=>exact absurd h ((BO.halt _).ne _ _ _ _ _)
          |true=>
           change(Dy (Xz a .empty n.toNat) _).runT P N j=_ at h;rw[IK]at h;split at h;·rename_i s w4 A H;have L:=Hz.loadBytes _ _ _ _ _ _ _ _ H;subst L;have hn:∃m,n.toNat=m+1:=⟨n.toNat-1,by omega⟩;obtain⟨m,hm⟩:=hn;have K:=H;rw[hm]at K;refine AF ⟨a,n.toNat,q,n,rfl,rfl,f,?_,aKp K⟩;change(aZj a n.toNat _).runT P w4 A=_ at h;simp only[DV]at h;exact Hz.pure _ _ _ _ _ _ h
           ·cases h
         ·cases h
        ·cases h
  |pointer a=>cases a<;>(change(a9u _).runT P w es=_ at h;exact absurd h ((BO.halt _).ne _ _ _ _ _))
  |_=>change(a9u _).runT P w es=_ at h;exact absurd h ((BO.halt _).ne _ _ _ _ _)
 |_=>exact absurd h ((b8 _).ne _ _ _ _ _)
theorem aSt{o:Bf}(C:LX o.op=A0)(d:∀c,o.op=a8E c->c.args.size=2)(I:∀c x,o.op=a8E c->c.args[0]?=Z x->∀b,M9 (ρ x)=Z b->¬RO b)(D:∀x∈opsOf o.op,AJ F E (ρ x) (ρ' x)){j:MF}{es':Array By}(B:C3 F so RO E w w')(h:(AU ρ o).runT P w #[]=(aY6 Bm w1,es))(s:(AU ρ' o).runT P w' #[]=(aY6 j BZ,es')):∀A,(∀b,E.rel b A->RO b)->BZ.heap[A]?=w'.heap[A]?:=by
 intro A L;unfold AU at h s;cases e:o.op with
 |call c=>
  rw[e]at h s D;have hs:=d c e;have I:=I c;obtain⟨f,args,ts⟩:=c;unfold LX at C;rw[e]at C;cases f with
  |builtin b=>
   cases b with
   |unsafeString=>
    obtain⟨x,y,rfl⟩:=two hs;simp only[opsOf,Dn,nU]at D;simp only[Y',Le,GU,K8]at h s;change(Dy (aK ts o.type #[ρ x,ρ y]) _).runT P w #[]=_ at h;change(Dy (aK ts o.type #[ρ' x,ρ' y]) _).runT P w' #[]=_ at s;rw[IK]at h s;split at h
    ·rename_i v w2 P' e2;split at s
     ·rename_i v' R T W;have g1:w1=w2:=Hz.pure _ _ _ _ _ _ h;have H:BZ=R:=Hz.pure _ _ _ _ _ _ s;subst g1 H;have hx:=D x (by simp);have hy:=D y (by simp);rcases a6C W with⟨q,_⟩|⟨K,c9,EA,Bv,X,Dg,FG,U,_⟩;·rw[q]
      ·rw[X]at hx;rw[Dg]at hy;rcases a6C e2 with⟨_,⟨J9,z⟩|z⟩|⟨a,n,J9,m,Q,LS,a4F,aW8,aW9⟩;·rw[z]at hy;cases hy;exact absurd rfl FG
       ·rw[z]at hx;cases hx
       ·rw[Q]at hx;cases hx with
        |ptr A6=>
         obtain⟨o1,cD,MU,M,sW⟩:=B.heap _ _ A6.1;rcases sW.kind with⟨c,c',t,p,q,rfl,rfl,_,_⟩|⟨_,y'⟩
         ·have A2:¬RO a.block:=I x e rfl _ (by rw[Q];rfl);rw[U];unfold ib;split;·rfl
          ·exact Mf _ _ _ λz=>A2 (L _ (z▸A6.1))
         ·rw[U];unfold ib;split;·rfl
          ·show(w'.heap.modify K.block _)[A]?=_;by_cases N:A=K.block;·rw[N,VK _ _ _ M,M];cases cD<;>first|rfl|exact absurd rfl (y' _ _ _)
           ·exact Mf _ _ _ N
     ·cases s
    ·cases h
   |_=>cases C
  |_=>cases C
 |_=>rw[e]at C;cases C
end
section
variable{P:Ac}{F:Nat->Prop}{fb:Nat->Bool}{el:HC}{k:Nat}{E:AN}{RO:Nat->Prop}{so:Dr}{r:List Cw}
theorem aTf{ops:Array Bf}{a a':Array A1}{D:List Nat}(h:Ab F E (E_ D a).toList (E_ D a').toList)(m:∀(j d:Nat),ops[j]?.bind (λ(o:Bf)=>o.dst)=Z d->D.contains d=A5):Gu ops a'=Gu ops a:=by funext j;unfold Gu;cases f:ops[j]?.bind (·.dst)with|none=>rfl|some d=>simp only[RR];have p:=h.length;rw[<-Ta (m j d f) a,<-Ta (m j d f) a'];cases e:(E_ D a)[d]? with|none=>have hs:=Array.getElem?_eq_none_iff.1 e;have b:(E_ D a')[d]?=J:=Array.getElem?_eq_none_iff.2 (by simp only[Ph]at p;omega);rw[b]|some v=>obtain⟨s,b,hv⟩:=h.get d (by simpa using e);simp only[Se]at b;rw[b];cases hv<;>rfl
theorem aDc(b:C3 F so RO E w w')(q:aZi):∃t e f,(Sy q).run P w=aY6 t e/\(Sy q).run P w'=aY6 t f/\C3 F so RO E e f/\GF RO E w w' E e f:=by
 unfold Sy;simp only[aW];split;·exact⟨_,_,_,rfl,rfl,b,GF.refl _ _ _ _⟩
 ·have h:=b.tape 0 q;simp only[a_N]at h;rw[h];exact⟨_,_,_,rfl,rfl,b.draw,⟨AN.le_refl _,λ_ _ x=>AA x,AX _,AX _,rfl,rfl,rfl,rfl,⟨1,rfl,rfl⟩,λ_ _ _=>rfl,id⟩⟩
structure JY(P:Ac)(F:Nat->Prop)(fb:Nat->Bool)(el:HC)(k:Nat)(so:Dr)(RO:Nat->Prop)(E:AN)(r:List Cw)(base':List AY)(fn:Nat)(w w':A')(s D9:o7):Prop where
 both:∃v2 Bg Uo Lk Ug w1 BZ es es',s=aYE {frame:=Bg,callers:=Lk,status:=aYF,dying:=J} w1 (IU P fn es)/\D9=aYE {frame:=Uo,callers:=Ug,status:=aYF,dying:=J} BZ (IU P fn es')/\Ej P F fb el k v2 (NX Lk r) Bg Uo/\(Bg.mode=aYY∨Bg.mode=.returning)/\L1 P F fb el k v2 r base' Lk Ug/\C3 F so RO v2 w1 BZ/\GF RO E w w' v2 w1 BZ/\J_ RO v2 es.toList es'.toList
theorem JY.to{base':List AY}{fr fr':AY}{cs cs':List AY}{w w':A'}(h:Ej P F fb el k E (NX cs r) fr fr')(e:fr.mode=aYY)(hc:L1 P F fb el k E r base' cs cs')(f:C3 F so RO E w w')(l:List Cw)(b:∀i∈l,PS P fb el.own (el.own fr.fn) k i=A0):JY P F fb el k so RO E r base' fr.fn w w' (aYE {frame:={fr with todo:=l},callers:=cs,status:=aYF,dying:=J} w) (aYE {frame:={fr' with todo:=l++NX cs r},callers:=cs',status:=aYF,dying:=J} w'):=⟨E,_,_,cs,cs',w,w',#[],#[],rfl,rfl,h.to l b,AA e,hc,f,GF.refl _ _ _ _,.nil⟩
theorem Ej.a5Y{q:List Cw}(h:Ej P F fb el k E q fr fr'){o:Op}(p:PV P fb el.own (el.own fr.fn) k o=A0):∀x,setOf o=Z x->∀b,M9 (fr.eval x)=Z b->el.J5 b:=by
 intro x hx b m;rcases aR' p hx with f|⟨t,rfl,s⟩;·refine el.all (λe=>?_) b;unfold P0 at f;rw[e]at f;cases f
 ·exact h.own t s b m
theorem a'A(Cr:Fit P F)(D5:P.globals.size=D4)(hC:∀z,Calm P F (B4 el z))(LL:so=B4 el A0/\∀b,¬RO b↔el.J5 b)(a2:∀f,fb f=A0->F f)(BI:Laid P F fb el k)(AB:∀b,b<D4->E.rel b b)(m Bv:Bool){base':List AY}{cs cs':List AY}(h:Ej P F fb el k E (NX cs r) fr fr')(K:fr.mode=aYY)(QF:fr.todo=[]->NX cs r=[])(hc:L1 P F fb el k E r base' cs cs')(A:C3 F so RO E w w')(I:∃g1 w1 es,C6 P m A0 fr cs J w=aYE g1 w1 es)(f1:∀ops j rest l o,fr.todo=aY7 ops (j::rest)::l->ops[j]?=Z o->EY o (Gu ops fr.tmps)=A0->∃Bm w1 es,(AU fr.eval o).runT P w #[]=(aY6 Bm w1,es)):JY P F fb el k so RO E r base' fr.fn w w' (C6 P m A0 fr cs J w) (C6 P Bv A0 fr' cs' J w'):=by
 obtain⟨g1,w1,es1,I⟩:=I;have B8:=h.ok;have D:=h.todo;have W:=h.round.1;have FW:=h.round.2;have Z0:JY P F fb el k so RO E r base' fr.fn w w' (aYE {frame:={fr with mode:=aYX},callers:=cs,status:=aYF,dying:=J} w) (aYE {frame:={fr' with mode:=aYX},callers:=cs',status:=aYF,dying:=J} w'):=⟨E,_,_,cs,cs',w,w',#[],#[],rfl,rfl,⟨h.fn,h.has,h.todo,h.ok,h.defers,rfl,h.kind,h.round,h.tmps,h.own⟩,AF rfl,hc,A,GF.refl _ _ _ _,.nil⟩;cases s:fr.todo with
 |nil=>rw[s,QF s,List.append_nil]at D;unfold C6;simp only[s,D,W,FW,↓reduceIte]at Z0⊢;exact Z0
 |cons i l=>
  rw[s]at D B8;rw[ML]at D;have hi:=B8 i (by simp);have Q:∀j∈l,PS P fb el.own (el.own fr.fn) k j=A0:=λj C=>B8 j (by simp[C]);cases i with
  |inBlock b=>unfold C6;simp only[s,D];exact JY.to h K hc A l Q
  |inScope b=>unfold C6;simp only[s,D];exact JY.to h K hc A l Q
  |inLoop b=>
   unfold C6;simp only[s,D];exact JY.to h K hc A _ λj C=>by
    rcases List.mem_cons.1 C with rfl|C;·exact hi
    ·rcases List.mem_cons.1 C with rfl|C;·exact hi
     ·exact Q j C
  |code c=>
   have two:∀(a b:Cw),PS P fb el.own (el.own fr.fn) k a=A0->PS P fb el.own (el.own fr.fn) k b=A0->∀j∈a::b::l,PS P fb el.own (el.own fr.fn) k j=A0:=by
    intro a b A6 hb j C;rcases List.mem_cons.1 C with rfl|C;·exact A6
    ·rcases List.mem_cons.1 C with rfl|C;·exact hb
     ·exact Q j C
   cases c with
   |skip=>unfold C6;simp only[s,D];exact JY.to h K hc A l Q
   |label n=>unfold C6;simp only[s,D];exact JY.to h K hc A l Q
   |ret=>unfold C6;simp only[s,D,W,FW,↓reduceIte]at Z0⊢;exact Z0
   |seq a b=>obtain⟨h1,h2⟩:=Bool.and_eq_true_iff.1 hi;unfold C6;simp only[s,D];exact JY.to h K hc A _ (two _ _ h1 h2)
   |cond c a b=>
    obtain⟨AV,Yl⟩:=Bool.and_eq_true_iff.1 hi;obtain⟨h1,h2⟩:=Bool.and_eq_true_iff.1 Yl;have hv:=h.eval AB a2 c AV;unfold C6 at I⊢;simp only[s,D]at I⊢;generalize fr.eval c=x at hv I;generalize fr'.eval c=x' at hv;cases hv with
    |bool v=>
     refine JY.to h K hc A _ λj C=>?_;rcases List.mem_cons.1 C with rfl|C
     ·cases v;·exact h2
      ·exact h1
     ·exact Q j C
    |_=>cases I
   |block n b=>unfold C6;simp only[s,D];exact JY.to h K hc A _ (two _ _ hi rfl)
   |loop b=>unfold C6;simp only[s,D];exact JY.to h K hc A _ (two _ _ hi hi)
   |scope b=>unfold C6;simp only[s,D];exact JY.to h K hc A _ (two _ _ hi hi)
   |exit n=>
    unfold C6 at I⊢;simp only[s,W]at I;simp only[s,D];cases e:Px n l with
    |none=>rw[e]at I;simp only[pr,EU,↓reduceIte]at I;cases I
    |some g6=>rw[qg _ e];exact JY.to h K hc A g6 (qi e Q)
   |goto n=>
    unfold C6 at I⊢;simp only[s,W]at I;simp only[s,D];cases e:Vr n l with
    |none=>rw[e]at I;simp only[pr,EU,↓reduceIte]at I;cases I
    |some g6=>rw[r6 _ e];exact JY.to h K hc A g6 (r7 e Q)
   |rangeFunc f a b c=>cases hi
   |refuse y=>unfold C6 at I;simp only[s]at I;cases I
   |region n ops draw=>
    have Jv:∀(t:List Nat),∀j∈aY7 ops t::l,PS P fb el.own (el.own fr.fn) k j=A0:=by
     intro t j C;rcases List.mem_cons.1 C with rfl|C;·exact hi
     ·exact Q j C
    unfold C6;simp only[s,D];cases draw with
    |false=>exact JY.to h K hc A _ (Jv _)
    |true=>
     obtain⟨t,w2,K2,e,e',JU,Df⟩:=aDc (P:=P) A (aYq fr.fn n);have aEP:(Sy (aYq fr'.fn n)).run P w'=aY6 t K2:=by rw[h.fn];exact e'
     simp only[e,aEP,Sg,EU,↓reduceIte];exact⟨E,_,_,cs,cs',w2,K2,#[],#[],rfl,rfl,h.to _ (Jv _),AA K,hc,JU,Df,.nil⟩
  |inRegion ops todo=>
   cases todo with
   |nil=>unfold C6;simp only[s,D];exact JY.to h K hc A l Q
   |cons j rest=>
    have Dk:∀v,(fr.finish v).mode=fr.mode:=by intro v;unfold dG;split<;>rfl
    have EG:∀(j d:Nat),ops[j]?.bind (λ(o:Bf)=>o.dst)=Z d->(Hi (el.own fr.fn)).contains d=A5:=by
     intro j d q;cases X:ops[j]? with
     |none=>rw[X]at q;cases q
     |some o=>rw[X]at q;have q:o.dst=Z d:=q;have sV:cF P fb el.own (el.own fr.fn) k o=A0:=List.all_eq_true.1 hi o (by obtain⟨hlt,rfl⟩:=Array.getElem?_eq_some_iff.1 X;simp);have h1:=(Bool.and_eq_true_iff.1 (Bool.and_eq_true_iff.1 sV).2).1;unfold jm at h1;rw[q]at h1;have h2:=(Bool.and_eq_true_iff.1 h1).1;unfold jW at h2;simpa using h2
    have aF8:=aTf (ops:=ops) h.tmps EG;have X:fr.oper?=ops[j]?:=by unfold wN;rw[s]
    have jz:fr'.oper?=ops[j]?:=by unfold wN;rw[D]
    unfold C6;simp only[s,D,aF8];by_cases B:(ops[j]?.map (EY · (Gu ops fr.tmps))).getD A5=A0
    ·simp only[B,↓reduceIte];cases e:ops[j]? with
     |none=>rw[e]at B;cases B
     |some o=>
      obtain⟨Bm,w2,P',A2⟩:=f1 ops j rest l o s e (by rw[e]at B;exact B);have A7:cF P fb el.own (el.own fr.fn) k o=A0:=List.all_eq_true.1 hi o (by have:=Array.getElem?_eq_some_iff.1 e;obtain⟨hlt,rfl⟩:=this;simp);obtain⟨L,sT⟩:=Bool.and_eq_true_iff.1 A7;obtain⟨R,fp⟩:=Bool.and_eq_true_iff.1 sT;have BJ:∀x∈opsOf o.op,AJ F E (fr.eval x) (fr'.eval x):=λx hx=>h.eval AB a2 x (List.all_eq_true.1 (Bool.and_eq_true_iff.1 fp).1 x hx);have hs:AG P F (B4 el (LX o.op)) (L6 P F el.own) E (AU fr.eval o) (AU fr'.eval o):=mS Cr D5 (hC _) AB (λv=>rfl) (λf=>rfl) (λf=>rfl) o k (mG a2 L) (mm (Bool.and_eq_true_iff.1 fp).2) BJ (h.a5Y L);have e1:iv P A0 fr cs J w=MI P A0 fr cs J (AU fr.eval o) w:=by unfold iv;rw[X,e];simp only[W]
      have e2:iv P A0 fr' cs' J w'=MI P A0 fr' cs' J (AU fr'.eval o) w':=by unfold iv;rw[jz,e];simp only[FW]
      have md:fr.todo≠[]:=by rw[s];exact aBM _ _
      have JP:∀v,(qv (el.own fr.fn) o.op=A0->W6 el v)->Q' el fr v:=by intro v hv a3o NM a5A Cd d e2 DF AT;rw[s]at e2;cases e2;rw[e]at DF;have DF:o.dst=Z d:=DF;unfold jm at R;rw[DF]at R;have R:=(Bool.and_eq_true_iff.1 R).2;simp only[List.contains_eq_mem,AT,decide_true,Sg,Bool.false_or]at R;exact hv R
      have SB:∀v,Bm=aYD v->Q' el fr v:=by
       rintro v rfl;refine JP v λAE=>?_;rcases a'P AE A2 with⟨t,AH,Fc,T,hb⟩|⟨Fc,T,hb⟩;·cases T;exact λb kc=>h.own t AH b (hb b kc)
       ·cases T;intro b kc;refine(LL.2 b).1 λFE=>?_;have:=(A.kept b FE).1;have:=hb b kc;omega
      have kQ:∀f a,Bm=aYl f a->∀v,Q' el fr v:=by rintro f a rfl v;refine JP v λAE=>?_;rcases a'P AE A2 with⟨t,AH,Fc,T,hb⟩|⟨Fc,T,hb⟩<;>cases T
      have FF:C3 F (B4 el (LX o.op)) RO E w w':=by rw[LL.1]at A;exact⟨A.heap,A.tape,A.kept,A.low,A.even⟩
      cases hu:LX o.op with
      |false=>rw[hu]at hs FF;obtain⟨v2,Bg,Uo,Lk,Ug,BZ,es',DQ,Dg,FG,Gn,J9,U,M,ZT,_⟩:=yt Cr.JD (Pr:=RO) (λ_ x=>x) (λx=>by cases x) hs FF h K md hc BI A2 SB kQ;exact⟨v2,Bg,Uo,Lk,Ug,w2,BZ,P',es',e1.trans DQ,e2.trans Dg,FG,AA Gn,J9,by rw[LL.1];exact⟨U.heap,U.tape,U.kept,U.low,U.even⟩,M,ZT⟩
      |true=>
       rw[hu]at hs FF;obtain⟨v2,Bg,Uo,Lk,Ug,BZ,es',DQ,Dg,FG,Gn,J9,U,M,ZT,XB,aOV⟩:=yt Cr.JD (Pr:=λ_=>False) (λ_ x=>x.elim) (λ_ _ x=>x) hs FF h K md hc BI A2 SB kQ;have Yz:=aSt (RO:=RO) hu (λc hc=>by
        rw[hc]at L hu;obtain⟨H,N,ts⟩:=c;cases H with
        |builtin b=>
         cases b with
         |unsafeString=>exact of_decide_eq_true (p:=N.size=2) (Bool.and_eq_true_iff.1 L).1
         |_=>cases hu
        |_=>cases hu) (λc x hc hx b hb=>by
        rw[hc]at L hu;obtain⟨H,N,ts⟩:=c;cases H with
        |builtin aCw=>
         cases aCw with
         |unsafeString=>
          have h2:=(Bool.and_eq_true_iff.1 L).2;have hx:N[0]?=Z x:=hx;rw[hx]at h2;refine(LL.2 b).2 ?_;rcases Bool.or_eq_true_iff.1 h2 with h3|h3;·exact el.all (by simpa[P0]using h3) b
          ·cases x with
           |tmp t=>exact h.own t (by simpa[VP]using h3) b hb
           |_=>cases h3
         |_=>cases hu
        |_=>cases hu) BJ FF A2 aOV;refine⟨v2,Bg,Uo,Lk,Ug,w2,BZ,P',es',e1.trans DQ,e2.trans Dg,FG,AA Gn,J9,by rw[LL.1];exact⟨U.heap,U.tape,U.kept,U.low,U.even⟩,?_,ZT⟩;exact⟨M.le,M.fresh,M.size,M.hB,M.os,M.output,M.tape,M.cW,M.drawn,λb' _ hn=>Yz b' hn,M.X5⟩
    ·simp only[B,EU,↓reduceIte];exact⟨E,_,_,cs,cs',w,w',#[],#[],rfl,rfl,h.finish (by rw[s];exact aBM _ _) (.tuple .nil) Q'.undef,AA (by rw[Dk];exact K),hc,A,GF.refl _ _ _ _,.nil⟩
  |_=>cases hi
end
section
variable{P:Ac}{F:Nat->Prop}{fb:Nat->Bool}{el:HC}{k:Nat}{E:AN}{RO:Nat->Prop}{so:Dr}{r:List Cw}
theorem a4Z{d8:Type}{g g':d8->BQ A1}:∀(l:List d8){E:AN}(_:∀e,E.le e->∀x,AG P F so (Ci F) e (g x) (g' x)){b b':Array A1},Ab F E b.toList b'.toList->AG P F so (Q0 F) E (l.foldlM (λb x=>b.push<$>g x) b) (l.foldlM (λb x=>b.push<$>g' x) b')|[],_,_,_,_,h=>.AM h|x::l,E,AB,b,b',h=>by simp only[pY];refine AG.andThen (Q:=Q0 F) (AG.andThen (Q:=Ci F) (AB E (AN.le_refl _) x) λf p v y hv=>.AM (by show Ab F f (b.push v).toList (b'.push y).toList;simpa using(h.mono p).snoc hv)) ?_;intro z s c A hc;exact a4Z l (λe m x=>AB e (AN.le_trans s m) x) hc
theorem a'Z{a a':Array A1}(h:Ab F E a.toList a'.toList)(t:Nat):AJ F E (a.getD t Y) (a'.getD t Y):=by simp only[JX];have f:=h.length;cases e:a[t]? with|none=>have hs:a.size<=t:=Array.getElem?_eq_none_iff.1 e;have b:a'[t]?=J:=Array.getElem?_eq_none_iff.2 (by simp only[Ph]at f;omega);rw[b];exact .tuple .nil|some v=>obtain⟨m,b,hv⟩:=h.get t (by simpa using e);simp only[Se]at b;rw[b];exact hv
theorem aPO(fn:JG){a a':Array A1}(h:Ab F E a.toList a'.toList):AG P F so (Ci F) E (De fn a) (De fn a'):=by
 unfold De;refine AG.andThen (Q:=Q0 F) ?_ ?_;·rw[hX,hX,<-hU,<-hU];refine a4Z _ (λD y x=>?_) .nil;cases x with|tmp t=>exact .AM ((a'Z h t).mono y)|cell b t=>refine(gy ((a'Z h b).mono y)).andThen ?_;intro I M x N hx;exact h0 hx t
 ·intro H K z s hv;have p:=hv.length;simp only[Ph]at p;by_cases e:z.size=1
  ·have m:s.size=1:=p.trans e;simp only[e,m,↓reduceDIte];obtain⟨C,f,A⟩:=hv.get 0 (v:=z[0]) (by simp);have:C=s[0]:=by simp only[Se]at f;rw[ET (by omega)]at f;exact(D3 f).symm
   subst this;exact .AM A
  ·have m:¬s.size=1:=λx=>e (p.symm.trans x);simp only[e,m,↓reduceDIte];exact .AM (.tuple hv)
theorem a5B{d8:Type}{f g:d8->BQ A1}:∀(l:List d8)(e:Array A1),(∀x∈l,f x=g x)->l.foldlM (λe a=>do Fi (e.push (<-f a))) e=l.foldlM (λe a=>do Fi (e.push (<-g a))) e|[],_,_=>rfl|x::l,e,h=>by simp only[pY];rw[h x (by simp)];congr 1;funext b;exact a5B l b λy hy=>h y (by simp[hy])
theorem a5C{D:List Nat}(h:Qt D fn=A0)(T:Array A1):De fn (E_ D T)=De fn T:=by
 unfold De;congr 1;rw[hX,hX,<-hU,<-hU];refine a5B _ _ λx hx=>?_;unfold Qt at h;rw[Array.all_eq_true']at h;have h:=h x (by simpa using hx);cases x with
 |tmp t=>
  have h:D.contains t=A5:=by simpa using h
  simp only[JX,Ta h]
 |cell a t=>
  have h:D.contains a=A5:=by simpa using h
  simp only[JX,Ta h]
theorem Ej.results{q:List Cw}(h:Ej P F fb el k E q fr fr')(f:P.funcs[fr.fn]?=Z fn):AG P F so (Ci F) E (De fn fr.tmps) (De fn fr'.tmps):=by obtain⟨e,b,h2⟩:=h.has;rw[f]at b;obtain rfl:=D3 b;rw[<-a5C h2 fr.tmps,<-a5C h2 fr'.tmps];exact aPO fn h.tmps
theorem R0{m:Bool}{c:AY}{cs:List AY}(b:fr.defers=[])(h:fr.mode=aYX)(f:fr.kind=a73)(e:P.funcs[fr.fn]?=Z fn)(p:(De fn fr.tmps).runT P w #[]=(aY6 v w1,es)):HL P m fr (c::cs) J w=aYE {frame:=c.finish v,callers:=cs,status:=aYF,dying:=J} w1 (IU P fr.fn es):=by unfold HL;simp only[b,h,e,p,doReturn,f,Nh,U2]
theorem a5D(A:Q4 P)(m K:Bool){base':List AY}{q:List Cw}{c c':AY}{cs cs':List AY}(h:Ej P F fb el k E q fr fr')(s:fr.mode=aYX)(hc:Ej P F fb el k E (NX cs r) c c')(C:c.mode=aYY)(bT:c.todo≠[]/\∀v,Q' el c v)(D:L1 P F fb el k E r base' cs cs')(b:C3 F so RO E w w')(f:P.funcs[fr.fn]?=Z fn)(y:(De fn fr.tmps).runT P w #[]=(aY6 v w1,es)):JY P F fb el k so RO E r base' fr.fn w w' (HL P m fr (c::cs) J w) (HL P K fr' (c'::cs') J w'):=by
 have hs:AG P F ⟨so.obj,False,so.own,so.HP⟩ (Ci F) E (De fn fr.tmps) (De fn fr'.tmps):=h.results f;have I:C3 F ⟨so.obj,False,so.own,so.HP⟩ RO E w w':=⟨b.heap,b.tape,b.kept,b.low,b.even⟩;obtain⟨z,v',U,es',M,N,e,p,Q⟩:=AG.runs A (Pr:=RO) (λ_ x=>x) (λx=>False.elim x) hs I (es:=#[]) (es':=#[]) .nil y;have H:∀v,(c.finish v).mode=c.mode:=by intro v;unfold dG;split<;>rfl
 refine⟨z,_,_,cs,cs',w1,U,es,es',R0 h.defers.1 s h.kind.1 f y,?_,(hc.mono p.le).finish bT.1 N (bT.2 _),AA (by rw[H];exact C),D.mono p.le,⟨e.heap,e.tape,e.kept,e.low,e.even⟩,p,Q⟩;rw[<-h.fn];exact R0 h.defers.2 (h.mode.trans s) h.kind.2 (by rw[h.fn];exact f) M
theorem cU{m:Bool}(b:g.dying=J)(e:g.frame.mode=aYY):Be P m g w A0=C6 P m A0 g.frame g.callers J w:=by unfold Be;simp only[b,e]
theorem Qy{m:Bool}(b:g.dying=J)(e:g.frame.mode=aYX):Be P m g w A0=HL P m g.frame g.callers J w:=by unfold Be;simp only[b,e]
end
section
variable{P:Ac}{F:Nat->Prop}{so:Dr}{RO:Nat->Prop}
def on(w:A')(T:Mw):A':={w with tape:=T}
theorem C3.free(h:C3 F so RO E w w'):C3 F so (λ_=>False) E w w':=⟨h.heap,h.tape,λ_ x=>x.elim,h.low,h.even⟩
theorem aFI(w:A')(T:Mw)(a:Aa)(b:Bool):(on w T).farLoad P a b=w.farLoad P a b:=rfl
theorem a'E{T:Mw}(h:w.farStore P a v b=aYO (w1,l)):(on w T).farStore P a v b=aYO (on w1 T,l)/\w1.drawn=w.drawn/\w1.tape=w.tape:=by
 unfold oh at h⊢;have e:(on w T).heap=w.heap:=rfl;rw[e];split at h
 ·rename_i x u hx;unfold a_G at h⊢;by_cases y:(!tight P P.depth u)=A0;·rw[if_pos y]at h;cases h
  rw[if_neg y]at h⊢;have z:(on w T).seen P x u a b=w.seen P x u a b:=rfl;rw[z];cases hs:w.seen P x u a b with
  |error m=>rw[hs]at h;cases h
  |ok r=>
   obtain⟨c,e,C,first,H,p⟩:=r;rw[hs]at h;simp only[aYv,Vd]at h⊢;cases s:v.bytes? with
   |none=>simp only[s]at h;cases h
   |some bytes=>
    simp only[s]at h⊢;split at h
    ·rename_i r f;split at f;·cases f
     ·rename_i A;split at f;·cases f
      ·rename_i c2 D;simp only[Fi,Ve,aG]at f;subst f;simp only[aG,Ot]at h;obtain⟨rfl,rfl⟩:=h;rw[if_neg A];exact⟨rfl,rfl,rfl⟩
    ·cases h
 ·cases h
theorem AG.tape(HQ:Q4 P){d8:Type}{Q:AN->d8->d8->Prop}{E:AN}{s W:BQ d8}(h:AG P F so Q E s W):∀{w w':A'}{es:Array By}{a:d8}{w1:A'}{es1:Array By},C3 F so (λ_=>False) E w w'->s.runT P w es=(aY6 a w1,es1)->w.drawn<=w1.drawn/\∀T:Mw,(∀i q,w.drawn<=i->i<w1.drawn->T i q=w.tape i q)->s.runT P (on w T) es=(aY6 a (on w1 T),es1):=by
 induction h with
 |pure q=>intro w w' es a w1 es1 y b;simp only[DV,Ot,i_]at b;obtain⟨⟨rfl,rfl⟩,rfl⟩:=b;exact⟨AX _,λT _=>rfl⟩
 |load m H _ A=>intro w w' es a w1 es1 y b;rename_i x x' k M _;simp only[DV]at b⊢;cases hc:w.cell? x with|some v=>rw[hc]at b;obtain⟨v',Hb,hv⟩:=y.cell H hc;obtain⟨f,h2⟩:=A v v' hv y b;refine⟨f,λT z=>?_⟩;have e:(on w T).cell? x=Z v:=hc;rw[e];exact h2 T z|none=>rw[hc]at b;simp only at b;cases C:w.farLoad P x (m==aYZ)with|error h=>rw[C]at b;simp at b|ok r=>obtain⟨v,l⟩:=r;rw[C]at b;obtain⟨g6,I,Dg,j,Gn⟩:=y.WQ HQ H C;obtain⟨f,h2⟩:=A v v j y b;refine⟨f,λT z=>?_⟩;have e:(on w T).cell? x=J:=hc;rw[e];simp only[aFI,C];exact h2 T z
 |store m H hv _ A=>
  intro w w' es a w1 es1 y b;rename_i x x' v v' k M _;by_cases N:∃c,v=dd c;·obtain⟨c,rfl⟩:=N;simp[DV]at b
  by_cases U:∃c,v=aY8 c;·obtain⟨c,rfl⟩:=U;simp[DV]at b
  rw[Za (λc x=>N ⟨c,x⟩) λc x=>U ⟨c,x⟩]at b;cases hc:w.cell? x with
  |some u=>
   rw[hc]at b;simp only at b;by_cases C:w.frozen? x=A0;·rw[if_pos C]at b;simp at b
   ·rw[if_neg C]at b;obtain⟨I,_⟩:=y.set H hv hc λx=>x;obtain⟨f,h2⟩:=A I b;have AT:(w.setCell x v).drawn=w.drawn:=by unfold La;split<;>rfl
    have AH:(w.setCell x v).tape=w.tape:=by unfold La;split<;>rfl
    rw[AT]at f;refine⟨f,λT z=>?_⟩;rw[Za (λc x=>N ⟨c,x⟩) λc x=>U ⟨c,x⟩];have e:(on w T).cell? x=Z u:=hc;have ee:¬(on w T).frozen? x=A0:=C;have es:(on w T).setCell x v=on (w.setCell x v) T:=rfl;rw[e];simp only;rw[if_neg ee,es];exact h2 T (by rw[AT,AH];exact z)
  |none=>rw[hc]at b;simp only at b;cases C:w.farStore P x v (m==aYZ)with|error h=>rw[C]at b;simp at b|ok r=>obtain⟨w2,l⟩:=r;rw[C]at b;obtain⟨Bc,I,Dg,j,Gn,J9,K'⟩:=y.ql H hv C;obtain⟨f,h2⟩:=A j b;have AT:=a'E (T:=w.tape) C;rw[AT.2.1]at f;refine⟨f,λT z=>?_⟩;rw[Za (λc x=>N ⟨c,x⟩) λc x=>U ⟨c,x⟩];have e:(on w T).cell? x=J:=hc;rw[e];simp only[(a'E (T:=T) C).1];exact h2 T (by rw[AT.2.1,AT.2.2];exact z)
 |new K _ AR A=>intro w w' es a w1 es1 y b;simp only[DV]at b⊢;obtain⟨f,h2⟩:=A w.heap.size w'.heap.size y.fresh (y.push K AR) b;exact⟨f,λT z=>h2 T z⟩
 |shape d _ A=>intro w w' es a w1 es1 y b;simp only[DV]at b⊢;obtain⟨f,h2⟩:=A _ y b;exact⟨f,λT z=>h2 T z⟩
 |freeze n AR H _ A=>
  intro w w' es a w1 es1 y b;rename_i x x' k M _;simp only[DV]at b⊢;obtain⟨I,_⟩:=y.freeze (Pr:=λ_=>False) H n λx=>x;obtain⟨f,h2⟩:=A I b;have AT:(w.freeze x n).drawn=w.drawn:=by unfold ib;split<;>rfl
  have AH:(w.freeze x n).tape=w.tape:=by unfold ib;split<;>rfl
  rw[AT]at f;refine⟨f,λT z=>?_⟩;have es:(on w T).freeze x n=on (w.freeze x n) T:=by unfold ib on;dsimp only;split<;>rfl
  rw[es];exact h2 T (by rw[AT,AH];exact z)
 |frozen AR H _ A=>intro w w' es a w1 es1 y b;simp only[DV]at b⊢;obtain⟨f,h2⟩:=A _ y b;exact⟨f,λT z=>h2 T z⟩
 |getObj d _ A=>
  intro w w' es a w1 es1 y b;rename_i r Bc k M _;obtain⟨o,o',e,e',K⟩:=y.heap _ _ d;simp only[DV]at b⊢;rw[e]at b;have B:∀T,(on w T).heap[r]?=Z o:=λT=>e;rcases K.kind with⟨c,c',t,p,q,rfl,rfl,_,_⟩|⟨x,x'⟩;·simp at b
  ·have L:(k o).runT P w (es.push ⟨aYb r,A5,o.isChan⟩)=(aY6 a w1,es1):=by rw[<-b];cases o<;>first|rfl|exact absurd rfl (x _ _ _)
   obtain⟨f,h2⟩:=A o o' K y L;refine⟨f,λT z=>?_⟩;rw[B,<-h2 T z];cases o<;>first|rfl|exact absurd rfl (x _ _ _)
 |setObj hs d hn K _ A=>
  intro w w' es a w1 es1 y b;rename_i r Bc o o' k M _;simp only[DV]at b⊢;cases e:w.heap[r]? with
  |none=>rw[e]at b;simp at b
  |some D=>
   rw[e]at b;have B:∀T,(on w T).heap[r]?=Z D:=λT=>e;by_cases X:∃c t p,D=BE c t p;·obtain⟨c,t,p,rfl⟩:=X;simp at b
   ·have R:∀c t p,D≠BE c t p:=λc t p x=>X ⟨c,t,p,x⟩;obtain⟨I,_,_,_,_,_⟩:=y.setObj hs d hn K e R;have L:k.runT P {w with heap:=w.heap.setIfInBounds r o} (es.push ⟨aYb r,A0,o.isChan⟩)=(aY6 a w1,es1):=by rw[<-b];cases D<;>first|rfl|exact absurd rfl (R _ _ _)
    obtain⟨f,h2⟩:=A I L;refine⟨f,λT z=>?_⟩;rw[B,<-h2 T z];cases D<;>first|rfl|exact absurd rfl (R _ _ _)
 |choose q _ A=>
  intro w w' es a w1 es1 y b;rename_i E k M _;simp only[DV]at b⊢;split at b;·rename_i AD;obtain⟨f,h2⟩:=A _ y b;refine⟨f,λT z=>?_⟩;rw[if_pos AD];exact h2 T z
  ·rename_i AD;obtain⟨f,h2⟩:=A _ y.draw b;simp only at f;refine⟨by omega,λT z=>?_⟩;rw[if_neg AD];have e:(on w T).tape (on w T).drawn q=w.tape w.drawn q:=z _ _ (AX _) (by show w.drawn<w1.drawn;omega);rw[e];exact h2 T λi q hi A9=>z i q (Nat.le_of_succ_le hi) A9
 |program _ A=>intro w w' es a w1 es1 y b;simp only[DV]at b⊢;obtain⟨f,h2⟩:=A y b;exact⟨f,λT z=>h2 T z⟩
 |mark hm _ A=>intro w w' es a w1 es1 y b;simp only[DV]at b⊢;obtain⟨f,h2⟩:=A y b;exact⟨f,λT z=>h2 T z⟩
 |dead W h=>intro w w' es a w1 es1 y b;exact absurd b (h.ne _ _ _ _ _)
end
section
variable{P:Ac}{F:Nat->Prop}{so:Dr}{RO:Nat->Prop}
theorem AG.aGs(T:Q4 P){Q:AN->d8->d8->Prop}{s j:BQ d8}(h:AG P F so Q E s j):∀{w w':A'}{es:Array By}{x:hz}{w1:A'}{es1:Array By},C3 F so (λ_=>False) E w w'->s.runT P w es=(aYm x w1,es1)->TN x:=by
 induction h with
 |pure q=>intro w w' es x w1 es1 f b;cases b
 |load m C _ z=>intro w w' es x w1 es1 f b;rename_i a a' k U _;simp only[DV]at b;cases hc:w.cell? a with|some v=>rw[hc]at b;obtain⟨v',Hb,hv⟩:=f.cell C hc;exact z v v' hv f b|none=>rw[hc]at b;simp only at b;cases A:w.farLoad P a (m==aYZ)with|error h=>rw[A]at b;cases b;exact f.aFE C A|ok r=>obtain⟨v,l⟩:=r;rw[A]at b;obtain⟨g6,H,W,d,X⟩:=f.WQ T C A;exact z v v d f b
 |store m C hv _ z=>
  intro w w' es x w1 es1 f b;rename_i a a' v v' k U _;by_cases g1:∃c,v=dd c;·obtain⟨c,rfl⟩:=g1;cases b;trivial
  by_cases B:∃c,v=aY8 c;·obtain⟨c,rfl⟩:=B;cases b;trivial
  rw[Za (λc x=>g1 ⟨c,x⟩) λc x=>B ⟨c,x⟩]at b;cases hc:w.cell? a with
  |some u=>
   rw[hc]at b;simp only at b;by_cases A:w.frozen? a=A0;·rw[if_pos A]at b;cases b;intro g e;cases e
   ·rw[if_neg A]at b;obtain⟨H,_⟩:=f.set C hv hc λx=>x;exact z H b
  |none=>rw[hc]at b;simp only at b;cases A:w.farStore P a v (m==aYZ)with|error h=>rw[A]at b;cases b;exact f.aFF C A|ok r=>obtain⟨w2,l⟩:=r;rw[A]at b;obtain⟨Bc,H,W,d,X,J9,K'⟩:=f.ql C hv A;exact z d b
 |new I _ N z=>intro w w' es x w1 es1 f b;simp only[DV]at b;exact z w.heap.size w'.heap.size f.fresh (f.push I N) b
 |shape K _ z=>intro w w' es x w1 es1 f b;simp only[DV]at b;exact z _ f b
 |freeze n N C _ z=>intro w w' es x w1 es1 f b;simp only[DV]at b;obtain⟨H,_⟩:=f.freeze (Pr:=λ_=>False) C n λx=>x;exact z H b
 |frozen N C _ z=>intro w w' es x w1 es1 f b;simp only[DV]at b;exact z _ f b
 |getObj K _ z=>
  intro w w' es x w1 es1 f b;rename_i r Bc k U _;obtain⟨o,o',e,e',I⟩:=f.heap _ _ K;simp only[DV]at b;rw[e]at b;rcases I.kind with⟨c,c',t,p,q,rfl,rfl,_,_⟩|⟨y,y'⟩;·cases b;trivial
  ·have M:(k o).runT P w (es.push ⟨aYb r,A5,o.isChan⟩)=(aYm x w1,es1):=by rw[<-b];cases o<;>first|rfl|exact absurd rfl (y _ _ _)
   exact z o o' I f M
 |setObj hs K hn I _ z=>
  intro w w' es x w1 es1 f b;rename_i r Bc o o' k U _;simp only[DV]at b;cases e:w.heap[r]? with
  |none=>rw[e]at b;cases b;trivial
  |some D=>
   rw[e]at b;by_cases L:∃c t p,D=BE c t p;·obtain⟨c,t,p,rfl⟩:=L;cases b;trivial
   ·have R:∀c t p,D≠BE c t p:=λc t p x=>L ⟨c,t,p,x⟩;obtain⟨H,_,_,_,_,_⟩:=f.setObj hs K hn I e R;have M:k.runT P {w with heap:=w.heap.setIfInBounds r o} (es.push ⟨aYb r,A0,o.isChan⟩)=(aYm x w1,es1):=by rw[<-b];cases D<;>first|rfl|exact absurd rfl (R _ _ _)
    exact z H M
 |choose q _ z=>
  intro w w' es x w1 es1 f b;simp only[DV]at b;split at b;·exact z _ f b
  ·exact z _ f.draw b
 |program _ z=>intro w w' es x w1 es1 f b;simp only[DV]at b;exact z f b
 |mark hm _ z=>intro w w' es x w1 es1 f b;simp only[DV]at b;exact z f b
 |dead j h=>intro w w' es x w1 es1 f b;obtain⟨y,_,_,e,k⟩:=h w es;rw[e]at b;cases b;exact k
end
section
open Go.Conc(G)
variable{w:A'}
section
variable{P:Ac}{F:Nat->Prop}{fb:Nat->Bool}{el:HC}{k:Nat}{E:AN}{RO:Nat->Prop}{so:Dr}{r:List Cw}
def YD(step:A'->o7)(w:A'):Prop:=∃f b e,step w=aYE f b e/\b.tape=w.tape/\w.drawn<=b.drawn/\∀T:Mw,(∀i q,w.drawn<=i->i<b.drawn->T i q=w.tape i q)->step (on w T)=aYE f (on b T) e
theorem YD.idle{step:A'->o7}{g:AK}(h:∀w,step w=aYE g w):YD step w:=⟨g,w,#[],h w,rfl,AX _,λT _=>h (on w T)⟩
inductive Ends(P:Ac)(m:Bool)(fr:AY)(cs:List AY)(w:A'):Prop|Iv:YD (λw=>C6 P m A0 fr cs J w) w->(∀ops j rest l o,fr.todo=aY7 ops (j::rest)::l->ops[j]?=Z o->EY o (Gu ops fr.tmps)=A0->∃Bm w1 es,(AU fr.eval o).runT P w #[]=(aY6 Bm w1,es))->Ends P m fr cs w|panic{w1:A'}{es:Array By}{ch:List wo}:C6 P m A0 fr cs J w=aYE (G (fr.raise ch) cs) w1 es->Ends P m fr cs w|ended{o:Outcome}{w1:A'}{es:Array By}:C6 P m A0 fr cs J w=aYs o w1 es->Ends P m fr cs w
theorem a'9(d:Fit P F)(D5:P.globals.size=D4)(hC:∀z,Calm P F (B4 el z))(LL:so=B4 el A0/\∀b,¬RO b↔el.J5 b)(a2:∀f,fb f=A0->F f)(AB:∀b,b<D4->E.rel b b)(m:Bool){fr fr':AY}{cs:List AY}{w':A'}(h:Ej P F fb el k E (NX cs r) fr fr')(Q:C3 F so RO E w w'):Ends P m fr cs w:=by
 have B8:=h.ok;have M:=h.round.1;have K:(fr.kind==aYR)=A5:=by rw[h.kind.1];rfl
 have idle:∀(l:List Cw),(∀w,C6 P m A0 fr cs J w=aYE {frame:={fr with todo:=l},callers:=cs,status:=aYF,dying:=J} w)->(∀ops j rest l,fr.todo≠aY7 ops (j::rest)::l)->Ends P m fr cs w:=λl A9 hn=>.Iv (.idle A9) λops j rest l o D=>absurd D (hn ops j rest l);have A:(∀w,C6 P m A0 fr cs J w=aYE {frame:={fr with mode:=aYX},callers:=cs,status:=aYF,dying:=J} w)->(∀ops j rest l,fr.todo≠aY7 ops (j::rest)::l)->Ends P m fr cs w:=λA9 hn=>.Iv (.idle A9) λops j rest l o D=>absurd D (hn ops j rest l);cases p:fr.todo with
 |nil=>refine A (λw=>?_) (λ_ _ _ _ e=>by rw[p]at e;cases e);unfold C6;simp only[p,M,↓reduceIte]
 |cons i l=>
  rw[p]at B8;have hi:=B8 i (by simp);cases i with
  |inBlock b=>refine idle l (λw=>?_) (λ_ _ _ _ e=>by rw[p]at e;cases e);unfold C6;simp only[p]
  |inScope b=>refine idle l (λw=>?_) (λ_ _ _ _ e=>by rw[p]at e;cases e);unfold C6;simp only[p]
  |inLoop b=>refine idle (aY9 b::aYn b::l) (λw=>?_) (λ_ _ _ _ e=>by rw[p]at e;cases e);unfold C6;simp only[p]
  |code c=>
   have hn:∀ops j rest l,fr.todo≠aY7 ops (j::rest)::l:=λ_ _ _ _ e=>by rw[p]at e;cases e
   cases c with
   |skip=>refine idle l (λw=>?_) hn;unfold C6;simp only[p]
   |label n=>refine idle l (λw=>?_) hn;unfold C6;simp only[p]
   |ret=>refine A (λw=>?_) hn;unfold C6;simp only[p,M,↓reduceIte]
   |seq a b=>refine idle (aY9 a::aY9 b::l) (λw=>?_) hn;unfold C6;simp only[p]
   |cond c a b=>
    cases hv:fr.eval c with
    |bool v=>refine idle (aY9 (if v then a else b)::l) (λw=>?_) hn;unfold C6;simp only[p,hv]
    |_=>refine .ended (o:=aZN "cond: bool expected" (fr.pos P)) (w1:=w) (es:=#[]) ?_;unfold C6;simp only[p,hv]
   |block n b=>refine idle (aY9 b::.inBlock n::l) (λw=>?_) hn;unfold C6;simp only[p]
   |loop b=>refine idle (aY9 b::aYn b::l) (λw=>?_) hn;unfold C6;simp only[p]
   |scope b=>refine idle (aY9 b::.inScope b::l) (λw=>?_) hn;unfold C6;simp only[p]
   |exit n=>
    cases e:Px n l with
    |none=>refine .ended (o:=aZN "exit, goto: no such block or label" (fr.pos P)) (w1:=w) (es:=#[]) ?_;unfold C6;simp only[p,e,M,pr,EU,↓reduceIte]
    |some q=>refine idle q (λw=>?_) hn;unfold C6;simp only[p,e,aC1]
   |goto n=>
    cases e:Vr n l with
    |none=>refine .ended (o:=aZN "exit, goto: no such block or label" (fr.pos P)) (w1:=w) (es:=#[]) ?_;unfold C6;simp only[p,e,M,pr,EU,↓reduceIte]
    |some q=>refine idle q (λw=>?_) hn;unfold C6;simp only[p,e,aC1]
   |rangeFunc f a b c=>cases hi
   |refuse y=>refine .ended (o:=aYy (.elab y) (fr.pos P)) (w1:=w) (es:=#[]) ?_;unfold C6;simp only[p]
   |region n ops I=>
    cases I with
    |false=>refine idle (aY7 ops (H9 ops.size)::l) (λw=>?_) hn;unfold C6;simp only[p,U4,↓reduceIte]
    |true=>
     refine .Iv ?_ λops j rest l o D=>absurd D (hn ops j rest l);have lc:∀w:A',C6 P m A0 fr cs J w=aYE {frame:={fr with todo:=aY7 ops (Region.schedule (P.follows .mixedOrders) ops (w.tape w.drawn (aYq fr.fn n)))::l},callers:=cs,status:=aYF,dying:=J} {w with drawn:=w.drawn+1}:=by intro w;unfold C6;simp only[p,Sg,EU,↓reduceIte,Sy,aW,aUP,aUO]
     refine⟨_,_,_,lc w,rfl,Nat.le_succ _,λT B=>?_⟩;have e:(on w T).tape (on w T).drawn (aYq fr.fn n)=w.tape w.drawn (aYq fr.fn n):=B _ _ (AX _) (Nat.lt_succ_self _);show C6 P m A0 fr cs J (on w T)=_;rw[lc (on w T),e];rfl
  |inRegion ops todo=>
   cases todo with
   |nil=>refine idle l (λw=>?_) (λ_ _ _ _ e=>by rw[p]at e;cases e);unfold C6;simp only[p]
   |cons j rest=>
    have MU:fr.oper?=ops[j]?:=by unfold wN;rw[p]
    by_cases H:(ops[j]?.map (EY · (Gu ops fr.tmps))).getD A5=A0
    ·cases e:ops[j]? with
     |none=>rw[e]at H;cases H
     |some o=>
      have A7:cF P fb el.own (el.own fr.fn) k o=A0:=List.all_eq_true.1 hi o (by have:=Array.getElem?_eq_some_iff.1 e;obtain⟨hlt,rfl⟩:=this;simp);obtain⟨QM,sT⟩:=Bool.and_eq_true_iff.1 A7;obtain⟨Z6,fp⟩:=Bool.and_eq_true_iff.1 sT;have BJ:∀x∈opsOf o.op,AJ F E (fr.eval x) (fr'.eval x):=λx hx=>h.eval AB a2 x (List.all_eq_true.1 (Bool.and_eq_true_iff.1 fp).1 x hx);have hs:AG P F (B4 el (LX o.op)) (L6 P F el.own) E (AU fr.eval o) (AU fr'.eval o):=mS d D5 (hC _) AB (λv=>rfl) (λf=>rfl) (λf=>rfl) o k (mG a2 QM) (mm (Bool.and_eq_true_iff.1 fp).2) BJ (h.a5Y QM);have L:C3 F (B4 el (LX o.op)) (λ_=>False) E w w':=by rw[LL.1]at Q;exact⟨Q.heap,Q.tape,λ_ x=>x.elim,Q.low,Q.even⟩
      have e1:∀w,C6 P m A0 fr cs J w=MI P A0 fr cs J (AU fr.eval o) w:=by intro w;unfold C6;simp only[p,H,↓reduceIte];unfold iv;rw[MU,e];simp only[M]
      cases C:(AU fr.eval o).runT P w #[]with
      |mk res es=>
       cases res with
       |ok Bm w1=>
        obtain⟨v2,XB,BZ,es',_,R,_,sL,_⟩:=AG.runs d.JD (RO:=λ_=>False) (Pr:=λ_=>False) (λ_ x=>x) (λ_ _ x=>x) hs L (es:=#[]) (es':=#[]) .nil C;obtain⟨AT,D⟩:=AG.tape d.JD hs L C;have hb:∃Bg Lk,behind P fr cs Bm=Z (Bg,Lk):=by cases R<;>exact⟨_,_,rfl⟩
        obtain⟨Bg,Lk,hb⟩:=hb;refine .Iv ⟨_,w1,_,(e1 w).trans (It K C hb),sL.cW,AT,λT B=>(e1 (on w T)).trans (It K (D T B) hb)⟩ ?_;intro a3o NM W Cd o2 N U _;rw[p]at N;injection N with X g0;injection X with g2 g9;injection g9 with m0 n3;subst g2 m0;rw[e]at U;obtain rfl:=D3 U;exact⟨Bm,w1,es,C⟩
       |halt x w1=>
        have hx:=AG.aGs d.JD hs L C;cases x with
        |panic v=>refine .panic (w1:=w1) (es:=IU P fr.fn es) (ch:=[{v,recovered:=A5}]) ?_;rw[e1 w];unfold MI;simp only[↓reduceIte,C,K,EU,Nh,U2,G]
        |stuck s=>refine .ended (o:=aZN s (fr.pos P)) (w1:=w1) (es:=IU P fr.fn es) ?_;rw[e1 w];unfold MI;simp only[↓reduceIte,C,K,EU,Nh,U2]
        |unsupported u=>
         refine .ended (o:=aYy u (fr.pos P)) (w1:=w1) (es:=IU P fr.fn es) ?_;rw[e1 w];unfold MI;have hu:∀g,u≠aZ6 g:=hx;cases u<;>first
         |exact absurd rfl (hu _)
         |simp only[↓reduceIte,C,K,EU,Nh,U2]
        |_=>exact absurd hx (by simp[TN])
    ·refine .Iv ?_ λa3o NM W Cd o2 N U aJH=>?_;·refine YD.idle (g:={frame:=fr.finish Y,callers:=cs,status:=aYF,dying:=J}) λw=>?_;unfold C6;simp only[p,H,EU,↓reduceIte]
     ·rw[p]at N;injection N with X g0;injection X with g2 g9;injection g9 with m0 n3;subst g2 m0;rw[U]at H;exact absurd aJH H
  |_=>cases hi
end
end
section
open Go.Conc(G solo)
variable{Stop:(Nat->Prop)->AK->A'->Prop}{w w1:A'}{a g:AK}{E:AN}{P:Ac}{es:Array By}{main:Bool}{S Sh:Nat->Prop}{d8:Type}
section
variable{P:Ac}{F:Nat->Prop}{fb:Nat->Bool}{el:HC}{k:Nat}{E:AN}{RO:Nat->Prop}{so:Dr}{r:List Cw}
theorem vH(A:Q4 P)(m:Bool){q:List Cw}{fr fr' c:AY}{cs:List AY}{w':A'}(h:Ej P F fb el k E q fr fr')(y:fr.mode=aYX)(N:C3 F so RO E w w'):(∃fn v b es,P.funcs[fr.fn]?=Z fn/\(De fn fr.tmps).runT P w #[]=(aY6 v b,es)/\YD (λw=>HL P m fr (c::cs) J w) w)∨∃o b es,HL P m fr (c::cs) J w=aYs o b es:=by obtain⟨C,p,_⟩:=h.has;cases e:P.funcs[fr.fn]? with|none=>rw[e]at p;cases p|some fn=>have hs:AG P F so (Ci F) E (De fn fr.tmps) (De fn fr'.tmps):=h.results e;have f:C3 F so (λ_=>False) E w w':=N.free;cases s:(De fn fr.tmps).runT P w #[]with|mk z es=>cases z with|ok v b=>obtain⟨H,M⟩:=AG.tape A hs f s;have K:AG P F ⟨so.obj,False,so.own,so.HP⟩ (Ci F) E (De fn fr.tmps) (De fn fr'.tmps):=h.results e;obtain⟨_,_,_,_,_,_,_,I,_⟩:=AG.runs A (RO:=λ_=>False) (Pr:=λ_=>False) (λ_ x=>x) (λ_ _ x=>x) K (⟨f.heap,f.tape,f.kept,f.low,f.even⟩:C3 F ⟨so.obj,False,so.own,so.HP⟩ (λ_=>False) E w w') (es:=#[]) (es':=#[]) .nil s;exact AA ⟨fn,v,b,es,rfl,s,_,b,_,R0 h.defers.1 y h.kind.1 e s,I.cW,H,λT D=>R0 h.defers.1 y h.kind.1 e (M T D)⟩|halt x b=>refine AF ?_;unfold HL;simp only[h.defers.1,y,e,s];cases x<;>exact⟨_,_,_,rfl⟩
inductive Passes:List AY->Prop|bot:Passes [bot]|cons{fr:AY}{l:List AY}:fr.defers=[]->Passes l->Passes (fr::l)
theorem L1.uF{base':List AY}:∀{l d:List AY},L1 P F fb el k E r base' l d->Passes l|_,_,.base=>.bot|_,_,.cons h _ _ t=>.cons h.defers.1 t.uF
theorem aRg(hs:a.status=aYF):di P (EB a w)=(runT P (EB a w) 0).1:=by rw[di,nj hs]
theorem SZ{o:Outcome}(hs:a.status=aYF)(h:Be P A0 a w=aYs o w1 es):di P (EB a w)=.ended o w1:=by rw[aRg hs];unfold runT EB;simp[Array.swapAt!,Array.swapAt,h]
theorem Pb{a1:AK}(hs:a.status=aYF)(h:Be P A0 a w=aYE a1 w1 es):di P (EB a w)=aYG (EB a1 w1):=by rw[di,nj hs,vw h]
theorem raised(c:AY)(ch:List wo):∃b,(c.raise ch).mode=aZH b/\(c.raise ch).defers=c.defers:=by unfold a7s;split<;>exact⟨_,rfl,rfl⟩
theorem qR:∀{cs:List AY},Passes cs->∀{fr:AY}{ch:List wo}{w w1:A'}{n:Nat}{a:AK},fr.mode=aZH ch->fr.defers=[]->Ek P n (EB (G fr cs) w)=aYG (EB a w1)->∃ch,a.frame.mode=aZH ch:=by
 intro cs m;induction m with
 |bot=>
  intro fr ch w w1 n a e f b;cases n with
  |zero=>
   simp only[Ek,RH]at b;have:a=G fr [bot]:=by have:=congrArg oB b;simp[EB]at this;exact this.symm
   rw[this];exact⟨ch,e⟩
  |succ n=>
   unfold Ek at b;by_cases hc:fr.catches P=A0;·rw[SZ (o:=aYy (aZ7 "a panic or Goexit out of a method that fmt calls behind a cut's door") (fr.pos P)) (w1:=w) (es:=#[]) rfl (by unfold Be;simp only[G,e];unfold HL;simp only[f,e,hc,↓reduceIte])]at b;cases b
   ·rw[Pb (a1:=G (bot.raise ch) []) (w1:=w) (es:=#[]) rfl (by unfold Be;simp only[G,e];unfold HL;simp only[f,e,hc,EU,↓reduceIte])]at b;simp only at b;cases n with
    |zero=>
     simp only[Ek,RH]at b;have:a=G (bot.raise ch) []:=by have:=congrArg oB b;simp[EB]at this;exact this.symm
     rw[this];obtain⟨h,h2,_⟩:=raised bot ch;exact⟨h,h2⟩
    |succ n=>unfold Ek at b;rw[SZ (o:=aYy (aZ7 "machine/Return: a deferred call of a nil function value, made while the frame is unwinding") ((bot.raise ch).pos P)) (w1:=w) (es:=#[]) rfl (by unfold Be;simp only[G,bot,a7s];unfold HL;simp only[aA6];rfl)]at b;cases b
 |cons p m s=>
  rename_i c l;intro fr ch w w1 n a e f b;cases n with
  |zero=>
   simp only[Ek,RH]at b;have:a=G fr (c::l):=by have:=congrArg oB b;simp[EB]at this;exact this.symm
   rw[this];exact⟨ch,e⟩
  |succ n=>
   unfold Ek at b;by_cases hc:fr.catches P=A0;·rw[SZ (o:=aYy (aZ7 "a panic or Goexit out of a method that fmt calls behind a cut's door") (fr.pos P)) (w1:=w) (es:=#[]) rfl (by unfold Be;simp only[G,e];unfold HL;simp only[f,e,hc,↓reduceIte])]at b;cases b
   ·rw[Pb (a1:=G (c.raise ch) l) (w1:=w) (es:=#[]) rfl (by unfold Be;simp only[G,e];unfold HL;simp only[f,e,hc,EU,↓reduceIte])]at b;simp only at b;obtain⟨h,h2,h3⟩:=raised c ch;exact s (fr:=c.raise ch) h2 (h3.trans p) b
end
def Fin(ret:Bool)(fr:AY):Prop:=if ret=A0 then fr.mode=aYX else fr.mode=aYY/\fr.todo=[]
def Na(a d:Nat)(T τ:Mw):Prop:=∀i q,a<=i->i<d->T i q=τ i q
section
variable(P:Ac)(fr0:AY)(w0:A')(ret:Bool)
def At(T:Mw)(n:Nat)(m:UI):Prop:=Ek P n (EB (G fr0 [bot]) (on w0 T))=aYG m
def Open(T:Mw)(n:Nat):Prop:=∀j,j<n->∀b e,At P fr0 w0 T j (EB (G b [bot]) e)->¬Fin ret b
structure YT where
 τ:Mw
 n:Nat
 d:Nat
def YT.ok(p:YT):Prop:=∀T,Na w0.drawn p.d T p.τ->Open P fr0 w0 ret T p.n
def Nx(b p:YT):Prop:=b.n=p.n+1/\p.d<=b.d/\Na w0.drawn p.d b.τ p.τ/\b.ok P fr0 w0 ret
end
theorem u4{r:d8->d8->Prop}{x:d8}(h:¬Acc r x):∃y,r y x/\¬Acc r y:=by refine nN λhn=>h ⟨x,λy hy=>nN λb=>hn ⟨y,hy,b⟩⟩
noncomputable def b9{d8:Type}{r:d8->d8->Prop}{x:d8}(h:¬Acc r x):Nat->{y:d8//¬Acc r y}|0=>⟨x,h⟩|n+1=>⟨aD (u4 (b9 h n).2),(U5 (u4 (b9 h n).2)).2⟩
theorem aEM{r:d8->d8->Prop}{x:d8}(h:¬Acc r x)(n:Nat):r (b9 h (n+1)).1 (b9 h n).1:=(U5 (u4 (b9 h n).2)).1
section
variable{P:Ac}{fr0:AY}{w0:A'}{ret:Bool}
theorem a4N(h:∀T,∃N e x,At P fr0 w0 T N (EB (G e [bot]) x)/\Fin ret e)(p:YT):Acc (Nx P fr0 w0 ret) p:=by
 refine nN λhn=>?_;have hs:=aEM hn;let s:Nat->YT:=λj=>(b9 hn j).1;have hs:∀j,Nx P fr0 w0 ret (s (j+1)) (s j):=hs;have H:∀j,(s j).n=(s 0).n+j:=by intro j;induction j with|zero=>rfl|succ j ih=>rw[(hs j).1,ih];omega
 have y:∀j i,(s j).d<=(s (j+i)).d/\Na w0.drawn (s j).d (s (j+i)).τ (s j).τ:=by intro j i;induction i with|zero=>exact⟨AX _,λ_ _ _ _=>rfl⟩|succ i ih=>have:=hs (j+i);exact⟨HA ih.1 this.2.1,λa q b h2=>(this.2.2.1 a q b (Nat.lt_of_lt_of_le h2 ih.1)).trans (ih.2 a q b h2)⟩
 have A:∀j j' i q,w0.drawn<=i->i<(s j).d->i<(s j').d->(s j).τ i q=(s j').τ i q:=by
  intro j j' i q f b h2;rcases Nat.le_total j j' with D|D;·have:=(y j (j'-j)).2 i q f b;rw[show j+(j'-j)=j' by omega]at this;exact this.symm
  ·have:=(y j' (j-j')).2 i q f h2;rw[show j'+(j-j')=j by omega]at this;exact this
 have m:∃T:Mw,∀j,Na w0.drawn (s j).d T (s j).τ:=by classical refine⟨λi q=>if hx:∃j,i<(s j).d then(s (aD hx)).τ i q else 0,λj i q f b=>?_⟩;have hx:∃j,i<(s j).d:=⟨j,b⟩;simp only[hx,↓reduceDIte];exact A _ _ i q f (U5 hx) b
 obtain⟨T,m⟩:=m;obtain⟨N,e,x,z,C⟩:=h T;have I:=(hs N).2.2.2 T (m (N+1));exact I N (by rw[H];omega) e x z C
theorem ub(a b:Nat)(m:UI):Ek P (a+b) m=match Ek P a m with|aYG f=>Ek P b f|e=>e:=by induction a generalizing m with|zero=>simp[Ek]|succ a h=>rw[show a+1+b=a+b+1 by omega];simp only[Ek];cases di P m with|next f=>exact h f|_=>rfl
theorem mc{a b:Nat}{m d:UI}(h:Ek P (a+b) m=aYG d):∃f,Ek P a m=aYG f/\Ek P b f=aYG d:=by
 rw[ub]at h;split at h;·exact⟨_,by assumption,h⟩
 ·rename_i e he;exact absurd h (he d)
theorem Qx{b:AK}{w v:A'}(h:EB a w=EB b v):a=b/\w=v:=by have e:=congrArg oB h;have h2:=congrArg aU5 h;simp[EB]at e h2;exact⟨e,h2⟩
theorem a'0{n:Nat}{w w2:A'}{v:A1}(h:Ek P n (EB (G (bot.finish v) []) w)=aYG (EB a w2)):n=0:=by cases n with|zero=>rfl|succ n=>unfold Ek at h;have b:bot.finish v=bot:=rfl;rw[b]at h;rw[SZ (o:=aYy (aZ7 "machine/Return: a deferred call of a nil function value, made while the frame is unwinding") (bot.pos P)) (w1:=w) (es:=#[]) rfl (by unfold Be;simp only[G,bot];unfold HL;simp only[aA6];rfl)]at h;cases h
variable{F:Nat->Prop}{fb:Nat->Bool}{el:HC}{k:Nat}{E:AN}{RO:Nat->Prop}{so:Dr}{r:List Cw}
theorem lW(p:Q4 P){j:Nat}{q:List Cw}{fr fr' d:AY}{w w' w1:A'}(h:Ej P F fb el k E q fr fr')(e:fr.mode=aYX)(y:C3 F so RO E w w')(b:Ek P j (EB (G fr [bot]) w)=aYG (EB (G d [bot]) w1)):j=0:=by
 cases j with
 |zero=>rfl
 |succ j=>
  unfold Ek at b;have f:Be P A0 (G fr [bot]) w=HL P A0 fr [bot] J w:=Qy rfl e;rcases vH p A0 (c:=bot) (cs:=[]) h e y with⟨A,v,z,m,s,x,_⟩|⟨o,z,m,he⟩;·rw[Pb (a1:=G (bot.finish v) []) rfl (f.trans (R0 h.defers.1 e h.kind.1 s x))]at b;simp only at b;have:=a'0 b;subst this;simp only[Ek,RH]at b;have:=(Qx b).1;simp[G]at this
  ·rw[SZ rfl (f.trans he)]at b;cases b
theorem a2H(e:Q4 P){j:Nat}{q:List Cw}{fr fr' d:AY}{w w' w1:A'}(h:Ej P F fb el k E q fr fr')(AE:Fin ret fr)(Fj:Fin ret d)(f:C3 F so RO E w w')(b:Ek P j (EB (G fr [bot]) w)=aYG (EB (G d [bot]) w1)):j=0:=by
 unfold Fin at AE Fj;cases ret with
 |true=>exact lW e h AE f b
 |false=>
  simp only[EU,↓reduceIte]at AE Fj;cases j with
  |zero=>rfl
  |succ j=>
   unfold Ek at b;have m:Be P A0 (G fr [bot]) w=C6 P A0 A0 fr [bot] J w:=cU rfl AE.1;have he:C6 P A0 A0 fr [bot] J w=aYE (G {fr with mode:=aYX} [bot]) w:=by unfold C6;simp only[AE.2,h.round.1,↓reduceIte,G]
   rw[Pb rfl (m.trans he)]at b;simp only at b;have h2:Ej P F fb el k E q {fr with mode:=aYX} {fr' with mode:=aYX}:=⟨h.fn,h.has,h.todo,h.ok,h.defers,rfl,h.kind,h.round,h.tmps,h.own⟩;have:=lW e h2 rfl f b;subst this;simp only[Ek,RH]at b;have:=(Qx b).1;simp only[G,UC]at this;rw[<-this.1]at Fj;cases Fj.1
end
structure Bx(Sh S:Nat->Prop)(w f3:A'):Prop where
 size:w.heap.size<=f3.heap.size
 same:∀b,S b∨Sh b->f3.heap[b]?=w.heap[b]?
 os:f3.os=w.os
 output:f3.output=w.output
theorem Bx.refl(Sh S:Nat->Prop)(w:A'):Bx Sh S w w:=⟨AX _,λ_ _=>rfl,rfl,rfl⟩
theorem Bx.trans{Sh S:Nat->Prop}{w d f:A'}(h:Bx Sh S w d)(k:Bx Sh S d f):Bx Sh S w f:=⟨HA h.size k.size,λb e=>(k.same b e).trans (h.same b e),k.os.trans h.os,k.output.trans h.output⟩
inductive KU(Sh S:Nat->Prop):By->Prop|cell{a:Aa}(w s:Bool):S a.block∨Sh a.block/\w=A5->KU Sh S ⟨aYL a,w,s⟩|obj{r:Nat}(w s:Bool):S r∨Sh r/\w=A5->KU Sh S ⟨aYb r,w,s⟩|extern(f:Nat):KU Sh S ⟨aY_ (aZX f),A5,A0⟩|noRoom:KU Sh S ⟨aY_ aZY,A5,A0⟩
structure GC(Sh S:Nat->Prop)(w w':A')(es:Array By)(S':Nat->Prop):Prop where
 size:w.heap.size<=w'.heap.size
 same:∀b,b<w.heap.size->¬S b->w'.heap[b]?=w.heap[b]?
 os:w'.os=w.os
 output:w'.output=w.output
 tape:w'.tape=w.tape
 grow:∀b,S' b↔S b∨w.heap.size<=b/\b<w'.heap.size
 evs:∀e∈es,KU Sh S' e
structure Leaves where
 g:AK
 w:A'
 es:Array By
 S:Nat->Prop
inductive Way(P:Ac)(main:Bool)(Sh:Nat->Prop)(Stop:(Nat->Prop)->AK->A'->Prop):(Nat->Prop)->AK->A'->Prop|stop{S:Nat->Prop}{g:AK}{w:A'}:(∀f3,Bx Sh S w f3->Stop S g f3)->Way P main Sh Stop S g w|go{S:Nat->Prop}{g:AK}{w:A'}(Bm:A'->Leaves):g.status=aYF->(∀f3,Bx Sh S w f3->Be P main g f3=aYE (Bm f3).g (Bm f3).w (Bm f3).es/\GC Sh S f3 (Bm f3).w (Bm f3).es (Bm f3).S)->(∀f3,Bx Sh S w f3->Way P main Sh Stop (Bm f3).S (Bm f3).g (Bm f3).w)->Way P main Sh Stop S g w
theorem Way.step(hs:g.status=aYF)(h:∀e,Bx Sh S w e->∃p w' es m,Be P main g e=aYE p w' es/\GC Sh S e w' es m/\Way P main Sh Stop m p w'):Way P main Sh Stop S g w:=by
 have h2:∀e,∃l:Leaves,Bx Sh S w e->Be P main g e=aYE l.g l.w l.es/\GC Sh S e l.w l.es l.S/\Way P main Sh Stop l.S l.g l.w:=by
  intro e;by_cases f:Bx Sh S w e;·obtain⟨p,w',es,m,a,b,c⟩:=h e f;exact⟨⟨p,w',es,m⟩,λ_=>⟨a,b,c⟩⟩
  ·exact⟨⟨g,w,#[],S⟩,λx=>absurd x f⟩
 refine .go (λe=>aD (h2 e)) hs (λe f=>?_) λe f=>?_;·have:=U5 (h2 e) f;exact⟨this.1,this.2.1⟩
 ·exact(U5 (h2 e) f).2.2
theorem Way.rely{d:A'}(h:Way P main Sh Stop S g w)(f:Bx Sh S w d):Way P main Sh Stop S g d:=by cases h with|stop h=>exact .stop λe b=>h e (f.trans b)|go m hs h k=>exact .go m hs (λe b=>h e (f.trans b)) λe b=>k e (f.trans b)
theorem Way.bind{d:(Nat->Prop)->AK->A'->Prop}(h:Way P main Sh Stop S g w)(k:∀S g w,Stop S g w->Way P main Sh d S g w):Way P main Sh d S g w:=by
 induction h with
 |stop h=>
  rename_i S g w;cases k _ _ _ (h w (Bx.refl _ _ _))with
  |stop h2=>exact .stop h2
  |go b hs h2 h3=>exact .go b hs h2 h3
 |go b hs h _ e=>exact .go b hs h e
section
variable{P:Ac}{F:Nat->Prop}{fb:Nat->Bool}{el:HC}{k:Nat}{RO Sh:Nat->Prop}{so:Dr}{r:List Cw}
def JZ(RO Sh S:Nat->Prop)(E:AN):Prop:=∀b e,E.rel b e->RO b/\Sh e∨¬RO b/\S e
def join(τ:Mw)(n:Nat)(b:Mw)(m:Nat):Mw:=λi q=>if i<n then τ i q else b (m+(i-n)) q
theorem C3.rely{S:Nat->Prop}{wL d:A'}{T:Mw}(h:C3 F so RO E (on wL T) w)(hc:JZ RO Sh S E)(p:Bx Sh S w d)(τ:Mw):C3 F so RO E (on wL (join τ wL.drawn d.tape d.drawn)) d:=by
 refine⟨λb f x=>?_,λi q=>?_,h.kept,⟨h.low.1,HA h.low.2 p.size⟩,λz b f x o s e m=>?_⟩;·obtain⟨o,s,e,m,A⟩:=h.heap b f x;refine⟨o,s,e,?_,A⟩;rw[p.same f (by rcases hc b f x with y|y;exact AF y.2;exact AA y.2),m]
 ·show d.tape (d.drawn+i) q=join τ wL.drawn d.tape d.drawn (wL.drawn+i) q;unfold join;rw[if_neg (by omega)];congr 2;omega
 ·rw[p.same f (by rcases hc b f x with y|y;exact AF y.2;exact AA y.2)]at m;exact h.even z b f x o s e m
def nL(P:Ac)(F:Nat->Prop)(fb:Nat->Bool)(el:HC)(k:Nat)(so:Dr)(RO Sh:Nat->Prop)(h:AN)(r:List Cw)(base':List AY)(ret:Bool)(Q:AY->A'->Prop)(S:Nat->Prop)(g:AK)(w':A'):Prop:=∃E e b f,g=G b base'/\Ej P F fb el k E r e b/\Fin ret e/\Q e f/\h.le E/\C3 F so RO E f w'/\JZ RO Sh S E
theorem aF6{S':Nat->Prop}(hc:JZ RO Sh S' E):∀{l d:List By},J_ RO E l d->∀e∈d,KU Sh S' e:=by
 intro l d h;induction h with
 |nil=>intro e he;cases he
 |snoc t h m=>
  intro e he;rcases List.mem_append.1 he with he|he;·exact m e he
  ·rw[List.mem_singleton.1 he];cases h with
   |cell w s A6 b=>
    refine .cell w s ?_;rcases hc _ _ A6.1 with⟨x,y⟩|⟨_,y⟩;·cases w with|false=>exact AF ⟨y,rfl⟩|true=>exact absurd x (b rfl)
    ·exact AA y
   |obj w s A6 b=>
    refine .obj w s ?_;rcases hc _ _ A6 with⟨x,y⟩|⟨_,y⟩;·cases w with|false=>exact AF ⟨y,rfl⟩|true=>exact absurd x (b rfl)
    ·exact AA y
   |mark h=>cases h with|extern f=>exact .extern f|noRoom=>exact .noRoom
theorem Yk{d:AN}{S:Nat->Prop}{w' BZ:A'}{fn:Nat}{es':Array By}(hc:JZ RO Sh S E)(D:∀b,RO b->b<w.heap.size)(f:GF RO E w w' d w1 BZ)(he:J_ RO d es.toList es'.toList):∃h,GC Sh S w' BZ (IU P fn es') h/\JZ RO Sh h d:=by
 let h:Nat->Prop:=λb=>S b∨w'.heap.size<=b/\b<BZ.heap.size;have s:JZ RO Sh h d:=by
  intro b p x;rcases f.fresh b p x with y|⟨N,Q,H,I⟩
  ·rcases hc b p y with z|⟨K,M⟩;·exact AA z
   ·exact AF ⟨K,AA M⟩
  ·exact AF ⟨λz=>by have:=D b z;omega,AF ⟨H,I⟩⟩
 refine⟨h,⟨f.hB,λb C hs=>f.rest b C λA x=>?_,f.os,f.output,f.tape,λb=>Iff.rfl,λe m=>?_⟩,s⟩
 ·rcases hc A b x with y|y;·exact y.1
  ·exact absurd y.2 hs
 ·exact aF6 s he e (by simpa using aN m)
end
section
variable{P:Ac}{F:Nat->Prop}{fb:Nat->Bool}{el:HC}{k:Nat}{RO Sh:Nat->Prop}{so:Dr}{r:List Cw}
theorem L1.ne{base':List AY}{cs cs':List AY}(h:L1 P F fb el k E r base' cs cs'):∃c l,cs=c::l:=by cases h<;>exact⟨_,_,rfl⟩
theorem aSk(L:Fit P F)(D5:P.globals.size=D4)(hC:∀z,Calm P F (B4 el z))(LL:so=B4 el A0/\∀b,¬RO b↔el.J5 b)(a2:∀f,fb f=A0->F f)(BI:Laid P F fb el k)(main:Bool){fr0:AY}{w0:A'}{ret:Bool}(SA:ret=A0->r=[]){base':List AY}{OZ:AN}{Q:AY->A'->Prop}(H0:∀T,∃N U w1,At P fr0 w0 T N (EB (G U [bot]) w1)/\Fin ret U/\Q U w1):∀(p:YT),Acc (Nx P fr0 w0 ret) p->∀{E:AN}{fr fr':AY}{cs cs':List AY}{wL w':A'}{S:Nat->Prop}{T0:Mw},(∀T,Na w0.drawn p.d T p.τ->At P fr0 w0 T p.n (EB (G fr cs) (on wL T)))->p.ok P fr0 w0 ret->p.d=wL.drawn->w0.drawn<=p.d->Ej P F fb el k E (NX cs r) fr fr'->fr.mode=aYY∨fr.mode=.returning->L1 P F fb el k E r base' cs cs'->(∀b,b<D4->E.rel b b)->OZ.le E->C3 F so RO E (on wL T0) w'->JZ RO Sh S E->Way P main Sh (nL P F fb el k so RO Sh OZ r base' ret Q) S (G fr' cs') w':=by
 intro p hp;induction hp with
 |intro p _ ih=>
  intro E fr fr' cs cs' wL w' S T0 W B8 AT O8 BM Cs hc Fl ew Ey Gi;by_cases M:cs=[bot]/\Fin ret fr
  ·obtain⟨rfl,M⟩:=M;have Jq:cs'=base':=by
    cases hc with
    |base=>rfl
    |cons _ _ _ t=>cases t
   subst Jq;refine .stop λm A2=>?_;have K:Na w0.drawn p.d (join p.τ wL.drawn m.tape m.drawn) p.τ:=by intro i q _ h2;unfold join;rw[if_pos (by omega)]
   have A:=Ey.rely Gi A2 p.τ;obtain⟨N,U,w1,X,Fj,AD⟩:=H0 (join p.τ wL.drawn m.tape m.drawn);have Ev:=W _ K;have Yq:p.n<=N:=by refine e8 λhlt=>?_;exact B8 _ K N hlt U w1 X Fj
   obtain⟨j,rfl⟩:=pn Yq;obtain⟨m1,h1,h2⟩:=mc X;have:m1=EB (G fr [bot]) (on wL (join p.τ wL.drawn m.tape m.drawn)):=by unfold At at Ev;rw[Ev]at h1;exact(Xy h1).symm
   subst this;have H1:=a2H L.JD BM M Fj A h2;subst H1;simp only[Ek,RH]at h2;obtain⟨h3,h4⟩:=Qx h2;simp only[G,UC]at h3;obtain⟨rfl,_⟩:=h3;subst h4;exact⟨E,fr,fr',_,rfl,BM,M,AD,ew,A,Gi⟩
  ·refine .step rfl λm A2=>?_;have K:Na w0.drawn p.d (join p.τ wL.drawn m.tape m.drawn) p.τ:=by intro i q _ h2;unfold join;rw[if_pos (by omega)]
   have A:=Ey.rely Gi A2 p.τ;generalize i1:join p.τ wL.drawn m.tape m.drawn=T at K A;obtain⟨N,U,w1,X,Fj,AD⟩:=H0 T;have Ev:=W _ K;have Yq:p.n<=N:=by refine e8 λhlt=>?_;exact B8 _ K N hlt U w1 X Fj
   obtain⟨j,rfl⟩:=pn Yq;obtain⟨m1,h1,h2⟩:=mc X;have:m1=EB (G fr cs) (on wL T):=by unfold At at Ev;rw[Ev]at h1;exact(Xy h1).symm
   subst this;obtain⟨j,rfl⟩:∃i,j=i+1:=by
    cases j with
    |succ j=>exact⟨j,rfl⟩
    |zero=>simp only[Ek,RH]at h2;obtain⟨h3,_⟩:=Qx h2;simp only[G,UC]at h3;obtain⟨rfl,rfl,_⟩:=h3;exact absurd ⟨rfl,Fj⟩ M
   have Yz:∀b,RO b->b<(on wL T).heap.size:=λb hb=>(A.kept b hb).1;have ZO:∀{D9:o7}{fn:Nat},(∀v,Be P A0 (G fr cs) v=Be P A0 (G fr cs) v)->YD (λw=>Be P A0 (G fr cs) w) (on wL T)->JY P F fb el k so RO E r base' fn (on wL T) m (Be P A0 (G fr cs) (on wL T)) D9->Be P main (G fr' cs') m=D9->∃g' w' es S',Be P main (G fr' cs') m=aYE g' w' es/\GC Sh S m w' es S'/\Way P main Sh (nL P F fb el k so RO Sh OZ r base' ret Q) S' g' w':=by
    intro D9 fn _ R Rq Mc;obtain⟨g1,C,I,lc,sk,rz,sj⟩:=R;obtain⟨v2,qu,aFj,qK,aE7,D,mw,es,es',DQ,Dg,FG,Gn,J9,K',JA,ZT⟩:=Rq.both;have fR:Be P A0 (G fr cs) (on wL T)=aYE g1 C I:=lc;rw[DQ]at fR;injection fR with fk g0 g2;subst fk g0;obtain⟨S',BW,rv⟩:=Yk (P:=P) (fn:=fn) Gi Yz JA ZT;refine⟨_,mw,_,S',Mc.trans Dg,BW,?_⟩;have aHJ:wL.drawn<=D.drawn:=rz;have Ux:∀e,Na w0.drawn D.drawn e T->Na w0.drawn p.d e p.τ:=λe h i q h3 h4=>(h i q h3 (by omega)).trans (K i q h3 h4);have sn:D.tape=T:=sk;refine ih ⟨T,p.n+1,D.drawn⟩ ⟨rfl,by show p.d<=D.drawn;omega,K,?_⟩ (wL:=D) (T0:=T) ?_ ?_ rfl (by show w0.drawn<=D.drawn;omega) FG Gn J9 (λb hb=>JA.le _ _ (Fl b hb)) (AN.le_trans ew JA.le) ?_ rv
    ·intro e s;intro i hi Yi w4 H Rw;have B:=Ux e s;rcases IW i p.n with hlt|MZ;·exact B8 e B i hlt Yi w4 H Rw
     ·obtain rfl:i=p.n:=by simp only at hi;omega
      have:=W e B;unfold At at this H;rw[this]at H;obtain⟨h3,_⟩:=Qx (Xy H);simp only[G,UC]at h3;obtain⟨rfl,rfl,_⟩:=h3;exact M ⟨rfl,Rw⟩
    ·intro e s;have B:=Ux e s;have Bp:=sj e λi q h3 h4=>s i q (by have:wL.drawn<=i:=h3;omega) h4;have gF:Be P A0 (G fr cs) (on wL e)=aYE {frame:=qu,callers:=qK,status:=aYF,dying:=J} (on D e) I:=Bp;have:=W e B;unfold At at this⊢;rw[ub,this];simp only[Ek,Pb rfl gF];rfl
    ·intro e s;intro i hi Yi w4 H Rw;have B:=Ux e s;rcases IW i p.n with hlt|MZ;·exact B8 e B i hlt Yi w4 H Rw
     ·obtain rfl:i=p.n:=by simp only at hi;omega
      have:=W e B;unfold At at this H;rw[this]at H;obtain⟨h3,_⟩:=Qx (Xy H);simp only[G,UC]at h3;obtain⟨rfl,rfl,_⟩:=h3;exact M ⟨rfl,Rw⟩
    ·have:on D T=D:=by rw[<-sn];rfl
     rw[this];exact K'
   rcases Cs with y|y
   ·have x:∀v,Be P A0 (G fr cs) v=C6 P A0 A0 fr cs J v:=λv=>cU rfl y;have EP:Be P main (G fr' cs') m=C6 P main A0 fr' cs' J m:=cU rfl (BM.mode.trans y);have QF:fr.todo=[]->NX cs r=[]:=by
     intro AH;cases hc with
     |base=>
      cases ret with
      |true=>exact SA rfl
      |false=>exact absurd ⟨rfl,by unfold Fin;exact⟨y,AH⟩⟩ M
     |cons _ _ _ t=>obtain⟨c,l,rfl⟩:=t.ne;rfl
    rcases a'9 (cs:=cs) L D5 hC LL a2 Fl A0 BM A with⟨R,f1⟩|⟨he⟩|⟨he⟩;·have lc:=R;obtain⟨g1,C,I,lc,_⟩:=lc;have Rq:=a'A L D5 hC LL a2 BI Fl A0 main BM y QF hc A ⟨g1,C,I,lc⟩ f1;refine ZO (λ_=>rfl) ?_ (by rw[x];exact Rq) EP;obtain⟨g1,C,I,a,b,c,d⟩:=R;exact⟨g1,C,I,(x _).trans a,b,c,λe s=>(x _).trans (d e s)⟩
    ·rename_i C es ch;unfold Ek at h2;rw[Pb rfl ((x _).trans he)]at h2;simp only at h2;obtain⟨Yd,h3,h4⟩:=raised fr ch;obtain⟨za,BH⟩:=qR hc.uF h3 (h4.trans BM.defers.1) h2;exfalso;unfold Fin at Fj;simp only[G]at BH;split at Fj;·rw[BH]at Fj;cases Fj
     ·rw[BH]at Fj;cases Fj.1
    ·unfold Ek at h2;rw[SZ rfl ((x _).trans he)]at h2;cases h2
   ·have x:∀v,Be P A0 (G fr cs) v=HL P A0 fr cs J v:=λv=>Qy rfl y;have EP:Be P main (G fr' cs') m=HL P main fr' cs' J m:=Qy rfl (BM.mode.trans y);cases hc with
    |base=>have:=lW L.JD BM y A h2;omega
    |cons rn Lq bT t=>
     rename_i c c' l g6;rcases vH L.JD A0 (c:=c) (cs:=l) BM y A with⟨fn,v,C,es,Ba,GG,R⟩|⟨o,C,es,he⟩;·have Rq:=a5D L.JD A0 main BM y rn Lq bT t A Ba GG;refine ZO (λ_=>rfl) ?_ (by rw[x];exact Rq) EP;obtain⟨g1,C,I,a,b,c,d⟩:=R;exact⟨g1,C,I,(x _).trans a,b,c,λe s=>(x _).trans (d e s)⟩
     ·unfold Ek at h2;rw[SZ rfl ((x _).trans he)]at h2;cases h2
end
end
end Go.Proofs.YtcfhleenecfghaaGreatDoor.Twin
