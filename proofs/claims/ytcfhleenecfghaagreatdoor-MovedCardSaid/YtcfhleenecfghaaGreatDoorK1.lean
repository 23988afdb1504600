import Derived.Laws.IdiomRangeMap
import Derived.Laws.Rows
import Derived.IntWalk
import Derived.KernelRfl
import GoSem.Core.Machine
import Derived.LoopTactic
import Derived.Shelf.Strings.Builder1
import Derived.Shelf.Strings.Builder2
import Derived.Shelf.Small.Bits
import Derived.Shelf.Small.Strs
import Derived.Shelf.Small.Wraps
import Derived.Shelf.Utf8.RuneCount
import Derived.Shelf.Strconv.Itoa0
import Derived.Shelf.Strconv.Itoa1
import Derived.Shelf.LaysM
import Derived.Shelf.Strconv.Itoa2
import Derived.Shelf.Strconv.Clone
import Derived.Shelf.Strings.Search1
import Derived.Shelf.Strings.Search2
import Derived.Shelf.Strings.Search3
import Derived.Shelf.Strings.Cut
import Derived.Shelf.Strings.Count
import Derived.Shelf.Strings.Shaped
import Derived.Shelf.Strings.Prefix
import Derived.Shelf.Strings.Split
import Derived.Shelf.Strings.SplitShaped
import Derived.Shelf.Unicode.Decode
import Derived.Shelf.Strings.RuneCount
import Derived.Shelf.Strings.Explode
import Derived.Shelf.Bits.Mul64
import Derived.Shelf.Unicode.DecodeSlow
import Derived.Shelf.Unicode.DecodeAny
import Derived.Ground.Names2Prog
import Derived.Shelf.Slices.SearchI
import Derived.Test.YtcfhleenecfghaaGreatDoorProg
import Derived.Shelf.Strings.BuilderF
import Derived.Shelf.Strings.BuilderK
import Derived.Shelf.Strings.FieldsFuncAny
import Derived.Shelf.Spec.SlicesGrow
import Derived.Shelf.SlGeneric
import Derived.Shelf.SlLaysF0
import Derived.Ground.SlsfProg
import Derived.Shelf.SlSortCmp.Whole1
import Derived.Calls
import Derived.Laws.Sem
import GoSem.Extern.BytealgIndex
import GoSem.Extern.BytealgCount
import GoSem.Extern.BytealgIndexByte
import GoSem.Extern.BytealgCompare
import GoSem.Extern.BytealgMakeNoZero
import GoSem.Extern.AbiNoEscape
import Derived.Conc.Own
import Derived.Conc.Fork
import Derived.Conc.Listed
import Derived.Conc.CrowdBase
import Derived.Conc.Beside
import Derived.Conc.LoneCalls
import Derived.Test.YtcfhleenecfghaaGreatDoorK0
set_option linter.all false
set_option maxHeartbeats 4000000
set_option maxRecDepth 100000
open Array renaming append_empty->Tw,ext'->qq,filter->Tx,find?_toList->aDR,foldlM_toList->kU,foldl_toList->aDS,forIn_toList->qs,getD_eq_getD_getElem?->QP,getElem?_append_right->a't,getElem?_eq_getElem->G8,getElem?_eq_none_iff->kV,getElem?_eq_some_iff->aV,getElem?_map->qt,getElem?_mapIdx->a'u,getElem?_push_lt->KF,getElem?_setIfInBounds->HX,getElem?_setIfInBounds_ne->Mm,mapM_eq_foldlM->kX,mem_append->aW,mem_map->a'w,mem_of_getElem?->Xk,mem_push->kY,range->qv,toList_append->a00,toList_inj->Sa
open Bind renaming bind->aX
open Bool renaming and_eq_true_iff->Cp,eq_iff_iff->Xl,false->A9,false_eq_true->Ev,not_false->Xm,not_true->Xn,or_eq_true_iff->eT,true->A5
open Classical renaming byContradiction->eV,choose->kl,choose_spec->aZ
open Decidable renaming byContradiction->a_t,decide->BK
open Except renaming bind->Xq,error->ab,ok->Gu,pure->ko
open Except.ok renaming injEq->kn
open False renaming elim->a08
open ForIn renaming forIn->Xv
open Go renaming Addr->An,BinOp->rC,Calls->Ab,Event->C5,Frame->Ah,Func->JL,FuncId->Sh,GStep->lA,Goroutine->AY,Halt->aq,HappensBefore->aEa,IntKind->ev,Item->Cd,MapEntry->Fy,Next->JM,Obj->Cq,Oper->B8,Operand->BP,PanicEntry->aF5,Place->sJ,Program->Ao,Sem->BS,Tape->Nb,Trace->DT,TypeDesc->a1N,TypeId->BL,TypeInfo->Nc,Value->A3,World->A1,asBool->sY,asInt->fN,asIntOf->sZ,askRoom->bB,behindNumber->aFj,binOp->OQ,boundsPanic->bC,byteOfCell->s_,callFunc->MA,cellAtBytes->aFl,choose->Sq,convert->fO,elemOf->lk,eqGuard->ll,execOp->AM,exitTo->Sr,fieldPlace->aFm,findLabel->sa,followBlind->aFn,globalAddr->aFo,goPanic->aFp,gotoIn->bD,load->bE,loadBytes->ln,loadCells->a1Z,loadCellsFrom->a1_,loadVar->sd,movedNumber->aFs,movedPointer->aFt,newVar->a1b,plainCell->W3,program->fQ,receiverAt->aFv,resolve->KQ,results->D5,runN->EK,runNT->EE,runtimePanic->W4,sameAddr->a1e,seen->Fc,seenCells->lo,sizeOf->Rb,step->lp,stepG->B9,storeCells->a1g,stuck->UB,typeInfo->sj,undef->AN,underlying->Ms,unsupported->aG4,unwind->I3,variablesAt->sk,yielded->I4,zeroValue->lr
open Go.Addr renaming add->Sc
open Go.Addr.mk renaming injEq->a_v
open Go.Builtin renaming append->QR,append_->U1,cap_->a0A,clear_->kr,copy_->a0B,firstCells->aDj,holdsCells->aDk,lenOf->aDl,len_->ks,mayShare->a_w,min2->kt,min_->a0C,ssaWrapNilChk_->aDm,unsafeAdd_->ku,unsafeSliceData->rD,unsafeSliceData_->aDn,unsafeString->a0D,unsafeString_->ag,zeroCells->Mo
open Go.Call renaming operands->rE
open Go.CallKind renaming early->Jk,normal->EI,wrapped->a0E
open Go.Callee renaming builtin->Fw,value->NU
open Go.Conc renaming Deaf_other->OL,awake->aDv,counts_old->a_z,crowd->ER,crowd_pick->Vj,g?_old->ef,getElem?_append_cases->Vk,hb_app->aa0,lt_size_of_getElem?->aa1,mem_ofEvents->KG,mem_seen->Vl,noRace_append->rO,runT_crowd_go->QU,runT_solo_go->aE0,solo->Df,stepT_solo->a0J,touchAt->l7,touchAt_of->rT,touch_mute->rU,touch_of->aj,woken_quitsD->Xz
open Go.ConcN renaming Deaf_absent->a0K,fork_knows->aE6,le_sumTo->ep,sumTo->Ir
open Go.Conv renaming bytesToString->a0V,seenAt->a0W,unsafePointer->a0X
open Go.Deferred renaming ofValue->U3
open Go.Ending renaming returned->AV
open Go.Extern.AbiNoEscape renaming same->rj
open Go.Extern.BytealgCompare renaming compare->a0Z
open Go.Extern.BytealgCount renaming count->a0_
open Go.Extern.BytealgIndex renaming index->a0a
open Go.Extern.BytealgIndexByte renaming indexByte->a0b
open Go.Extern.BytealgMakeNoZero renaming digits->aEV,makeNoZero->rk
open Go.Extern.Bytes renaming asByte->aEW,bytesOf->aEX,loadBytes->aEY
open Go.Fn renaming func->Bo
open Go.Frame renaming enter->Fa,finish->an,oper?->l9
open Go.FrameMode renaming panicking->rl,returning->Mp,run->LZ
open Go.GStep renaming after->KH,ended->ao,go->Bl
open Go.GoStatus renaming running->CZ
open Go.Goroutine.mk renaming injEq->U5
open Go.Halt renaming unsupported->a0c
open Go.Instr renaming alloc->aEb,box->rn,build->rp,buildSlice->ar,checkKey->rq,entry->rr,entryStore->lC,extract->a0d,field->aEc,fieldAt->ru,fill->Y1,findAsking->aEd,findKey->Vs,findNow->lD,index->a0e,indexAt->Y2,keyThatStays->a0f,loadAt->ry,lookup->Fb,makeFunc->aEf,makeInterface->aEg,makeMap->lE,makeSlice->au,mapEntry->aw,mapUpdate->Y3,next->eu,range->lF,sameBits->Y4,sameNow->a0g,slice->lG,sliceAt->aEh,sliceBound->rz,sliceBounds->aEi,storeAt->s0,sureAddr->s3,typeAssert->PK
open Go.IntKind renaming i64->AJ
open Go.Item renaming code->Aw,inLoop->NW,inRegion->Ak
open Go.Lib renaming countB->Y6,cut->Gv,goFieldsP->Vu
open Go.Loc renaming cell->KJ,low_mono->aEp,mark->NX,obj->FI
open Go.Machine renaming gs->a0o
open Go.Made renaming infoAt->s9,reckon->sA,reckonStruct->sB
open Go.Mark renaming extern->a0p,noRoom->lK
open Go.MemAct renaming ofEvent->L_,touch?->fC
open Go.MemOp renaming ofEvents->KL
open Go.Mode renaming atomic->M8,plain->U7
open Go.Next renaming enter->NY,skip->JN,value->BB
open Go.Obj renaming cells->A7,mapIter->NZ,stringIter->aEt
open Go.Op renaming addrCmp->a0q,addrMod->aEu,addrSub->aEv,assign->sD,binOp->KM,build->b1,buildSlice->lL,call->Em,complexOp->aEx,entryStore->a0r,eqGuardIn->lM,equal->U8,equalIn->PN,fieldAddr->OP,indexAddr->U9,insert->a0s,intArith->aEy,intBits->aEz,intCmp->aF',intDiv->aF0,makeFunc->b4,makeInterface->aF1,makeMap->a0t,makeSlice->lN,mapEntry->a0u,mapUpdate->a0v,maxDepth->lO,move->sE,nilCheck->lP,operands->DN,range->a0w,shift->aF2,store->La,stringOp->sF,twoPlaces->aF3,typeAssert->aF4,unary->lQ
open Go.Operand renaming const->KN,func->It,tmp->Aa
open Go.Outcome renaming stuck->sH,unsupported->sI
open Go.Proofs.Builder renaming Extra->aaF
open Go.Proofs.Lays renaming n101->aaG,n106->aaH,n122->aaI,n125->aaJ,n145->aaK,n146->aaL,n169->aaM,n229->aaN,n99->aaO
open Go.Proofs.Lays8 renaming n4->aaP
open Go.Proofs.LaysM renaming n316->aaQ
open Go.Proofs.SlLaysF renaming n6->aaR
open Go.Proofs.SlLaysF0 renaming n6->fE
open Go.Proofs.Tryz renaming prog->A6
open Go.Question renaming cut->aFU,forced->sQ,order->Vx
open Go.Region renaming wanted->Gd
open Go.Result renaming halt->Sm,ok->AP
open Go.RuntimeError renaming nilDeref->aF_
open Go.Sem renaming bind->Dl,choose->a1J,freeze->sR,frozen->a1L,getObj->Sn,program->b7,pure->Na,run->fK,runT->D4,setObj->Vy,shape->sS,store->sT
open Go.Shelf renaming Ren->Mr
open Go.Stepped renaming next->DY
open Go.Stepped.next renaming inj->YB,injEq->RZ
open Go.Trace renaming g?->lY
open Go.TypeDesc renaming array->a1O,int->R_,map->YC,pointer->PQ,slice->sW,string->a1P,unsafePointer->a1R
open Go.Unsupported renaming initOrder->a1S,noEntry->a1T
open Go.Value renaming agg->AH,bool->Ag,chan->EJ,func->Br,iface->DD,int->AB,map->AL,nilFunc->l_,nilIface->CN,ofBytes->aFe,pointer->B2,slice->A0,string->A4,tuple->Aj
open Go.World renaming cell?->Cr,farLoad->sX,farStore->lg,freeze->b9,frozen?->fM,noCell->a1V,seen->aFh,setCell->QW,viewLoad->aFi,viewStore->a1W
open Go.stepG renaming apply->Iu,exec->BY,oper->bF
open Iff renaming rfl->Sy
open List renaming all_cons->aHI,all_eq_true->Ha,cons_append->UJ,cons_ne_nil->aHL,find?_cons->aHR,foldlM_cons->aHT,foldlM_nil->aHU,getElem?_cons_succ->te,getElem?_cons_zero->aHV,getElem?_toArray->tf,map_cons->Ee,map_nil->Iw,map_toArray->JO,mem_cons->DO,mem_cons_of_mem->G1,mem_cons_self->Le,mem_map->Bt,mem_singleton->ES,range->Lf
open List.cons renaming inj->PZ
open List.mapM renaming loop->aah
open MonadExceptOf renaming throw->aHm
open Nat renaming eq_zero_or_pos->T5,exists_eq_add_of_le->tt,le_of_not_lt->UM,le_refl->Ad,le_trans->Dn,lt_irrefl->WK,lt_of_lt_of_le->Hw,lt_or_ge->JR
open Option renaming bind_eq_bind->OX,bind_eq_some_iff->IY,elim_none->tz,elim_some->aI1,map_eq_some_iff->Qf,none->J,some->Z
open Option.some renaming inj->CP,injEq->bd
open Or renaming inl->AA,inr->AF
open Prod.mk renaming injEq->mn
open Pure renaming pure->Ex
open Relation.TransGen renaming single->a3'
open Std.Legacy renaming Range->aax
open Std.Legacy.Range renaming forIn_eq_forIn_range'->aIY
namespace Go.Proofs
variable{p q:Prop}
def A'(h:p:=by omega):p:=h
def A8(h:p:=by kernel_rfl):p:=h
def AD(h:p:=by simp):p:=h
def Ac(h:p:=by decide):p:=h
def Av(h:p:=by simp;omega):p:=h
theorem BA(h:p:=by grind):p:=h
def BV(h:p:=by go_num):p:=h
def TE(h:p:=by assumption):p:=h
def DQ(h:p:=by unfold maxLen;omega):p:=h
def Rw(h:p:=by decide+kernel):p:=h
abbrev AR(w:World):Nat:=w.heap.size
abbrev Cf(w:World)(b i:Nat)(v:Value):Prop:=w.cell? ⟨b,i,none⟩=some v
abbrev Fl(w:World)(b:Nat)(o:Obj):Prop:=w.heap[b]?=some o
abbrev JE(b:Nat)(w w':World):Prop:=w.heap[b]?=w'.heap[b]?
abbrev BG(b i l c:Nat):Value:=.slice (some ⟨b,i,none⟩) l c
abbrev XU(b:Nat):Value:=.pointer (some ⟨b,0,none⟩)
abbrev O8(b i:Nat):Value:=.pointer (some ⟨b,i,none⟩)
abbrev AX(n:Int):Value:=.int .i64 n
def Ai(h:p)(e:p->q:=by intro hM;simpa using hM):q:=e h
def Af(h:p)(e:p->q:=by intro hM;rw[hM]<;>rfl):q:=e h
def As{r:Prop}(h:p)(g:r)(e:p->r->q:=by intro hM I;rw[hM];exact I):q:=e h g
def Ar(h:p)(e:p->q:=by intro hM;rwa[hM]):q:=e h
def yu{r:Prop}(h:p)(g:r)(e:p->r->q:=by intro hM I;rwa[hM]at I):q:=e h g
def BO(h:p)(e:p->q:=by intro hM;omega):q:=e h
def RB{r:Prop}(h:p)(g:r)(e:p->r->q:=by intro hM I;omega):q:=e h g
instance:Coe World Nat:=⟨λw=>w.heap.size⟩
instance{α:Type _}:CoeOut (List α) Nat:=⟨λl=>l.length⟩
instance:Coe zz (zx):=⟨λs=>s.data.toList⟩
instance:Coe Int Value:=⟨λn=>.int .i64 n⟩
instance:Coe Nat Value:=⟨λn=>.int .i64 (n:Int)⟩
instance{α:Type _}:CoeOut (Array α) Nat:=⟨λl=>l.size⟩
instance:Coe zz Nat:=⟨λs=>s.size⟩
instance:Coe zz Value:=⟨λs=>.string s⟩
def RD(h:p:=by first|omega|(simp;omega)):p:=h
def Of(h:p:=by intro u hu;simp at hu;rcases hu with rfl|rfl<;>rfl):p:=h
def uh(h:p:=by intro u hu;simp at hu;subst hu;rfl):p:=h
def Jz(h:p:=by first|exact⟨⟨k+1,A',BV,R⟩,by simp[intOf];omega⟩|(go_roundw;(case rel=>exact⟨k+1,A',BV,R⟩);(case measure=>simp[intOf];omega))):p:=h
def B3{α}{a:Array α}{i x}(h:a[i]?=some x):i<a.size:=(Array.getElem?_eq_some_iff.1 h).1
def Po{α}{a:List α}{i x}(h:a[i]?=some x):i<a.length:=(List.getElem?_eq_some_iff.1 h).1
def AE(p:Prop):Prop:=p
def AE.o(h:AE p):p:=h
def A2(h:p):AE p:=h
section
open Go.Shelf
def Tryz.aQU:Mr:=⟨λ|106=>153|213=>225|265=>328|n=>n,λ|9=>9|3=>3|n=>n,λ|n=>n⟩
def Tryz.aQT:aaH A6 Tryz.aQU:=by constructor<;>first|kernel_rfl|(intros;kernel_rfl)
open Go.RowKit in def Tryz.strings_Compare(a b:zz)(w:A1):Ab A6 153 #[a,b] w λe w'=>e=AV (Lib.compareBytes a.data.toList b.data.toList)/\w'=w:=Any.strings_Compare Tryz.aQT a b w
def Tryz.aQW:Mr:=⟨λ|122=>90|215=>175|n=>n,λ|3=>3|4=>4|n=>n,λ|n=>n⟩
def Tryz.aQV:aaI A6 Tryz.aQW:=by constructor<;>first|kernel_rfl|(intros;kernel_rfl)
open Go.RowKit in def Tryz.cmp_Compare_int(x y:Int)(w:A1):Ab A6 90 #[x,y] w λe w'=>e=AV (Lib.compareInt x y)/\w'=w:=Any.cmp_Compare_int Tryz.aQV x y w
def Tryz.aQh:Mr:=⟨λ|316=>172|n=>n,λ|9=>9|3=>3|4=>4|37=>188|0=>0|127=>307|5=>5|n=>n,λ|n=>n⟩
def Tryz.aQg:aaQ A6 Tryz.aQh:=by constructor<;>first|kernel_rfl|(intros;kernel_rfl)|(constructor<;>first|kernel_rfl|(intros;kernel_rfl))
open Go.RowKit in def Tryz.stringslite_Clone(s:zz)(w:A1)(h:s.size<=281474976710656):Ab A6 172 #[s] w λe w'=>e=AV s/\Below w w w':=Any.stringslite_Clone Tryz.aQg s w h
def Tryz.aQ_:Mr:=⟨λ|145=>118|220=>194|219=>273|217=>350|225=>351|224=>352|267=>353|266=>409|314=>410|n=>n,λ|9=>9|4=>4|59=>214|3=>3|5=>5|46=>305|146=>482|51=>323|n=>n,λ|1=>0|n=>n⟩
def Tryz.aQZ:aaK A6 Tryz.aQ_:=by constructor<;>first|kernel_rfl|(intros;kernel_rfl)
open Go.RowKit Go.Lib in def Tryz.strings_Cut(s h:zz)(m:Int)(w:A1)(hs:s.size<4294967281)(hm:w.cell? ⟨0,0,J⟩=Z (AB AJ m)):Ab A6 118 #[s,h] w λe w'=>e=AV (Aj #[A4 ⟨(Gv s h).1.toArray⟩,A4 ⟨(Gv s h).2.1.toArray⟩,Ag (Gv s h).2.2])/\∃n,w'=w.drewN n:=Any.strings_Cut Tryz.aQZ s h m w hs hm
def Tryz.aQf:Mr:=⟨λ|99=>168|206=>242|n=>n,λ|9=>9|4=>4|3=>3|n=>n,λ|n=>n⟩
def Tryz.aQe:aaO A6 Tryz.aQf:=by constructor<;>first|kernel_rfl|(intros;kernel_rfl)
open Go.RowKit Go.Lib in def Tryz.strings_HasPrefix(s p:zz)(w:A1):Ab A6 168 #[s,p] w λe w'=>e=AV (Ag (Lib.hasPrefix s p))/\w'=w:=Any.strings_HasPrefix Tryz.aQe s p w
def Tryz.aQS:Mr:=⟨λ|101=>173|208=>245|206=>242|n=>n,λ|9=>9|4=>4|3=>3|n=>n,λ|n=>n⟩
def Tryz.aQR:aaG A6 Tryz.aQS:=by constructor<;>first|kernel_rfl|(intros;kernel_rfl)
open Go.RowKit Go.Lib in def Tryz.strings_TrimPrefix(s p:zz)(w:A1):Ab A6 173 #[s,p] w λe w'=>e=AV (A4 ⟨(Lib.trimPrefix s p).toArray⟩)/\w'=w:=Any.strings_TrimPrefix Tryz.aQR s p w
def Tryz.aQb:Mr:=⟨λ|146=>174|221=>246|268=>339|138=>340|143=>341|195=>405|197=>406|218=>407|219=>273|260=>434|217=>350|225=>351|224=>352|267=>353|266=>409|314=>410|n=>n,λ|9=>9|31=>50|3=>3|4=>4|0=>0|105=>500|21=>21|5=>5|46=>305|119=>533|139=>536|138=>535|146=>482|51=>323|n=>n,λ|1=>0|3=>2|4=>3|n=>n⟩
def Tryz.aQa:aaL A6 Tryz.aQb:=by constructor<;>first|kernel_rfl|(intros;kernel_rfl)
open Go.RowKit Go.Lib in def Tryz.strings_Split(s h:zz)(m:Int)(w:A1)(hs:s.size<4294967281)(hm:w.cell? ⟨0,0,J⟩=Z (AB AJ m))(I:1<=h.size):Ab A6 174 #[s,h] w λe w'=>e=AV (A0 (Z ⟨w,0,J⟩) (Y6 s h+1) (Y6 s h+1))/\w'=w.alloc (A7 ((Lib.splitB h 0 (Y6 s h) s).map A4).toArray 9):=Any.strings_Split Tryz.aQa A8 s h m w hs hm I
def Tryz.a8g:Mr:=⟨λ|169=>103|n=>n,λ|70=>187|9=>9|0=>0|72=>190|37=>188|127=>307|3=>3|5=>5|n=>n,λ|n=>n⟩
def Tryz.a8f:aaM A6 Tryz.a8g:=by constructor<;>first|kernel_rfl|(intros;kernel_rfl)
def Tryz.a03:aaF A6 Tryz.a8g:=by constructor<;>first|kernel_rfl|decide|(intros;kernel_rfl)|(constructor<;>first|kernel_rfl|(intros;kernel_rfl))
open Go.RowKit in def Tryz.Builder_String(B b l w)(h:Lib.IsBuilder 190 5 B b (Lib.byteCells l) w)(h0:l≠[]):Ab A6 103 #[B2 (Z ⟨b,0,J⟩)] w λe w'=>e=AV (A4 ⟨l.toArray⟩)/\Below B w w':=Any.Builder_String Tryz.a8f Tryz.a03 B b l w h h0
def Tryz.aQY:Mr:=⟨λ|125=>182|128=>264|129=>265|n=>n,λ|46=>305|3=>3|51=>323|53=>242|4=>4|5=>5|9=>9|n=>n,λ|n=>n⟩
def Tryz.aQX:aaJ A6 Tryz.aQY:=by constructor<;>first|kernel_rfl|(intros;kernel_rfl)
def Tryz.bits_Len(x:Int)(w:A1)(h0:0<=x)(h:x<=18446744073709551615):Ab A6 182 #[AB .u64 x] w λe w'=>e=AV (Lib.bitLen x.toNat)/\w'=w:=Any.bits_Len Tryz.aQX x w h0 h
def Tryz.aQd:Mr:=⟨λ|229=>251|n=>n,λ|9=>9|40=>375|31=>50|152=>452|3=>3|0=>0|4=>4|21=>21|154=>454|n=>n,λ|n=>n⟩
def Tryz.aQc:aaN A6 Tryz.aQd:=by constructor<;>first|kernel_rfl|(intros;kernel_rfl)
open Go.RowKit Go.Lib in def Tryz.strings_FieldsFunc_runes(g:Nat)(I:zw)(N:∀h w,(MA g h).run A6 w=AP (NY g h) w)(p:Nat->Bool)(s:zz)(w:A1)(hs:s.size<=4294967296)(hp:PredAtRunes A6 g I p w):Ab A6 251 #[A4 s,Br (Bo g) #[] I] w λe w'=>∃A,e=AV (A0 (Z ⟨A,0,J⟩) (Vu p s) (Vu p s))/\w<=A/\w'.ownsRow w 9 1 (A0 (Z ⟨A,0,J⟩) (Vu p s) (Vu p s)) (Vu p s) ((Vu p s).map A4)/\Below w w w':=Any.strings_FieldsFunc_runes Tryz.aQc g I N p s w hs hp A8 A8
def Yi{P}{f:Nat}{B}(h:((P.funcs[f]?.map (·.name)).getD ""== "runtime.NumGoroutine")=A9)(k:P.funcs[f]?=Z {B with name:=(P.funcs[f]?.map (·.name)).getD ""}):Bears P f B:=⟨_,h,k⟩
def Tryz.a5Q:Mr:=⟨λ|4=>204|n=>n,λ|22=>119|25=>217|0=>0|3=>3|4=>4|9=>9|20=>20|n=>n,λ|n=>n⟩
def Tryz.a5P:aaP A6 Tryz.a5Q:=by constructor<;>first|kernel_rfl|exact Yi A8 A8|(intros;kernel_rfl)
def Tryz.zi:Mr:=⟨λ|6=>128|15=>182|14=>202|28=>264|29=>265|20=>295|21=>296|22=>297|23=>298|24=>299|25=>300|26=>301|27=>302|46=>360|47=>345|48=>346|49=>361|50=>362|57=>412|n=>n,λ|22=>130|24=>234|25=>235|3=>3|39=>305|0=>0|53=>323|55=>242|4=>4|46=>382|45=>381|50=>227|5=>5|9=>9|66=>455|70=>458|76=>503|77=>504|n=>n,λ|n=>n⟩
def Tryz.aCE:fE A6 Tryz.zi:=by constructor<;>first|kernel_rfl|exact Yi A8 A8|(intros;kernel_rfl)
def Tryz.ze:Mr:=⟨λ|6=>206|15=>182|14=>311|28=>264|29=>265|20=>366|21=>367|22=>368|23=>369|24=>370|25=>371|26=>372|27=>373|46=>414|47=>345|48=>346|49=>415|50=>416|57=>435|n=>n,λ|22=>47|24=>75|25=>333|3=>3|39=>305|0=>0|53=>323|55=>242|4=>4|46=>382|45=>381|50=>227|5=>5|9=>9|66=>455|70=>458|76=>503|77=>504|n=>n,λ|n=>n⟩
def Tryz.aXq:fE A6 Tryz.ze:=by constructor<;>first|kernel_rfl|exact Yi A8 A8|(intros;kernel_rfl)
def Tryz.zf:Mr:=⟨λ|6=>132|15=>182|14=>205|28=>264|29=>265|20=>303|21=>304|22=>305|23=>306|24=>307|25=>308|26=>309|27=>310|46=>363|47=>345|48=>346|49=>364|50=>365|57=>413|n=>n,λ|22=>119|24=>217|25=>239|3=>3|39=>305|0=>0|53=>323|55=>242|4=>4|46=>382|45=>381|50=>227|5=>5|9=>9|66=>455|70=>458|76=>503|77=>504|n=>n,λ|n=>n⟩
def Tryz.aCC:fE A6 Tryz.zf:=by constructor<;>first|kernel_rfl|exact Yi A8 A8|(intros;kernel_rfl)
def Tryz.aXv:Mr:=⟨λ|6=>97|15=>182|14=>181|28=>264|29=>265|20=>256|21=>257|22=>258|23=>259|24=>260|25=>261|26=>262|27=>263|46=>344|47=>345|48=>346|49=>347|50=>348|57=>408|n=>n,λ|22=>99|24=>179|25=>186|3=>3|39=>305|0=>0|53=>323|55=>242|4=>4|46=>382|45=>381|50=>227|5=>5|9=>9|66=>455|70=>458|76=>503|77=>504|n=>n,λ|n=>n⟩
def Tryz.aXu:aaR A6 Tryz.aXv:=by constructor<;>first|kernel_rfl|exact Yi A8 A8|(intros;kernel_rfl)
def Tryz.zg:Mr:=⟨λ|6=>384|15=>182|14=>424|28=>264|29=>265|20=>439|21=>440|22=>441|23=>442|24=>443|25=>444|26=>445|27=>446|46=>450|47=>345|48=>346|49=>451|50=>452|57=>455|n=>n,λ|22=>57|24=>85|25=>313|3=>3|39=>305|0=>0|53=>323|55=>242|4=>4|46=>382|45=>381|50=>227|5=>5|9=>9|66=>455|70=>458|76=>503|77=>504|n=>n,λ|n=>n⟩
def Tryz.aXx:fE A6 Tryz.zg:=by constructor<;>first|kernel_rfl|exact Yi A8 A8|(intros;kernel_rfl)
def Tryz.zh:Mr:=⟨λ|6=>151|15=>182|14=>224|28=>264|29=>265|20=>320|21=>321|22=>322|23=>323|24=>324|25=>325|26=>326|27=>327|46=>386|47=>345|48=>346|49=>387|50=>388|57=>425|n=>n,λ|22=>124|24=>221|25=>256|3=>3|39=>305|0=>0|53=>323|55=>242|4=>4|46=>382|45=>381|50=>227|5=>5|9=>9|66=>455|70=>458|76=>503|77=>504|n=>n,λ|n=>n⟩
def Tryz.aXz:fE A6 Tryz.zh:=by constructor<;>first|kernel_rfl|exact Yi A8 A8|(intros;kernel_rfl)
end
end Go.Proofs
namespace Go.Proofs.YtcfhleenecfghaaGreatDoor.Twin
variable{w w' w1 w1':A1}{k k' v v' x x' y y':A3}{d8 fr':Ah}{Rt a a' at_ b':An}{P:Ao}{c c':zw}{es es1:Array C5}{t u:BL}{V6:BL->Option Nc}{ρ ρ':BP->A3}{b:Bool}{o':Cq}{fn:JL}{qr:JM}{B5:zx}{i:Nc}{lc α:Type}
def CX:Nat:=6
def veiled(t:Nat):Prop:=t=190∨t=5
structure AZ where
 rel:Nat->zy
 one:∀b c c',rel b c->rel b c'->c=c'
 other:∀b b' c,rel b c->rel b' c->b=b'
 low:∀b c,rel b c->(b<CX↔c<CX)
variable{E i4:AZ}
def AZ.le(E I:AZ):Prop:=∀b h,E.rel b h->I.rel b h
def AZ.kq(E:AZ)(b b':Nat):Prop:=(∀c,¬E.rel b c)/\(∀c,¬E.rel c b')/\(b<CX↔b'<CX)
def AZ.add(E:AZ)(b b')(h:E.kq b b'):AZ where
 rel:=λx y=>E.rel x y∨x=b/\y=b'
 one:=by
  rintro x c c'(I|⟨rfl,rfl⟩)(h2|⟨h3,rfl⟩);.exact E.one _ _ _ I h2
  .subst h3;exact absurd I (h.1 _)
  .exact absurd h2 (h.1 _)
  rfl
 other:=by
  rintro x N c(I|⟨rfl,rfl⟩)(h2|⟨rfl,h3⟩);.exact E.other _ _ _ I h2
  .subst h3;exact absurd I (h.2.1 _)
  .exact absurd h2 (h.2.1 _)
  rfl
 low:=by
  rintro x c(I|⟨rfl,rfl⟩);.exact E.low _ _ I
  exact h.2.2
def AZ.le_refl(E:AZ):E.le E:=λ_ _ h=>h
def AZ.le_trans{d:AZ}(h:E.le i4)(k:i4.le d):E.le d:=λb I x=>k b I (h b I x)
def AZ.jK(E:AZ)(b b' h):E.le (E.add b b' h):=λ_ _ h=>AA h
def AZ.Rr(E:AZ)(b b')(h):(E.add b b' h).rel b b':=AF ⟨rfl,rfl⟩
def C6(E:AZ)(a a':An):Prop:=E.rel a.block a'.block/\a'.off=a.off/\a'.spot=a.spot
def C6.mono(h:C6 E a a')(hE:E.le i4):C6 i4 a a':=⟨hE _ _ h.1,h.2⟩
theorem C6.add{E a a'}(h:C6 E a a')(n):C6 E (a.add n) (a'.add n):=by
 let⟨h1,h2,h3⟩:=h;unfold Sc;split;.grind
 exact⟨h1,BA,rfl⟩
mutual inductive AK(F:zy)(E:AZ):A3->A3->Prop|bool(b:Bool):AK F E (Ag b) (Ag b)|int(k:ev)(n:Int):AK F E (AB k n) (AB k n)|string(s:zz):AK F E s s|GR:AK F E (B2 J) (B2 J)|ptr{a a':An}:C6 E a a'->AK F E (B2 (Z a)) (B2 (Z a'))|FZ(l c:Nat):AK F E (A0 J l c) (A0 J l c)|slice{a a':An}(l c:Nat):C6 E a a'->AK F E (A0 (Z a) l c) (A0 (Z a') l c)|R7:AK F E (AL J) (AL J)|map{r r':Nat}:E.rel r r'->AK F E (AL (Z r)) (AL (Z r'))|WZ:AK F E (EJ J) (EJ J)|chan{r r':Nat}:E.rel r r'->AK F E (EJ (Z r)) (EJ (Z r'))|func{f:Nat}{a a' b b':zw}:F f->Al F E a.toList a'.toList->Al F E b.toList b'.toList->AK F E (Br (Bo f) a b) (Br (Bo f) a' b')|nilFunc:AK F E l_ l_|iface(t:Nat){v v':A3}:AK F E v v'->AK F E (DD t v) (DD t v')|nilIface:AK F E CN CN|agg{a a':zw}:Al F E a.toList a'.toList->AK F E (AH a) (AH a')|tuple{a a':zw}:Al F E a.toList a'.toList->AK F E (Aj a) (Aj a')inductive Al(F:zy)(E:AZ):List A3->List A3->Prop|nil:Al F E [] []|cons{v v':A3}{l l':List A3}:AK F E v v'->Al F E l l'->Al F E (v::l) (v'::l')end
mutual theorem AK.mono{F:zy}{E i4:AZ}(hE:E.le i4):∀{v v':A3},AK F E v v'->AK F i4 v v'|_,_,.bool b=>.bool b|_,_,.int k n=>.int k n|_,_,.string s=>.string s|_,_,.GR=>.GR|_,_,.ptr h=>.ptr (h.mono hE)|_,_,.FZ l c=>.FZ l c|_,_,.slice l c h=>.slice l c (h.mono hE)|_,_,.R7=>.R7|_,_,.map h=>.map (hE _ _ h)|_,_,.WZ=>.WZ|_,_,.chan h=>.chan (hE _ _ h)|_,_,.func h a b=>.func h (a.mono hE) (b.mono hE)|_,_,.nilFunc=>.nilFunc|_,_,.iface t h=>.iface t (h.mono hE)|_,_,.nilIface=>.nilIface|_,_,.agg h=>.agg (h.mono hE)|_,_,.tuple h=>.tuple (h.mono hE)theorem Al.mono{F:zy}{E i4:AZ}(hE:E.le i4):∀{l l':List A3},Al F E l l'->Al F i4 l l'|_,_,.nil=>.nil|_,_,.cons h t=>.cons (h.mono hE) (t.mono hE)end
section
variable{F:zy}{E:AZ}
def Al.length:∀{l l'},Al F E l l'->l'.length=l|_,_,.nil=>rfl|_,_,.cons _ t=>congrArg (·+1) t.length
def Al.get:∀{l l'},Al F E l l'->∀(i:Nat){v},l[i]?=Z v->∃v',l'[i]?=Z v'/\AK F E v v'|_,_,.nil,i,_,h=>BA|_,_,.cons h t,0,_,e=>BA|_,_,.cons h t,i+1,_,e=>by simpa using t.get i BA
theorem Al.of{l l':List A3}(hl:l'.length=l)(h:∀(i:Nat)(v v':A3),l[i]?=v->l'[i]?=v'->AK F E v v'):Al F E l l':=by
 induction l generalizing l' with
 |nil=>
  cases l' with
  |nil=>exact .nil
  |cons=>grind
 |cons v l I=>
  cases l' with
  |nil=>grind
  |cons v' l'=>exact .cons (h 0 v v' rfl rfl) (I BA λi x N e U=>h (i+1) x N BA BA)
def Al.append:∀{a a' b b'},Al F E a a'->Al F E b b'->Al F E (a++b) (a'++b')|_,_,_,_,.nil,k=>k|_,_,_,_,.cons h t,k=>.cons h (t.append k)
def Al.drop:∀{l l'}(n),Al F E l l'->Al F E (l.drop n) (l'.drop n)|_,_,0,h=>BA|_,_,n+1,.nil=>by simpa using .nil|_,_,n+1,.cons _ t=>by simpa using t.drop n
def Al.take:∀{l l'}(n),Al F E l l'->Al F E (l.take n) (l'.take n)|_,_,0,_=>by simpa using .nil|_,_,n+1,.nil=>by simpa using .nil|_,_,n+1,.cons h t=>by simpa using .cons h (t.take n)
end
def NT(p q:Nat×Nat):Prop:=q.1=q.2∨p.1<=q.1/\q.2<=p.2/\p.1≠p.2
theorem NT.refl(p):NT p p:=by
 by_cases h:p.1=p.2;.exact AA h
 exact AF ⟨Ad _,Ad _,h⟩
inductive DM(F:zy)(E:AZ):List Fy->List Fy->Prop|nil:DM F E [] []|cons{k k' v v':A3}{n:Nat}{l l':List Fy}:AK F E k k'->AK F E v v'->DM F E l l'->DM F E ({key:=k,val:=v,born:=n}::l) ({key:=k',val:=v',born:=n}::l')
inductive Ff(F:zy)(E:AZ):Cq->Cq->Prop|cells{c c':zw}(t:Nat){p q:Nat×Nat}:Al F E c.toList c'.toList->NT p q->Ff F E (A7 c t p) (A7 c' t q)|number{a a':An}(l:Bool):C6 E a a'->Ff F E (.number a l) (.number a' l)|map{es es':Array Fy}(n:Nat):DM F E es.toList es'.toList->Ff F E (.map es n) (.map es' n)|chan(cap:Nat){b b':zw}(cl:Bool)(s r:Nat)(tm:Bool):Al F E b.toList b'.toList->Ff F E (.chan cap b cl s r tm) (.chan cap b' cl s r tm)|stringIter(s:zz)(p:Nat):Ff F E (aEt s p) (aEt s p)|jM(a:Nat)(s:Array Nat)(b:Nat):Ff F E (NZ J a s b) (NZ J a s b)|mapIter{m m':Nat}(a:Nat)(s:Array Nat)(b:Nat):E.rel m m'->Ff F E (NZ (Z m) a s b) (NZ (Z m') a s b)|view{a a':An}(t:Nat):veiled t->C6 E a a'->Ff F E (.view a t) (.view a' t)
def DM.mono{F E i4}(hE:E.le i4):∀{l l'},DM F E l l'->DM F i4 l l'|_,_,.nil=>.nil|_,_,.cons h k t=>.cons (h.mono hE) (k.mono hE) (t.mono hE)
def Ff.mono{F E i4}(hE:E.le i4):∀{o o'},Ff F E o o'->Ff F i4 o o'|_,_,.cells t h z=>.cells t (h.mono hE) z|_,_,.number l h=>.number l (h.mono hE)|_,_,.map n h=>.map n (h.mono hE)|_,_,.chan cap cl s r tm h=>.chan cap cl s r tm (h.mono hE)|_,_,.stringIter s p=>.stringIter s p|_,_,.jM a s b=>.jM a s b|_,_,.mapIter a s b h=>.mapIter a s b (hE _ _ h)|_,_,.view t v h=>.view t v (h.mono hE)
inductive YS(E:AZ):Mark->Mark->Prop|extern(f:Nat):YS E (a0p f) (a0p f)|noRoom:YS E lK lK
def TR:aq->Prop|.panic _|.stuck _=>True|a0c u=>∀g,u≠a1S g|_=>False
def BD(P:Ao){α}(s:BS α):Prop:=∀w es,∃h I es1,s.runT P w es=(Sm h I,es1)/\TR h
def ET(P:Ao){α}(s:BS α):Prop:=∀w es h I es1,s.runT P w es=(Sm h I,es1)->TR h
theorem BD.ne{s:BS α}(h:BD P s)(w)(es)(a)(w1)(es1):s.runT P w es≠(AP a w1,es1):=by let⟨x,y,z,e,_⟩:=h w es;grind
def LR(s:BS α)(f:α->BS lc):∀(w:A1)(es:Array C5),(s.bind f).runT P w es=match s.runT P w es with|(AP a w1,es1)=>(f a).runT P w1 es1|(Sm h w1,es1)=>(Sm h w1,es1):=by
 induction s with
 |pure a=>intro w es;rfl
 |load m a k I=>
  intro w es;simp only[Dl,D4];split;.exact I ..
  split;.exact I ..
  rfl
 |store m a v k I=>
  intro w es;cases v<;>simp only[Dl,D4];all_goals
   split
   .split;.rfl
    exact I ..
   split;.exact I ..
   rfl
 |new o k I=>intro w es;exact I ..
 |shape r k I=>intro w es;exact I ..
 |freeze a n k I=>intro w es;exact I ..
 |frozen a k I=>intro w es;exact I ..
 |getObj r k I=>
  intro w es;simp only[Dl,D4];split;.rfl
  .exact I ..
  rfl
 |setObj r o k I=>
  intro w es;simp only[Dl,D4];split;.rfl
  .exact I ..
  rfl
 |choose q k I=>
  intro w es;simp only[Dl,D4];split;.exact I ..
  exact I ..
 |sys c k I=>intro w es;exact I ..
 |program k I=>intro w es;exact I ..
 |mark m k I=>intro w es;exact I ..
 |halt h=>intro w es;rfl
def BD.bind{P α lc s}{f:α->BS lc}(h:BD P s):BD P (s.bind f):=by intro w es;let⟨x,y,z,e,k⟩:=h w es;exact⟨x,y,z,by rw[LR,e],k⟩
def BD.behind{s}{f:α->BS lc}(hm:ET P s)(h:∀a,BD P (f a)):BD P (s.bind f):=by
 intro w es;rw[LR];split;.exact h ..
 rename_i e;exact⟨_,_,_,rfl,hm _ _ _ _ _ e⟩
def BD.halt{P:Program}{α:Type}(h)(hh:TR h:=by first|trivial|(intro g e;cases e)):BD P (.halt h:Sem α):=λ_ _=>⟨_,_,_,rfl,hh⟩
def ET.bind{P α lc s}{f:α->BS lc}(hs:ET P s)(h:∀a,ET P (f a)):ET P (s.bind f):=by
 intro w es x I es1 e;rw[LR]at e;split at e;.exact h _ _ _ _ _ _ e
 rename_i e2;cases e;exact hs _ _ _ _ _ e2
def ET.pure(a:α):ET P (Na a):=λ_ _ _ _ _ e=>by cases e
def ET.program{k:Ao->BS α}(h:ET P (k P)):ET P (b7 k):=λ_ _ _ _ _ e=>h _ _ _ _ _ e
theorem ET.dead{s:BS α}(h:BD P s):ET P s:=by intro w es x I es1 e;let⟨y,_,_,e2,k⟩:=h w es;grind
structure D3 where
 obj:zy
 fz:Prop
 own:Nat->List Nat
 J3:Prop
def Vf(o o':Cq):Prop:=∀c t p c' d q,o=A7 c t p->o'=A7 c' d q->q=p
def AZ.Self(E:AZ):Prop:=∀b h,E.rel b h->h=b
def C6.self(hE:E.Self)(h:C6 E a a'):a'=a:=by let⟨b',o',s'⟩:=a';let⟨h1,h2,h3⟩:=h;simp only at h1 h2 h3;rw[hE _ _ h1,h2,h3]
mutual theorem AK.same{F:zy}{E:AZ}(hE:E.Self):∀{v v':A3},AK F E v v'->v'=v|_,_,.bool b=>rfl|_,_,.int k n=>rfl|_,_,.string s=>rfl|_,_,.GR=>rfl|_,_,.ptr h=>by rw[h.self hE]|_,_,.FZ l c=>rfl|_,_,.slice l c h=>by rw[h.self hE]|_,_,.R7=>rfl|_,_,.map h=>by rw[hE _ _ h]|_,_,.WZ=>rfl|_,_,.chan h=>by rw[hE _ _ h]|_,_,.func (a:=a) (a':=a') (b:=b) (b':=b') _ x y=>by have h1:a'=a:=Sa.1 (x.same hE);let h2:b'=b:=Sa.1 (y.same hE);rw[h1,h2]|_,_,.nilFunc=>rfl|_,_,.iface t h=>by rw[h.same hE]|_,_,.nilIface=>rfl|_,_,.agg (a:=a) (a':=a') h=>by let h1:a'=a:=Sa.1 (h.same hE);rw[h1]|_,_,.tuple (a:=a) (a':=a') h=>by let h1:a'=a:=Sa.1 (h.same hE);rw[h1]theorem Al.same{F:zy}{E:AZ}(hE:E.Self):∀{l l':List A3},Al F E l l'->l'=l|_,_,.nil=>rfl|_,_,.cons h t=>by rw[h.same hE,t.same hE]end
theorem DM.same{F E}(hE:E.Self):∀{l l'},DM F E l l'->l'=l|_,_,.nil=>rfl|_,_,.cons h k t=>by grind[h.same,k.same,t.same]
theorem Ff.same{F E}(hE:E.Self){o o'}(h:Ff F E o o')(hz:Vf o o'):o'=o:=by cases h with|cells t hv _=>rw[Sa.1 (hv.same hE),hz _ _ _ _ _ _ rfl rfl]|number l h=>rw[h.self hE]|map n h=>have I:=Sa.1 (h.same hE);grind|chan cap cl s r tm h=>have I:=Sa.1 (h.same hE);grind|stringIter s p=>rfl|jM a s b=>rfl|mapIter a s b h=>rw[hE _ _ h]|view t _ h=>rw[h.self hE]
inductive AQ(P:Ao)(F:zy)(so:D3){α:Type}(Q:AZ->α->α->Prop):AZ->BS α->BS α->Prop|pure{E:AZ}{a a':α}:Q E a a'->AQ P F so Q E (Na a) (Na a')|load{E:AZ}(m:Mode){a a':An}{k k':A3->BS α}:C6 E a a'->(∀v v',AK F E v v'->AQ P F so Q E (k v) (k' v'))->AQ P F so Q E (.load m a k) (.load m a' k')|store{E:AZ}(m:Mode){a a':An}{v v':A3}{k k':BS α}:C6 E a a'->AK F E v v'->AQ P F so Q E k k'->AQ P F so Q E (sT m a v k) (sT m a' v' k')|new{E:AZ}{o o':Cq}{k k':Nat->BS α}(ho:Ff F E o o')(hk:∀b b'(hb:E.kq b b'),AQ P F so Q (E.add b b' hb) (k b) (k' b'))(hz:Vf o o':=by(intro _ _ _ _ _ _ e e';first|(cases e;cases e';rfl)|cases e)):AQ P F so Q E (.new o k) (.new o' k')|shape{E:AZ}{r r':Nat}{k k':Option (BL×Nat)->BS α}:E.rel r r'->(∀s,AQ P F so Q E (k s) (k' s))->AQ P F so Q E (sS r k) (sS r' k')|freeze{E:AZ}{a a':An}(n:Nat){k k':BS α}:so.fz->C6 E a a'->AQ P F so Q E k k'->AQ P F so Q E (sR a n k) (sR a' n k')|frozen{E:AZ}{a a':An}{k k':Bool->BS α}:so.J3->C6 E a a'->(∀b:Bool,AQ P F so Q E (k b) (k' b))->AQ P F so Q E (a1L a k) (a1L a' k')|getObj{E:AZ}{r r':Nat}{k k':Cq->BS α}:E.rel r r'->(∀o o',Ff F E o o'->AQ P F so Q E (k o) (k' o'))->AQ P F so Q E (Sn r k) (Sn r' k')|setObj{E:AZ}{r r':Nat}{o o':Cq}{k k':BS α}:so.obj r->E.rel r r'->(∀c t p,o≠A7 c t p)->Ff F E o o'->AQ P F so Q E k k'->AQ P F so Q E (Vy r o k) (Vy r' o' k')|choose{E:AZ}(q:Question){k k':Nat->BS α}:(∀n,AQ P F so Q E (k n) (k' n))->AQ P F so Q E (a1J q k) (a1J q k')|program{E:AZ}{k k':Ao->BS α}:AQ P F so Q E (k P) (k' P)->AQ P F so Q E (b7 k) (b7 k')|mark{E:AZ}{m m':Mark}{k k':BS α}:YS E m m'->AQ P F so Q E k k'->AQ P F so Q E (.mark m k) (.mark m' k')|dead{E:AZ}{s:BS α}(s':BS α):BD P s->AQ P F so Q E s s'
def AQ.halt{P:Program}{F:zy}{so:D3}{α:Type}{Q:AZ->α->α->Prop}{E:AZ}(h)(s)(hh:TR h:=by first|trivial|(intro g e;cases e)):AQ P F so Q E (.halt h) s:=.dead s (BD.halt h hh)
def AQ.bind{P F so α lc Q R E s s'}{f f':α->BS lc}(h:AQ P F so Q E s s')(hf:∀N,E.le N->∀a a',Q N a a'->AQ P F so R N (f a) (f' a')):AQ P F so R E (s.bind f) (s'.bind f'):=by induction h with|pure q=>exact hf _ (AZ.le_refl _) _ _ q|load m a _ I=>exact .load m a λv v' hv=>I v v' hv hf|store m a v _ I=>exact .store m a v (I hf)|new o _ hz I=>exact .new o (λb U hb=>I b U hb λN hE=>hf N (AZ.le_trans (AZ.jK _ _ _ hb) hE)) hz|shape r _ I=>exact .shape r λs=>I s hf|freeze n z a _ I=>exact .freeze n z a (I hf)|frozen z a _ I=>exact .frozen z a λb=>I b hf|getObj r _ I=>exact .getObj r λo o' ho=>I o o' ho hf|setObj w r hc o _ I=>exact .setObj w r hc o (I hf)|choose q _ I=>exact .choose q λn=>I n hf|program _ I=>exact .program (I hf)|mark m _ I=>exact .mark m (I hf)|dead s' h=>exact .dead _ h.bind
structure C9(F:zy)(so:D3)(RO:zy)(E:AZ)(w w':A1):Prop where
 heap:∀b b',E.rel b b'->∃o o',w.heap[b]?=Z o/\w'.heap[b']?=Z o'/\Ff F E o o'
 tape:∀i q,w'.tape (w'.drawn+i) q=w.tape (w.drawn+i) q
 kept:∀b,RO b->b<w/\((∃c t p,w.heap[b]?=Z (A7 c t p)/\∀x,x<c.size->p.1<=x/\x<p.2/\True)∨¬so.obj b/\∀c t p,w.heap[b]?≠Z (A7 c t p))
 low:CX<=w/\CX<=w'
 even:so.J3->∀b b',E.rel b b'->∀o o',w.heap[b]?=Z o->w'.heap[b']?=Z o'->Vf o o'
def bR(E:AZ)(w w':A1):Prop:=E.Self/\w'.heap=w.heap
structure FR(Pr:zy)(E:AZ)(w w':A1)(E1:AZ)(w1 w1':A1):Prop where
 le:E.le E1
 fresh:∀b b',E1.rel b b'->E.rel b b'∨w<=b/\b<w1/\w'<=b'/\b'<w1'
 size:w.heap.size<=w1
 k8:w'.heap.size<=w1'
 os:w1'.os=w'.os
 output:w1'.output=w'.output
 tape:w1'.tape=w'.tape
 e9:w1.tape=w.tape
 drawn:∃n,w1.drawn=w.drawn+n/\w1'.drawn=w'.drawn+n
 rest:∀b',b'<w'.heap.size->(∀b,E.rel b b'->Pr b)->w1'.heap[b']?=w'.heap[b']?
 V4:bR E w w'->bR E1 w1 w1'
theorem FR.refl(Pr)(E)(w w'):FR Pr E w w' E w w':=⟨AZ.le_refl _,λ_ _ h=>AA h,Ad _,Ad _,rfl,rfl,rfl,rfl,⟨0,rfl,rfl⟩,λ_ _ _=>rfl,id⟩
theorem FR.trans{Pr E E1 E2 w w' w1 w1' w2 w2'}(h:FR Pr E w w' E1 w1 w1')(k:FR Pr E1 w1 w1' E2 w2 w2'):FR Pr E w w' E2 w2 w2':=by
 let⟨n,a,a'⟩:=h.drawn;let⟨m,c,c'⟩:=k.drawn;let d:=h.size;let N:=h.k8;let s2:=k.size;let U:=k.k8;refine⟨AZ.le_trans h.le k.le,λb I x=>?_,A',A',k.os.trans h.os,k.output.trans h.output,k.tape.trans h.tape,k.e9.trans h.e9,⟨n+m,A',A'⟩,λI hb hn=>?_,λi=>k.V4 (h.V4 i)⟩
 .rcases k.fresh b I x with y|⟨x1,x2,x3,x4⟩
  .rcases h.fresh b I y with z|⟨y1,y2,y3,e⟩;.exact AA z
   exact AF ⟨y1,A',y3,A'⟩
  grind
 rw[k.rest I A' λb x=>?_,h.rest I hb hn];rcases h.fresh b I x with z|⟨_,_,y3,_⟩;.exact hn b z
 grind
inductive Ve(RO:zy)(E:AZ):C5->C5->Prop|cell{a a':An}(w s:Bool):C6 E a a'->(w=A5->¬RO a.block)->Ve RO E ⟨KJ a,w,s⟩ ⟨KJ a',w,s⟩|obj{r r':Nat}(w s:Bool):E.rel r r'->(w=A5->¬RO r)->Ve RO E ⟨FI r,w,s⟩ ⟨FI r',w,s⟩|mark{m m':Mark}:YS E m m'->Ve RO E ⟨NX m,A9,A5⟩ ⟨NX m',A9,A5⟩
inductive Jj(RO:zy)(E:AZ):List C5->List C5->Prop|nil:Jj RO E [] []|snoc{l l':List C5}{e e':C5}:Jj RO E l l'->Ve RO E e e'->Jj RO E (l++[e]) (l'++[e'])
def YS.mono:∀{m m'},YS E m m'->YS i4 m m'|_,_,.extern f=>.extern f|_,_,.noRoom=>.noRoom
def Ve.mono{RO E i4}(hE:E.le i4):∀{e e'},Ve RO E e e'->Ve RO i4 e e'|_,_,.cell w s h r=>.cell w s (h.mono hE) r|_,_,.obj w s h r=>.obj w s (hE _ _ h) r|_,_,.mark h=>.mark h.mono
def Jj.mono{RO E i4}(hE:E.le i4):∀{l l'},Jj RO E l l'->Jj RO i4 l l'|_,_,.nil=>.nil|_,_,.snoc t h=>.snoc (t.mono hE) (h.mono hE)
section
variable{P:Ao}{F:zy}{so:D3}{RO:zy}
def C9.cell{E:AZ}{w w':A1}{a a':An}{v:A3}(h:C9 F so RO E w w')(ha:C6 E a a')(hc:w.cell? a=v):∃v',w'.cell? a'=Z v'/\AK F E v v':=by
 let⟨o,o',e,e',ho⟩:=h.heap _ _ ha.1;unfold Cr at hc⊢;rw[e]at hc;rw[e'];cases ho with
 |cells t hv z=>
  simp only at hc⊢;rw[ha.2.2,ha.2.1];split at hc;.cases hc
  rename_i hs;obtain⟨v',x,y⟩:=hv.get a.off (Ai hc);exact⟨v',by rw[if_neg hs];simpa using x,y⟩
 |_=>cases hc
theorem C9.frozen{E w w' a a'}(h:C9 F so RO E w w')(ha:C6 E a a')(hf:w'.frozen? a'=A5):w.frozen? a=A5:=by
 let⟨o,o',e,e',ho⟩:=h.heap _ _ ha.1;unfold fM at hf⊢;rw[e']at hf;rw[e];cases ho with
 |cells t hv z=>
  simp only[ha.2.1,Bool.and_eq_true,decide_eq_true_eq]at hf⊢;rcases z with z|z;.omega
  omega
 |_=>cases hf
def C9.aME(h:C9 F so RO E w w')(hz:so.J3)(ha:C6 E a a'):w'.frozen? a'=w.frozen? a:=by let⟨o,o',e,e',ho⟩:=h.heap _ _ ha.1;let hq:=h.even hz _ _ ha.1 o o' e e';unfold fM;rw[e,e'];cases ho with|cells t hv z=>rw[hq _ _ _ _ _ _ rfl rfl,ha.2.1]|_=>rfl
def C9.shape{E w w' r r'}(h:C9 F so RO E w w')(hr:E.rel r r'):w'.shape? r'=w.shape? r:=by let⟨o,o',e,e',ho⟩:=h.heap _ _ hr;unfold World.shape?;rw[e,e'];cases ho with|cells t hv z=>have:=hv.length;simp at this;simp[this]|_=>rfl
theorem C9.draw(h:C9 F so RO E w w'):C9 F so RO E {w with drawn:=w.drawn+1} {w' with drawn:=w'.drawn+1}:=⟨h.heap,λi q=>by have:=h.tape (i+1) q;grind,h.kept,h.low,h.even⟩
def a5L(a:Array α)(x):(a.push x)[a.size]?=x:=AD
theorem C9.lt(h:C9 F so RO E w w'){b b':Nat}(x:E.rel b b'):b<w/\b'<w':=by let⟨o,o',e,e',_⟩:=h.heap b b' x;grind
theorem C9.fresh(h:C9 F so RO E w w'):E.kq w w':=⟨λ_ x=>WK _ (h.lt x).1,λ_ x=>WK _ (h.lt x).2,BO h.low⟩
theorem C9.push{E:AZ}{w w':A1}{o o':Cq}(h:C9 F so RO E w w')(ho:Ff F E o o')(hq:Vf o o'):C9 F so RO (E.add w w' h.fresh) {w with heap:=w.heap.push o} {w' with heap:=w'.heap.push o'}:=by
 refine⟨λb I x=>?_,h.tape,λb hb=>?_,by have:=h.low;grind,λhz b I x p p' e N=>?_⟩
 .rcases x with x|⟨rfl,rfl⟩
  .let⟨o1,o1',e,N,k⟩:=h.heap b I x;have:=h.lt x;refine⟨o1,o1',?_,?_,k.mono (AZ.jK _ _ _ _)⟩;.show(w.heap.push o)[b]?=_;rw[KF this.1,<-e,G8 this.1]
   grind
  exact⟨o,o',a5L ..,a5L ..,ho.mono (AZ.jK _ _ _ _)⟩
 .let⟨hl,k⟩:=h.kept b hb;grind
 rcases x with x|⟨rfl,rfl⟩;.let l:=h.lt x;rw[KF l.1]at e;rw[KF l.2]at N;exact h.even hz b I x p p' (Ar (G8 l.1)) (Ar (G8 l.2))
 grind
end
section
variable{P:Ao}{F:zy}{so:D3}{RO:zy}
theorem aM5{a a':Array Cq}{r n:Nat}{o:Cq}(h:n<=a)(n2:a'[r]?=o)(k2:∀b,b≠r->a'[b]?=a[b]?):n<=a':=by
 cases n with
 |zero=>grind
 |succ n=>
  by_cases e:n=r;.grind
  have:=k2 n e;grind
def C9.put{r r':Nat}{o:Cq}(h:C9 F so RO E w w')(hr:E.rel r r')(ho:Ff F E o o')(d:w1.heap.size=w)(n1:w1.heap[r]?=o)(U:∀b,b≠r->w1.heap[b]?=w.heap[b]?)(t1:w1.tape=w.tape)(d1:w1.drawn=w.drawn)(n2:w1'.heap[r']?=o')(k2:∀b,b≠r'->w1'.heap[b]?=w'.heap[b]?)(t2:w1'.tape=w'.tape)(d2:w1'.drawn=w'.drawn)(hk:RO r->(∃c t p,o=A7 c t p/\∀x,x<c.size->p.1<=x/\x<p.2/\True)∨¬so.obj r/\∀c t p,o≠A7 c t p)(hz:so.J3->Vf o o'):C9 F so RO E w1 w1':=by
 refine⟨λb N x=>?_,λi q=>by rw[t1,d1,t2,d2];exact h.tape i q,λb hb=>?_,⟨As d h.low.1,aM5 h.low.2 n2 k2⟩,λhf b N x p p' e I=>?_⟩
 .by_cases e:b=r;.subst e;obtain rfl:=E.one _ _ _ hr x;exact⟨o,o',n1,n2,ho⟩
  let⟨p,p',y,y',z⟩:=h.heap b N x;exact⟨p,p',Ar (U b e),Ar (k2 N λI=>e (E.other _ _ _ x (I▸hr))),z⟩
 .let⟨hl,k⟩:=h.kept b hb;refine⟨Ar d,?_⟩;by_cases e:b=r
  .subst e;rw[n1];rcases hk hb with⟨c,t,p,rfl,y⟩|⟨y,z⟩;.exact AA ⟨c,t,p,rfl,y⟩
   exact AF ⟨y,λc t p x=>z c t p (CP x)⟩
  rwa[U b e]
 by_cases eb:b=r;.subst eb;obtain rfl:=E.one _ _ _ hr x;rw[n1]at e;rw[n2]at I;obtain rfl:=CP e;obtain rfl:=CP I;exact hz hf
 rw[U b eb]at e;rw[k2 N λy=>eb (E.other _ _ _ x (y▸hr))]at I;exact h.even hf b N x p p' e I
theorem FR.put{Pr:zy}{r':Nat}(hE:∃b,E.rel b r'/\¬Pr b)(d:w1.heap.size=w)(I:w1.tape=w.tape)(d1:w1.drawn=w.drawn)(s2:w1'.heap.size=w')(k2:∀b,b≠r'->w1'.heap[b]?=w'.heap[b]?)(N:w1'.tape=w'.tape)(d2:w1'.drawn=w'.drawn)(o2:w1'.os=w'.os)(U:w1'.output=w'.output)(hi:bR E w w'->w1'.heap=w1.heap):FR Pr E w w' E w1 w1':=⟨AZ.le_refl _,λ_ _ x=>AA x,A',A',o2,U,N,I,⟨0,A',A'⟩,λh _ hn=>k2 h λe=>by grind,λi=>⟨i.1,hi i⟩⟩
def Al.set{E l l' v v'}(h:Al F E l l')(hv:AK F E v v')(i):Al F E (l.set i v) (l'.set i v'):=by
 refine Al.of (by simp[h.length]) λj x N e I=>?_;rw[List.getElem?_set]at e I;let hl:=h.length;split at e
 .rename_i hij;split at e;.rw[if_pos hij,if_pos A']at I;obtain rfl:=CP e;obtain rfl:=CP I;exact hv
  cases e
 rename_i hij;rw[if_neg hij]at I;let⟨y,y1,y2⟩:=h.get j e;rw[y1]at I;obtain rfl:=CP I;exact y2
theorem VI(a:Array α)(i)(f){x:α}(h:a[i]?=x):(a.modify i f)[i]?=Z (f x):=by grind
theorem O7(a:Array α)(i)(f){j}(h:j≠i):(a.modify i f)[j]?=a[j]?:=by grind
def Vf.cells{d d' f u' p q}(h:Vf (A7 c t p) (A7 c' f q)):Vf (A7 d u p) (A7 d' u' q):=by intro _ _ _ _ _ _ e I;cases e;cases I;exact h _ _ _ _ _ _ rfl rfl
def C9.set{E:AZ}{w w':A1}{a a':An}{v v' u:A3}(h:C9 F so RO E w w')(ha:C6 E a a')(hv:AK F E v v')(hc:w.cell? a=u)(hro:¬RO a.block):C9 F so RO E (w.setCell a v) (w'.setCell a' v')/\FR RO E w w' E (w.setCell a v) (w'.setCell a' v'):=by
 let⟨o,o',e,e',ho⟩:=h.heap _ _ ha.1;let N:=hc;unfold Cr at hc;rw[e]at hc;cases ho with
 |cells t hl z=>
  rename_i c c' p q;simp only at hc;let hsp:a.spot.isSome=A9:=by
   split at hc;.cases hc
   simpa using‹¬a.spot.isSome=A5›
  let I:a'.spot.isSome=A9:=Ar ha.2.2;refine⟨h.put ha.1 (o:=A7 (c.setIfInBounds a.off v) t p) (o':=A7 (c'.setIfInBounds a'.off v') t q) (.cells t ?_ z) ?_ ?_ ?_ rfl rfl ?_ ?_ rfl rfl (λx=>absurd x hro) λhf=>h.even hf _ _ ha.1 _ _ e e'|>.cells,FR.put ⟨_,ha.1,hro⟩ ?_ rfl rfl ?_ ?_ rfl rfl rfl rfl λi=>by unfold QW;rw[ha.self i.1,hv.same i.1,i.2]⟩;.rw[ha.2.1];simpa using hl.set hv a.off
  .simp[QW]
  .simp only[QW];rw[VI _ _ _ e];simp[hsp]
  .intro b hb;exact O7 _ _ _ hb
  .simp only[QW];rw[VI _ _ _ e'];simp[I]
  .intro b hb;exact O7 _ _ _ hb
  .simp[QW]
  .simp[QW]
  intro b hb;exact O7 _ _ _ hb
 |_=>cases hc
end
section
variable{P:Ao}{F:zy}{so:D3}{RO:zy}
def Uj(p:Nat×Nat)(o n:Nat):Nat×Nat:=if p.1==p.2 then(o,o+n)else(min p.1 o,max p.2 (o+n))
theorem NT.Uj{p q:Nat×Nat}(h:NT p q)(o n:Nat)(hn:n≠0):NT (Uj p o n) (Uj q o n):=by
 unfold Twin.Uj;rcases h with h|⟨I,h2,h3⟩;.right;grind
 right;grind
theorem Ff.kind{o}(h:Ff F E o o'):(∃c c' t p q,o=A7 c t p/\o'=A7 c' t q/\Al F E c.toList c'.toList/\NT p q)∨(∀c t p,o≠A7 c t p)/\∀c t p,o'≠A7 c t p:=by cases h with|cells t hl z=>grind|_=>grind
def Ff.isChan{E o o'}(h:Ff F E o o'):o'.isChan=o.isChan:=by cases h<;>rfl
def C9.freeze{E w w' a a' Pr}(h:C9 F so RO E w w')(ha:C6 E a a')(n)(N:¬Pr a.block):C9 F so RO E (w.freeze a n) (w'.freeze a' n)/\FR Pr E w w' E (w.freeze a n) (w'.freeze a' n):=by
 unfold b9;by_cases hn:n=0;.rw[if_pos hn,if_pos hn];exact⟨h,FR.refl ..⟩
 rw[if_neg hn,if_neg hn];obtain⟨o,o',e,I,ho⟩:=h.heap _ _ ha.1;rcases ho.kind with⟨c,c',t,p,q,rfl,rfl,hl,z⟩|⟨x,x'⟩
 .skip;refine⟨h.put ha.1 (o':=A7 c' t (Uj q a.off n)) (.cells t hl (z.Uj _ _ hn)) AD ?_ (λb hb=>O7 _ _ _ hb) rfl rfl ?_ (λb hb=>O7 _ _ _ hb) rfl rfl ?_ ?_,FR.put ⟨_,ha.1,N⟩ AD rfl rfl AD (λb hb=>O7 _ _ _ hb) rfl rfl rfl rfl λi=>by simp only[ha.self i.1,i.2]⟩;.show(w.heap.modify a.block _)[a.block]?=_;rw[VI _ _ _ e];rfl
  .show(w'.heap.modify a'.block _)[a'.block]?=_;rw[VI _ _ _ I,ha.2.1];rfl
  .intro hro;left;refine⟨c,t,_,rfl,λx hx=>?_⟩;obtain⟨_,k⟩:=h.kept _ hro;rcases k with⟨c2,U,p2,e2,y⟩|⟨_,y⟩
   .rw[e]at e2;injection e2 with e2;injection e2 with x1 x2 x3;subst x1 x2 x3;have:=y x hx;suffices hs:(Uj p a.off n).1<=x/\x<(Uj p a.off n).2 from⟨hs.1,hs.2,this.2.2⟩;unfold Uj;split;.rename_i hq;have:=Ai hq;omega
    simp only;omega
   exact absurd e (y c t p)
  intro hf c1 t1 p1 c2 U q2 y1 y2;let hq:=h.even hf _ _ ha.1 _ _ e I;cases y1;cases y2;rw[hq _ _ _ _ _ _ rfl rfl]
 refine⟨h.put ha.1 ho AD ?_ (λb hb=>O7 _ _ _ hb) rfl rfl ?_ (λb hb=>O7 _ _ _ hb) rfl rfl ?_ ?_,FR.put ⟨_,ha.1,N⟩ AD rfl rfl AD (λb hb=>O7 _ _ _ hb) rfl rfl rfl rfl λi=>by simp only[ha.self i.1,i.2]⟩;.show(w.heap.modify a.block _)[a.block]?=_;rw[VI _ _ _ e];cases o<;>first|rfl|exact absurd rfl (x _ _ _)
 .show(w'.heap.modify a'.block _)[a'.block]?=_;rw[VI _ _ _ I];cases o'<;>first|rfl|exact absurd rfl (x' _ _ _)
 .intro hro;obtain⟨_,k⟩:=h.kept _ hro;rcases k with⟨c2,U,p2,e2,y⟩|⟨y,_⟩;.rw[e]at e2;exact absurd (CP e2) (x _ _ _)
  exact AF ⟨y,x⟩
 exact λ_ c1 t1 p1 _ _ _ y1 _=>absurd y1 (x _ _ _)
def C9.setObj{r r' o old}(h:C9 F so RO E w w')(hs:so.obj r)(hr:E.rel r r')(hn:∀c t p,o≠A7 c t p)(ho:Ff F E o o')(e:w.heap[r]?=Z old)(I:∀c t p,old≠A7 c t p):C9 F so RO E {w with heap:=w.heap.setIfInBounds r o} {w' with heap:=w'.heap.setIfInBounds r' o'}/\FR RO E w w' E {w with heap:=w.heap.setIfInBounds r o} {w' with heap:=w'.heap.setIfInBounds r' o'}/\¬RO r/\∃old',w'.heap[r']?=Z old'/\∀c t p,old'≠A7 c t p:=by
 let⟨p,p',y,y',z⟩:=h.heap r r' hr;rw[e]at y;obtain rfl:=CP y;let hro:¬RO r:=λx=>by
  let⟨_,k⟩:=h.kept _ x;rcases k with⟨c2,U,p2,e2,_⟩|⟨q,_⟩;.rw[e]at e2;exact I _ _ _ (CP e2)
  exact q hs
 refine⟨h.put hr ho AD ?_ ?_ rfl rfl ?_ ?_ rfl rfl (λx=>absurd x hro) λ_ c t p _ _ _ e _=>absurd e (hn c t p),FR.put ⟨_,hr,hro⟩ AD rfl rfl AD ?_ rfl rfl rfl rfl λi=>by simp only[i.1 _ _ hr,i.2,ho.same i.1 λc t p _ _ _ e _=>absurd e (hn c t p)],hro,p',y',?_⟩;.rw[HX,if_pos rfl,if_pos (B3 e)]
 .intro b hb;rw[HX,if_neg λx=>hb x.symm]
 .rw[HX,if_pos rfl,if_pos (B3 y')]
 .intro b hb;rw[HX,if_neg λx=>hb x.symm]
 .intro b hb;rw[HX,if_neg λx=>hb x.symm]
 intro c t q x;rcases z.kind with⟨c1,c2,N,p1,q1,x1,_⟩|⟨_,x2⟩;.exact I _ _ _ x1
 exact x2 _ _ _ x
end
section
variable{P:Ao}{F:zy}{so:D3}{RO:zy}{E:AZ}
def a3r(h:AK F E v v')(hb:v.bytes?=B5):v'=v:=by cases h<;>first|rfl|cases hb
theorem aAH{u:A3}(h:AK F E v v')(hb:v.ofBytes B5=u):v'=v/\AK F E u u:=by
 cases h with
 |bool b=>
  refine⟨rfl,?_⟩;simp only[aFe]at hb;split at hb;.cases hb;exact .bool _
  .cases hb;exact .bool _
  grind
 |int k n=>
  refine⟨rfl,?_⟩;simp only[aFe]at hb;split at hb;.cases hb;exact .int ..
  grind
 |_=>cases hb
theorem aC0(p){c c'}(h:Al F E c.toList c'.toList)(e):∀(f x I:Nat)(l:List (Nat×Nat×zx)),lo p c e f x I=Gu l->lo p c' e f x I=Gu l
 |0,_,_,_,hl=>by cases hl
 |f+1,x,I,l,hl=>by
  unfold lo at hl⊢;split at hl;.grind
  rename_i hx;rw[if_neg hx];dsimp only at hl⊢;split at hl;.cases hl
  rename_i hw;rw[if_neg hw];cases hc:(cellHolding p p.depth e (x%p.bytesOf e)).map λ(i,s)=>(x/p.bytesOf e*p.cellsOf e+i,x/p.bytesOf e*p.bytesOf e+s)with|none=>rw[hc]at hl;cases hl|some q=>let⟨i,s⟩:=q;rw[hc]at hl;simp only at hl⊢;cases hv:c[i]? with|none=>rw[hv]at hl;cases hl|some v=>rw[hv]at hl;obtain⟨v',e1,e2⟩:=h.get i (Ai hv);have U:=Ai e1;rw[U];simp only at hl⊢;cases hb:v.bytes? with|none=>rw[hb]at hl;cases hl|some N=>rw[a3r e2 hb,hb];rw[hb]at hl;cases N with|nil=>cases hl|cons b N=>simp only at hl⊢;cases hr:lo p c e f (s+b::N) I with|error m=>rw[hr]at hl;cases hl|ok r=>rw[aC0 p h e f _ _ r hr];rwa[hr]at hl
def aC1{p:Ao}{k k':An}{e:BL}{fz:Nat×Nat}{first:Nat}{like:A3}{cells:List (Nat×Nat×zx)}(hat:C6 E at_ Rt)(hk:k'.off=k.off/\k'.spot=k.spot)(hw:∃o o',w.heap[at_.block]?=Z o/\w'.heap[Rt.block]?=Z o'/\Ff F E o o')(h:w.seen p at_ u k b=Gu (c,e,fz,first,like,cells)):∃c' fz',w.heap[at_.block]?=Z (A7 c e fz)/\w'.heap[Rt.block]?=Z (A7 c' e fz')/\Al F E c.toList c'.toList/\NT fz fz'/\W3 p p.depth u k.off=like/\w'.seen p Rt u k' b=Gu (c',e,fz',first,like,cells):=by
 obtain⟨o,o',e1,e2,ho⟩:=hw;unfold aFh at h⊢;rw[hk.1,hk.2,hat.2.1,hat.2.2];by_cases hs:(k.spot.isSome||at_.spot.isSome)=A5;.rw[if_pos hs]at h;cases h
 rw[if_neg hs]at h⊢;cases hp:W3 p p.depth u k.off with
 |none=>rw[hp]at h;cases h
 |some l=>
  rw[hp]at h;cases d:l.bytes?.map (·.length)with
  |none=>simp only[d]at h;cases h
  |some I=>
   cases f:s_ p p.depth u k.off with
   |none=>simp only[d,f]at h;cases h
   |some lc=>
    cases ho with
    |cells t hv z=>
     rename_i c0 N C D;simp only[d,f,e1]at h;simp only[d,f,e2];by_cases hz:p.cellsOf t=0;.rw[if_pos hz]at h;cases h
     rw[if_neg hz]at h⊢;cases H:s_ p p.depth t (at_.off%p.cellsOf t)with
     |none=>rw[H]at h;cases h
     |some j=>
      rw[H]at h;simp only at h⊢;cases s:lo p c0 t (I+1) (at_.off/p.cellsOf t*p.bytesOf t+j+lc) (at_.off/p.cellsOf t*p.bytesOf t+j+lc+I)with
      |error m=>rw[s]at h;cases h
      |ok cs=>
       rw[s]at h;rw[aC0 p hv t _ _ _ cs s];let U:∀(x:Except String (zw×BL×(Nat×Nat)×Nat×A3×List (Nat×Nat×zx))),x=Gu (c,e,fz,first,like,cells)->x=Gu (c0,t,C,at_.off/p.cellsOf t*p.bytesOf t+j+lc,l,cs)->c=c0/\e=t/\fz=C/\first=at_.off/p.cellsOf t*p.bytesOf t+j+lc/\like=l/\cells=cs:=by intro x h1 h2;rw[h1]at h2;injection h2 with h2;simp at h2;exact h2
       cases b with
       |false=>obtain⟨rfl,rfl,rfl,rfl,rfl,rfl⟩:=U _ h rfl;exact⟨N,D,e1,rfl,hv,z,rfl,rfl⟩
       |true=>
        simp only[aX,Xq,if_true]at h⊢;split at h
        .split at h;.cases h
         rename_i A;obtain⟨rfl,rfl,rfl,rfl,rfl,rfl⟩:=U _ h rfl;refine⟨N,D,e1,rfl,hv,z,rfl,?_⟩;simp only[if_neg A];rfl
        cases h
    |_=>simp only[d,f,e1]at h;cases h
inductive Tv(E:AZ):List An->List An->Prop|nil:Tv E [] []|cons{a a':An}{l l':List An}:C6 E a a'->Tv E l l'->Tv E (a::l) (a'::l')
def Qk(P:Ao):Prop:=∀t,veiled t->∀h v,W3 P P.depth t h=Z v->∃k n,v=AB k n
def a_0{p k k' l}(d:Qk p)(hu:veiled u)(hat:C6 E at_ Rt)(hk:k'.off=k.off/\k'.spot=k.spot)(hw:∃o U,w.heap[at_.block]?=Z o/\w'.heap[Rt.block]?=Z U/\Ff F E o U)(h:w.viewLoad p at_ u k b=Gu (v,l)):∃l',w'.viewLoad p Rt u k' b=Gu (v,l')/\AK F E v v/\Tv E l l':=by
 unfold aFi at h⊢;cases hs:w.seen p at_ u k b with
 |error m=>rw[hs]at h;cases h
 |ok r=>
  let⟨c,e,fz,first,like,I⟩:=r;rw[hs]at h;let⟨c',fz',x1,x2,x3,x4,x5,x6⟩:=aC1 hat hk hw hs;rw[x6];simp only[aX,Xq]at h⊢;obtain⟨f,n,rfl⟩:=d u hu _ _ x5;split at h;.rename_i j N;simp only[Ex,ko,kn,mn]at h⊢;obtain⟨rfl,rfl⟩:=h;refine⟨_,⟨rfl,rfl⟩,(aAH (.int f n) N).2,?_⟩;clear N x6 hs;induction I with|nil=>exact .nil|cons q I ih=>exact .cons ⟨hat.1,rfl,rfl⟩ ih
  cases h
theorem a5B{X:Type}{N:zy}{g g':zw->X->Except String (zw)}(hg:∀c c' x r,Al F E c.toList c'.toList->g c x=Gu r->∃r',g' c' x=Gu r'/\Al F E r.toList r'.toList/\r.size=c.size/\∃i,i<c.size/\N i):∀(I){c c' r},Al F E c.toList c'.toList->I.foldlM g c=Gu r->∃r',I.foldlM g' c'=Gu r'/\Al F E r.toList r'.toList/\r.size=c.size/\(I≠[]->∃i,i<c.size/\N i)/\(I=[]->r'=c')|[],c,c',r,hc,h=>by simp_all[aHU,Ex,ko,kn]|x::I,c,c',r,hc,h=>by simp only[aHT,Xq]at h⊢;cases U:g c x with|error m=>rw[U]at h;cases h|ok r1=>rw[U]at h;let⟨r1',q1,q2,q3,q4⟩:=hg c c' x r1 hc U;rw[q1];let⟨r',p1,p2,p3,_⟩:=a5B hg I q2 h;exact⟨r',p1,p2,p3.trans q3,λ_=>q4,λx=>by cases x⟩
def aM4{X Y:Type}{N:zy}{g g':zw->X->Except String (zw)}{K:zw->Except String Y}{R:Y->Prop}{cells:List X}{r:zw}(h:cells.foldlM g c=Gu r)(hc:Al F E c.toList c'.toList)(hg:∀c c' x r,Al F E c.toList c'.toList->g c x=Gu r->∃r',g' c' x=Gu r'/\Al F E r.toList r'.toList/\r.size=c/\∃i,i<c.size/\N i)(hk:∀r',Al F E r.toList r'.toList->r.size=c->(cells≠[]->∃i,i<c.size/\N i)->(cells=[]->r'=c')->∃y,K r'=Gu y/\R y):∃y,Xq (cells.foldlM g' c') K=Gu y/\R y:=by let⟨r',q1,q2,q3,q4,q5⟩:=a5B hg cells hc h;rw[q1];exact hk r' q2 q3 q4 q5
theorem aC6{h:Array Cq}{i:Nat}{o:Cq}(e:h[i]?=o):h.setIfInBounds i o=h:=by grind
def a_1{p k k' l}(hat:C6 E at_ Rt)(hk:k'.off=k.off/\k'.spot=k.spot)(hv:AK F E v v')(hw:C9 F so RO E w w')(h:w.viewStore p at_ u k v b=Gu (w1,l)):∃r',w'.viewStore p Rt u k' v' b=Gu r'/\C9 F so RO E w1 r'.1/\FR RO E w w' E w1 r'.1/\Tv E l r'.2/\∀a∈l,¬RO a.block:=by
 unfold a1W at h⊢;by_cases ht:(!tight p p.depth u)=A5;.rw[if_pos ht]at h;cases h
 rw[if_neg ht]at h⊢;cases hs:w.seen p at_ u k b with
 |error m=>rw[hs]at h;cases h
 |ok r=>
  obtain⟨c,e,fz,first,like,cells⟩:=r;rw[hs]at h;obtain⟨c',fz',x1,x2,x3,x4,x5,x6⟩:=aC1 hat hk (hw.heap _ _ hat.1) hs;rw[x6];simp only[aX,Xq]at h⊢;cases hb:v.bytes? with
  |none=>simp only[hb]at h;cases h
  |some bytes=>
   obtain rfl:=a3r hv hb;simp only[hb]at h⊢;split at h;.cases h
   rename_i hlen;rw[if_neg hlen];split at h;.cases h
   rename_i r I;simp only[Ex,mn]at h;obtain⟨rfl,rfl⟩:=h;refine aM4 (N:=λi=>¬(fz.1<=i/\i<fz.2)) I x3 ?_ ?_
   .intro d d' x r hd hr;split at hr;.cases hr
    rename_i h1;rw[if_neg h1];split at hr;.cases hr
    rename_i h2;let s:¬(BK (fz'.1<=x.1)&&BK (x.1<fz'.2))=A5:=by intro y;apply h2;simp at y⊢;rcases x4 with hz|hz<;>omega
    rw[if_neg s];split at hr
    .rename_i old f;obtain⟨v',e1,e2⟩:=hd.get x.1 (Ai f);have z:=Ai e1;rw[z];split at hr;.rename_i new j;obtain⟨rfl,hu⟩:=aAH e2 j;simp only[j];simp only[Ex,ko,kn]at hr⊢;subst hr;refine⟨_,rfl,Ai (hd.set hu x.1),AD,x.1,B3 f,?_⟩;simpa using h2
     cases hr
    cases hr
   intro r' q2 q3 q4 q5;refine⟨_,rfl,?_⟩;dsimp only;by_cases hn:cells=[];.subst hn;simp only[aHU,Ex,ko,kn]at I;subst I;obtain rfl:=q5 rfl;rw[aC6 x1,aC6 x2];exact⟨hw,FR.refl ..,.nil,λa ha=>by cases ha⟩
   obtain⟨i,hi,U⟩:=q4 hn;let hro:¬RO at_.block:=λhro=>by
    obtain⟨_,A⟩:=hw.kept _ hro;rcases A with⟨c2,t2,p2,y1,y2⟩|⟨_,y⟩;.rw[x1]at y1;injection y1 with y1;injection y1 with z1 z2 z3;subst z1 z2 z3;have:=y2 i hi;exact U ⟨this.1,this.2.1⟩
    exact y _ _ _ x1
   let C:=B3 x1;let D:=B3 x2;refine⟨hw.put hat.1 (.cells e q2 x4) AD ?_ ?_ rfl rfl ?_ ?_ rfl rfl (λy=>absurd y hro) λhf=>hw.even hf _ _ hat.1 _ _ x1 x2|>.cells,FR.put ⟨_,hat.1,hro⟩ AD rfl rfl AD ?_ rfl rfl rfl rfl λi=>?_,?_,?_⟩;.show w.heap.setIfInBounds ..[_]?=_;rw[HX,if_pos rfl,if_pos C]
   .intro b hb;show w.heap.setIfInBounds ..[b]?=_;rw[HX,if_neg λx=>hb x.symm]
   .show w'.heap.setIfInBounds ..[_]?=_;rw[HX,if_pos rfl,if_pos D]
   .intro b hb;show w'.heap.setIfInBounds ..[b]?=_;rw[HX,if_neg λx=>hb x.symm]
   .intro b hb;show w'.heap.setIfInBounds ..[b]?=_;rw[HX,if_neg λx=>hb x.symm]
   .let e1:=i.1 _ _ hat.1;rw[e1,i.2]at x2;rw[x1]at x2;injection x2 with x2;injection x2 with _ _ z3;have z4:=Sa.1 (q2.same i.1);simp only[e1,i.2,z4,z3]
   .clear I x6 hs q4 q5 hn;induction cells with|nil=>exact .nil|cons q cells ih=>exact .cons ⟨hat.1,rfl,rfl⟩ ih
   intro a ha;obtain⟨x,_,rfl⟩:=Bt.1 ha;exact hro
def C9.We{p l}(h:C9 F so RO E w w')(I:Qk p)(ha:C6 E a a')(hl:w.farLoad p a b=Gu (v,l)):∃l',w'.cell? a'=J/\w'.farLoad p a' b=Gu (v,l')/\AK F E v v/\Tv E l l':=by
 let⟨o,o',e,e',ho⟩:=h.heap _ _ ha.1;unfold sX at hl⊢;unfold Cr;rw[e]at hl;rw[e'];cases ho with
 |view t ht hat=>
  rename_i x N;simp only at hl⊢;cases hv:w.viewLoad p x t a b with
  |error m=>rw[hv]at hl;cases hl
  |ok r=>rw[hv]at hl;cases hl;let⟨l',q1,q2,q3⟩:=a_0 I ht hat ha.2 (h.heap _ _ hat.1) hv;exact⟨l',trivial,by rw[q1],q2,q3⟩
 |_=>cases hl
def C9.vX{p l}(h:C9 F so RO E w w')(ha:C6 E a a')(hv:AK F E v v')(hl:w.farStore p a v b=Gu (w1,l)):∃r',w'.cell? a'=J/\w'.farStore p a' v' b=Gu r'/\C9 F so RO E w1 r'.1/\FR RO E w w' E w1 r'.1/\Tv E l r'.2/\∀a∈l,¬RO a.block:=by
 let⟨o,o',e,e',ho⟩:=h.heap _ _ ha.1;unfold lg at hl⊢;unfold Cr;rw[e]at hl;rw[e'];cases ho with
 |view t ht hat=>
  rename_i x I;simp only at hl⊢;cases hr:w.viewStore p x t a v b with
  |error m=>rw[hr]at hl;cases hl
  |ok r=>rw[hr]at hl;cases hl;let⟨r',q1,q2⟩:=a_1 hat ha.2 hv h hr;exact⟨r',trivial,by rw[q1],q2⟩
 |_=>cases hl
def C9.aLh{p x}(h:C9 F so RO E w w')(ha:C6 E a a')(hl:w.farLoad p a b=ab x):TR x:=by
 let⟨o,o',e,e',ho⟩:=h.heap _ _ ha.1;unfold sX a1V at hl;rw[e]at hl;cases ho with
 |view t ht hat=>
  rename_i y I;simp only at hl;cases hv:w.viewLoad p y t a b with
  |error m=>rw[hv]at hl;cases hl;exact λg x=>by cases x
  |ok r=>rw[hv]at hl;cases hl
 |_=>cases hl;trivial
def C9.aLi{p x}(h:C9 F so RO E w w')(ha:C6 E a a')(hl:w.farStore p a v b=ab x):TR x:=by
 let⟨o,o',e,e',ho⟩:=h.heap _ _ ha.1;unfold lg a1V at hl;rw[e]at hl;cases ho with
 |view t ht hat=>
  rename_i y I;simp only at hl;cases hv:w.viewStore p y t a v b with
  |error m=>rw[hv]at hl;cases hl;exact λg x=>by cases x
  |ok r=>rw[hv]at hl;cases hl
 |_=>cases hl;trivial
end
section
variable{P:Ao}{F:zy}{so:D3}{RO:zy}
def Jj.push{E}{es es':Array C5}{e e'}(h:Jj RO E es.toList es'.toList)(k:Ve RO E e e'):Jj RO E (es.push e).toList (es'.push e').toList:=Ai (Jj.snoc h k)
theorem Jj.We(w s):∀{l l'}{es es'},Jj RO E es.toList es'.toList->Tv E l l'->(w=A5->∀a∈l,¬RO a.block)->Jj RO E (es++l.toArray.map λx=>(⟨KJ x,w,s⟩:C5)).toList (es'++l'.toArray.map λx=>(⟨KJ x,w,s⟩:C5)).toList:=by
 intro l l' es es' h k hr;let N:∀{l l':List An}{es es':List C5},Jj RO E es es'->Tv E l l'->(w=A5->∀a∈l,¬RO a.block)->Jj RO E (es++l.map λx=>⟨KJ x,w,s⟩) (es'++l'.map λx=>⟨KJ x,w,s⟩):=by intro l l' es es' h k hr;induction k generalizing es es' with|nil=>simpa using h|cons ha _ I=>have:=I (h.snoc (.cell w s ha λx=>hr x _ AD)) λx a hm=>hr x a (by simp[hm]);simpa using this
 grind
theorem AK.one(h:AK F E v v'):(∀c,v'=AH c->∃d,v=AH d)/\∀c,v'=Aj c->∃d,v=Aj d:=by cases h<;>refine⟨λc x=>?_,λc x=>?_⟩<;>grind
def aK{m:Mode}{k:BS α}(I:∀c,v≠AH c)(h2:∀c,v≠Aj c):(sT m a v k).runT P w es=match w.cell? a with|Z _=>if w.frozen? a then(Sm (a0c (.unsafePointer "a write to bytes that a string shares")) w,es)else k.runT P (w.setCell a v) (es.push ⟨KJ a,A5,m==M8⟩)|J=>match w.farStore P a v (m==M8)with|Gu (w,touched)=>k.runT P w (es++touched.toArray.map (⟨KJ ·,A5,m==M8⟩))|ab h=>(Sm h w,es):=by cases v<;>first|rfl|exact absurd rfl (I _)|exact absurd rfl (h2 _)
def FR.less{Pr d E1}(h:FR Pr E w w' E1 w1 w1')(k:∀b,d b->Pr b):FR d E w w' E1 w1 w1':=⟨h.le,h.fresh,h.size,h.k8,h.os,h.output,h.tape,h.e9,h.drawn,λI hb hn=>h.rest I hb λb x=>k b (hn b x),h.V4⟩
def AQ.runs(C:Qk P){Q Pr}(d:∀b,Pr b->RO b)(D:so.fz->∀b,¬Pr b){s s'}(h:AQ P F so Q E s s'):∀{w w':A1}{es es':Array C5}{a:α}{w1:A1}{es1:Array C5},C9 F so RO E w w'->Jj RO E es.toList es'.toList->s.runT P w es=(AP a w1,es1)->∃E1 a' w1' N,s'.runT P w' es'=(AP a' w1',N)/\Q E1 a a'/\C9 F so RO E1 w1 w1'/\FR Pr E w w' E1 w1 w1'/\Jj RO E1 es1.toList N.toList:=by
 induction h with
 |pure q=>intro w w' es es' a w1 es1 hw he hr;simp at hr;obtain⟨⟨rfl,rfl⟩,rfl⟩:=hr;exact⟨_,_,_,_,rfl,q,hw,FR.refl ..,he⟩
 |load m ha _ I=>intro w w' es es' a w1 es1 hw he hr;rename_i x x' k k' _;simp only[D4]at hr⊢;cases hc:w.cell? x with|some v=>rw[hc]at hr;let⟨v',hc',hv⟩:=hw.cell ha hc;rw[hc'];exact I v v' hv hw (he.push (.cell _ _ ha λx=>by cases x)) hr|none=>rw[hc]at hr;simp only at hr;cases hf:w.farLoad P x (m==M8)with|error h=>rw[hf]at hr;simp at hr|ok r=>let⟨v,l⟩:=r;rw[hf]at hr;let⟨l',q1,q2,q3,q4⟩:=hw.We C ha hf;rw[q1];simp only[q2];exact I v v q3 hw (he.We A9 (m==M8) q4 λx=>by cases x) hr
 |store m ha hv _ I=>
  intro w w' es es' a w1 es1 hw he hr;rename_i x x' v v' k k' _;by_cases g1:∃c,v=AH c;.obtain⟨c,rfl⟩:=g1;simp[D4]at hr
  by_cases g2:∃c,v=Aj c;.obtain⟨c,rfl⟩:=g2;simp[D4]at hr
  rw[aK (λc x=>g1 ⟨c,x⟩) λc x=>g2 ⟨c,x⟩]at hr;rw[aK (λc x=>g1 (hv.one.1 c x)) λc x=>g2 (hv.one.2 c x)];cases hc:w.cell? x with
  |some u=>
   rw[hc]at hr;simp only at hr;let⟨u',hc',_⟩:=hw.cell ha hc;rw[hc'];simp only;by_cases hf:w.frozen? x=A5;.rw[if_pos hf]at hr;simp at hr
   rw[if_neg hf]at hr;rw[if_neg λy=>hf (hw.frozen ha y)];let hro:¬RO x.block:=λy=>by
    let⟨_,k⟩:=hw.kept _ y;rcases k with⟨c,t,p,e,z⟩|⟨_,z⟩
    .apply hf;unfold fM;unfold Cr at hc;rw[e]at hc⊢;simp only at hc⊢;split at hc;.cases hc
     have:=z x.off (B3 hc);simp[this]
    unfold Cr at hc;split at hc;.exact z _ _ _ ‹_›
    cases hc
   let⟨q1,q2⟩:=hw.set ha hv hc hro;let⟨E1,a',w1',N,r1,r2,r3,r4,r5⟩:=I q1 (he.push (.cell _ _ ha λ_=>hro)) hr;exact⟨E1,a',w1',N,r1,r2,r3,(q2.less d).trans r4,r5⟩
  |none=>rw[hc]at hr;simp only at hr;cases hf:w.farStore P x v (m==M8)with|error h=>rw[hf]at hr;simp at hr|ok r=>let⟨w2,l⟩:=r;rw[hf]at hr;let⟨r',q1,q2,q3,q4,q5,q6⟩:=hw.vX ha hv hf;rw[q1];simp only[q2];let⟨E1,a',w1',N,r1,r2,r3,r4,r5⟩:=I q3 (he.We A5 (m==M8) q5 λ_=>q6) hr;exact⟨E1,a',w1',N,r1,r2,r3,(q4.less d).trans r4,r5⟩
 |new ho _ hz I=>
  intro w w' es es' a w1 es1 hw he hr;rename_i E o o' k k' _;simp only[D4]at hr⊢;let⟨E1,a',w1',N,r1,r2,r3,r4,r5⟩:=I (AR w) (AR w') hw.fresh (hw.push ho hz) (he.mono (AZ.jK _ _ _ _)) hr;let CY:FR Pr E w w' (E.add (AR w) w' hw.fresh) {w with heap:=w.heap.push o} {w' with heap:=w'.heap.push o'}:=by
   refine⟨AZ.jK _ _ _ _,λb b' x=>?_,AD,AD,rfl,rfl,rfl,rfl,⟨0,rfl,rfl⟩,λb' hb _=>?_,λi=>⟨λb b' x=>?_,by rw[i.2,ho.same i.1 hz]⟩⟩
   .rcases x with x|⟨rfl,rfl⟩;.exact AA x
    exact AF ⟨Ad _,AD,Ad _,AD⟩
   .show(w'.heap.push o')[b']?=_;rw[KF hb,G8 hb]
   rcases x with x|⟨rfl,rfl⟩;.exact i.1 b b' x
   rw[i.2]
  exact⟨E1,a',w1',N,r1,r2,r3,CY.trans r4,r5⟩
 |shape U _ I=>intro w w' es es' a w1 es1 hw he hr;simp only[D4]at hr⊢;rw[hw.shape U];exact I _ hw he hr
 |freeze n hz ha _ I=>intro w w' es es' a w1 es1 hw he hr;simp only[D4]at hr⊢;let⟨q1,q2⟩:=hw.freeze ha n (D hz _);let⟨E1,a',w1',N,r1,r2,r3,r4,r5⟩:=I q1 he hr;exact⟨E1,a',w1',N,r1,r2,r3,q2.trans r4,r5⟩
 |frozen hz ha _ I=>intro w w' es es' a w1 es1 hw he hr;simp only[D4]at hr⊢;rw[hw.aME hz ha];exact I _ hw he hr
 |getObj U _ I=>
  intro w w' es es' a w1 es1 hw he hr;rename_i r r' k k' _;let⟨o,o',e,e',ho⟩:=hw.heap _ _ U;simp only[D4]at hr⊢;rw[e]at hr;rw[e'];rcases ho.kind with⟨c,c',t,p,q,rfl,rfl,_,_⟩|⟨x,x'⟩;.simp at hr
  let f:(k o).runT P w (es.push ⟨FI r,A9,o.isChan⟩)=(AP a w1,es1):=by rw[<-hr];cases o<;>first|rfl|exact absurd rfl (x _ _ _)
  let⟨E1,a',w1',N,r1,r2⟩:=I o o' ho hw (he.push (.obj _ _ U λx=>by cases x)) f;refine⟨E1,a',w1',N,?_,r2⟩;rw[<-r1,<-ho.isChan];cases o'<;>first|rfl|exact absurd rfl (x' _ _ _)
 |setObj hs U hn ho _ I=>
  intro w w' es es' a w1 es1 hw he hr;rename_i r r' o o' k k' _;simp only[D4]at hr⊢;cases e:w.heap[r]? with
  |none=>rw[e]at hr;simp at hr
  |some old=>
   rw[e]at hr;by_cases j:∃c t p,old=A7 c t p;.obtain⟨c,t,p,rfl⟩:=j;simp at hr
   have A:=λc t p x=>j ⟨c,t,p,x⟩;let⟨q1,q2,q3,old',q4,q5⟩:=hw.setObj hs U hn ho e A;rw[q4];let f:k.runT P {w with heap:=w.heap.setIfInBounds r o} (es.push ⟨FI r,A5,o.isChan⟩)=(AP a w1,es1):=by rw[<-hr];cases old<;>first|rfl|exact absurd rfl (A _ _ _)
   let⟨E1,a',w1',N,r1,r2,r3,r4,r5⟩:=I q1 (he.push (.obj _ _ U λ_=>q3)) f;refine⟨E1,a',w1',N,?_,r2,r3,(q2.less d).trans r4,r5⟩;rw[<-r1,<-ho.isChan];cases old'<;>first|rfl|exact absurd rfl (q5 _ _ _)
 |choose q _ I=>
  intro w w' es es' a w1 es1 hw he hr;rename_i E k k' _;simp only[D4]at hr⊢;split at hr;.rename_i hq;rw[if_pos hq];exact I _ hw he hr
  rename_i hq;rw[if_neg hq];let ht:=hw.tape 0 q;simp at ht;rw[ht];let⟨E1,a',w1',N,r1,r2,r3,r4,r5⟩:=I _ hw.draw he hr;let CY:FR Pr E w w' E {w with drawn:=w.drawn+1} {w' with drawn:=w'.drawn+1}:=⟨AZ.le_refl _,λ_ _ x=>AA x,Ad _,Ad _,rfl,rfl,rfl,rfl,⟨1,rfl,rfl⟩,λ_ _ _=>rfl,id⟩;exact⟨E1,a',w1',N,r1,r2,r3,CY.trans r4,r5⟩
 |program _ I=>intro w w' es es' a w1 es1 hw he hr;simp only[D4]at hr⊢;exact I hw he hr
 |mark hm _ I=>intro w w' es es' a w1 es1 hw he hr;simp only[D4]at hr⊢;exact I hw (he.push (.mark hm)) hr
 |dead s' h=>intro w w' es es' a w1 es1 hw he hr;exact absurd hr (h.ne _ _ _ _ _)
end
abbrev Eo{α:Type}:AZ->α->α->Prop:=λ_ a a'=>a=a'
abbrev WM:AZ->An->An->Prop:=λE a a'=>C6 E a a'
abbrev Bp(F:zy):AZ->A3->A3->Prop:=λE v v'=>AK F E v v'
abbrev Rp(F:zy):AZ->zw->zw->Prop:=λE v v'=>Al F E v.toList v'.toList
abbrev Oa:AZ->Unit->Unit->Prop:=λ_ _ _=>True
structure Fit(P:Ao)(F:zy):Prop where
 zero:∀t i z,P.info? t=Z i->i.zero=Z z->∀E,AK F E z z
 Ip:Qk P
section
variable{P:Ao}{F:zy}{so:D3}{E:AZ}
def AQ.andThen{Q R s s'}{f f':α->BS lc}(h:AQ P F so Q E s s')(hf:∀I,E.le I->∀a a',Q I a a'->AQ P F so R I (f a) (f' a')):AQ P F so R E (s>>=f) (s'>>=f'):=AQ.bind h hf
def AQ.AS{Q a a'}(h:Q E a a'):AQ P F so Q E (Ex a:BS α) (Ex a'):=.pure h
theorem AQ.weaken{Q R}{s s':BS α}(h:AQ P F so Q E s s')(hq:∀N,E.le N->∀a a',Q N a a'->R N a a'):AQ P F so R E s s':=by
 have:=AQ.bind h λN hE a a' q=>AQ.pure (hq N hE a a' q);let e:∀s:BS α,s.bind Na=s:=by intro s;induction s with|pure a=>rfl|load m a k I=>simp only[Dl];congr 1;funext v;exact I v|store m a v k I=>simp only[Dl];congr 1|new o k I=>simp only[Dl];congr 1;funext v;exact I v|shape r k I=>simp only[Dl];congr 1;funext v;exact I v|freeze a n k I=>simp only[Dl];congr 1|frozen a k I=>simp only[Dl];congr 1;funext v;exact I v|getObj r k I=>simp only[Dl];congr 1;funext v;exact I v|setObj r o k I=>simp only[Dl];congr 1|choose q k I=>simp only[Dl];congr 1;funext v;exact I v|sys c k I=>simp only[Dl];congr 1;funext v;exact I v|program k I=>simp only[Dl];congr 1;funext v;exact I v|mark m k I=>simp only[Dl];congr 1|halt h=>rfl
 grind
def AQ.prog{Q}{f f':Ao->BS α}(h:AQ P F so Q E (f P) (f' P)):AQ P F so Q E (fQ>>=f) (fQ>>=f'):=.program h
def AQ.stuck{Q m}{s:BS α}:AQ P F so Q E (UB m) s:=.halt ..
def AQ.CI{Q:AZ->α->α->Prop}{u:Unsupported}{s:Sem α}(hu:∀g,u≠.initOrder g:=by intro g e;cases e):AQ P F so Q E (Go.unsupported u) s:=.halt _ _ hu
def AQ.goPanic{Q}{s:BS α}:AQ P F so Q E (aFp v) s:=.halt ..
def FN(t):AQ P F so Eo E (Ms t) (Ms t):=by refine .prog ?_;cases P.underlying t with|none=>exact .stuck|some d=>exact .AS rfl
def HS(t):AQ P F so (λ_ a a'=>a=a'/\P.info? t=Z a) E (sj t) (sj t):=by refine .prog ?_;cases P.info? t with|none=>exact .stuck|some d=>exact .AS ⟨rfl,rfl⟩
def Hr(t):AQ P F so Eo E (Rb t) (Rb t):=by refine(HS t).andThen ?_;rintro h _ a _⟨rfl,_⟩;exact .AS rfl
def aB7(t):AQ P F so Eo E (isAgg t) (isAgg t):=by refine(FN t).andThen ?_;rintro h _ a _ rfl;cases a<;>exact .AS rfl
def M0(I:Fit P F)(t):AQ P F so (Bp F) E (lr t) (lr t):=by refine(HS t).andThen ?_;rintro h _ a _⟨rfl,hi⟩;cases hz:a.zero with|none=>exact .CI|some z=>exact .AS (I.zero t a z hi hz h)
def jo(h:C6 E a a')(m):AQ P F so (Bp F) E (bE a m) (bE a' m):=.load m h λ_ _ hv=>.pure hv
def aVa(h:C6 E a a')(hv:AK F E v v')(m):AQ P F so Oa E (store a v m) (store a' v' m):=.store m h hv (.pure trivial)
def Al.snoc{a a'}(h:Al F E a a')(hv:AK F E v v'):Al F E (a++[v]) (a'++[v']):=h.append (.cons hv .nil)
def aBA{a a'}:∀(n i){E}{d e},C6 E a a'->Al F E d.toList e.toList->AQ P F so (Rp F) E (a1_ a i n d) (a1_ a' i n e)|0,i,_,d,e,_,hc=>.AS hc|n+1,i,_,d,e,h,hc=>by exact(jo (h.add i) U7).andThen λI hE v v' hv=>aBA n (i+1) (h.mono hE) (by simpa using(hc.mono hE).snoc hv)
def yy(h:C6 E a a')(n):AQ P F so (Rp F) E (a1Z a n) (a1Z a' n):=aBA n 0 h .nil
def aC{a a'}:∀{d e}{E}(i),C6 E a a'->Al F E d e->AQ P F so Oa E (a1g a d i) (a1g a' e i)|_,_,_,i,_,.nil=>.AS trivial|_,_,_,i,h,.cons hv t=>by exact(aVa (h.add i) hv U7).andThen λI hE _ _ _=>aC (i+1) (h.mono hE) (t.mono hE)
def jq(h:C6 E a a')(t):AQ P F so (Bp F) E (sd t a) (sd t a'):=by
 refine(aB7 t).andThen ?_;rintro N hE b _ rfl;cases b;.exact jo (h.mono hE) U7
 refine(Hr t).andThen ?_;rintro E2 I n _ rfl;exact(yy ((h.mono hE).mono I) n).andThen λU d c c' hc=>.AS (.agg hc)
theorem AK.cells{v v'}(h:AK F E v v'):Al F E v.cells.toList v'.cells.toList:=by cases h with|agg h=>exact h|_=>exact .cons (by constructor<;>grind) .nil
def aVc(h:C6 E a a')(hv:AK F E v v')(t):AQ P F so Oa E (storeVar t a v) (storeVar t a' v'):=by
 refine(Hr t).andThen ?_;rintro I hE n _ rfl;have hl:=Ai hv.cells.length;rw[hl];by_cases hs:v.cells.size≠n;.simp only[if_pos hs];exact .stuck
 simp only[if_neg hs];exact aC 0 (h.mono hE) (hv.cells.mono hE)
end
section
variable{P:Ao}{F:zy}{so:D3}{E:AZ}
def RF(t)(h:Al F E c.toList c'.toList):AQ P F so WM E (newRow t c) (newRow t c'):=by exact .new (.cells t h (.refl _)) λb I hb=>.pure ⟨AZ.Rr _ _ _ hb,rfl,rfl⟩
def aBF(t)(h:AK F E v v'):AQ P F so WM E (a1b t v) (a1b t v'):=RF t h.cells
def js(h:AK F E v v'):AQ P F so WM E (s3 v) (s3 v'):=by cases h with|ptr h=>exact .AS h|_=>exact .stuck
def jk(h:AK F E v v'):AQ P F so WM E (asAddr v) (asAddr v'):=by cases h with|ptr h=>exact .AS h|GR=>exact .prog .goPanic|_=>exact .stuck
def pc(h:AK F E v v'):AQ P F so Eo E (sZ v) (sZ v'):=by cases h with|int k n=>exact .AS rfl|ptr h=>exact .CI|_=>exact .stuck
def SQ(h:AK F E v v'):AQ P F so Eo E (fN v) (fN v'):=by refine(pc h).andThen ?_;rintro I _ a _ rfl;exact .AS rfl
def aAy(h:AK F E v v'):AQ P F so Eo E (sY v) (sY v'):=by cases h with|bool b=>exact .AS rfl|_=>exact .stuck
def aUj(h:AK F E v v'):AQ P F so (Rp F) E (asAgg v) (asAgg v'):=by cases h with|agg h=>exact .AS h|_=>exact .stuck
def db{Q:AZ->α->α->Prop}(k)(x y)(c):AQ P F so Q E (bC k x y c) (bC k x y c):=by
 unfold bC;let hp:∀(E:AZ)(b:Bool),AQ P F so Q E (W4 (.bounds (AJ.wrap x) y b c)) (W4 (.bounds (AJ.wrap x) y b c)):=λE b=>by exact .prog .goPanic
 split;.exact .choose _ λn=>hp ..
 exact hp ..
def aVB(t)(h:AK F E v v'):AQ P F so (Bp F) E (ry t v) (ry t v'):=by exact(js h).andThen λI hE a a' ha=>jq ha t
def aVb(t)(h:AK F E v v')(hx:AK F E x x'):AQ P F so Oa E (s0 t v x) (s0 t v' x'):=by exact(js h).andThen λI hE a a' ha=>aVc ha (hx.mono hE) t
def aUg(h:Fit P F)(t):AQ P F so (Bp F) E (aEb t A5 (Aj #[])) (aEb t A5 (Aj #[])):=by exact(M0 h t).andThen λI hE z z' hz=>(aBF t hz).andThen λE2 N a a' ha=>.AS (.ptr ha)
def aUm(t)(h:AK F E v v'):AQ P F so (Bp F) E (rn t v) (rn t v'):=by exact(aBF t h).andThen λE2 I a a' ha=>.AS (.ptr ha)
def QE(t)(h:Al F E c.toList c'.toList)(I):AQ P F so (Bp F) E (part t c I) (part t c' I):=by
 refine(aB7 t).andThen ?_;rintro i4 hE b _ rfl;cases b;.cases hc:c[I]? with|none=>exact .stuck|some v=>obtain⟨v',e,hv⟩:=(h.mono hE).get I (Ai hc);have N:=Ai e;rw[N];exact .AS hv
 refine(Hr t).andThen ?_;rintro E2 U n _ rfl;refine .AS (.agg ?_);simpa using(((h.mono hE).mono U).drop I).take (I+n-I)
def aV5(t)(h:AK F E v v')(i):AQ P F so (Bp F) E (aEc t v i) (aEc t v' i):=by
 refine(FN t).andThen ?_;rintro I hE d _ rfl;cases d with
 |struct fs=>
  simp only;cases fs[i]? with
  |none=>exact .stuck
  |some f=>exact(aUj (h.mono hE)).andThen λE2 N c c' hc=>QE f.type hc f.offset
 |_=>exact .stuck
def aV4(h:AK F E v v')(i):AQ P F so (Bp F) E (a0d v i) (a0d v' i):=by
 cases h with
 |tuple h=>
  rename_i a a';unfold a0d;simp only;cases hc:a[i]? with
  |none=>exact .stuck
  |some v=>obtain⟨v',e,hv⟩:=h.get i (Ai hc);have I:=Ai e;rw[I];exact .AS hv
 |_=>exact .stuck
def aV8(t)(h:AK F E v v')(hx:AK F E x x'):AQ P F so (Bp F) E (a0e t v x) (a0e t v' x'):=by
 unfold a0e;refine(pc hx).andThen ?_;rintro U hE⟨k,i⟩_ rfl;refine(FN t).andThen ?_;rintro E2 I d _ rfl;let h2:=(h.mono hE).mono I;cases d with
 |array n e=>
  cases h2 with
  |agg hc=>
   simp only;split;.refine(Hr e).andThen ?_;rintro f N m _ rfl;exact QE e (hc.mono N) _
   exact db ..
  |_=>exact .stuck
 |string=>
  cases h2 with
  |string s=>
   simp only;split;.exact .AS (.int ..)
   exact db ..
  |_=>exact .stuck
 |_=>cases h2<;>exact .stuck
end
section
variable{P:Ao}{F:zy}{so:D3}{E:AZ}
def aV9(t)(h:AK F E v v')(hx:AK F E x x'):AQ P F so (Bp F) E (Y2 t v x) (Y2 t v' x'):=by
 unfold Y2;refine(pc hx).andThen ?_;rintro i4 hE⟨k,i⟩_ rfl;refine(FN t).andThen ?_;rintro E2 f d _ rfl;let h2:=(h.mono hE).mono f;cases d with
 |array n e=>
  refine(js h2).andThen λs z a a' ha=>?_;refine(FN t).andThen ?_;rintro U I d2 _ rfl;dsimp only;split;.refine(Hr _).andThen ?_;rintro j N m _ rfl;exact .AS (.ptr (((ha.mono I).mono N).add _))
  (repeat' split)<;>first|exact .CI|exact db ..
 |slice e=>
  cases h2 with
  |FZ l c=>refine(FN t).andThen ?_;rintro U I d2 _ rfl;exact db ..
  |slice l c ha=>
   refine(FN t).andThen ?_;rintro U I d2 _ rfl;dsimp only;split;.refine(Hr _).andThen ?_;rintro j N m _ rfl;exact .AS (.ptr (((ha.mono I).mono N).add _))
   (repeat' split)<;>first|exact .CI|exact db ..
  |_=>exact .stuck
 |_=>cases h2<;>exact .stuck
def aVZ(h:AK F E v v')(y)(c):AQ P F so Eo E (rz v y c) (rz v' y c):=by
 refine(pc h).andThen ?_;rintro I hE⟨k,i⟩_ rfl;simp only;split;.exact .AS rfl
 exact db ..
def Ky(F:zy)(E:AZ)(o o':Option A3):Prop:=o=J/\o'=J∨∃v v',o=Z v/\o'=Z v'/\AK F E v v'
def Ky.mono{i4 o o'}(h:Ky F E o o')(hE:E.le i4):Ky F i4 o o':=by
 rcases h with h|⟨v,v',x,y,z⟩;.exact AA h
 exact AF ⟨v,v',x,y,z.mono hE⟩
def jr{d j hi s z A}(b)(l c)(I:Ky F E d j)(h2:Ky F E hi s)(h3:Ky F E z A):AQ P F so Eo E (aEi b l c d hi z) (aEi b l c j s A):=by
 let B:∀{E:AZ}{v v':A3}{y:Nat}{c:BoundsCode}{lc:Type}{R:AZ->lc->lc->Prop}{f f':Nat->BS lc},AK F E v v'->(∀h,E.le h->∀n,AQ P F so R h (f n) (f' n))->AQ P F so R E (rz v y c>>=f) (rz v' y c>>=f'):=λhv k=>(aVZ hv ..).andThen λh hE a _ e=>e▸k h hE a;rcases h3 with⟨rfl,rfl⟩|⟨m,m',rfl,rfl,hm⟩<;>rcases h2 with⟨rfl,rfl⟩|⟨u,u',rfl,rfl,hu⟩<;>rcases I with⟨rfl,rfl⟩|⟨o,U,rfl,rfl,ho⟩;.exact .AS rfl
 .exact B ho λ_ _ _=>.AS rfl
 .exact B hu λ_ _ _=>.AS rfl
 .exact B hu λ_ hE _=>B (ho.mono hE) λ_ _ _=>.AS rfl
 .exact B hm λ_ _ _=>.stuck
 .exact B hm λ_ _ _=>.stuck
 .exact B hm λ_ hE _=>B (hu.mono hE) λ_ _ _=>.AS rfl
 exact B hm λ_ hE _=>B (hu.mono hE) λ_ N _=>B ((ho.mono hE).mono N) λ_ _ _=>.AS rfl
theorem C6.pick(h:C6 E a a')(p)[Decidable p](n):C6 E (if p then a else a.add n) (if p then a' else a'.add n):=by
 split;.grind
 exact h.add n
def aVX{A C hi D f j}(t)(h:AK F E v v')(h1:Ky F E A C)(h2:Ky F E hi D)(h3:Ky F E f j):AQ P F so (Bp F) E (lG t v A hi f) (lG t v' C D j):=by
 unfold lG;let K:j.isSome=f.isSome:=by rcases h3 with⟨rfl,rfl⟩|⟨v,v',rfl,rfl,_⟩<;>rfl
 refine(FN t).andThen ?_;rintro i4 hE d _ rfl;let hv:=h.mono hE;let U:=h1.mono hE;let k2:=h2.mono hE;let F5:=h3.mono hE;cases d with
 |string=>
  cases hv with
  |string s=>
   simp only[K];cases f.isSome;.refine(jr A9 _ _ U k2 (AA ⟨rfl,rfl⟩)).andThen ?_;rintro E2 I⟨l,hh,m⟩_ rfl;exact .AS (.string _)
   exact .stuck
  |_=>exact .stuck
 |slice e=>
  cases hv with
  |FZ l c=>refine(jr A5 _ _ U k2 F5).andThen ?_;rintro E2 I⟨l,hh,m⟩_ rfl;refine(Hr e).andThen ?_;rintro H N n _ rfl;refine .AS ?_;simp;exact .FZ ..
  |slice l c ha=>
   refine(jr A5 _ _ U k2 F5).andThen ?_;rintro E2 I⟨l,hh,m⟩_ rfl;refine(Hr e).andThen ?_;rintro H N n _ rfl;refine .AS ?_;simp;split;.exact .slice _ _ ((ha.mono I).mono N)
   exact .slice _ _ (((ha.mono I).mono N).add _)
  |_=>exact .stuck
 |pointer z=>refine(jk hv).andThen λE2 I a a' ha=>?_;refine(FN z).andThen ?_;rintro H N d2 _ rfl;cases d2 with|array n e=>refine(jr A9 _ _ ((U.mono I).mono N) ((k2.mono I).mono N) ((F5.mono I).mono N)).andThen ?_;rintro Q L⟨l,hh,m⟩_ rfl;refine(Hr e).andThen ?_;rintro R M n _ rfl;exact .AS (.slice _ _ ((((ha.mono N).mono L).mono M).pick ..))|_=>exact .stuck
 |_=>cases hv<;>exact .stuck
def aVY{f j hi s z A}(t)(h:AK F E v v')(N:Ky F E f j)(h2:Ky F E hi s)(h3:Ky F E z A):AQ P F so (Bp F) E (aEh t v f hi z) (aEh t v' j s A):=by refine(FN t).andThen ?_;rintro i4 hE d _ rfl;cases d with|array n e=>refine(js (h.mono hE)).andThen λE2 I a a' ha=>?_;refine(jr A9 _ _ ((N.mono hE).mono I) ((h2.mono hE).mono I) ((h3.mono hE).mono I)).andThen ?_;rintro D U⟨l,hh,m⟩_ rfl;refine(Hr e).andThen ?_;rintro H C n _ rfl;exact .AS (.slice _ _ (((ha.mono U).mono C).pick ..))|_=>exact aVX t (h.mono hE) (N.mono hE) (h2.mono hE) (h3.mono hE)
end
section
variable{P:Ao}{F:zy}{so:D3}{E:AZ}
inductive OZ(F:zy)(E:AZ):List (Nat×A3)->List (Nat×A3)->Prop|nil:OZ F E [] []|cons(i:Nat){v v':A3}{l l':List (Nat×A3)}:AK F E v v'->OZ F E l l'->OZ F E ((i,v)::l) ((i,v')::l')
def OZ.mono{i4}(hE:E.le i4):∀{l l'},OZ F E l l'->OZ F i4 l l'|_,_,.nil=>.nil|_,_,.cons i h t=>.cons i (h.mono hE) (t.mono hE)
def Al.aC4(h:Al F E c.toList c'.toList)(hv:AK F E v v')(i):Al F E (c.setIfInBounds i v).toList (c'.setIfInBounds i v').toList:=Ai (h.set hv i)
def Al.laid:∀(l l':List (A3×Nat))(I:Nat){c c':zw},Al F E c.toList c'.toList->l'.length=l.length->(∀(i:Nat)x N,l[i]?=Z x->l'[i]?=Z N->AK F E x.1 N.1/\N.2=x.2)->Al F E (l.foldl (λcs(c,j)=>cs.setIfInBounds (I+j) c) c).toList (l'.foldl (λcs(c,j)=>cs.setIfInBounds (I+j) c) c').toList|[],[],_,_,_,h,_,_=>h|[],_::_,_,_,_,_,hl,_=>BA|_::_,[],_,_,_,_,hl,_=>BA|(v,j)::l,(v',j')::l',I,c,c',h,hl,hk=>by let⟨h1,h2⟩:=hk 0 _ _ rfl rfl;subst h2;exact Al.laid l l' I (h.aC4 h1 _) (Ai hl) λi x N e U=>hk (i+1) x N (Ai e) (Ai U)
theorem h'(h):∀{l l'}{c c' d},OZ F E l l'->Al F E c.toList c'.toList->Y1 h c l=Z d->∃d',Y1 h c' l'=Z d'/\Al F E d.toList d'.toList
 |_,_,c,c',d,.nil,hc,e=>by grind[Y1,bd]
 |_,_,c,c',d,.cons i hv t,hc,e=>by
  rename_i v v' l l';simp only[Y1]at e⊢;cases hp:h i with
  |none=>grind
  |some q=>
   let⟨off,size⟩:=q;rw[hp]at e;simp only at e⊢;have hl:=Ai hv.cells.length;have I:=Ai hc.length;rw[hl,I];split at e;.cases e
   rename_i hn;rw[if_neg hn];refine h' h t ?_ e;let hz:∀a:zw,a.zipIdx.toList=a.toList.zipIdx:=λa=>AD;rw[<-aDS,<-aDS,hz,hz];refine Al.laid _ _ off hc (by simp[hl]) λj x N e1 e2=>?_;rw[List.getElem?_zipIdx]at e1 e2;cases g1:v.cells.toList[j]? with|none=>rw[g1]at e1;simp at e1|some y=>let⟨y',g2,g3⟩:=hv.cells.get j g1;rw[g1]at e1;rw[g2]at e2;simp at e1 e2;subst e1 e2;exact⟨g3,rfl⟩
theorem Al.kP{z z':zw}(h:Al F E z.toList z'.toList)(n):Al F E ((qv n).map (z[·%z.size]!)).toList ((qv n).map (z'[·%z'.size]!)).toList:=by
 have hl:=Ai h.length;refine Al.of AD λi v v' e I=>?_;simp at e I;cases g:(Lf n)[i]? with
 |none=>grind
 |some k=>
  rw[g]at e I;simp at e I;subst e I;rw[hl];by_cases hk:k%z.size<z;.let⟨u',x1,x2⟩:=h.get (k%z) (v:=z[k%z]) AD;have x3:=Ai x1;rw[getElem!_pos z _ hk,getElem!_pos z' _ A'];let⟨_,x4⟩:=aV.1 x3;rwa[x4]
  rw[getElem!_neg z _ hk,getElem!_neg z' _ A'];exact .bool _
def aUo(f:Fit P F){l l'}(t)(n)(h:OZ F E l.toList l'.toList):AQ P F so (Bp F) E (ar t n l) (ar t n l'):=by
 refine(FN t).andThen ?_;rintro i4 hE d _ rfl;cases d with
 |slice e=>
  simp only;refine(Hr e).andThen ?_;rintro E2 j size _ rfl;let hp:=(h.mono hE).mono j;split;.exact .CI
  split;.refine AQ.andThen (Q:=Rp F) (.AS .nil) λN I z z' hz=>?_;cases g:Y1 (λi=>Z (i*size,size)) ((qv (n*size)).map (z[·%z.size]!)) l.toList with|none=>exact .stuck|some d=>let⟨d',g',hd⟩:=h' _ (hp.mono I) ((hz).kP (n*size)) g;rw[g'];exact(RF e hd).andThen λU m a a' ha=>.AS (.slice _ _ ha)
  refine(M0 f e).andThen λN I y y' hy=>?_;refine AQ.andThen (Q:=Rp F) (.AS hy.cells) λA s z z' hz=>?_;cases g:Y1 (λi=>Z (i*size,size)) ((qv (n*size)).map (z[·%z.size]!)) l.toList with|none=>exact .stuck|some d=>let⟨d',g',hd⟩:=h' _ ((hp.mono I).mono s) ((hz).kP (n*size)) g;rw[g'];exact(RF e hd).andThen λU m a a' ha=>.AS (.slice _ _ ha)
 |_=>exact .stuck
end
section
variable{P:Ao}{F:zy}{so:D3}{E:AZ}
def AQ.Gm{Q}{s s':BS α}(h:BD P s):AQ P F so Q E s s':=.dead s' h
def R6:ET P fQ:=.program (.pure _)
def Tk(t):ET P (Ms t):=by
 refine ET.bind R6 λp=>?_;split;.exact .pure _
 exact .dead (BD.halt _)
def Tj(t):ET P (sj t):=by
 refine ET.bind R6 λp=>?_;split;.exact .pure _
 exact .dead (BD.halt _)
def a9e(t):ET P (lk t):=by
 refine ET.bind (Tk t) λp=>?_;split;.exact .pure _
 exact .dead (BD.halt _)
def VH(t):ET P (typeStr t):=by
 refine ET.bind (Tj t) λp=>?_;dsimp only;split;.exact .dead (BD.halt _)
 exact .pure _
theorem Oz(q):ET P (Sq q):=λ_ _ _ _ _ e=>by unfold Sq at e;grind[D4]
def XK(m):ET P (mark m):=λ_ _ _ _ _ e=>by cases e
def aSZ(a):ET P (frozen a):=λ_ _ _ _ _ e=>by cases e
def aS_(r):ET P (shape r):=λ_ _ _ _ _ e=>by cases e
def a9f(a)(n):ET P (aDk a n):=by refine ET.bind (aS_ _) λs=>?_;(split<;>exact .pure _)
def XL(a b c)(h)(x):ET P (a_w a b c h x):=by
 let N:ET P (match x with|A0 (Z y) ..=>do Ex (!(<-aDk y (c*a))||h.any (·.block==y.block))|_=>Ex A9):=by
  split;.exact ET.bind (a9f _ _) λ_=>.pure _
  exact .pure _
 cases h with
 |none=>trivial
 |some y=>
  refine ET.bind (a9f _ _) λu=>?_;refine ET.bind (aSZ _) λv=>?_;refine ET.bind (ET.pure (u&&!v)) λI=>?_;cases I;.exact .pure _
  exact N
def a9g(t)(v):ET P (a1b t v):=λ_ _ _ _ _ e=>by cases e
def G2(e):BD P (W4 e:BS α):=by refine BD.behind R6 λp=>?_;cases e with|typeAssertion i c a m=>exact BD.behind (a9e _) λ_=>BD.behind (a9g _ _) λ_=>BD.halt _|panicNil=>exact BD.behind (a9e _) λ_=>BD.behind (a9g _ _) λ_=>BD.halt _|_=>exact BD.halt _
def RG{Q}(e){s:BS α}:AQ P F so Q E (W4 e) s:=.Gm (G2 e)
def XW(n):AQ P F so Oa E (bB n) (bB n):=by
 unfold bB;split;.exact .mark .noRoom (.pure trivial)
 exact .AS trivial
def aVE(t)(h:AK F E v v'):AQ P F so (Bp F) E (aEg t v) (aEg t v'):=by refine(FN t).andThen ?_;rintro I hE d _ rfl;cases d with|interface m=>exact .stuck|_=>exact .AS (.iface t (h.mono hE))
def aVD{a a' b b'}(f)(hf:F f)(h:Al F E a.toList a'.toList)(k:Al F E b.toList b'.toList):AQ P F so (Bp F) E (aEf (Bo f) a b) (aEf (Bo f) a' b'):=.AS (.func hf h k)
def aVF{o o'}(t)(h:Ky F E o o'):AQ P F so (Bp F) E (lE t o) (lE t o'):=by
 rcases h with⟨rfl,rfl⟩|⟨v,v',rfl,rfl,hv⟩;.exact .new (.map 0 .nil) λb I hb=>.pure (.map (AZ.Rr _ _ _ hb))
 refine(FN t).andThen ?_;rintro N hE d _ rfl;cases d with|map k e=>refine(SQ (hv.mono hE)).andThen ?_;rintro E2 U n _ rfl;exact .new (.map 0 .nil) λb I hb=>.pure (.map (AZ.Rr _ _ _ hb))|_=>exact .stuck
def aVH(f:Fit P F){l l' c c'}(t)(h:AK F E l l')(k:AK F E c c'):AQ P F so (Bp F) E (au t l c) (au t l' c'):=by
 unfold au;refine(FN t).andThen ?_;rintro i4 hE d _ rfl;cases d with
 |slice e=>
  simp only;refine(SQ (h.mono hE)).andThen ?_;rintro E2 U n _ rfl;refine(SQ ((k.mono hE).mono U)).andThen ?_;rintro A C m _ rfl;refine(HS e).andThen ?_;rintro D H i _⟨rfl,_⟩;split
  .split;.exact .Gm (BD.bind (G2 _))
   split;.exact .Gm (BD.bind (G2 _))
   exact .Gm (BD.behind (by exact Oz _) λ_=>BD.bind (G2 _))
  refine(XW _).andThen λK L _ _ _=>?_;refine(Hr e).andThen ?_;rintro M R T _ rfl;split;.exact AQ.andThen (Q:=Rp F) (.AS .nil) λI j z z' hz=>(RF e (hz.kP _)).andThen λN s a a' ha=>.AS (.slice _ _ ha)
  refine(M0 f e).andThen λI j y y' hy=>?_;exact AQ.andThen (Q:=Rp F) (.AS hy.cells) λW X z z' hz=>(RF e (hz.kP _)).andThen λN s a a' ha=>.AS (.slice _ _ ha)
 |_=>exact .stuck
def dd(h:AK F E v v'):AQ P F so Eo E (aDl v) (aDl v'):=by cases h with|FZ l c=>exact .AS rfl|slice l c h=>exact .AS rfl|string s=>exact .AS rfl|_=>exact .stuck
def Al.self:∀{l},(∀v∈l,AK F E v v)->Al F E l l|[],_=>.nil|_::_,h=>.cons (h _ (Le ..)) (Al.self λv hv=>h v (G1 _ hv))
def NJ(I n)(h:AK F E v v'):AQ P F so (Rp F) E (aDj I n v) (aDj I n v'):=by cases h with|FZ l c=>exact .AS .nil|slice l c h=>exact yy h _|string s=>refine .AS ?_;refine Al.self λv hv=>?_;obtain⟨b,_,rfl⟩:=a'w.1 (Array.mem_toList_iff.1 hv);exact .int ..|_=>exact .stuck
theorem Al.zeroCells{z z'}(h:Al F E z.toList z'.toList)(n):Al F E (Mo z n).toList (Mo z' n).toList:=by unfold Mo;have hl:=Ai h.length;have:=h.kP (n*z.size);grind
def aBK(t):AQ P F so (λ_ a a'=>a=a'/\P.underlying t=Z a) E (Ms t) (Ms t):=by refine .prog ?_;cases P.underlying t with|none=>exact .stuck|some d=>exact .AS ⟨rfl,rfl⟩
def aUh(y4:Fit P F){s s'}(ts t)(h:AK F E s s')(k:AK F E x x')(ZZ:∀u,ts[1]?=Z u->∀q,P.underlying u≠Z (R_ q)):AQ P F so (Bp F) E (U1 ts t #[s,x]) (U1 ts t #[s',x']):=by
 unfold U1;cases ht:ts[0]? with
 |none=>exact .stuck
 |some zU=>
  simp only[tf,aHV,te];refine(FN zU).andThen ?_;rintro i4 hE d _ rfl;cases d with
  |slice e=>
   let h2:=h.mono hE;cases h2 with
   |FZ l c=>
    dsimp only;refine(Hr e).andThen ?_;rintro E2 N I _ rfl;cases h1:ts[1]? with
    |none=>
     dsimp only;refine AQ.andThen (Q:=λ_ a a'=>a=A9/\a'=A9) (.AS ⟨rfl,rfl⟩) ?_;rintro Ds U _ _⟨rfl,rfl⟩;simp only[Ev,if_false,Xm,if_true,false_or];refine(dd (((k.mono hE).mono N).mono U)).andThen ?_;rintro Fv f n _ rfl;split;.exact(NJ I n ((((k.mono hE).mono N).mono U).mono f)).andThen λD m new H A=>.AS (.FZ _ _)
     refine(HS e).andThen ?_;rintro D m i _⟨rfl,_⟩;split;.exact .Gm (BD.bind (G2 _))
     refine(HS e).andThen ?_;rintro Y C j _⟨rfl,_⟩;split;.exact .Gm (BD.bind (BD.behind (by first|exact Oz _|exact XK _|exact XL _ _ _ _ _|exact VH _|exact Tj _|exact Tk _|exact R6) λ_=>by split<;>first|exact BD.behind (by first|exact Oz _|exact XK _|exact XL _ _ _ _ _|exact VH _|exact Tj _|exact Tk _|exact R6) λ_=>BD.halt _|exact BD.halt _))
     refine .choose _ λK=>?_;refine(HS e).andThen ?_;rintro Xo L j2 _⟨rfl,_⟩;refine(XW _).andThen λXp M _ _ _=>?_;let up:=λ(v v')(hv:AK F i4 v v')=>((((((hv.mono N).mono U).mono f).mono m).mono C).mono L).mono M;refine(NJ I _ (up _ _ (.FZ l c))).andThen λaa R old old' T=>?_;refine(NJ I n ((up _ _ (k.mono hE)).mono R)).andThen λeW W new H A=>?_;refine(M0 y4 e).andThen λeY X z z' hz=>?_;refine(RF e ?_).andThen ?_;.have:=(((T.mono W).append A).mono X).append (hz.cells.zeroCells (K-(l+n)));simpa using this
     exact λeZ hZ b b' hb=>.AS (.slice _ _ hb)
    |some u=>
     dsimp only;refine(aBK u).andThen ?_;rintro r8 Yw d2 _⟨rfl,hd⟩;replace N:=AZ.le_trans N Yw;refine AQ.andThen (Q:=λ_ a a'=>a=A9/\a'=A9) (.AS ?_) ?_;.cases d2 with|int q=>exact absurd hd (ZZ u h1 q)|_=>exact⟨rfl,rfl⟩
     skip;rintro Ds U _ _⟨rfl,rfl⟩;simp only[Ev,if_false,Xm,if_true,false_or];refine(dd (((k.mono hE).mono N).mono U)).andThen ?_;rintro Fv f n _ rfl;split;.exact(NJ I n ((((k.mono hE).mono N).mono U).mono f)).andThen λD m new H A=>.AS (.FZ _ _)
     refine(HS e).andThen ?_;rintro D m i _⟨rfl,_⟩;split;.exact .Gm (BD.bind (G2 _))
     refine(HS e).andThen ?_;rintro Y C j _⟨rfl,_⟩;split;.exact .Gm (BD.bind (BD.behind (by first|exact Oz _|exact XK _|exact XL _ _ _ _ _|exact VH _|exact Tj _|exact Tk _|exact R6) λ_=>by split<;>first|exact BD.behind (by first|exact Oz _|exact XK _|exact XL _ _ _ _ _|exact VH _|exact Tj _|exact Tk _|exact R6) λ_=>BD.halt _|exact BD.halt _))
     refine .choose _ λK=>?_;refine(HS e).andThen ?_;rintro Xo L j2 _⟨rfl,_⟩;refine(XW _).andThen λXp M _ _ _=>?_;let up:=λ(v v':A3)(hv:AK F i4 v v')=>((((((hv.mono N).mono U).mono f).mono m).mono C).mono L).mono M;refine(NJ I _ (up _ _ (.FZ l c:AK F i4 _ _))).andThen λaa R old old' T=>?_;refine(NJ I n ((up _ _ (k.mono hE)).mono R)).andThen λeW W new H A=>?_;refine(M0 y4 e).andThen λeY X z z' hz=>?_;refine(RF e ?_).andThen ?_;.have:=(((T.mono W).append A).mono X).append (hz.cells.zeroCells (K-(l+n)));simpa using this
     exact λeZ hZ b b' hb=>.AS (.slice _ _ hb)
   |slice l c ha=>
    dsimp only;refine(Hr e).andThen ?_;rintro E2 N I _ rfl;cases h1:ts[1]? with
    |none=>
     dsimp only;refine AQ.andThen (Q:=λ_ a a'=>a=A9/\a'=A9) (.AS ⟨rfl,rfl⟩) ?_;rintro Ds U _ _⟨rfl,rfl⟩;simp only[Ev,if_false,Xm,if_true,false_or];refine(dd (((k.mono hE).mono N).mono U)).andThen ?_;rintro Fv f n _ rfl;split;.exact(NJ I n ((((k.mono hE).mono N).mono U).mono f)).andThen λD m new H A=>(aC 0 (((((ha.mono N).mono U).mono f).mono m).add _) A).andThen λY C _ _ _=>.AS (.slice _ _ (((((ha.mono N).mono U).mono f).mono m).mono C))
     refine(HS e).andThen ?_;rintro D m i _⟨rfl,_⟩;split;.exact .Gm (BD.bind (G2 _))
     refine(HS e).andThen ?_;rintro Y C j _⟨rfl,_⟩;split;.exact .Gm (BD.bind (BD.behind (by first|exact Oz _|exact XK _|exact XL _ _ _ _ _|exact VH _|exact Tj _|exact Tk _|exact R6) λ_=>by split<;>first|exact BD.behind (by first|exact Oz _|exact XK _|exact XL _ _ _ _ _|exact VH _|exact Tj _|exact Tk _|exact R6) λ_=>BD.halt _|exact BD.halt _))
     refine .choose _ λK=>?_;refine(HS e).andThen ?_;rintro Xo L j2 _⟨rfl,_⟩;refine(XW _).andThen λXp M _ _ _=>?_;let up:=λ(v v':A3)(hv:AK F i4 v v')=>((((((hv.mono N).mono U).mono f).mono m).mono C).mono L).mono M;refine(NJ I _ (up _ _ (.slice l c ha:AK F i4 _ _))).andThen λaa R old old' T=>?_;refine(NJ I n ((up _ _ (k.mono hE)).mono R)).andThen λeW W new H A=>?_;refine(M0 y4 e).andThen λeY X z z' hz=>?_;refine(RF e ?_).andThen ?_;.have:=(((T.mono W).append A).mono X).append (hz.cells.zeroCells (K-(l+n)));simpa using this
     exact λeZ hZ b b' hb=>.AS (.slice _ _ hb)
    |some u=>
     dsimp only;refine(aBK u).andThen ?_;rintro r8 Yw d2 _⟨rfl,hd⟩;replace N:=AZ.le_trans N Yw;refine AQ.andThen (Q:=λ_ a a'=>a=A9/\a'=A9) (.AS ?_) ?_;.cases d2 with|int q=>exact absurd hd (ZZ u h1 q)|_=>exact⟨rfl,rfl⟩
     skip;rintro Ds U _ _⟨rfl,rfl⟩;simp only[Ev,if_false,Xm,if_true,false_or];refine(dd (((k.mono hE).mono N).mono U)).andThen ?_;rintro Fv f n _ rfl;split;.exact(NJ I n ((((k.mono hE).mono N).mono U).mono f)).andThen λD m new H A=>(aC 0 (((((ha.mono N).mono U).mono f).mono m).add _) A).andThen λY C _ _ _=>.AS (.slice _ _ (((((ha.mono N).mono U).mono f).mono m).mono C))
     refine(HS e).andThen ?_;rintro D m i _⟨rfl,_⟩;split;.exact .Gm (BD.bind (G2 _))
     refine(HS e).andThen ?_;rintro Y C j _⟨rfl,_⟩;split;.exact .Gm (BD.bind (BD.behind (by first|exact Oz _|exact XK _|exact XL _ _ _ _ _|exact VH _|exact Tj _|exact Tk _|exact R6) λ_=>by split<;>first|exact BD.behind (by first|exact Oz _|exact XK _|exact XL _ _ _ _ _|exact VH _|exact Tj _|exact Tk _|exact R6) λ_=>BD.halt _|exact BD.halt _))
     refine .choose _ λK=>?_;refine(HS e).andThen ?_;rintro Xo L j2 _⟨rfl,_⟩;refine(XW _).andThen λXp M _ _ _=>?_;let up:=λ(v v':A3)(hv:AK F i4 v v')=>((((((hv.mono N).mono U).mono f).mono m).mono C).mono L).mono M;refine(NJ I _ (up _ _ (.slice l c ha:AK F i4 _ _))).andThen λaa R old old' T=>?_;refine(NJ I n ((up _ _ (k.mono hE)).mono R)).andThen λeW W new H A=>?_;refine(M0 y4 e).andThen λeY X z z' hz=>?_;refine(RF e ?_).andThen ?_;.have:=(((T.mono W).append A).mono X).append (hz.cells.zeroCells (K-(l+n)));simpa using this
     exact λeZ hZ b b' hb=>.AS (.slice _ _ hb)
   |_=>exact .stuck
  |_=>exact .stuck
end
section
variable{P:Ao}{F:zy}{so:D3}{E:AZ}
def DM.length:∀{l l'},DM F E l l'->l'.length=l|_,_,.nil=>rfl|_,_,.cons _ _ t=>congrArg (·+1) t.length
def aVA(ts t)(h:AK F E x x'):AQ P F so (Bp F) E (ks ts t #[x]) (ks ts t #[x']):=by
 unfold ks;cases ts[0]? with
 |none=>exact .stuck
 |some u=>
  simp;refine(FN u).andThen ?_;rintro I hE d _ rfl;let h2:=h.mono hE;cases d with
  |array n e=>exact .AS (.int ..)
  |pointer a=>
   dsimp only;refine(FN a).andThen ?_;rintro E2 f N _ rfl;cases N with
   |array n e=>exact .AS (.int ..)
   |_=>exact .stuck
  |string=>
   cases h2 with
   |string s=>exact .AS (.int ..)
   |_=>exact .stuck
  |slice e=>
   cases h2 with
   |FZ l c=>exact .AS (.int ..)
   |slice l c ha=>exact .AS (.int ..)
   |_=>exact .stuck
  |map k e=>
   cases h2 with
   |R7=>exact .AS (.int ..)
   |map hr=>
    refine .getObj hr λo U ho=>?_;cases ho with
    |map n hm=>have:=hm.length;simp at this;show AQ P F so (Bp F) I (Ex _) (Ex _);rw[this];exact .AS (.int ..)
    |_=>exact .stuck
   |_=>exact .stuck
  |chan a b=>
   cases h2 with
   |WZ=>exact .AS (.int ..)
   |chan hr=>
    refine .getObj hr λo U ho=>?_;cases ho with
    |chan cap cl s r tm hb=>have:=hb.length;simp at this;show AQ P F so (Bp F) I (Ex _) (Ex _);rw[this];exact .AS (.int ..)
    |_=>exact .stuck
   |_=>exact .stuck
  |_=>cases h2<;>exact .stuck
def aUr(ts t)(h:AK F E x x'):AQ P F so (Bp F) E (a0A ts t #[x]) (a0A ts t #[x']):=by
 unfold a0A;cases ts[0]? with
 |none=>exact .stuck
 |some u=>
  refine(FN u).andThen ?_;rintro N hE d _ rfl;let h2:=h.mono hE;cases d with
  |array n e=>exact .AS (.int ..)
  |pointer a=>
   refine(FN a).andThen ?_;rintro E2 U I _ rfl;cases I with
   |array n e=>exact .AS (.int ..)
   |_=>exact .stuck
  |slice e=>
   cases h2 with
   |FZ l c=>exact .AS (.int ..)
   |slice l c ha=>exact .AS (.int ..)
   |_=>exact .stuck
  |chan a b=>
   cases h2 with
   |WZ=>exact .AS (.int ..)
   |chan hr=>
    refine .getObj hr λo o' ho=>?_;cases ho with
    |chan cap cl s r tm hb=>exact .AS (.int ..)
    |_=>exact .stuck
   |_=>exact .stuck
  |_=>cases h2<;>exact .stuck
def aUx(ts)(t)(h:AK F E x x')(k:AK F E y y'):AQ P F so (Bp F) E (a0B ts t #[x,y]) (a0B ts t #[x',y']):=by
 unfold a0B;cases ts[0]? with
 |none=>exact .stuck
 |some u=>
  refine(FN u).andThen ?_;rintro i4 hE d _ rfl;cases d with
  |slice e=>
   cases h.mono hE with
   |FZ l c=>refine(dd (k.mono hE)).andThen ?_;rintro E2 I n _ rfl;refine(Hr e).andThen ?_;rintro j N m _ rfl;exact(NJ m _ (((k.mono hE).mono I).mono N)).andThen λs U cs cs' f=>.AS (.int ..)
   |slice l c ha=>refine(dd (k.mono hE)).andThen ?_;rintro E2 I n _ rfl;refine(Hr e).andThen ?_;rintro j N m _ rfl;exact(NJ m _ (((k.mono hE).mono I).mono N)).andThen λs U cs cs' f=>(aC 0 (((ha.mono I).mono N).mono U) f).andThen λz A _ _ _=>.AS (.int ..)
   |_=>exact .stuck
  |_=>exact .stuck
inductive TB(P:Ao)(F:zy):BS A3->Prop|AS{v:A3}:(∀E,AK F E v v)->TB P F (Na v)|dead{s:BS A3}:BD P s->TB P F s
def TB.VW{s}(h:TB P F s):AQ P F so (Bp F) E s s:=by cases h with|AS h=>exact .pure (h E)|dead h=>exact .Gm h
def aCU(h)(k)(x y):TB P F (aEy h k x y):=by unfold aEy;split<;>first|exact .AS λ_=>.int ..|exact .dead (BD.halt _)
def aYo(h)(k)(x y):TB P F (aF0 h k x y):=by
 unfold aF0;split;.exact .dead (G2 _)
 split<;>first|exact .AS λ_=>.int ..|exact .dead (BD.halt _)
def aCV(h)(k)(x y):TB P F (aEz h k x y):=by unfold aEz;split<;>first|exact .AS λ_=>.int ..|exact .dead (BD.halt _)
def aYp(h)(k q)(x y):TB P F (aF2 h k x q y):=by
 unfold aF2;split;.exact .dead (G2 _)
 split<;>first|exact .AS λ_=>.int ..|exact .dead (BD.halt _)
def aYn(h)(x y):TB P F (aF' h x y):=by unfold aF';split<;>first|exact .AS λ_=>.bool _|exact .dead (BD.halt _)
def aCW(h)(x y):TB P F (sF h x y):=by
 unfold sF;split
 .split;.exact .dead (BD.halt _)
  exact .AS λ_=>.string _
 all_goals first|exact .AS λ_=>.bool _|exact .dead (BD.halt _)
def aVe(I)(h:AK F E x x'):AQ P F so (Bp F) E (lQ I x) (lQ I x'):=by unfold lQ;cases I<;>cases h<;>first|exact(aCU _ _ _ _).VW|exact(aCV _ _ _ _).VW|exact .AS (.bool _)|exact .stuck|exact .CI
end
section
variable{P:Ao}{F:zy}{so:D3}{E:AZ}
inductive Yg{lc:Type}(Q:AZ->lc->lc->Prop)(E:AZ):ForInStep lc->ForInStep lc->Prop|yield{b b':lc}:Q E b b'->Yg Q E (.yield b) (.yield b')|done{b b':lc}:Q E b b'->Yg Q E (.done b) (.done b')
def AQ.forIn{α lc:Type}{Q}{f f':α->lc->BS (ForInStep lc)}:∀(l:List α){E}{b b'},(∀I,E.le I->∀x,x∈l->∀b b',Q I b b'->AQ P F so (Yg Q) I (f x b) (f' x b'))->Q E b b'->AQ P F so Q E (Xv l b f) (Xv l b' f')|[],_,_,_,_,h=>by exact .AS h|x::l,E,b,b',hf,h=>by simp;refine(hf E (AZ.le_refl _) x (Le ..) b b' h).andThen λI hE s s' hs=>?_;cases hs with|done hq=>exact .AS hq|yield hq=>exact AQ.forIn l (λE2 N y hy=>hf E2 (AZ.le_trans hE N) y (G1 _ hy)) hq
def AQ.vZ{Q f f'}(l:Array α){b b':lc}(hf:∀I,E.le I->∀x,x∈l->∀b b',Q I b b'->AQ P F so (Yg Q) I (f x b) (f' x b'))(h:Q E b b'):AQ P F so Q E (Xv l b f) (Xv l b' f'):=by rw[<-qs,<-qs];exact AQ.forIn l.toList (λI hE x hx=>hf I hE x BA) h
inductive u2:AZ->Option (An×BL)->Option (An×BL)->Prop|none{E:AZ}:u2 E none none|some{E:AZ}{a a':An}(t:Nat):veiled t->C6 E a a'->u2 E (some (a,t)) (some (a',t))
def pk{r r'}(h:E.rel r r'):AQ P F so u2 E (viewAt r) (viewAt r'):=by refine .shape h λs=>?_;cases s with|some s=>exact .pure .none|none=>refine .getObj h λo I ho=>?_;cases ho with|view t v ha=>exact .pure (.some t v ha)|_=>exact .pure .none
def yz(h:C6 E a a'):AQ P F so Oa E (noView a) (noView a'):=by refine(pk h.1).andThen λI hE x N hx=>?_;cases hx with|none=>exact .AS trivial|some t v ha=>exact .CI
def aA(h:C6 E a a'):AQ P F so Eo E (byteOf a) (byteOf a'):=by
 let⟨b,off,spot⟩:=a;let⟨b',off',spot'⟩:=a';let⟨h1,h2,h3⟩:=h;subst h2 h3;cases spot' with
 |some s=>exact .AS rfl
 |none=>
  refine .prog ?_;refine(yz (a:=⟨b,off',J⟩) (a':=⟨b',off',J⟩) ⟨h1,rfl,rfl⟩).andThen λI hE _ _ _=>?_;refine .shape (hE _ _ h1) λs=>?_;cases s with
  |none=>exact .stuck
  |some s=>
   let⟨e,n⟩:=s;simp only[Dl];by_cases hz:P.cellsOf e=0;.simp only[hz,if_true];exact .pure rfl
   simp only[hz,if_false];cases s_ P P.depth e (off'%P.cellsOf e)with|none=>exact .stuck|some _=>exact .AS rfl
def aVS(h:C6 E a a')(c n):AQ P F so WM E (partAt a c n) (partAt a' c n):=by
 refine(aA h).andThen ?_;rintro N hE x _ rfl;let hp:C6 N {block:=a.block,off:=a.off+c} {block:=a'.block,off:=a'.off+c}:=⟨hE _ _ h.1,by simp only[h.2.1],rfl⟩;refine(aA hp).andThen ?_;rintro E2 I y _ rfl;by_cases he:y=x+n;.simp only[he,if_true];exact .AS (hp.mono I)
 simp only[he,if_false];exact .AS ⟨(hp.mono I).1,hp.2.1,rfl⟩
def yx(h:C6 E a a')(f):AQ P F so WM E (aFm a f) (aFm a' f):=by
 refine(Hr f.type).andThen ?_;rintro I hE n _ rfl;by_cases hz:n=0;.simp only[hz,if_true];exact aVS (h.mono hE) f.offset f.byteOffset
 simp only[hz,if_false];exact .AS ((h.mono hE).add f.offset)
def aV6(t)(h:AK F E v v')(i):AQ P F so (Bp F) E (ru t v i) (ru t v' i):=by
 refine(FN t).andThen ?_;rintro I hE d _ rfl;cases d with
 |struct fs=>
  simp only;cases fs[i]? with
  |none=>exact .stuck
  |some f=>exact(js (h.mono hE)).andThen λE2 e a a' ha=>(yx ha f).andThen λN j b U hb=>.AS (.ptr hb)
 |_=>exact .stuck
end
section
variable{P:Ao}{F:zy}{so:D3}{E:AZ}
def aB4{α lc:Type}{g:lc->α->BS lc}(hg:∀(E:AZ)b x,AQ P F so Eo E (g b x) (g b x)):∀(l:List α){E}(b),AQ P F so Eo E (l.foldlM g b) (l.foldlM g b)|[],_,_=>.AS rfl|x::l,E,b=>by refine(hg E b x).andThen ?_;rintro h hE y _ rfl;exact aB4 hg l y
def aVJ{g:α->BS lc}(hg:∀(E:AZ)x,AQ P F so Eo E (g x) (g x))(l:Array α):AQ P F so Eo E (l.mapM g) (l.mapM g):=by rw[kX,<-kU];refine aB4 (λE b x=>?_) l.toList _;refine(hg E x).andThen ?_;rintro h hE y _ rfl;exact .AS rfl
def aUn(m:Fit P F){l l'}(t)(h:OZ F E l.toList l'.toList):AQ P F so (Bp F) E (rp t l) (rp t l'):=by
 refine(M0 m t).andThen λE1 s z z' hz=>?_;refine(FN t).andThen ?_;rintro E2 j d _ rfl;let hz2:=(hz.mono j).cells;let hp:=(h.mono s).mono j;cases d with
 |struct fs=>
  refine(aVJ (λE f=>?_) fs).andThen ?_;.refine(Hr f.type).andThen ?_;rintro i4 _ n _ rfl;exact .AS rfl
  rintro A U I _ rfl;cases g:Y1 (I[·]?) z.cells l.toList with|none=>exact .stuck|some d=>let⟨d',g',hd⟩:=h' _ (hp.mono U) (hz2.mono U) g;rw[g'];exact .AS (.agg hd)
 |array n e=>refine(Hr e).andThen ?_;rintro A U N _ rfl;cases g:Y1 (λi=>Z (i*N,N)) z.cells l.toList with|none=>exact .stuck|some d=>let⟨d',g',hd⟩:=h' _ (hp.mono U) (hz2.mono U) g;rw[g'];exact .AS (.agg hd)
 |_=>exact .stuck
end
section
variable{P:Ao}{F:zy}{so:D3}{E:AZ}
theorem AQ.same{s s':BS (ForInStep lc)}(h:AQ P F so Eo E s s'):AQ P F so (Yg Eo) E s s':=h.weaken λI _ a a' e=>by cases e;cases a with|done b=>exact .done rfl|yield b=>exact .yield rfl
def AQ.v_{Q f f'}(r:aax){b b':lc}(hf:∀I,E.le I->∀x b b',Q I b b'->AQ P F so (Yg Q) I (f x b) (f' x b'))(h:Q E b b'):AQ P F so Q E (Xv r b f) (Xv r b' f'):=by rw[aIY,aIY];exact AQ.forIn _ (λI hE x _=>hf I hE x) h
def pd:∀(d:Nat){E:AZ}(t:BL){x x' y y':A3},AK F E x x'->AK F E y y'->AQ P F so Eo E (lM d t x y) (lM d t x' y')
 |0,_,_,_,_,_,_,_,_=>.CI
 |d+1,E,t,x,x',y,y',hx,hy=>by
  unfold lM;refine(FN t).andThen ?_;rintro E1 l u _ rfl;replace hx:=hx.mono l;replace hy:=hy.mono l;cases u with
  |interface ms=>cases hx with|nilIface=>cases hy<;>exact .AS rfl|_=>exact .AS rfl
  |struct fs=>
   cases hx with
   |agg hx=>
    cases hy with
    |agg hy=>
     dsimp only;refine(AQ.vZ (Q:=Eo) fs (λE2 N f _ b b' e=>?_) rfl).andThen ?_
     .refine AQ.same ?_;split;.refine(QE f.type (hx.mono N) f.offset).andThen λs U v v' hv=>?_;refine(QE f.type ((hy.mono N).mono U) f.offset).andThen λz j w w' hw=>?_;refine(pd d f.type (hv.mono j) hw).andThen ?_;rintro A C r _ rfl;split<;>exact .AS rfl
      exact .AS rfl
     rintro E2 N r _ rfl;split<;>exact .AS rfl
    |_=>exact .AS rfl
   |_=>exact .AS rfl
  |array n e=>
   cases hx with
   |agg hx=>
    cases hy with
    |agg hy=>
     dsimp only;refine(Hr e).andThen ?_;rintro D m I _ rfl;replace hx:=hx.mono m;replace hy:=hy.mono m;refine(AQ.v_ (Q:=Eo) _ (λE2 N f b b' h=>?_) rfl).andThen ?_;.refine AQ.same ?_;refine(QE e (hx.mono N) (f*I)).andThen λs U v v' hv=>?_;refine(QE e ((hy.mono N).mono U) (f*I)).andThen λz j w w' hw=>?_;refine(pd d e (hv.mono j) hw).andThen ?_;rintro A C r _ rfl;split<;>exact .AS rfl
     rintro E2 N r _ rfl;split<;>exact .AS rfl
    |_=>exact .AS rfl
   |_=>exact .AS rfl
  |_=>exact .AS rfl
end
section
variable{P:Ao}{F:zy}{so:D3}{E:AZ}
def NK(t):AQ P F so (λ_ a a'=>a=a'/\P.underlying t=Z a) E (Ms t) (Ms t):=by refine .prog ?_;cases P.underlying t with|none=>exact .stuck|some d=>exact .AS ⟨rfl,rfl⟩
def aBG{r r'}(h:E.rel r r'):AQ P F so (λE a a'=>a=J/\a'=J∨∃x I l,a=Z (x,l)/\a'=Z (I,l)/\C6 E x I) E (numberAt r) (numberAt r'):=by refine .shape h λs=>?_;cases s with|some s=>exact .pure (AA ⟨rfl,rfl⟩)|none=>refine .getObj h λo N ho=>?_;cases ho with|number l ha=>exact .pure (AF ⟨_,_,_,rfl,rfl,ha⟩)|_=>exact .pure (AA ⟨rfl,rfl⟩)
def a8(h:C6 E a a'):AQ P F so (λE p p'=>p'.2=p.2/\C6 E p.1 p'.1) E (aFj a) (aFj a'):=by
 refine(aBG h.1).andThen ?_;rintro I hE _ _(⟨rfl,rfl⟩|⟨x,N,l,rfl,rfl,hx⟩);.exact .AS ⟨rfl,h.mono hE⟩
 exact .AS ⟨rfl,hx⟩
theorem C6.same{b}(ha:C6 E a a')(hb:C6 E b b'):(a'==b')=(a==b):=by let⟨x,o,s⟩:=a;let⟨x',o',s'⟩:=a';let⟨y,q,r⟩:=b;let⟨y',q',r'⟩:=b';let⟨h1,h2,h3⟩:=ha;let⟨k1,k2,F5⟩:=hb;subst h2 h3 k2 F5;let e:x'=y'↔x=y:=⟨λe=>by subst e;exact E.other _ _ _ h1 k1,λe=>by subst e;exact E.one _ _ _ h1 k1⟩;rw[Xl,beq_iff_eq,beq_iff_eq];simp only[a_v,e]
theorem C6.zW{b}(ha:C6 E a a')(hb:C6 E b b'):(a'.block==b'.block)=(a.block==b.block):=by rw[Xl,beq_iff_eq,beq_iff_eq];exact⟨λe=>E.other _ _ _ ha.1 (e▸hb.1),λe=>E.one _ _ _ ha.1 (e▸hb.1)⟩
def flat(P:Ao):Nat->BL->Bool|0,_=>A9|d+1,t=>match P.underlying t with|Z .bool|Z (R_ _)|Z a1P=>A5|Z (.struct fs)=>fs.all λf=>flat P d f.type|Z (a1O _ e)=>flat P d e|_=>A9
end
section
variable{P:Ao}{F:zy}{so:D3}{E:AZ}
theorem yw(hG:P.globals.size=CX):∀(d:Nat){E:AZ}(k:Nat)(t:BL){x x' y y':A3},flat P k t=A5->AK F E x x'->AK F E y y'->AQ P F so Eo E (PN d t x y) (PN d t x' y')
 |0,_,_,_,_,_,_,_,_,_,_=>.CI
 |d+1,E,0,t,x,x',y,y',hf,hx,hy=>by cases hf
 |d+1,E,k+1,t,x,x',y,y',hf,hx,hy=>by
  unfold PN;refine(NK t).andThen ?_;rintro E1 s u _⟨rfl,hu⟩;unfold flat at hf;rw[hu]at hf;replace hx:=hx.mono s;replace hy:=hy.mono s;cases u with
  |bool=>
   cases hx with
   |bool a=>
    cases hy with
    |bool b=>exact .AS rfl
    |_=>exact .stuck
   |_=>exact .stuck
  |string=>
   cases hx with
   |string a=>
    cases hy with
    |string b=>exact .AS rfl
    |_=>exact .stuck
   |_=>exact .stuck
  |int kind=>
   cases hx with
   |int k1 a=>
    cases hy with
    |int k2 b=>
     dsimp only;split;.exact .AS rfl
     exact .stuck
    |ptr hb=>
     by_cases ha:a=0;.subst ha;exact .AS rfl
     split<;>first
     |exact .AS rfl
     |exact .CI
     |exact .stuck
     |simp_all
    |GR=>
     split<;>first
     |exact .AS rfl
     |exact .CI
     |exact .stuck
     |simp_all
    |_=>exact .stuck
   |ptr ha=>
    cases hy with
    |int k2 b=>
     by_cases hb:b=0;.subst hb;exact .AS rfl
     split<;>first
     |exact .AS rfl
     |exact .CI
     |exact .stuck
     |simp_all
    |ptr hb=>
     dsimp only;refine(a8 ha).andThen λE2 I p p'⟨_,hp⟩=>?_;refine(a8 (hb.mono I)).andThen λj U q q'⟨_,hq⟩=>?_;replace hp:=hp.mono U;refine .prog ?_;rw[C6.zW hp hq,C6.same hp hq];let hl:BK (p'.1.block<P.globals.size)=BK (p.1.block<P.globals.size):=by rw[hG];have:=j.low _ _ hp.1;simp[this]
     rw[hl];split;.refine(aA hp).andThen ?_;rintro l N m _ rfl;refine(aA (hq.mono N)).andThen ?_;rintro z A n _ rfl;exact .AS rfl
     refine(HS t).andThen ?_;rintro l N i _⟨rfl,_⟩;split
     .split;.exact .AS rfl
      exact .CI
     exact .CI
    |_=>exact .CI
   |GR=>exact .CI
   |_=>
    cases hy<;>first
    |exact .CI
    |exact .stuck
  |struct fs=>
   cases hx with
   |agg hx=>
    cases hy with
    |agg hy=>
     dsimp only;refine .prog ?_;split;.exact .CI
     refine(AQ.vZ (Q:=Eo) fs (λE2 I f hm b b' e=>?_) rfl).andThen ?_
     .cases e;refine AQ.same ?_;split
      .refine(QE f.type (hx.mono I) f.offset).andThen λj U v v' hv=>?_;refine(QE f.type ((hy.mono I).mono U) f.offset).andThen λl N w w' hw=>?_;refine(yw hG d k f.type ?_ (hv.mono N) hw).andThen ?_;.exact Array.all_eq_true_iff_forall_mem.1 hf f hm
       rintro z A r _ rfl;split<;>exact .AS rfl
      exact .AS rfl
     rintro E2 I r _ rfl;split<;>exact .AS rfl
    |_=>exact .stuck
   |_=>exact .stuck
  |array n e=>
   cases hx with
   |agg hx=>
    cases hy with
    |agg hy=>
     dsimp only;refine(Hr e).andThen ?_;rintro D C size _ rfl;replace hx:=hx.mono C;replace hy:=hy.mono C;refine(AQ.v_ (Q:=Eo) _ (λE2 I f b b' h=>?_) rfl).andThen ?_;.cases h;refine AQ.same ?_;refine(QE e (hx.mono I) (f*size)).andThen λj U v v' hv=>?_;refine(QE e ((hy.mono I).mono U) (f*size)).andThen λl N w w' hw=>?_;refine(yw hG d k e hf (hv.mono N) hw).andThen ?_;rintro z A r _ rfl;split<;>exact .AS rfl
     rintro E2 I r _ rfl;split<;>exact .AS rfl
    |_=>exact .stuck
   |_=>exact .stuck
  |_=>cases hf
end
section
variable{P:Ao}{F:zy}{so:D3}{E:AZ}
inductive Nil:A3->Prop|ptr:Nil (B2 J)|slice(l c:Nat):Nil (A0 J l c)|map:Nil (AL J)|chan:Nil (EJ J)|func:Nil l_|iface:Nil CN
def Nil.fixed(h:Nil v)(hv:AK F E v v'):v'=v:=by cases h<;>cases hv<;>rfl
theorem aV2:∀(d:Nat){E:AZ}(t:BL){x x' y:A3},AK F E x x'->Nil y->AQ P F so Eo E (PN d t x y) (PN d t x' y)
 |0,_,_,_,_,_,_,_=>.CI
 |d+1,E,t,x,x',y,hx,hy=>by
  unfold PN;refine(NK t).andThen ?_;rintro E1 I u _⟨rfl,hu⟩;replace hx:=hx.mono I;cases hy with
  |ptr=>
   cases u with
   |int k=>
    cases hx with
    |int k2 b=>
     by_cases hb:b=0<;>(
      split<;>first
      |exact .CI
      |exact .stuck
      |simp_all)
    |_=>exact .CI
   |pointer e=>
    cases hx with
    |GR=>exact .AS rfl
    |ptr h=>exact .AS rfl
    |_=>exact .stuck
   |unsafePointer=>
    cases hx with
    |GR=>exact .AS rfl
    |ptr h=>exact .AS rfl
    |_=>exact .stuck
   |_=>cases hx<;>exact .stuck
  |slice l c=>
   cases u with
   |slice e=>
    cases hx with
    |FZ N c2=>exact .AS rfl
    |slice N c2 h=>exact .AS rfl
    |_=>exact .stuck
   |int k=>
    cases hx<;>first
    |exact .CI
    |exact .stuck
   |_=>cases hx<;>exact .stuck
  |map=>
   cases u with
   |map e f=>
    cases hx with
    |R7=>exact .AS rfl
    |map h=>exact .AS rfl
    |_=>exact .stuck
   |int k=>
    cases hx<;>first
    |exact .CI
    |exact .stuck
   |_=>cases hx<;>exact .stuck
  |chan=>
   cases u with
   |chan e f=>
    cases hx with
    |WZ=>exact .AS rfl
    |chan h=>exact .AS rfl
    |_=>exact .stuck
   |int k=>
    cases hx<;>first
    |exact .CI
    |exact .stuck
   |_=>cases hx<;>exact .stuck
  |func=>
   cases u with
   |func e f g=>
    cases hx with
    |nilFunc=>exact .AS rfl
    |func _ _ _=>
     first
     |exact .AS rfl
     |exact .stuck
    |_=>exact .stuck
   |int k=>
    cases hx<;>first
    |exact .CI
    |exact .stuck
   |_=>cases hx<;>exact .stuck
  |iface=>
   cases u with
   |interface U=>
    cases hx with
    |nilIface=>exact .AS rfl
    |iface t h=>exact .AS rfl
    |_=>exact .stuck
   |int k=>
    cases hx<;>first
    |exact .CI
    |exact .stuck
   |_=>cases hx<;>exact .stuck
def aBI(hz:so.J3)(ha:C6 E a a'):AQ P F so Eo E (stringish a) (stringish a'):=by refine .frozen hz ha λx=>?_;cases x with|true=>exact .pure rfl|false=>refine .shape ha.1 λs=>?_;cases s with|none=>exact .pure rfl|some s=>exact .frozen hz ⟨ha.1,rfl,rfl⟩ λy=>.pure rfl
def aVK(hz:so.J3){b}(ha:C6 E a a')(hb:C6 E b b'):AQ P F so Eo E (mayBeOne a b) (mayBeOne a' b'):=by refine(aBI hz ha).andThen ?_;rintro E1 h N _ rfl;refine(aBI hz (hb.mono h)).andThen ?_;rintro E2 I fd _ rfl;replace ha:=(ha.mono h).mono I;replace hb:=(hb.mono h).mono I;exact .shape ha.1 λs=>.shape hb.1 λu=>.pure rfl
def aVW(hz:so.J3){b}(ha:C6 E a a')(hb:C6 E b b'):AQ P F so Eo E (a1e a b) (a1e a' b'):=by
 unfold a1e;rw[ha.zW hb,ha.same hb];split;.exact .AS rfl
 refine .frozen hz ha λx=>?_;refine .frozen hz hb λy=>?_;simp only[Dl];split;.exact .CI
 refine(yz ha).andThen λE1 h _ _ _=>?_;refine(yz (hb.mono h)).andThen λE2 I _ _ _=>?_;refine(aVK hz ((ha.mono h).mono I) ((hb.mono h).mono I)).andThen ?_;rintro N U m _ rfl;cases m with|true=>exact .choose _ λn=>.pure rfl|false=>exact .AS rfl
def aV3(hz:so.J3)(d t)(ht:∃e,P.underlying t=Z (PQ e))(hx:AK F E x x')(hy:AK F E y y'):AQ P F so Eo E (PN d t x y) (PN d t x' y'):=by
 cases d with
 |zero=>exact .CI
 |succ d=>
  unfold PN;refine(NK t).andThen ?_;rintro E1 h u _⟨rfl,hu⟩;let⟨e,he⟩:=ht;rw[he]at hu;obtain rfl:=CP hu;replace hx:=hx.mono h;replace hy:=hy.mono h;cases hx with
  |GR=>cases hy<;>first|exact .AS rfl|exact .stuck
  |ptr ha=>
   cases hy with
   |GR=>exact .AS rfl
   |ptr hb=>
    dsimp only;refine(Hr e).andThen ?_;rintro E2 I n _ rfl;split;.exact aVW hz (ha.mono I) (hb.mono I)
    rw[ha.same hb];split;.exact .AS rfl
    exact .choose _ λn=>.pure rfl
   |_=>exact .stuck
  |_=>cases hy<;>exact .stuck
end
section
variable{P:Ao}{F:zy}{so:D3}{E:AZ}
theorem aBJ(hG:P.globals.size=CX){b}(ha:C6 E a a')(hb:C6 E b b'):AQ P F so Eo E (aF3 a b) (aF3 a' b'):=by
 refine .prog ?_;let h:(a'.block !=b'.block)=(a.block !=b.block):=by grind[C6.zW]
 let h2:BK (a'.block≥P.globals.size)=BK (a.block≥P.globals.size):=by have:=E.low _ _ ha.1;rw[Xl,decide_eq_true_eq,decide_eq_true_eq];omega
 rw[h,h2];split;.exact .CI
 refine(aA ha).andThen ?_;rintro E1 I m _ rfl;refine(aA (hb.mono I)).andThen ?_;rintro E2 N n _ rfl;exact .AS rfl
def aUf(hG:P.globals.size=CX)(k){b}(ha:C6 E a a')(hb:C6 E b b'):AQ P F so (Bp F) E (aEv k a b) (aEv k a' b'):=by refine(aBJ hG ha hb).andThen ?_;rintro E1 h m _ rfl;exact .AS (.int ..)
def aUe(hG:P.globals.size=CX)(h){b}(ha:C6 E a a')(hb:C6 E b b'):AQ P F so (Bp F) E (a0q h a b) (a0q h a' b'):=by unfold a0q;refine(aBJ hG ha hb).andThen ?_;rintro E1 I m _ rfl;cases h<;>first|exact .AS (.bool _)|exact .CI
def aAx(k)(n)(ha:C6 E a a'):AQ P F so (Bp F) E (aEu k a n) (aEu k a' n):=by
 refine .shape ha.1 λs=>?_;cases s with
 |none=>exact .CI
 |some s=>
  let⟨e,c⟩:=s;refine(HS e).andThen ?_;rintro E1 h i _⟨rfl,_⟩;dsimp only;split;.exact .CI
  refine(aA (ha.mono h)).andThen ?_;rintro E2 I m _ rfl;exact .AS (.int ..)
end
section
variable{P:Ao}{F:zy}{so:D3}{E:AZ}
def aUk(h:C6 E a a')(l):AQ P F so (Bp F) E (asNumber a l) (asNumber a' l):=by exact .new (.number l h) λb I hb=>.pure (.ptr ⟨AZ.Rr _ _ _ hb,rfl,rfl⟩)
def pj(ts t)(hx:AK F E x x')(hy:AK F E y y'):AQ P F so (Bp F) E (ku ts t #[x,y]) (ku ts t #[x',y']):=by
 unfold ku;cases hx with
 |GR=>
  dsimp only;refine(SQ hy).andThen ?_;rintro E1 h n _ rfl;split;.exact .CI
  split;.exact .CI
  exact .CI
 |ptr ha=>
  dsimp only;refine(SQ hy).andThen ?_;rintro E1 h n _ rfl;replace ha:=ha.mono h;split;.refine(pk ha.1).andThen λE2 I x x' hx=>?_;cases hx with|none=>exact .AS (.ptr (ha.mono I))|some t v hb=>exact .CI
  split;.exact .CI
  refine .shape ha.1 λs=>?_;cases s with|none=>exact .CI|some s=>let⟨e,c⟩:=s;refine .prog ?_;rw[ha.2.1];cases aFl P P.depth e (c/P.cellsOf e) _ n with|none=>exact .CI|some N=>exact .AS (.ptr ⟨ha.1,rfl,ha.2.2⟩)
 |_=>exact .stuck
def de(t)(hx:AK F E x x')(hy:AK F E y y'):AQ P F so (Bp F) E (aFs t x y) (aFs t x' y'):=by
 refine(FN t).andThen ?_;rintro E1 I u _ rfl;replace hx:=hx.mono I;replace hy:=hy.mono I;dsimp only;split;.exact .CI
 cases hx with
 |ptr ha=>
  refine(a8 ha).andThen λE2 N⟨p,l⟩⟨p',l'⟩⟨hl,hp⟩=>?_;subst hl;refine(pj #[] t (.ptr hp) (hy.mono N)).andThen λU d v v' hv=>?_;cases hv with
  |ptr hb=>exact aUk hb l'
  |agg h=>exact .AS (.agg h)
  |tuple h=>exact .AS (.tuple h)
  |iface t h=>exact .AS (.iface t h)
  |func a b c=>exact .AS (.func a b c)
  |map h=>exact .AS (.map h)
  |chan h=>exact .AS (.chan h)
  |slice l c h=>exact .AS (.slice l c h)
  |_=>exact .AS (by constructor)
 |GR=>exact pj #[] t .GR hy
 |_=>exact .stuck
def aBE(t)(hx:AK F E x x')(hy:AK F E y y'):AQ P F so (Bp F) E (aFt t x y) (aFt t x' y'):=by
 cases hx with
 |ptr ha=>
  refine(aBG ha.1).andThen ?_;rintro E2 h _ _(⟨rfl,rfl⟩|⟨p,p',l,rfl,rfl,_⟩);.exact pj #[] t (.ptr (ha.mono h)) (hy.mono h)
  exact .CI
 |GR=>exact pj #[] t .GR hy
 |_=>exact .stuck
end
section
variable{P:Ao}{F:zy}{so:D3}{E:AZ}
def yv(hG:P.globals.size=CX)(k)(t)(hx:AK F E x x')(hy:AK F E y y')(hq:flat P k t=A5∨Nil y∨so.J3/\∃e,P.underlying t=Z (PQ e)):AQ P F so Eo E (U8 t x y) (U8 t x' y'):=by
 rcases hq with h|h|h;.exact yw hG _ k t h hx hy
 .rw[h.fixed hy];exact aV2 _ t hx h
 exact aV3 h.1 _ t h.2 hx hy
def aV1(hG:P.globals.size=CX)(k)(t)(hx:AK F E x x')(hy:AK F E y y')(hq:flat P k t=A5∨Nil y∨so.J3/\∃e,P.underlying t=Z (PQ e)):AQ P F so (Bp F) E (do Ex (Ag (<-U8 t x y))) (do Ex (Ag (<-U8 t x' y'))):=by refine(yv hG k t hx hy hq).andThen ?_;rintro E1 h b _ rfl;exact .AS (.bool _)
def aVN(hG:P.globals.size=CX)(k)(t)(hx:AK F E x x')(hy:AK F E y y')(hq:flat P k t=A5∨Nil y∨so.J3/\∃e,P.underlying t=Z (PQ e)):AQ P F so (Bp F) E (do Ex (Ag (!(<-U8 t x y)))) (do Ex (Ag (!(<-U8 t x' y')))):=by refine(yv hG k t hx hy hq).andThen ?_;rintro E1 h b _ rfl;exact .AS (.bool _)
def aUl(hG:P.globals.size=CX)(k I t)(hx:AK F E x x')(hy:AK F E y y')(hq:I=.eql∨I=.neq->flat P k t=A5∨Nil y∨so.J3/\∃e,P.underlying t=Z (PQ e)):AQ P F so (Bp F) E (OQ I t x y) (OQ I t x' y'):=by
 let he:=λh=>aV1 (so:=so) hG k t hx hy (hq (AA h));let hn:=λh=>aVN (so:=so) hG k t hx hy (hq (AF h));unfold OQ;cases hx with
 |int k1 a=>
  cases hy with
  |int k2 b=>
   cases I<;>dsimp only<;>first
   |exact(aYp _ _ _ _ _).VW
   |
    (
     split;.exact .stuck
     first
     |exact(aCU _ _ _ _).VW
     |exact(aYo _ _ _ _).VW
     |exact(aCV _ _ _ _).VW
     |exact(aYn _ _ _).VW)
  |ptr hb=>
   cases I<;>dsimp only<;>first
   |exact he rfl
   |exact hn rfl
   |exact de t (.ptr hb) (.int k1 a)
   |(refine(a8 hb).andThen ?_;rintro E2 U p p'⟨_,hp⟩;exact aAx _ _ hp)
   |exact .CI
  |GR=>
   cases I<;>dsimp only<;>first
   |exact he rfl
   |exact hn rfl
   |exact de t .GR (.int k1 a)
   |exact .CI
  |_=>
   cases I<;>dsimp only<;>first
   |exact he rfl
   |exact hn rfl
   |exact .stuck
 |string a=>
  cases hy with
  |string b=>cases I<;>exact(aCW _ _ _).VW
  |_=>
   cases I<;>dsimp only<;>first
   |exact he rfl
   |exact hn rfl
   |exact .stuck
   |exact .CI
 |ptr ha=>
  cases hy with
  |int k2 b=>
   cases I<;>dsimp only<;>first
   |exact he rfl
   |exact hn rfl
   |exact de t (.ptr ha) (.int _ _)
   |
    (
     refine(FN t).andThen ?_;rintro E1 N u _ rfl;cases u<;>first
     |exact de t (.ptr (ha.mono N)) (.int _ _)
     |exact aBE t (.ptr (ha.mono N)) (.int _ _))
   |(refine(a8 ha).andThen ?_;rintro E2 U p p'⟨_,hp⟩;exact aAx _ _ hp)
   |exact .CI
  |ptr hb=>
   cases I<;>dsimp only<;>first
   |exact he rfl
   |exact hn rfl
   |
    (
     refine(a8 ha).andThen ?_;rintro E2 U p p'⟨_,hp⟩;refine(a8 (hb.mono U)).andThen ?_;rintro f d q q'⟨_,hq⟩;first
     |exact aUf hG _ (hp.mono d) hq
     |exact aUe hG _ (hp.mono d) hq)
   |exact .CI
  |_=>
   cases I<;>dsimp only<;>first
   |exact he rfl
   |exact hn rfl
   |exact .stuck
   |exact .CI
 |GR=>
  cases hy with
  |int k2 b=>
   cases I<;>dsimp only<;>first
   |exact he rfl
   |exact hn rfl
   |exact de t .GR (.int _ _)
   |
    (
     refine(FN t).andThen ?_;rintro E1 N u _ rfl;cases u<;>first
     |exact de (x:=B2 J) (x':=B2 J) (y:=AB k2 b) (y':=AB k2 b) t .GR (.int k2 b)
     |exact aBE (x:=B2 J) (x':=B2 J) (y:=AB k2 b) (y':=AB k2 b) t .GR (.int k2 b))
   |exact .CI
  |_=>
   cases I<;>dsimp only<;>first
   |exact he rfl
   |exact hn rfl
   |exact .stuck
   |exact .CI
 |_=>
  cases hy<;>cases I<;>dsimp only<;>first
  |exact he rfl
  |exact hn rfl
  |exact .stuck
  |exact .CI
end
section
variable{P:Ao}{F:zy}{so:D3}{E:AZ}
def aB(I):∀(d){E}(t){v v'},AK F E v v'->AQ P F so Oa E (rq I d t v) (rq I d t v')
 |0,_,_,_,_,_=>.CI
 |d+1,E,t,v,v',hv=>by
  refine(FN t).andThen ?_;rintro E1 j u _ rfl;replace hv:=hv.mono j;cases u with
  |interface ms=>
   cases hv with
   |iface d2 hx=>
    refine(HS d2).andThen ?_;rintro E2 N i _⟨rfl,_⟩;split
    .refine .Gm ?_;split;.exact(G2 _).bind
     exact BD.behind (by exact VH _) λ_=>(G2 _).bind
    exact aB I d d2 (hx.mono N)
   |nilIface=>exact .AS trivial
   |_=>exact .stuck
  |array n e=>
   cases hv with
   |agg h=>
    refine(AQ.v_ (Q:=Oa) _ (λE2 N f b b' _=>?_) trivial).andThen ?_;.refine(Hr e).andThen ?_;rintro C l U _ rfl;exact(QE e ((h.mono N).mono l) (f*U)).andThen λm s w w' hw=>(aB I d e hw).andThen λz A _ _ _=>.AS (.yield trivial)
    exact λE2 N _ _ _=>.AS trivial
   |_=>exact .stuck
  |struct fs=>
   cases hv with
   |agg h=>
    refine(AQ.vZ (Q:=Oa) fs (λE2 N f _ b b' _=>?_) trivial).andThen ?_
    .split;.exact(QE f.type (h.mono N) f.offset).andThen λm s w w' hw=>(aB I d f.type hw).andThen λz A _ _ _=>.AS (.yield trivial)
     exact .AS (.yield trivial)
    exact λE2 N _ _ _=>.AS trivial
   |_=>exact .stuck
  |_=>exact .AS trivial
def aXU(u)(hk:AK F E k k')(hy:AK F E y y'):a0g u k' y'=a0g u k y:=by cases hk<;>cases hy<;>cases u<;>rfl
inductive ea(F:zy)(E:AZ):Option (Nat×A3)->Option (Nat×A3)->Prop|none:ea F E none none|some(i:Nat){v v':A3}:AK F E v v'->ea F E (some (i,v)) (some (i,v'))
def a4z(u){k k'}(hk:AK F E k k'):∀{l l'}(i),DM F E l l'->lD u k l i=J/\lD u k' l' i=J∨∃r r',lD u k l i=Z r/\lD u k' l' i=Z r'/\ea F E r r'
 |_,_,_,.nil=>AF ⟨_,_,rfl,rfl,.none⟩
 |_,_,i,.cons (k:=y) hy hv t=>by
  unfold lD;rw[aXU u hk hy];cases a0g u k y with
  |none=>exact AA ⟨rfl,rfl⟩
  |some b=>
   cases b;.exact a4z u hk (i+1) t
   exact AF ⟨_,_,rfl,rfl,.some i hv⟩
def aB2(hG:P.globals.size=CX)(n)(t)(hf:flat P n t=A5):∀{E}{k k'}{l l'}(i),AK F E k k'->DM F E l l'->AQ P F so (ea F) E (aEd t k l i) (aEd t k' l' i)
 |_,_,_,_,_,_,_,.nil=>.AS .none
 |_,_,_,_,_,i,hk,.cons hy hv tl=>by
  refine(yv hG n t hk hy (AA hf)).andThen ?_;rintro E1 h b _ rfl;cases b;.exact aB2 hG n t hf (i+1) (hk.mono h) (tl.mono h)
  exact .AS (.some i (hv.mono h))
def pe(hG:P.globals.size=CX)(n)(t)(hf:flat P n t=A5){l l'}(hk:AK F E k k')(hl:DM F E l l'):AQ P F so (ea F) E (Vs t k l) (Vs t k' l'):=by
 refine(FN t).andThen ?_;rintro E1 h u _ rfl;rcases a4z u (hk.mono h) 0 (hl.mono h)with⟨e,I⟩|⟨r,r',e,I,hr⟩;.rw[e,I];exact aB2 hG n t hf 0 (hk.mono h) (hl.mono h)
 rw[e,I];exact .AS hr
theorem DM.empty{a a':Array Fy}(h:DM F E a.toList a'.toList):a'.isEmpty=a.isEmpty:=by have:=h.length;simp_all[Array.isEmpty,this]
def aVC(f:Fit P F)(hG:P.globals.size=CX)(n t)(hf:∀k e,P.underlying t=Z (YC k e)->flat P n k=A5){i l}(N)(hx:AK F E x x')(hi:AK F E i l):AQ P F so (Bp F) E (Fb t x i N) (Fb t x' l N):=by
 refine(NK t).andThen ?_;rintro E1 m u _⟨rfl,hu⟩;replace hx:=hx.mono m;replace hi:=hi.mono m;cases u with
 |map I h=>
  dsimp only;let d:=hf I h hu;cases hx with
  |R7=>
   let hes:DM F E1 #[].toList #[].toList:=.nil;refine(aB _ _ _ hi).andThen λs U _ _ _=>?_;refine(pe hG n I d (hi.mono U) (hes.mono U)).andThen λz A r r' hr=>?_;cases hr with
   |none=>
    refine(M0 f h).andThen λC D v v' hv=>?_;cases N;.exact .AS hv
    exact .AS (.tuple (.cons hv (.cons (.bool _) .nil)))
   |some j hv=>
    cases N;.exact .AS hv
    exact .AS (.tuple (.cons hv (.cons (.bool _) .nil)))
  |map hr=>
   refine .getObj hr λo o' ho=>?_;cases ho with
   |map c hes=>
    refine AQ.andThen (Q:=λE(a a':Array Fy)=>DM F E a.toList a'.toList) (.AS hes) λE2 H es es' hes=>?_;replace hi:=hi.mono H;rw[hes.empty];refine(aB _ _ _ hi).andThen λs U _ _ _=>?_;refine(pe hG n I d (hi.mono U) (hes.mono U)).andThen λz A r r' hr=>?_;cases hr with
    |none=>
     refine(M0 f h).andThen λC D v v' hv=>?_;cases N;.exact .AS hv
     exact .AS (.tuple (.cons hv (.cons (.bool _) .nil)))
    |some j hv=>
     cases N;.exact .AS hv
     exact .AS (.tuple (.cons hv (.cons (.bool _) .nil)))
   |_=>exact .stuck
  |_=>exact .stuck
 |_=>exact .stuck
end
section
variable{P:Ao}{F:zy}{so:D3}{E:AZ}
def aDN{g:A3->A3->Bool}(hg:∀x I y N,AK F E x I->AK F E y N->g I N=g x y):∀{a a' b b':List A3},Al F E a a'->Al F E b b'->((a'.zip b').all λp=>g p.1 p.2)=(a.zip b).all λp=>g p.1 p.2|_,_,_,_,.nil,_=>AD|_,_,_,_,.cons ..,.nil=>AD|_,_,_,_,.cons h t,.cons k u=>by have:=aDN hg t u;simp only[List.zip_cons_cons,aHI,this,hg _ _ _ _ h k]
def aBY{a a' b b'}(ha:E.rel a a')(hb:E.rel b b'):(a'==b')=(a==b):=by rw[Xl,beq_iff_eq,beq_iff_eq];exact⟨λe=>E.other _ _ _ ha (e▸hb),λe=>E.one _ _ _ ha (e▸hb)⟩
def zV:∀(n:Nat){x x' y y':A3},AK F E x x'->AK F E y y'->Y4 n x' y'=Y4 n x y
 |0,_,_,_,_,hx,hy=>by
  cases hx with
  |ptr ha=>
   cases hy with
   |ptr hb=>simpa[Y4]using ha.same hb
   |_=>rfl
  |chan ha=>
   cases hy with
   |chan hb=>simpa[Y4]using aBY ha hb
   |_=>rfl
  |_=>cases hy<;>rfl
 |n+1,_,_,_,_,hx,hy=>by
  cases hx with
  |ptr ha=>
   cases hy with
   |ptr hb=>simpa[Y4]using ha.same hb
   |_=>rfl
  |chan ha=>
   cases hy with
   |chan hb=>simpa[Y4]using aBY ha hb
   |_=>rfl
  |iface t ha=>
   cases hy with
   |iface u hb=>unfold Y4;rw[zV n ha hb]
   |_=>rfl
  |agg ha=>
   cases hy with
   |agg hb=>have I:=ha.length;let h2:=hb.length;simp only[Array.length_toList]at I h2;unfold Y4;rw[I,h2];congr 1;exact aDN (λx x' y y' h k=>zV n h k) ha hb
   |_=>rfl
  |_=>cases hy<;>rfl
def aB8(hx:AK F E x x')(hy:AK F E y y'):AQ P F so (Bp F) E (a0f x y) (a0f x' y'):=by
 unfold a0f;rw[zV _ hx hy];split;.exact .AS hy
 refine .choose _ λn=>?_;refine .pure ?_;split;.exact hy
 exact hx
def DM.get:∀{l l'},DM F E l l'->∀(i:Nat),l[i]?=J/\l'[i]?=J∨∃e I,l[i]?=Z e/\l'[i]?=Z I/\AK F E e.key I.key/\AK F E e.val I.val/\I.born=e.born|_,_,.nil,_=>AA ⟨rfl,rfl⟩|_,_,.cons h k _,0=>AF ⟨_,_,rfl,rfl,h,k,rfl⟩|_,_,.cons _ _ t,i+1=>by simpa using t.get i
theorem DM.a8Q{es es':Array Fy}(h:DM F E es.toList es'.toList)(i:Nat)(hk:AK F E k k'):AK F E ((es[i]?.map (·.key)).getD k) ((es'[i]?.map (·.key)).getD k'):=by have:=h.get i;grind
def DM.snoc:∀{l l'}{k k' v v'}(n),DM F E l l'->AK F E k k'->AK F E v v'->DM F E (l++[{key:=k,val:=v,born:=n}]) (l'++[{key:=k',val:=v',born:=n}])|_,_,_,_,_,_,_,.nil,hk,hv=>.cons hk hv .nil|_,_,_,_,_,_,n,.cons h k t,hk,hv=>.cons h k (t.snoc n hk hv)
def DM.modify:∀{l l'}{k k' v v'}(i),DM F E l l'->AK F E k k'->AK F E v v'->DM F E (l.modify i λe=>{e with key:=k,val:=v}) (l'.modify i λe=>{e with key:=k',val:=v'})|_,_,_,_,_,_,i,.nil,_,_=>by cases i<;>exact .nil|_,_,_,_,_,_,0,.cons _ _ t,hk,hv=>.cons hk hv t|_,_,_,_,_,_,i+1,.cons h k t,hk,hv=>.cons h k (t.modify i hk hv)
def Mh:A3->Option Nat|AL (Z r)=>Z r|B2 (Z a)=>Z a.block|A0 (Z a) _ _=>Z a.block|_=>J
def aBB(hs:∀b,Mh x=Z b->so.obj b)(hG:P.globals.size=CX)(n)(t)(hf:∀k e,P.underlying t=Z (YC k e)->flat P n k=A5)(hx:AK F E x x')(hk:AK F E k k')(hv:AK F E v v'):AQ P F so Oa E (Y3 t x k v) (Y3 t x' k' v'):=by
 refine(NK t).andThen ?_;rintro E1 f u _⟨rfl,hu⟩;replace hx:=hx.mono f;replace hk:=hk.mono f;replace hv:=hv.mono f;cases u with
 |map U N=>
  cases hx with
  |R7=>exact RG _
  |map hr=>
   refine .getObj hr λo o' ho=>?_;cases ho with
   |map c hes=>
    refine(aB _ _ _ hk).andThen λs I _ _ _=>?_;refine(pe hG n U (hf U N hu) (hk.mono I) (hes.mono I)).andThen λz d r r' hfr=>?_;replace hk:=(hk.mono I).mono d;replace hv:=(hv.mono I).mono d;replace hes:=(hes.mono I).mono d;let m:=d _ _ (I _ _ hr);cases hfr with
    |none=>exact .setObj (hs _ rfl) m (λ_ _ _ h=>by cases h) (.map _ (Ai (hes.snoc _ hk hv))) (.pure trivial)
    |some j _=>refine(aB8 (hes.a8Q j hk) hk).andThen λA l y y' hy=>?_;refine .setObj (hs _ rfl) (l _ _ m) (λ_ _ _ h=>by cases h) (.map _ ?_) (.pure trivial);simpa using(hes.mono l).modify j hy (hv.mono l)
   |_=>exact .stuck
  |_=>exact .stuck
 |_=>exact .stuck
end
section
variable{P:Ao}{F:zy}{so:D3}{E:AZ}
def aVT(t)(hx:AK F E x x'):AQ P F so (Bp F) E (lF t x) (lF t x'):=by
 refine(FN t).andThen ?_;rintro E1 I u _ rfl;replace hx:=hx.mono I;cases u with
 |string=>
  cases hx with
  |string s=>exact .new (.stringIter s 0) λb h hb=>.pure (.ptr ⟨AZ.Rr _ _ _ hb,rfl,rfl⟩)
  |_=>exact .stuck
 |map k e=>
  cases hx with
  |R7=>exact .new (.jM ..) λb h hb=>.pure (.ptr ⟨AZ.Rr _ _ _ hb,rfl,rfl⟩)
  |map hr=>
   refine .getObj hr λo N ho=>?_;cases ho with
   |map c hes=>exact .new (.mapIter _ _ _ hr) λb h hb=>.pure (.ptr ⟨AZ.Rr _ _ _ hb,rfl,rfl⟩)
   |_=>exact .stuck
  |_=>exact .stuck
 |_=>cases hx<;>exact .stuck
def DM.filter{p}(hp:∀e I:Fy,I.born=e.born->p I=p e):∀{l l'},DM F E l l'->DM F E (l.filter p) (l'.filter p)
 |_,_,.nil=>.nil
 |_,_,.cons (k:=y) (k':=y') (v:=z) (v':=z') (n:=n) h k t=>by
  simp only[List.filter_cons,hp {key:=y,val:=z,born:=n} {key:=y',val:=z',born:=n} rfl];split;.exact .cons h k (t.filter hp)
  exact t.filter hp
def DM.all{p}(hp:∀e I:Fy,I.born=e.born->p I=p e):∀{l l'},DM F E l l'->l'.all p=l.all p|_,_,.nil=>rfl|_,_,.cons (k:=y) (k':=y') (v:=z) (v':=z') (n:=n) h k t=>by simp only[aHI,hp {key:=y,val:=z,born:=n} {key:=y',val:=z',born:=n} rfl,t.all hp]
def DM.append:∀{a a' b b'},DM F E a a'->DM F E b b'->DM F E (a++b) (a'++b')|_,_,_,_,.nil,k=>k|_,_,_,_,.cons h v t,k=>.cons h v (t.append k)
theorem DM.pick{c}{a a':Array Fy}(h:DM F E a.toList a'.toList)(i):(c++a.map Z)[i]?=J/\(c++a'.map Z)[i]?=J∨(c++a.map Z)[i]?=c[i]?/\(c++a'.map Z)[i]?=c[i]?/\i<c.size∨∃e I,(c++a.map Z)[i]?=Z (Z e)/\(c++a'.map Z)[i]?=Z (Z I)/\AK F E e.key I.key/\AK F E e.val I.val/\I.born=e.born:=by
 by_cases hi:i<c;.grind
 let N:c<=i:=A';rw[a't N,a't N];simp only[qt];have:=h.get (i-c);simp only[Array.getElem?_toList]at this;rcases this with⟨e,I⟩|⟨x,U,e,I,hx⟩;.rw[e,I];exact AA ⟨rfl,rfl⟩
 rw[e,I];exact AF (AF ⟨x,U,rfl,rfl,hx⟩)
def DM.find{p}(hp:∀e I:Fy,I.born=e.born->p I=p e):∀{a a'},DM F E a a'->a.find? p=J/\a'.find? p=J∨∃e I,a.find? p=Z e/\a'.find? p=Z I/\AK F E e.key I.key/\AK F E e.val I.val|_,_,.nil=>AA ⟨rfl,rfl⟩|_,_,.cons (k:=k) (k':=k') (v:=v) (v':=v') (n:=n) h hv t=>by rw[aHR,aHR,hp {key:=k,val:=v,born:=n} {key:=k',val:=v',born:=n} rfl];cases p {key:=k,val:=v,born:=n}with|true=>exact AF ⟨_,_,rfl,rfl,h,hv⟩|false=>exact t.find hp
def aUz(hx:AK F E x x'):AQ P F so (Bp F) E (rr x) (rr x'):=by
 cases hx with
 |ptr ha=>
  rename_i a a';let⟨r,off,sp⟩:=a;let⟨r',off',sp'⟩:=a';let⟨h1,h2,h3⟩:=ha;subst h2 h3;cases off' with
  |succ n=>exact .stuck
  |zero=>
   refine .getObj h1 λo N ho=>?_;cases ho with
   |mapIter x s y hm=>
    show AQ P F so (Bp F) E (match s.back? with|Z stamp=>_|_=>_) (match s.back? with|Z stamp=>_|_=>_);cases s.back? with
    |none=>exact .stuck
    |some st=>
     refine .getObj hm λo N ho=>?_;cases ho with
     |map c hes=>
      show AQ P F so (Bp F) E (ite ((c !=y)=A5) ..) (ite ((c !=y)=A5) ..);split;.exact .CI
      have:=hes.find (p:=λe=>e.born==st) (λe I h=>by simp only[h]);rw[aDR,aDR]at this;rcases this with⟨a,b⟩|⟨e,I,a,b,hk,hv⟩;.simp only[a,b];exact .CI
      simp only[a,b];exact .pure (.tuple (.cons hk (.cons hv .nil)))
     |_=>exact .stuck
   |_=>exact .stuck
 |_=>exact .stuck
def aVO(hs:∀b,Mh x=Z b->so.obj b)(b t)(hx:AK F E x x'):AQ P F so (Bp F) E (eu x b t) (eu x' b t):=by
 unfold eu;cases hx with
 |ptr ha=>
  rename_i a a';obtain⟨r,off,sp⟩:=a;obtain⟨r',off',sp'⟩:=a';obtain⟨h1,h2,h3⟩:=ha;simp only at h1 h2 h3;subst h2 h3;cases off' with
  |succ n=>exact .stuck
  |zero=>
   refine .getObj h1 λo o' ho=>?_;cases ho with
   |stringIter s p=>
    cases b;.exact .stuck
    show AQ P F so (Bp F) E (ite ..) (ite ..);split;.exact .setObj (hs _ rfl) h1 (λ_ _ _ h=>by cases h) (.stringIter ..) (.pure (.tuple (.cons (.bool _) (.cons (.int ..) (.cons (.int ..) .nil)))))
    exact .pure (.tuple (.cons (.bool _) .nil))
   |jM x s y=>
    cases b;.exact .pure (.tuple (.cons (.bool _) .nil))
    exact .stuck
   |mapIter x s y hm=>
    cases b
    .refine .getObj hm λo o' ho=>?_;cases ho with
     |map c hes=>
      rename_i es I;have e1:=hes.empty;have e2:=Ai (hes.all (p:=λe=>BK (e.born≥y)) λe e' h=>by simp only[h]);let hl:DM F E (es.filter λe=>!s.contains e.born).toList (I.filter λe=>!s.contains e.born).toList:=by simpa using hes.filter λe e' h=>by simp only[h]
      let ho:DM F E ((es.filter λe=>!s.contains e.born).filter λe=>BK (e.born<x)).toList ((I.filter λe=>!s.contains e.born).filter λe=>BK (e.born<x)).toList:=by simpa using hl.filter λe e' h=>by simp only[h]
      let hn:DM F E ((es.filter λe=>!s.contains e.born).filter λe=>BK (e.born≥x)).toList ((I.filter λe=>!s.contains e.born).filter λe=>BK (e.born≥x)).toList:=by simpa using hl.filter λe e' h=>by simp only[h]
      let eo:=ho.empty;let U:=ho.append hn;simp only[<-a00]at U;simp only[aX,Dl,e1,e2,eo];obtain⟨C,d,hC⟩:∃C:Array (Option Fy),C=(if((es.filter λe=>!s.contains e.born).filter λe=>BK (e.born<x)).isEmpty=A5 then#[J]else#[])/\∀i,i<C.size->C[i]?=Z J:=by
       refine⟨_,rfl,?_⟩;split;.intro i hi;have:=Ai hi;subst this;rfl
       intro i hi;simp at hi
      rw[<-d];generalize Tx (λe=>BK (e.born<x)) (Tx (λe=>!s.contains e.born) es)++Tx (λe=>BK (e.born≥x)) (Tx (λe=>!s.contains e.born) es)=A at U⊢;generalize Tx (λe=>BK (e.born<x)) (Tx (λe=>!s.contains e.born) I)++Tx (λe=>BK (e.born≥x)) (Tx (λe=>!s.contains e.born) I)=f at U⊢;let hz:(C++f.map Z).size=C++A.map Z:=by have:=U.length;simp at this;simp[this]
      rw[hz];split;.exact .Gm (BD.halt _).bind
      refine .choose _ λj=>?_;show AQ P F so (Bp F) E (Dl (Na j) _) (Dl (Na j) _);simp only[Dl];rcases U.pick j with⟨g,N⟩|⟨g,N,hj⟩|⟨e,e',g,N,k1,k2,F5⟩;.rw[g,N];exact .stuck
      .rw[g,N,hC j hj];exact .pure (.tuple (.cons (.bool _) .nil))
      rw[g,N];dsimp only;rw[F5];exact .setObj (hs _ rfl) h1 (λ_ _ _ h=>by cases h) (.mapIter _ _ _ hm) (.pure (.tuple (.cons (.bool _) (.cons k1 (.cons k2 .nil)))))
     |_=>exact .stuck
    exact .stuck
   |_=>cases b<;>exact .stuck
 |_=>exact .stuck
theorem AQ.cond{Q c}[Decidable c]{s s' t d:BS α}(h:AQ P F so Q E s s')(k:AQ P F so Q E t d):AQ P F so Q E (if c then s else t) (if c then s' else d):=by grind
def aV0(op t x y){a a' b b'}(ha:AK F E a a')(hb:AK F E b b'):AQ P F so Oa E (ll op t x y a b) (ll op t x y a' b'):=by
 unfold ll;cases op;case eql|neq=>
  all_goals
   simp;cases ha with
   |nilIface=>cases hb with|nilIface=>refine AQ.cond (.AS trivial) ?_;refine AQ.andThen (pd _ t .nilIface .nilIface) ?_;rintro E2 hW r _ rfl;exact AQ.cond .CI (.AS trivial)|_=>exact .AS trivial
   |agg ha=>
    cases hb with
    |agg hb=>
     refine .program ?_;refine .program ?_;show AQ P F so Oa E (ite ..) (ite ..);split;.exact .AS trivial
     refine AQ.andThen (pd _ t (.agg ha) (.agg hb)) ?_;rintro E2 hW r _ rfl;split;.exact .CI
     exact .AS trivial
    |_=>exact .AS trivial
   |_=>exact .AS trivial
 all_goals exact .AS trivial
def aVd(I:Fit P F)(t u h)(hx:AK F E x x'):AQ P F so (Bp F) E (PK x t u h) (PK x' t u h):=by
 unfold PK;refine(FN u).andThen ?_;rintro E1 e d _ rfl;replace hx:=hx.mono e;cases hx with
 |nilIface=>
  cases h;.simp;cases d<;>exact RG _
  cases d<;>exact(M0 I u).andThen λ_ _ _ _ hz=>.AS (.tuple (.cons hz (.cons (.bool _) .nil)))
 |iface k hv=>
  cases d with
  |interface N=>
   refine(HS k).andThen ?_;rintro E2 U i _⟨rfl,_⟩;cases Instr.missingMethod N i.methods with
   |none=>
    cases h;.exact .AS (.iface k (hv.mono U))
    exact .AS (.tuple (.cons (.iface k (hv.mono U)) (.cons (.bool _) .nil)))
   |some m=>
    cases h;.simp;exact RG _
    exact(M0 I u).andThen λ_ _ _ _ hz=>.AS (.tuple (.cons hz (.cons (.bool _) .nil)))
  |_=>
   dsimp only;split
   .cases h;.exact .AS hv
    exact .AS (.tuple (.cons hv (.cons (.bool _) .nil)))
   cases h;.simp;exact RG _
   exact(M0 I u).andThen λ_ _ _ _ hz=>.AS (.tuple (.cons hz (.cons (.bool _) .nil)))
 |_=>cases d<;>exact .stuck
end
section
variable{P:Ao}{F:zy}{so:D3}{E:AZ}
def word(P:Ao)(t:BL):Bool:=match P.underlying t with|Z (R_ _)|Z a1P=>A5|_=>A9
def aUw(h dst)(hs:word P h=A5)(hd:word P dst=A5)(hx:AK F E x x'):AQ P F so (Bp F) E (fO h dst x) (fO h dst x'):=by
 unfold fO;refine(NK h).andThen ?_;rintro E1 I u _⟨rfl,hu⟩;refine(NK dst).andThen ?_;rintro E2 N v _⟨rfl,hv⟩;unfold word at hs hd;rw[hu]at hs;rw[hv]at hd;replace hx:=(hx.mono I).mono N;cases u with
 |int k=>
  cases v with
  |int k2=>
   cases hx<;>first
   |exact .AS (.int _ _)
   |exact .CI
  |string=>
   cases hx<;>first
   |exact .AS (.string _)
   |exact .CI
  |_=>cases hd
 |string=>
  cases v with
  |int k2=>
   cases hx<;>first
   |exact .AS (.int _ _)
   |exact .CI
  |string=>
   cases hx<;>first
   |exact .AS (.string _)
   |exact .CI
  |_=>cases hd
 |_=>cases hs
def aVM(hx:AK F E x x')(hy:AK F E y y'):AQ P F so (Bp F) E (kt x y) (kt x' y'):=by
 cases hx with
 |int k a=>
  cases hy with
  |int k2 b=>exact .AS (.int ..)
  |ptr h=>exact .CI
  |_=>exact .stuck
 |string a=>
  cases hy with
  |string b=>unfold kt;refine((aCW .leq a b).VW).andThen λE1 I v v' hv=>?_;refine(aAy hv).andThen ?_;rintro E2 N c _ rfl;exact .AS (.string _)
  |ptr h=>exact .CI
  |_=>exact .stuck
 |ptr h=>cases hy<;>exact .CI
 |_=>
  cases hy<;>first
  |exact .stuck
  |exact .CI
def aBD:∀{l l'}{E}{x x'},AK F E x x'->Al F E l l'->AQ P F so (Bp F) E (l.foldlM kt x) (l'.foldlM kt x')|_,_,_,_,_,hx,.nil=>.AS hx|_,_,_,_,_,hx,.cons h t=>by exact(aVM hx h).andThen λE1 I v v' hv=>aBD hv (t.mono I)
def aVL(ts)(t){a a'}(h:Al F E a.toList a'.toList):AQ P F so (Bp F) E (a0C ts t a) (a0C ts t a'):=by unfold a0C;generalize a.toList=l at h;generalize a'.toList=l' at h;cases h with|nil=>exact .stuck|cons h t=>exact aBD h t
def aUy(t):AQ P F so Eo E (lk t) (lk t):=by refine(FN t).andThen ?_;rintro E1 h u _ rfl;cases u<;>first|exact .AS rfl|exact .stuck
def aBM(h:C6 E a a')(t)(n):AQ P F so Eo E (sk a t n) (sk a' t n):=by refine .prog ?_;refine .shape h.1 λs=>?_;cases s with|none=>exact .pure rfl|some s=>exact .pure (by rw[h.2.1])
def aB9:∀(n){E}{a a'}(I),C6 E a a'->AQ P F so Eo E (ln a I n) (ln a' I n)
 |0,_,_,_,I,_=>.AS rfl
 |n+1,E,a,a',I,h=>by
  refine(jo h U7).andThen λE1 N v v' hv=>?_;cases hv with
  |int k b=>
   cases k<;>first
   |exact aB9 n _ ((h.mono N).add 1)
   |exact .stuck
  |_=>exact .stuck
def aVf(hz:so.fz)(ts t)(hx:AK F E x x')(hy:AK F E y y'):AQ P F so (Bp F) E (ag ts t #[x,y]) (ag ts t #[x',y']):=by
 unfold ag;cases hx with
 |GR=>
  dsimp only;refine(SQ hy).andThen ?_;rintro E1 I n _ rfl;cases ts[0]? with
  |none=>exact .stuck
  |some U=>
   dsimp only;split;.exact .Gm (G2 _).bind
   split;.exact .CI
   split;.exact .AS (.string _)
   exact RG _
 |ptr ha=>
  dsimp only;refine(SQ hy).andThen ?_;rintro E1 I n _ rfl;replace ha:=ha.mono I;cases ts[0]? with
  |none=>exact .stuck
  |some U=>
   dsimp only;split;.exact .Gm (G2 _).bind
   split;.exact .CI
   split;.exact .AS (.string _)
   refine(aUy U).andThen ?_;rintro E2 h e _ rfl;refine(aBM (ha.mono h) e n.toNat).andThen ?_;rintro f N b _ rfl;cases b;.exact .CI
   refine(aB9 n.toNat _ ((ha.mono h).mono N)).andThen ?_;rintro j d s _ rfl;exact .freeze _ hz (((ha.mono h).mono N).mono d) (.pure (.string _))
 |_=>exact .stuck
def aB':∀(n){E}{a a'}(I),C6 E a a'->AQ P F so Eo E (aEY a n I) (aEY a' n I)
 |0,_,_,_,I,_=>.AS rfl
 |n+1,E,a,a',I,h=>by
  refine(jo h U7).andThen λE1 N v v' hv=>?_;cases hv with
  |int k b=>
   cases k<;>first
   |exact aB' n _ ((h.mono N).add 1)
   |exact .stuck
  |_=>exact .stuck
def dc(hx:AK F E x x'):AQ P F so Eo E (aEX x) (aEX x'):=by cases hx with|string s=>exact .AS rfl|FZ l c=>exact .AS rfl|slice l c h=>exact aB' l _ h|_=>exact .stuck
def aAz(hx:AK F E x x'):AQ P F so Eo E (aEW x) (aEW x'):=by
 cases hx with
 |int k n=>
  cases k<;>first
  |exact .AS rfl
  |exact .stuck
 |_=>exact .stuck
def aB1(hx:AK F E x x')(hy:AK F E y y'):AQ P F so (Bp F) E (a0_ #[x,y]) (a0_ #[x',y']):=by refine(dc hx).andThen ?_;rintro E1 h b _ rfl;refine(aAz (hy.mono h)).andThen ?_;rintro E2 I c _ rfl;exact .AS (.int ..)
def aB5(hx:AK F E x x')(hy:AK F E y y'):AQ P F so (Bp F) E (a0b #[x,y]) (a0b #[x',y']):=by refine(dc hx).andThen ?_;rintro E1 h b _ rfl;refine(aAz (hy.mono h)).andThen ?_;rintro E2 I c _ rfl;split<;>exact .AS (.int ..)
def aV7(hG:P.globals.size=CX)(hg:∀b,b<CX->E.rel b b)(name):AQ P F so WM E (aFo name) (aFo name):=by refine .prog ?_;cases h:P.globals.findIdx? (·.name==name)with|none=>exact .stuck|some g=>let hlt:g<CX:=As hG.symm ((Array.findIdx?_eq_some_iff_getElem.1 h).1);exact .AS ⟨hg g hlt,rfl,rfl⟩
def aB6(hG:P.globals.size=CX)(hg:∀b,b<CX->E.rel b b)(hx:AK F E x x')(hy:AK F E y y'):AQ P F so (Bp F) E (a0a #[x,y]) (a0a #[x',y']):=by
 refine(dc hx).andThen ?_;rintro E1 h b _ rfl;refine(dc (hy.mono h)).andThen ?_;rintro E2 N c _ rfl;refine AQ.andThen (Q:=Eo) ?_ ?_;.exact(aV7 hG (λb hb=>N _ _ (h _ _ (hg b hb))) _).andThen λI U a a' ha=>(jo ha U7).andThen λd e v v' hv=>SQ hv
 rintro I U n _ rfl;dsimp only;split;.exact .Gm (BD.halt _)
 split;.exact .Gm (BD.halt _)
 split<;>exact .AS (.int ..)
end
section
variable{P:Ao}{F:zy}{so:D3}{E:AZ}
def DM.modifyKey:∀{l l'}{k k'}(i),DM F E l l'->AK F E k k'->DM F E (l.modify i λe=>{e with key:=k}) (l'.modify i λe=>{e with key:=k'})|_,_,_,_,i,.nil,_=>by cases i<;>exact .nil|_,_,_,_,0,.cons _ hv t,hk=>.cons hk hv t|_,_,_,_,i+1,.cons h k t,hk=>.cons h k (t.modifyKey i hk)
def DM.a9m:∀{l l'}{v v'}(i),DM F E l l'->AK F E v v'->DM F E (l.modify i λe=>{e with val:=v}) (l'.modify i λe=>{e with val:=v'})|_,_,_,_,i,.nil,_=>by cases i<;>exact .nil|_,_,_,_,0,.cons hk _ t,hv=>.cons hk hv t|_,_,_,_,i+1,.cons h k t,hv=>.cons h k (t.a9m i hv)
theorem DM.aJU{es es':Array Fy}(h:DM F E es.toList es'.toList)(i:Nat):(es'[i]?.map λx=>(x.born:Int)).getD 0=(es[i]?.map λx=>(x.born:Int)).getD 0:=by have:=h.get i;grind
theorem DM.a4y{g:Nat->Bool}:∀{l l'},DM F E l l'->l'.findIdx? (λe=>g e.born)=l.findIdx? λe=>g e.born|_,_,.nil=>rfl|_,_,.cons _ _ t=>by simp_all[List.findIdx?_cons,t.a4y]
def aVI(m:Fit P F)(hs:∀b,Mh x=Z b->so.obj b)(hG:P.globals.size=CX)(n)(t)(hf:∀k e,P.underlying t=Z (YC k e)->flat P n k=A5)(hx:AK F E x x')(hk:AK F E k k'):AQ P F so (Bp F) E (aw t x k) (aw t x' k'):=by
 refine(NK t).andThen ?_;rintro E1 f u _⟨rfl,hu⟩;replace hx:=hx.mono f;replace hk:=hk.mono f;cases u with
 |map key I=>
  cases hx with
  |R7=>exact RG _
  |map hr=>
   refine .getObj hr λo o' ho=>?_;cases ho with
   |map c hes=>
    refine(aB _ _ _ hk).andThen λA U _ _ _=>?_;refine(pe hG n key (hf key I hu) (hk.mono U) (hes.mono U)).andThen λC d r r' hfr=>?_;replace hk:=(hk.mono U).mono d;replace hes:=(hes.mono U).mono d;let l:=d _ _ (U _ _ hr);cases hfr with
    |none=>refine(M0 m I).andThen λs N z z' hz=>?_;refine .setObj (hs _ rfl) (N _ _ l) (λ_ _ _ h=>by cases h) (.map _ ?_) (.pure (.tuple (.cons hz (.cons (.int ..) .nil))));simpa using(hes.mono N).snoc _ (hk.mono N) hz
    |some j hv=>
     refine(aB8 (hes.a8Q j hk) hk).andThen λs N y y' hy=>?_;refine .setObj (hs _ rfl) (N _ _ l) (λ_ _ _ h=>by cases h) (.map _ ?_) (.pure (.tuple (.cons (hv.mono N) (.cons ?_ .nil))));.simpa using(hes.mono N).modifyKey j hy
     rw[hes.aJU j];exact .int ..
   |_=>exact .stuck
  |_=>exact .stuck
 |_=>exact .stuck
def aV'(hs:∀b,Mh x=Z b->so.obj b)(t)(hx:AK F E x x')(hk:AK F E k k')(hv:AK F E v v'):AQ P F so Oa E (lC t x k v) (lC t x' k' v'):=by
 cases hx with
 |map hr=>
  refine .getObj hr λo o' ho=>?_;cases ho with
  |map c hes=>
   refine(SQ hk).andThen ?_;rintro E1 N b _ rfl;rename_i es I;let U:I.findIdx? λe=>e.born==b=es.findIdx? λe=>e.born==b:=by let⟨l⟩:=es;let⟨l'⟩:=I;simpa using hes.a4y (g:=λn=>(n:Int)==b)
   rw[U];cases es.findIdx? λe=>e.born==b with|none=>exact .CI|some i=>refine .setObj (hs _ rfl) (N _ _ hr) (λ_ _ _ h=>by cases h) (.map _ ?_) (.pure trivial);simpa using(hes.mono N).a9m i (hv.mono N)
  |_=>exact .stuck
 |_=>exact .stuck
def aUt(d:Fit P F)(hs:∀b,so.obj b)(ts t)(hx:AK F E x x'):AQ P F so (Bp F) E (kr ts t #[x]) (kr ts t #[x']):=by
 unfold kr;cases ts[0]? with
 |none=>exact .stuck
 |some ty=>
  refine(FN ty).andThen ?_;rintro E1 U u _ rfl;replace hx:=hx.mono U;let I:∀{E:AZ},AQ P F so (Bp F) E (Ex (Aj #[])) (Ex (Aj #[])):=.AS (.tuple .nil);cases hx with
  |R7=>exact I
  |FZ l c=>exact I
  |map hr=>
   refine .getObj hr λo o' ho=>?_;cases ho with
   |map c hes=>exact .setObj (hs _) hr (λ_ _ _ h=>by cases h) (.map _ .nil) I
   |_=>exact .stuck
  |slice l c ha=>
   cases l with
   |zero=>exact I
   |succ l=>
    cases u with
    |slice N=>exact(M0 d N).andThen λE2 e z z' hz=>(aC 0 (ha.mono e) (hz.cells.zeroCells _)).andThen λf j _ _ _=>I
    |_=>exact .stuck
  |_=>cases u<;>exact .stuck
def AQ.a5C{lc Q}{f f':A3->lc->BS (ForInStep lc)}:∀{l l'}{E}{b b'},Al F E l l'->(∀I,E.le I->∀x N,AK F I x N->∀b b',Q I b b'->AQ P F so (Yg Q) I (f x b) (f' N b'))->Q E b b'->AQ P F so Q E (Xv l b f) (Xv l' b' f')|_,_,_,_,_,.nil,_,h=>by exact .AS h|_,_,E,b,b',.cons hv t,hf,h=>by simp;refine(hf E (AZ.le_refl _) _ _ hv b b' h).andThen λE1 U x N hx=>?_;cases hx with|done h=>exact .AS h|yield h=>exact AQ.a5C (t.mono U) (λI hE y y'=>hf I (AZ.le_trans U hE) y y') h
def aUp(hx:AK F E x x'):AQ P F so (Bp F) E (a0V x) (a0V x'):=by
 unfold a0V;cases hx with
 |FZ l c=>exact .AS (.string _)
 |slice l c ha=>
  dsimp only;refine(yy ha l).andThen λE1 U cs cs' h=>?_;refine AQ.andThen (Q:=Eo) ?_ ?_
  .rw[<-qs,<-qs];refine AQ.a5C h (λI hE y y' hy b N hb=>?_) rfl;subst hb;cases hy with
   |int k n=>
    cases k<;>first
    |exact .AS (.yield rfl)
    |exact .stuck
   |_=>exact .stuck
  rintro E2 d s _ rfl;exact .AS (.string _)
 |_=>exact .stuck
def aBH(h:C6 E a a'):AQ P F so WM E (a0W a) (a0W a'):=by
 unfold a0W;refine(pk h.1).andThen λE1 N x U hx=>?_;replace h:=h.mono N;cases hx with
 |none=>exact .AS h
 |some t v hs=>
  rename_i s s';dsimp only;rw[h.2.1,h.2.2];split;.exact .AS hs
  rw[hs.2.2];split;.exact .CI
  refine .prog ?_;cases s_ P P.depth t a.off with
  |none=>exact .CI
  |some lc=>
   refine .shape hs.1 λI=>?_;cases I with
   |none=>exact .CI
   |some I=>
    let⟨e,n⟩:=I;simp only[Dl];split;.exact .CI
    rw[hs.2.1];cases aFl P P.depth e (n/P.cellsOf e) s.off lc with|none=>exact .CI|some c=>exact .AS ⟨hs.1,rfl,rfl⟩
def aUs{r r'}(h:E.rel r r'):AQ P F so Eo E (cellsIn r) (cellsIn r'):=by refine .shape h λs=>?_;cases s with|some s=>exact .AS rfl|none=>refine .getObj h λo I ho=>?_;cases ho<;>exact .pure rfl
def aBL(h dst)(hc:(∃t,veiled t/\P.underlying h=Z (PQ t)/\P.underlying dst=Z .unsafePointer)∨∃t,veiled t/\P.underlying h=Z a1R/\P.underlying dst=Z (PQ t))(hx:AK F E x x'):AQ P F so (Bp F) E (a0X h dst x) (a0X h dst x'):=by
 unfold a0X;refine(NK h).andThen ?_;rintro E1 d u _⟨rfl,hu⟩;refine(NK dst).andThen ?_;rintro E2 e v _⟨rfl,hv⟩;replace hx:=(hx.mono d).mono e;rcases hc with⟨t,ht,I,h2⟩|⟨t,ht,I,h2⟩
 .rw[I]at hu;rw[h2]at hv;obtain rfl:=CP hu;obtain rfl:=CP hv;cases hx with
  |GR=>exact .AS .GR
  |ptr ha=>
   refine(aBH ha).andThen λf j s s' hs=>?_;refine(aUs hs.1).andThen ?_;rintro C l n _ rfl;refine(Hr t).andThen ?_;rintro m N z _ rfl;replace hs:=(hs.mono l).mono N;rw[hs.2.1,hs.2.2];cases n with
   |none=>
    dsimp only;split;.exact .new (.view t ht hs) λb U hb=>.pure (.ptr ⟨AZ.Rr _ _ _ hb,rfl,rfl⟩)
    exact .AS (.ptr hs)
   |some n=>
    dsimp only;split;.exact .new (.view t ht hs) λb U hb=>.pure (.ptr ⟨AZ.Rr _ _ _ hb,rfl,rfl⟩)
    exact .AS (.ptr hs)
  |_=>exact .stuck
 rw[I]at hu;rw[h2]at hv;obtain rfl:=CP hu;obtain rfl:=CP hv;cases hx with
 |GR=>exact .AS .GR
 |ptr ha=>
  refine(aBH ha).andThen λf j s s' hs=>?_;refine(Hr t).andThen ?_;rintro m N z _ rfl;replace hs:=hs.mono N;refine(aBM hs t 1).andThen ?_;rintro D A b _ rfl;replace hs:=hs.mono A;split;.exact .AS (.ptr hs)
  refine .shape hs.1 λP6=>?_;cases P6 with
  |none=>exact .CI
  |some P6=>
   refine .prog ?_;refine .prog ?_;split;.exact .CI
   exact .new (.view t ht hs) λb U hb=>.pure (.ptr ⟨AZ.Rr _ _ _ hb,rfl,rfl⟩)
 |_=>exact .stuck
def aV_(ts)(t)(ht:∀e,P.underlying t=Z (PQ e)->veiled e)(hx:AK F E x x'):AQ P F so (Bp F) E (aDn ts t #[x]) (aDn ts t #[x']):=by
 cases hx with
 |FZ l c=>exact .AS .GR
 |slice l c ha=>
  change AQ P F so (Bp F) E (ite (c≠0) ..) (ite (c≠0) ..);split;.exact .AS (.ptr ha)
  refine(pk ha.1).andThen λE1 I y U hy=>?_;replace ha:=ha.mono I;cases hy with
  |some u v hs=>exact .AS (.ptr ha)
  |none=>
   refine AQ.andThen (Q:=λ_(e e':BL)=>e'=e/\veiled e) ?_ ?_;.refine(NK t).andThen ?_;rintro E2 h u _⟨rfl,hu⟩;cases u with|pointer e=>exact .AS ⟨rfl,ht e hu⟩|_=>exact .stuck
   rintro E2 h e _⟨rfl,he⟩;exact .new (.view _ he (ha.mono h)) λb N hb=>.pure (.ptr ⟨AZ.Rr _ _ _ hb,rfl,rfl⟩)
 |_=>exact .stuck
def aSa(c):ET P (sys c):=λ_ _ _ _ _ e=>by cases e
def aKU(x):BD P (Instr.panic x):=by
 cases x with
 |iface t v=>exact BD.halt _
 |nilIface=>
  refine BD.behind ?_ λn=>?_;.refine ET.bind (aSa _) λr=>?_;cases r with|strings h=>exact ET.bind R6 λp=>ET.pure _|_=>exact ET.dead (BD.halt _)
  split;.exact BD.halt _
  exact G2 _
 |_=>exact BD.halt _
def aUu(hx:AK F E x x')(hy:AK F E y y'):AQ P F so (Bp F) E (a0Z #[x,y]) (a0Z #[x',y']):=by refine(dc hx).andThen ?_;rintro E1 h b _ rfl;refine(dc (hy.mono h)).andThen ?_;rintro E2 I c _ rfl;exact .AS (.int ..)
def a4R:∀(n t){d},Al F E d.toList d.toList->Al F E (aEV n t d).toList (aEV n t d).toList|0,_,_,h=>h|n+1,t,d,h=>by exact a4R n _ (by simpa using h.append (.cons (.int ..) .nil))
def aVG(ps rs)(hx:AK F E x x'):AQ P F so (Bp F) E (rk ps rs #[x]) (rk ps rs #[x']):=by
 unfold rk;cases hx with
 |int k n=>
  cases k with
  |i64=>
   cases rs[0]? with
   |none=>exact .stuck
   |some t=>
    refine(FN t).andThen ?_;rintro E1 N u _ rfl;cases u with
    |slice e=>
     dsimp only;split;.exact .Gm (G2 _).bind
     refine .choose _ λc=>?_;refine(XW c).andThen λE2 U _ _ _=>?_;exact .choose _ λh=>(RF e (a4R c h .nil)).andThen λI d a a' ha=>.AS (.slice _ _ ha)
    |_=>exact .stuck
  |_=>exact .stuck
 |_=>exact .stuck
def aVQ{a a'}(h:Al F E a.toList a'.toList):AQ P F so (Bp F) E (rj a) (rj a'):=by let⟨l⟩:=a;let⟨l'⟩:=a';match l,l',h with|[],[],_=>exact .stuck|[x],[x'],.cons hx .nil=>exact .AS hx|_::_::_,_::_::_,_=>exact .stuck
def jz(t:Nat):Bool:=t==190||t==5
theorem zY{t}(h:jz t=A5):veiled t:=by grind[jz,veiled]
def nQ(P:Ao)(h dst:BL):Bool:=word P h&&word P dst||match P.underlying h,P.underlying dst with|Z (sW e),Z a1P=>(match P.underlying e with|Z (R_ .u8)=>A5|_=>A9)|Z (PQ t),Z a1R=>jz t|Z a1R,Z (PQ t)=>jz t|_,_=>A9
def aUv(I dst)(h:nQ P I dst=A5)(hx:AK F E x x'):AQ P F so (Bp F) E (fO I dst x) (fO I dst x'):=by
 unfold nQ at h;rcases eT.1 h with h|h;.exact aUw I dst (Cp.1 h).1 (Cp.1 h).2 hx
 unfold fO;refine(NK I).andThen ?_;rintro E1 N u _⟨rfl,hu⟩;refine(NK dst).andThen ?_;rintro E2 U v _⟨rfl,hv⟩;rw[hu,hv]at h;replace hx:=(hx.mono N).mono U;cases u with
 |slice e=>
  cases v with
  |string=>
   simp only at h;cases he:P.underlying e with
   |none=>rw[he]at h;cases h
   |some d=>
    rw[he]at h;cases d with
    |int k=>
     cases k with
     |u8=>
      let hx2:=hx;cases hx with
      |int k n=>exact .AS (.string _)
      |string s=>exact .AS (.string _)
      |_=>refine(NK e).andThen ?_;rintro j f d _⟨rfl,hd⟩;rw[he]at hd;obtain rfl:=CP hd;exact aUp (hx2.mono f)
     |_=>cases h
    |_=>cases h
  |_=>cases h
 |pointer t=>
  cases v with
  |unsafePointer=>let go:=aBL (so:=so) I dst (AA ⟨t,zY h,hu,hv⟩) hx;cases hx<;>exact go
  |_=>cases h
 |unsafePointer=>
  cases v with
  |pointer t=>let go:=aBL (so:=so) I dst (AF ⟨t,zY h,hu,hv⟩) hx;cases hx<;>exact go
  |_=>cases h
 |_=>cases h
def aUi(K:Fit P F){s s'}(ts t)(h:AK F E s s')(k:AK F E x x')(ZZ:∃u q,ts[1]?=Z u/\P.underlying u=Z (R_ q)):AQ P F so (Bp F) E (U1 ts t #[s,x]) (U1 ts t #[s',x']):=by
 obtain⟨u,q,h1,hq⟩:=ZZ;unfold U1;cases ht:ts[0]? with
 |none=>exact .stuck
 |some zU=>
  simp only[tf,aHV,te];refine(FN zU).andThen ?_;rintro i4 hE d _ rfl;cases d with
  |slice e=>
   let h2:=h.mono hE;let H:∀{E:AZ}(I n:Nat),AQ P F so (Rp F) E (if n*I=0 then Ex #[]else do Ex (Mo (<-lr e).cells n)) (if n*I=0 then Ex #[]else do Ex (Mo (<-lr e).cells n)):=by
    intro E I n;split;.exact .AS .nil
    exact(M0 K e).andThen λE1 _ z z' hz=>.AS (hz.cells.zeroCells n)
   cases h2 with
   |FZ l c=>
    dsimp only;refine(Hr e).andThen ?_;rintro E2 N I _ rfl;rw[h1];dsimp only;refine(NK u).andThen ?_;rintro r8 L d2 _⟨rfl,hd⟩;rw[hq]at hd;obtain rfl:=CP hd;replace N:=AZ.le_trans N L;refine AQ.andThen (Q:=λ_ a a'=>a=A5/\a'=A5) (.AS ⟨rfl,rfl⟩) ?_;rintro M f _ _⟨rfl,rfl⟩;simp only[↓reduceIte,Xn,Ev,true_or,and_true];refine(SQ (((k.mono hE).mono N).mono f)).andThen ?_;rintro R T m _ rfl;split;.exact .Gm (G2 _).bind
    refine(HS e).andThen ?_;rintro W X i _⟨rfl,_⟩;split;.exact .Gm (BD.behind (Oz _) λ_=>(G2 _).bind)
    refine AQ.andThen (Q:=Eo) (.AS rfl) ?_;rintro Y vv n _ rfl;let U:M.le Y:=AZ.le_trans T (AZ.le_trans X vv);split;.exact(H I n).andThen λGA A new SK C=>.AS (.FZ _ _)
    refine(HS e).andThen ?_;rintro GA A i2 _⟨rfl,_⟩;replace U:=AZ.le_trans U A;split;.exact .Gm (G2 _).bind
    refine(HS e).andThen ?_;rintro QQ D j _⟨rfl,_⟩;split;.exact .Gm (G2 _).bind
    refine .choose _ λSL=>?_;refine(HS e).andThen ?_;rintro Xo Pp j2 _⟨rfl,_⟩;refine(XW _).andThen λXp Pq _ _ _=>?_;let up:=λ(v v':A3)(hv:AK F i4 v v')=>(((((hv.mono N).mono f).mono U).mono D).mono Pp).mono Pq;refine(NJ I _ (up _ _ (.FZ l c:AK F i4 _ _))).andThen λaa TP old old' C1=>?_;refine(H I n).andThen λeW S4 new SK C=>?_;refine(M0 K e).andThen λeY S5 z z' hz=>?_;refine(RF e ?_).andThen ?_;.have:=(((C1.mono S4).append C).mono S5).append (hz.cells.zeroCells (SL-(l+n)));simpa using this
    exact λeZ hZ b b' hb=>.AS (.slice _ _ hb)
   |slice l c ha=>
    dsimp only;refine(Hr e).andThen ?_;rintro E2 N I _ rfl;rw[h1];dsimp only;refine(NK u).andThen ?_;rintro r8 L d2 _⟨rfl,hd⟩;rw[hq]at hd;obtain rfl:=CP hd;replace N:=AZ.le_trans N L;refine AQ.andThen (Q:=λ_ a a'=>a=A5/\a'=A5) (.AS ⟨rfl,rfl⟩) ?_;rintro M f _ _⟨rfl,rfl⟩;rw[if_pos rfl,if_pos rfl];refine(SQ (((k.mono hE).mono N).mono f)).andThen ?_;rintro R T m _ rfl;by_cases c1:AJ.wrap m<0;.rw[if_pos c1];exact .Gm (G2 _).bind
    rw[if_neg c1,if_neg c1];refine(HS e).andThen ?_;rintro W X i _⟨rfl,_⟩;by_cases c2:AJ.wrap m*i.bytes>2^48;.rw[if_pos c2];exact .Gm (BD.behind (Oz _) λ_=>(G2 _).bind)
    rw[if_neg c2,if_neg c2];refine AQ.andThen (Q:=Eo) (.AS rfl) ?_;rintro Y vv n _ rfl;let U:M.le Y:=AZ.le_trans T (AZ.le_trans X vv);simp only[↓reduceIte,Xn,Ev,true_or,and_true];split;.exact(H I n).andThen λGA A new SK C=>(aC 0 (((((ha.mono N).mono f).mono U).mono A).add _) C).andThen λQQ D _ _ _=>.AS (.slice _ _ (((((ha.mono N).mono f).mono U).mono A).mono D))
    refine(HS e).andThen ?_;rintro GA A i2 _⟨rfl,_⟩;replace U:=AZ.le_trans U A;split;.exact .Gm (G2 _).bind
    refine(HS e).andThen ?_;rintro QQ D j _⟨rfl,_⟩;split;.exact .Gm (G2 _).bind
    refine .choose _ λSL=>?_;refine(HS e).andThen ?_;rintro Xo Pp j2 _⟨rfl,_⟩;refine(XW _).andThen λXp Pq _ _ _=>?_;let up:=λ(v v':A3)(hv:AK F i4 v v')=>(((((hv.mono N).mono f).mono U).mono D).mono Pp).mono Pq;refine(NJ I _ (up _ _ (.slice l c ha:AK F i4 _ _))).andThen λaa TP old old' C1=>?_;refine(H I n).andThen λeW S4 new SK C=>?_;refine(M0 K e).andThen λeY S5 z z' hz=>?_;refine(RF e ?_).andThen ?_;.have:=(((C1.mono S4).append C).mono S5).append (hz.cells.zeroCells (SL-(l+n)));simpa using this
    exact λeZ hZ b b' hb=>.AS (.slice _ _ hb)
   |_=>exact .stuck
  |_=>exact .stuck
end
section
variable{P:Ao}{F:zy}{so:D3}{E:AZ}
inductive UP(F:zy)(E:AZ):sJ->sJ->Prop|val{v v':A3}:AK F E v v'->UP F E (.val v) (.val v')|var{a a':An}:C6 E a a'->UP F E (.var a) (.var a')
def UP.mono{i4}(hE:E.le i4):∀{x x'},UP F E x x'->UP F i4 x x'|_,_,.val h=>.val (h.mono hE)|_,_,.var h=>.var (h.mono hE)
def jm(t){x x'}(h:UP F E x x'):AQ P F so (Bp F) E (x.get t) (x'.get t):=by cases h with|val h=>exact .AS h|var h=>exact jq h t
def pf:∀(l){E}(t){x x'},UP F E x x'->AQ P F so (λE a a'=>a'.1=a.1/\UP F E a.2 a'.2) E (follow l t x) (follow l t x')
 |[],_,t,_,_,h=>.AS ⟨rfl,h⟩
 |s::rest,E,t,x,x',h=>by
  refine(FN s.struct).andThen ?_;rintro E1 d u _ rfl;replace h:=h.mono d;cases u with
  |struct I=>
   dsimp only;cases I[s.index]? with
   |none=>exact .stuck
   |some f=>
    dsimp only;split;.refine(jm t h).andThen λE2 e v v' hv=>?_;exact(jk hv).andThen λj m a a' ha=>(yx ha f).andThen λN U p p' hp=>pf rest f.type (.var hp)
    cases h with|var ha=>exact(yx ha f).andThen λN U p p' hp=>pf rest f.type (.var hp)|val hv=>cases hv with|agg hc=>exact(QE f.type hc f.offset).andThen λN U p p' hp=>pf rest f.type (.val hp)|_=>exact .stuck
  |_=>exact .stuck
def aVg(ts)(t)(h:AK F E x x')(a b):AQ P F so (Bp F) E (aDm ts t #[x,A4 a,A4 b]) (aDm ts t #[x',a,b]):=by
 cases h with
 |ptr ha=>exact .AS (.ptr ha)
 |GR=>
  refine .Gm ?_;refine BD.behind (Oz _) λn=>?_;dsimp only;split;.exact(G2 _).bind
  cases ts[0]? with
  |none=>exact BD.halt _
  |some N=>
   refine BD.behind (Tk _) λu=>?_;cases u with
   |pointer t=>
    refine BD.behind (Tj _) λi=>?_;cases i.desc with
    |named I _=>
     cases String.fromUTF8? b with
     |none=>exact BD.halt _
     |some m=>
      dsimp only;split;.exact G2 _
      exact BD.halt _
    |_=>exact BD.halt _
   |_=>exact BD.halt _
 |_=>exact .stuck
def aVU(xt){x x'}(h:UP F E x x')(ptr)(wr):AQ P F so (Bp F) E (aFv xt x ptr wr) (aFv xt x' ptr wr):=by
 refine(FN xt).andThen ?_;rintro E1 d u _ rfl;replace h:=h.mono d;cases u with
 |pointer e=>
  cases ptr with
  |true=>exact jm xt h
  |false=>
   refine(jm xt h).andThen λE2 l v v' hv=>?_;cases wr with
   |none=>exact AQ.andThen (.AS hv) λN f y y' hy=>(jk hy).andThen λU j a a' ha=>jq ha e
   |some I=>exact(aVg _ _ hv ..).andThen λN f y y' hy=>(jk hy).andThen λU j a a' ha=>jq ha e
 |_=>
  cases ptr with
  |true=>
   cases h with
   |val hv=>exact .stuck
   |var ha=>exact .AS (.ptr ha)
  |false=>exact jm xt h
def tr(P:Ao)(F:zy)(name:String):Prop:=∀t i,P.info? t=Z i->∀m,i.methods.find? (·.name==name)=Z m->∀f b,m.func=Z (f,b)->F f
def aBC{name}(hM:tr P F name):∀(n){E}(t){v v'},AK F E v v'->AQ P F so (λE a a'=>a'.1=a.1/\F a.1/\AK F E a.2 a'.2) E (method n t v name) (method n t v' name)
 |0,_,_,_,_,_=>.CI
 |n+1,E,t,v,v',h=>by
  refine(HS t).andThen ?_;rintro E1 N i _⟨rfl,hi⟩;cases hm:i.methods.find? (·.name==name)with
  |none=>exact .stuck
  |some m=>
   refine(pf m.path.toList t (.val (h.mono N))).andThen λE2 d⟨xt,x⟩⟨xt',x'⟩⟨e,hx⟩=>?_;subst e;cases hf:m.func with
   |none=>
    refine(jm xt' hx).andThen λI U y y' hy=>?_;cases hy with
    |iface u hw=>exact aBC hM n u hw
    |nilIface=>exact RG _
    |_=>exact .stuck
   |some q=>let⟨f,b⟩:=q;exact(aVU xt' hx b _).andThen λI U y y' hy=>.AS ⟨rfl,hM t i hi m hm f b hf,hy⟩
theorem aYi{fs:Array Field}(h:sB V6 fs=i):i.methods=#[]:=by grind[sB,OX,IY]
def aVw{d:a1N}(h:sA V6 d=i):i.methods=#[]:=by
 unfold sA at h;cases d with
 |pointer e=>
  simp only[OX,IY]at h;let⟨j,hj,h⟩:=h;split at h;.cases h
  .split at h;.cases h
   simp only[IY]at h;let⟨s,_,h⟩:=h;cases h;rfl
  simp only[IY]at h;let⟨s,_,h⟩:=h;cases h;rfl
 |slice e=>simp only[OX,IY]at h;let⟨j,_,s,_,h⟩:=h;cases h;rfl
 |map a b=>simp only[OX,IY]at h;let⟨j,_,s,_,j2,_,s2,_,h⟩:=h;cases h;rfl
 |chan a b=>simp only[OX,IY]at h;let⟨j,_,s,_,h⟩:=h;cases h;rfl
 |func a b c=>simp only[OX,IY]at h;let⟨s,_,h⟩:=h;cases h;rfl
 |array n e=>simp only[OX,IY]at h;let⟨j,hj,s,_,h⟩:=h;cases h;rfl
 |struct fs=>exact aYi h
 |_=>cases h
def a9d(P:Ao)(kb:Nat->Bool)(name:String):Bool:=P.types.toList.all λi=>match i.methods.find? (·.name==name)with|Z m=>(match m.func with|Z (f,_)=>kb f|J=>A5)|J=>A5
theorem aQ5{P:Ao}(h:P.info? t=i):i∈P.types.toList∨i.methods=#[]:=by
 unfold Tables.info? at h;let N:∀(I t:Nat)(i:Nc),s9 P.toTables I t=i->i∈P.types.toList∨i.methods=#[]:=by
  intro I;cases I with
  |zero=>intro t i h;cases h
  |succ f=>
   intro t i h;unfold s9 at h;split at h;.exact AA (Ai (Xk h))
   simp only[IY]at h;let⟨d,_,h⟩:=h;exact AF (aVw h)
 grind
theorem aST{kb}(hF:∀f,kb f=A5->F f){name}(h:a9d P kb name=A5):tr P F name:=by
 intro t i hi m hm f b hf;rcases aQ5 hi with e|e;.have:=Ha.1 h i e;rw[hm]at this;simp only[hf]at this;exact hF f this
 grind
end
def IE(l:List Nat):List Nat:=if l.contains 1000007 then if l.contains 1000008 then[0,25]else if l.contains 1000009 then[0,35]else[0,15]else[]
def ba(l:List Nat):Prop:=l≠[]/\IE l=[]
section
variable{P:Ao}{F:zy}{so:D3}{E:AZ}
inductive mg(P:Ao)(F:zy)(own:Nat->List Nat)(E:AZ):JM->JM->Prop|value{v v':A3}:AK F E v v'->mg P F own E (BB v) (BB v')|skip:mg P F own E JN JN|enter{f:Nat}{a a':zw}:F f∨ba (own f)->(∃fn c,P.funcs[f]?=Z fn/\fn.body=Z c)->(∀t∈own f,a<=t)->Al F E a.toList a'.toList->mg P F own E (NY f a) (NY f a')
abbrev O_(P:Ao)(F:zy)(own:Nat->List Nat):AZ->JM->JM->Prop:=λE a a'=>mg P F own E a a'
def Calm(P:Ao)(F:zy)(so:D3):Prop:=(∀f,F f->so.own f=[])/\∀f,F f∨ba (so.own f)->∀(E:AZ),(∀b,b<CX->E.rel b b)->∀(a a':zw),(∀t∈so.own f,a<=t)->Al F E a.toList a'.toList->AQ P F so (O_ P F so.own) E (MA f a) (MA f a')
def aB0{f:Nat}(hf:F f∨ba (so.own f))(I:P.funcs[f]?=fn)(hn:(fn.name== "runtime.NumGoroutine")=A9)(hb:fn.body.isNone=A9){a a':zw}(N:∀t∈so.own f,a<=t)(h:Al F E a.toList a'.toList):AQ P F so (O_ P F so.own) E (MA f a) (MA f a'):=by refine .prog ?_;rw[I];simp only[hn,hb,↓reduceIte];exact .AS (.enter hf ⟨fn,fn.body.get (Ai hb),I,AD⟩ N h)
def Fs{s s'}(h:AQ P F so (Bp F) E s s'):AQ P F so (O_ P F so.own) E (do Ex (BB (<-s))) (do Ex (BB (<-s'))):=h.andThen λ_ _ _ _ hv=>.AS (.value hv)
def pg{s s'}(h:AQ P F so Oa E s s'):AQ P F so (O_ P F so.own) E (do s;Ex JN) (do s';Ex JN):=h.andThen λ_ _ _ _ _=>.AS .skip
def ml(P:Ao)(F:zy)(so:D3)(k:Nat):Op->Prop
 |sE _|sD _|.pick ..|.alloc _|.box ..|b1 ..|lL ..|.load ..|La ..|lP _|.unOp ..|aF1 ..|a0t ..|lN ..|.slice ..=>True
 |OP ..|.field ..|U9 ..|.index ..|a0w ..|aF4 ..|.extract ..|.entry _=>True
 |KM op t _ y _=>op=.eql∨op=.neq->flat P k t=A5∨(∃v,y=KN v/\Nil v)∨so.J3/\∃e,P.underlying t=Z (PQ e)
 |.convert s d _=>nQ P s d=A5
 |b4 fn _ _=>∃f,fn=Bo f/\F f
 |.lookup t _ _ _=>∀h e,P.underlying t=Z (YC h e)->flat P k h=A5
 |a0v t _ _ _|a0s t _ _ _=>∀h e,P.underlying t=Z (YC h e)->flat P k h=A5
 |a0u t _ _=>∀h e,P.underlying t=Z (YC h e)->flat P k h=A5
 |.next _ _|a0r ..|.panic _=>True
 |Em c=>match c.callee with
  |Fw QR=>c.args.size=2
  |Fw .len|Fw .cap=>c.args.size=1
  |Fw .copy=>c.args.size=2
  |Fw a0D=>so.fz/\c.args.size=2
  |Fw .min=>True
  |Fw .clear=>(∀b,so.obj b)/\c.args.size=1
  |Fw rD=>c.args.size=1
  |NU (It f)=>(F f∨ba (so.own f))/\∀t∈so.own f,c.args<=t
  |NU _=>True
  |.invoke _ name=>tr P F name
  |_=>False
 |_=>False
def gW(P:Ao)(o:B8):Prop:=match o.op with
 |Em c=>match c.callee with
  |Fw rD=>∀e,P.underlying o.type=Z (PQ e)->veiled e
  |_=>True
 |_=>True
def opsOf:Op->List BP
 |Em c=>match c.callee with
  |NU (It _)=>c.args.toList
  |_=>(Em c).operands.toList
 |o=>o.operands.toList
def setOf:Op->Option BP|a0v _ x _ _|a0s _ x _ _|.next x _|a0u _ x _|a0r _ x _ _=>Z x|_=>J
def Al.ofMap{α:Type}{f f'}:∀(l:List α),(∀x∈l,AK F E (f x) (f' x))->Al F E (l.map f) (l.map f')|[],_=>.nil|x::l,h=>.cons (h x AD) (Al.ofMap l λy hy=>h y BA)
def OZ.ofMap{f f':BP->A3}:∀(l:List (Nat×BP)),(∀x∈l.map (·.2),AK F E (f x) (f' x))->OZ F E (l.map λp=>(p.1,f p.2)) (l.map λp=>(p.1,f' p.2))|[],_=>.nil|x::l,h=>.cons x.1 (h x.2 AD) (OZ.ofMap l λy hy=>h y BA)
def Ky.ofMap{f f'}{o:Option BP}(h:∀x,o=Z x->AK F E (f x) (f' x)):Ky F E (o.map f) (o.map f'):=by cases o with|none=>exact AA ⟨rfl,rfl⟩|some x=>exact AF ⟨_,_,rfl,rfl,h x rfl⟩
theorem two{a:Array α}(h:a.size=2):∃x y,a=#[x,y]:=by let⟨l⟩:=a;match l,h with|[x,y],_=>grind
theorem one{a:Array α}(h:a.size=1):∃x,a=#[x]:=by let⟨l⟩:=a;match l,h with|[x],_=>grind
def aVP(o y)(ho:o.op=lP y)(e:ρ y=x)(e':ρ' y=x')(h:AK F E x x'):AQ P F so (O_ P F so.own) E (AM ρ o) (AM ρ' o):=by unfold AM;rw[ho];simp only[e,e'];cases h with|GR=>exact RG _|nilIface=>exact RG _|nilFunc=>exact RG _|ptr h=>exact .AS (.value (.ptr h))|slice l c h=>exact .AS (.value (.slice l c h))|map h=>exact .AS (.value (.map h))|chan h=>exact .AS (.value (.chan h))|func a b c=>exact .AS (.value (.func a b c))|iface t h=>exact .AS (.value (.iface t h))|agg h=>exact .AS (.value (.agg h))|tuple h=>exact .AS (.value (.tuple h))|_=>exact .AS (.value (by constructor))
end
section
variable{P:Ao}{F:zy}{so:D3}{E:AZ}
def aUq(U:Fit P F)(hC:Calm P F so)(hg:∀b,b<CX->E.rel b b)(hf0:∀f,ρ (It f)=Br (Bo f) #[] #[])(l:∀f,ρ' (It f)=Br (Bo f) #[] #[])(o c)(ho:o.op=Em c)(k)(h:ml P F so k o.op)(d:gW P o)(I:∀x∈opsOf o.op,AK F E (ρ x) (ρ' x)):AQ P F so (O_ P F so.own) E (AM ρ o) (AM ρ' o):=by
 unfold AM;unfold gW at d;rw[ho]at h I d⊢;obtain⟨callee,args,ts⟩:=c;cases callee with
 |value f=>
  by_cases hd:∃g,f=It g
  .obtain⟨g,rfl⟩:=hd;have ha:=Ai (Al.ofMap args.toList λx hx=>I x hx);show AQ P F so (O_ P F so.own) E (U3 (ρ (It g)) (args.map ρ)>>=_) (U3 (ρ' (It g)) (args.map ρ')>>=_);rw[hf0,l];refine hC.2 _ h.1 E hg _ _ ?_ ?_;.intro t ht;have:=h.2 t ht;simpa using this
   simpa using ha
  let I:∀x∈((Em {callee:=NU f,args:=args,argTypes:=ts}).operands).toList,AK F E (ρ x) (ρ' x):=by intro x hx;refine I x ?_;cases f<;>first|exact hx|exact absurd ⟨_,rfl⟩ hd
  simp only[DN,rE]at I;have hf:=I f AD;have ha:=Ai (Al.ofMap args.toList λx hx=>I x (Ai (AF hx)));show AQ P F so (O_ P F so.own) E (U3 (ρ f) (args.map ρ)>>=_) (U3 (ρ' f) (args.map ρ')>>=_);generalize ρ f=x at hf;generalize ρ' f=x' at hf;cases hf with|func a b c=>exact hC.2 _ (AA a) E hg _ _ (λt ht=>by rw[hC.1 _ a]at ht;cases ht) (Ai ((b.append ha).append c))|nilFunc=>show AQ P F so (O_ P F so.own) E (W4 aF_) _;exact RG _|_=>exact .stuck
 |invoke r n=>
  simp only[opsOf,DN,rE]at I;have hr:=I r AD;have ha:=Ai (Al.ofMap args.toList λx hx=>I x (Ai (AF hx)));let e1:∀N:BP->A3,(#[N r]++args.map N).extract 1 (#[N r]++args.map N).size=args.map N:=by intro N;apply qq;simp only[Array.toList_extract,a00,List.extract_eq_take_drop,Array.size_append,Array.toList_map];simp;exact List.take_of_length_le AD
  let e0:∀N:BP->A3,(#[N r]++args.map N)[0]?=Z (N r):=by intro N;rw[Array.getElem?_append_left AD];rfl
  change AQ P F so (O_ P F so.own) E (invoke (.fn (.method n) #[]) (#[ρ r]++args.map ρ)) (invoke (.fn (.method n) #[]) (#[ρ' r]++args.map ρ'));unfold invoke;simp only[e0,e1];unfold callMethod;generalize ρ r=x at hr;generalize ρ' r=x' at hr;cases hr with|iface t hv=>dsimp only;refine .prog ?_;refine(aBC h _ t hv).andThen λE1 j⟨f,y⟩⟨f',y'⟩⟨e,hf,hy⟩=>?_;simp only at e hf hy;subst e;exact hC.2 _ (AA hf) E1 (λb hb=>j _ _ (hg b hb)) _ _ (λt ht=>by rw[hC.1 _ hf]at ht;cases ht) (Ai (Al.cons hy (ha.mono j)))|nilIface=>exact RG _|_=>exact .stuck
 |builtin b=>
  simp only[opsOf,DN,rE]at I;unfold ml at h;simp only at h;cases b with
  |append=>
   obtain⟨x,y,rfl⟩:=two h;simp only[KQ,JO,Ee,Iw];by_cases hi:∃u q,ts[1]?=Z u/\P.underlying u=Z (R_ q);.exact Fs (aUi U ts o.type (I x AD) (I y AD) hi)
   exact Fs (aUh U ts o.type (I x AD) (I y AD) λu hu q hq=>hi ⟨u,q,hu,hq⟩)
  |len=>obtain⟨x,rfl⟩:=one h;simp only[KQ,JO,Ee,Iw];exact Fs (aVA ts o.type (I x AD))
  |cap=>obtain⟨x,rfl⟩:=one h;simp only[KQ,JO,Ee,Iw];exact Fs (aUr ts o.type (I x AD))
  |copy=>obtain⟨x,y,rfl⟩:=two h;simp only[KQ,JO,Ee,Iw];exact Fs (aUx ts o.type (I x AD) (I y AD))
  |unsafeString=>obtain⟨hz,h⟩:=h;obtain⟨x,y,rfl⟩:=two h;simp only[KQ,JO,Ee,Iw];exact Fs (aVf hz ts o.type (I x AD) (I y AD))
  |clear=>obtain⟨hz,h⟩:=h;obtain⟨x,rfl⟩:=one h;simp only[KQ,JO,Ee,Iw];exact Fs (aUt U hz ts o.type (I x AD))
  |unsafeSliceData=>obtain⟨x,rfl⟩:=one h;simp only[KQ,JO,Ee,Iw];exact Fs (aV_ ts o.type d (I x AD))
  |min=>refine Fs (aVL ts o.type ?_);simpa using Al.ofMap args.toList λx hx=>I x (Ai hx)
  |_=>exact h.elim
def jl(N:Fit P F)(hG:P.globals.size=CX)(hC:Calm P F so)(hg:∀b,b<CX->E.rel b b)(hc:∀v,ρ (KN v)=v)(hf0:∀f,ρ (It f)=Br (Bo f) #[] #[])(j:∀f,ρ' (It f)=Br (Bo f) #[] #[])(o k)(h:ml P F so k o.op)(A:gW P o)(I:∀x∈opsOf o.op,AK F E (ρ x) (ρ' x))(hown:∀x,setOf o.op=Z x->∀b,Mh (ρ x)=Z b->so.obj b):AQ P F so (O_ P F so.own) E (AM ρ o) (AM ρ' o):=by
 cases ho:o.op with
 |call c=>exact aUq N hC hg hf0 j o c ho k h A I
 |nilCheck y=>exact aVP o y ho rfl rfl (I y (by rw[ho];simp[opsOf,DN]))
 |move x=>unfold AM;rw[ho]at I⊢;exact .AS (.value (I x (by simp[opsOf,DN])))
 |assign x=>unfold AM;rw[ho]at I⊢;exact .AS (.value (I x (by simp[opsOf,DN])))
 |pick c a b=>
  unfold AM;rw[ho]at I⊢;refine(aAy (I c (by simp[opsOf,DN]))).andThen ?_;rintro E1 U r _ rfl;cases r;.exact .AS (.value ((I b (by simp[opsOf,DN])).mono U))
  exact .AS (.value ((I a (by simp[opsOf,DN])).mono U))
 |alloc t=>unfold AM;rw[ho];exact Fs (aUg N t)
 |box t x=>unfold AM;rw[ho]at I⊢;exact Fs (aUm t (I x (by simp[opsOf,DN])))
 |build t ps=>unfold AM;rw[ho]at I⊢;refine Fs (aUn N t ?_);simpa using OZ.ofMap ps.toList λx hx=>I x (by simpa[opsOf,DN]using hx)
 |buildSlice t n ps=>unfold AM;rw[ho]at I⊢;refine Fs (aUo N t n ?_);simpa using OZ.ofMap ps.toList λx hx=>I x (by simpa[opsOf,DN]using hx)
 |load t x=>unfold AM;rw[ho]at I⊢;exact Fs (aVB t (I x (by simp[opsOf,DN])))
 |store t x y=>unfold AM;rw[ho]at I⊢;exact pg (aVb t (I x (by simp[opsOf,DN])) (I y (by simp[opsOf,DN])))
 |unOp op t x=>unfold AM;rw[ho]at I⊢;exact Fs (aVe op (I x (by simp[opsOf,DN])))
 |convert s d x=>unfold AM;rw[ho]at I h⊢;exact Fs (aUv s d h (I x (by simp[opsOf,DN])))
 |makeInterface t x=>unfold AM;rw[ho]at I⊢;exact Fs (aVE t (I x (by simp[opsOf,DN])))
 |makeFunc fn a b=>
  unfold AM;rw[ho]at I h⊢;obtain⟨f,rfl,hf⟩:=h;refine Fs (aVD f hf ?_ ?_);.simpa using Al.ofMap a.toList λx hx=>I x (by simpa[opsOf,DN]using AA hx)
  simpa using Al.ofMap b.toList λx hx=>I x (by simpa[opsOf,DN]using AF hx)
 |makeMap t r=>unfold AM;rw[ho]at I⊢;exact Fs (aVF t (Ky.ofMap λx e=>I x (by subst e;simp[opsOf,DN])))
 |makeSlice t x y=>unfold AM;rw[ho]at I⊢;exact Fs (aVH N t (I x (by simp[opsOf,DN])) (I y (by simp[opsOf,DN])))
 |slice t x l hi m=>unfold AM;rw[ho]at I⊢;exact Fs (aVY t (I x (by simp[opsOf,DN])) (Ky.ofMap λy e=>I y (by subst e;simp[opsOf,DN])) (Ky.ofMap λy e=>I y (by subst e;simp[opsOf,DN])) (Ky.ofMap λy e=>I y (by subst e;simp[opsOf,DN])))
 |fieldAddr t x f=>unfold AM;rw[ho]at I⊢;exact Fs (aV6 t (I x (by simp[opsOf,DN])) f)
 |field t x f=>unfold AM;rw[ho]at I⊢;exact Fs (aV5 t (I x (by simp[opsOf,DN])) f)
 |indexAddr t x y=>unfold AM;rw[ho]at I⊢;exact Fs (aV9 t (I x (by simp[opsOf,DN])) (I y (by simp[opsOf,DN])))
 |index t x y=>unfold AM;rw[ho]at I⊢;exact Fs (aV8 t (I x (by simp[opsOf,DN])) (I y (by simp[opsOf,DN])))
 |lookup t x y b=>unfold AM;rw[ho]at I h⊢;exact Fs (aVC N hG k t h b (I x (by simp[opsOf,DN])) (I y (by simp[opsOf,DN])))
 |mapUpdate t x y z=>unfold AM;rw[ho]at I h⊢;exact pg (aBB (hown x (Af ho)) hG k t h (I x (by simp[opsOf,DN])) (I y (by simp[opsOf,DN])) (I z (by simp[opsOf,DN])))
 |insert t x y z=>unfold AM;rw[ho]at I h⊢;exact pg (aBB (hown x (Af ho)) hG k t h (I x (by simp[opsOf,DN])) (I y (by simp[opsOf,DN])) (I z (by simp[opsOf,DN])))
 |mapEntry t x y=>unfold AM;rw[ho]at I h⊢;exact Fs (aVI N (hown x (Af ho)) hG k t h (I x (by simp[opsOf,DN])) (I y (by simp[opsOf,DN])))
 |entryStore t x y z=>unfold AM;rw[ho]at I⊢;exact pg (aV' (hown x (Af ho)) t (I x (by simp[opsOf,DN])) (I y (by simp[opsOf,DN])) (I z (by simp[opsOf,DN])))
 |panic x=>unfold AM;rw[ho];exact .Gm (aKU _).bind
 |range t x=>unfold AM;rw[ho]at I⊢;exact Fs (aVT t (I x (by simp[opsOf,DN])))
 |next x b=>unfold AM;rw[ho]at I h⊢;exact Fs (aVO (hown x (Af ho)) b o.type (I x (by simp[opsOf,DN])))
 |entry x=>unfold AM;rw[ho]at I⊢;exact Fs (aUz (I x (by simp[opsOf,DN])))
 |typeAssert x t u b=>unfold AM;rw[ho]at I⊢;exact Fs (aVd N t u b (I x (by simp[opsOf,DN])))
 |extract x i=>unfold AM;rw[ho]at I⊢;exact Fs (aV4 (I x (by simp[opsOf,DN])) i)
 |binOp op t x y u=>
  unfold AM;rw[ho]at I h⊢;let hx:=I x (by simp[opsOf,DN]);let hy:=I y (by simp[opsOf,DN]);refine Fs ?_;refine(aV0 op t x y hx hy).andThen λE1 U _ _ _=>?_;refine aUl hG k op t (hx.mono U) (hy.mono U) λe=>?_;rcases h e with g|⟨v,rfl,hv⟩|g;.exact AA g
  .exact AF (AA (Ar hc))
  exact AF (AF g)
 |_=>rw[ho]at h;exact h.elim
end
section
variable{P:Ao}{F:zy}{E:AZ}
def jd:Nat->A3->Bool|0,_=>A9|_+1,Ag _|_+1,AB _ _|_+1,A4 _|_+1,B2 J|_+1,A0 J _ _|_+1,AL J|_+1,EJ J|_+1,l_|_+1,CN=>A5|n+1,DD _ v=>jd n v|n+1,AH a|n+1,Aj a=>a.toList.all (jd n)|_+1,_=>A9
def Al.XR:∀{l},(∀v∈l,AK F E v v)->Al F E l l|[],_=>.nil|v::l,h=>.cons (h v AD) (Al.XR λu hu=>h u BA)
def jf:∀(n){v},jd n v=A5->AK F E v v
 |0,_,h=>by cases h
 |n+1,v,h=>by
  cases v with
  |bool b=>exact .bool b
  |int k a=>exact .int k a
  |string s=>exact .string s
  |pointer a=>
   cases a with
   |none=>exact .GR
   |some a=>cases h
  |slice a l c=>
   cases a with
   |none=>exact .FZ l c
   |some a=>cases h
  |map a=>
   cases a with
   |none=>exact .R7
   |some a=>cases h
  |chan a=>
   cases a with
   |none=>exact .WZ
   |some a=>cases h
  |nilFunc=>exact .nilFunc
  |nilIface=>exact .nilIface
  |iface t v=>exact .iface t (jf n h)
  |agg a=>exact .agg (Al.XR λv hv=>jf n (Ha.1 h v hv))
  |tuple a=>exact .tuple (Al.XR λv hv=>jf n (Ha.1 h v hv))
  |_=>cases h
def aA8:A3->Bool|B2 J|A0 J _ _|AL J|EJ J|l_|CN=>A5|_=>A9
def aTL(h:aA8 v=A5):Nil v:=by
 cases v with
 |pointer a=>
  cases a with
  |none=>exact .ptr
  |some a=>cases h
 |slice a l c=>
  cases a with
  |none=>exact .slice l c
  |some a=>cases h
 |map a=>
  cases a with
  |none=>exact .map
  |some a=>cases h
 |chan a=>
  cases a with
  |none=>exact .chan
  |some a=>cases h
 |nilFunc=>exact .func
 |nilIface=>exact .iface
 |_=>cases h
def nB(ow:List Nat)(t:Nat):Bool:=!(IE ow).contains t
def ya(kb:Nat->Bool)(ow:List Nat):BP->Bool|Aa t=>nB ow t|KN v=>jd 20 v|.global g=>BK (g<CX)|It f=>kb f
def ox(P:Ao)(k:Nat)(t:BL):Bool:=match P.underlying t with|Z (YC key _)=>flat P k key|_=>A5
theorem oy{k}(h:ox P k t=A5):∀I e,P.underlying t=Z (YC I e)->flat P k I=A5:=by grind[ox]
def aA9:BP->Bool|KN v=>aA8 v|_=>A9
def yo(P:Ao)(t:BL):Bool:=match P.underlying t with|Z (PQ _)=>A5|_=>A9
def aLM(P:Ao)(h:Bool)(k:Nat)(I:rC)(t:BL)(y:BP):Bool:=match I with|.eql|.neq=>flat P k t||(aA9 y||h&&yo P t)|_=>A5
structure Gz where
 own:Nat->List Nat
 ob:zy
 all:own 4294967296≠[]->∀b,ob b
 J3:Prop
 aLq:own 4294967296≠[]->J3
def Pn(own:Nat->List Nat):Bool:=!(own 4294967296).isEmpty
def WL(fd:Gz)(v:A3):Prop:=∀b,Mh v=Z b->fd.ob b
def VO(ow:List Nat):BP->Bool|Aa t=>ow.contains t|_=>A9
def va(ow:List Nat):Op->Bool|a0t _ J|a0w ..|lN ..=>A5|sE x|sD x|U9 _ x _=>VO ow x|_=>A9
def nS(ow:List Nat)(o:B8):Bool:=match o.dst with|Z d=>nB ow d&&(!ow.contains d||va ow o.op)|J=>A5
def To(P:Ao)(kb:Nat->Bool)(own:Nat->List Nat)(ow:List Nat)(k:Nat):Op->Bool
 |sE _|sD _|.pick ..|.alloc _|.box ..|b1 ..|lL ..|.load ..|La ..|lP _|.unOp ..|aF1 ..|a0t ..|lN ..|.slice ..=>A5
 |OP ..|.field ..|U9 ..|.index ..|a0w ..|aF4 ..|.extract ..|.entry _=>A5
 |.next x _|a0r _ x _ _=>Pn own||VO ow x
 |.panic _=>A5
 |KM op t _ y _=>aLM P (Pn own) k op t y
 |.convert s d _=>nQ P s d
 |b4 fn _ _=>match fn with
  |Bo f=>kb f
  |_=>A9
 |.lookup t _ _ _=>ox P k t
 |a0v t x _ _|a0s t x _ _|a0u t x _=>(Pn own||VO ow x)&&ox P k t
 |Em c=>match c.callee with
  |Fw b=>match b with
   |QR=>BK (c.args.size=2)
   |.len|.cap=>BK (c.args.size=1)
   |.copy=>BK (c.args.size=2)
   |a0D=>BK (c.args.size=2)&&(Pn own||match c.args[0]? with
    |Z x=>VO ow x
    |J=>A9)
   |.min=>A5
   |.clear=>Pn own&&BK (c.args.size=1)
   |rD=>BK (c.args.size=1)
   |_=>A9
  |NU (It f)=>(kb f||!(own f).isEmpty&&!(own f).contains 1000007)&&(own f).all λt=>BK (c.args<=t)
  |NU _=>A5
  |.invoke _ name=>a9d P kb name
 |_=>A9
def P8:Op->Bool
 |Em c=>match c.callee with
  |Fw a0D=>A5
  |_=>A9
 |_=>A9
def Am(fd:Gz)(z:Bool):D3:=⟨fd.ob,z=A5,fd.own,fd.J3⟩
theorem j_{kb}(hF:∀f,kb f=A5->F f){fd ow k o}(h:To P kb fd.own ow k o=A5):ml P F (Am fd (P8 o)) k o:=by
 cases o with
 |binOp I t x y u=>
  intro e;let h2:(flat P k t||(aA9 y||Pn fd.own&&yo P t))=A5:=by rcases e with rfl|rfl<;>exact h
  rcases eT.1 h2 with g|g;.grind
  rcases eT.1 g with g|g;.cases y with|const v=>exact AF (AA ⟨v,rfl,aTL g⟩)|_=>cases g
  let⟨g1,g2⟩:=Cp.1 g;refine AF (AF ⟨fd.aLq λe=>?_,?_⟩);.simp_all[Pn,g1,e]
  unfold yo at g2;grind
 |convert s d x=>exact h
 |makeFunc fn a b=>unfold To at h;cases fn with|func f=>exact⟨f,rfl,hF f h⟩|_=>grind
 |lookup t x y b=>exact oy h
 |mapUpdate t x y z=>exact oy (Cp.1 h).2
 |insert t x y z=>exact oy (Cp.1 h).2
 |mapEntry t x y=>exact oy (Cp.1 h).2
 |entryStore t x y z=>trivial
 |panic x=>trivial
 |next x b=>trivial
 |call c=>
  let⟨callee,args,ts⟩:=c;cases callee with
  |value f=>
   cases f with
   |func g=>
    let⟨h1,h2⟩:=Cp.1 h;refine⟨?_,λt ht=>of_decide_eq_true (Ha.1 h2 t ht)⟩;rcases eT.1 h1 with e|e;.grind
    right;refine⟨λe2=>?_,?_⟩;.let e2:fd.own g=[]:=e2;grind
    show IE (fd.own g)=[];unfold IE;grind
   |_=>trivial
  |invoke r n=>exact aST hF h
  |builtin b=>cases b with|append=>exact of_decide_eq_true (p:=args.size=2) h|len=>exact of_decide_eq_true (p:=args.size=1) h|cap=>exact of_decide_eq_true (p:=args.size=1) h|copy=>exact of_decide_eq_true (p:=args.size=2) h|unsafeString=>exact⟨rfl,of_decide_eq_true (Cp.1 h).1⟩|min=>trivial|clear=>let⟨h1,h2⟩:=Cp.1 h;refine⟨fd.all λe=>?_,of_decide_eq_true h2⟩;simp_all[Pn,e]|unsafeSliceData=>exact of_decide_eq_true (p:=args.size=1) h|_=>cases h
 |_=>trivial
theorem aX_{kb:Nat->Bool}{own:Nat->List Nat}{ow:List Nat}{k:Nat}{o:Op}(h:To P kb own ow k o=A5){x:BP}(hx:setOf o=x):Pn own=A5∨∃t,x=Aa t/\t∈ow:=by
 let hw:∀y,(Pn own||VO ow y)=A5->Pn own=A5∨∃t,y=Aa t/\t∈ow:=by
  intro y hy;rcases eT.1 hy with hy|hy;.grind
  cases y with|tmp t=>grind[VO]|_=>cases hy
 cases o with|mapUpdate t y z u=>cases hx;exact hw _ (Cp.1 h).1|insert t y z u=>cases hx;exact hw _ (Cp.1 h).1|mapEntry t y z=>cases hx;exact hw _ (Cp.1 h).1|entryStore t y z u=>cases hx;exact hw _ h|next y b=>cases hx;exact hw _ h|_=>cases hx
theorem aVj(hr:(lF t x).runT P w es=(AP v w1,es1)):∀b,Mh v=Z b->w<=b:=by
 unfold lF at hr;change(Dl (Ms t) _).runT P w es=_ at hr;rw[LR]at hr;split at hr
 .rename_i u w2 h e2;have hs:w2=w:=by unfold Ms at e2;cases hu:P.underlying t with|none=>change(match P.underlying t with|Z d=>Na d|J=>UB _).runT P w es=_ at e2;rw[hu]at e2;cases e2|some d=>change(match P.underlying t with|Z d=>Na d|J=>UB _).runT P w es=_ at e2;rw[hu]at e2;cases e2;rfl
  subst hs;cases u with
  |string=>cases x with|string s=>cases hr;intro b hb;cases hb;exact Ad _|_=>cases hr
  |map k e=>
   cases x with
   |map r=>
    cases r with
    |none=>cases hr;intro b hb;cases hb;exact Ad _
    |some m=>
     change(Sn m _).runT P w2 h=_ at hr;simp only[D4]at hr;split at hr;.cases hr
     .rename_i o _ _;cases o with|map c n=>cases hr;intro b hb;cases hb;exact Ad _|_=>cases hr
     cases hr
   |_=>cases hr
  |_=>cases x<;>cases hr
 grind
def I9(P:Ao){α}(s:BS α):Prop:=∀w es a h es1,s.runT P w es=(AP a h,es1)->h.heap=w.heap
theorem I9.bind{α lc s}{f:α->BS lc}(h:I9 P s)(k:∀a,I9 P (f a)):I9 P (s.bind f):=by
 intro w es a U es1 hr;rw[LR]at hr;split at hr;.rename_i I AU N e0;exact(k _ _ _ _ _ _ hr).trans (h _ _ _ _ _ e0)
 grind
theorem I9.pure(a:α):I9 P (Na a):=by intro w es b h es1 hr;simp_all
def I9.dead{s:BS α}(h:BD P s):I9 P s:=λ_ _ _ _ _ hr=>absurd hr (h.ne _ _ _ _ _)
def I9.stuck{α:Type}(m):I9 P (stuck m:BS α):=.dead (BD.halt _)
def I9.program{k:Ao->BS α}(h:I9 P (k P)):I9 P (b7 k):=λ_ _ _ _ _ e=>h _ _ _ _ _ e
def aUa(t):I9 P (Ms t):=by refine .program ?_;show I9 P (match P.underlying t with|Z d=>Na d|J=>UB _);cases P.underlying t with|some d=>exact .pure _|none=>exact .stuck _
def yr(t):I9 P (sj t):=by refine .program ?_;show I9 P (match P.info? t with|Z d=>Na d|J=>UB _);cases P.info? t with|some d=>exact .pure _|none=>exact .stuck _
def aU_(t):I9 P (Rb t):=by exact(yr t).bind λi=>.pure _
def aUb(t):I9 P (lr t):=by
 refine(yr t).bind λi=>?_;split;.exact .pure _
 exact .dead (BD.halt _)
def aUY(v):I9 P (sZ v):=by unfold sZ;split<;>first|exact .pure _|exact .dead (BD.halt _)
def aAw(v):I9 P (fN v):=by exact(aUY v).bind λ_=>.pure _
theorem aUZ(n):I9 P (bB n):=by
 unfold bB;split;.intro w es a I es1 h;simp_all
 exact .pure _
def Nn(P:Ao)(s:BS A3):Prop:=∀w es v h es1,s.runT P w es=(AP v h,es1)->∀b,Mh v=Z b->w<=b
theorem Nn.bind{α s}{f:α->BS A3}(h:I9 P s)(k:∀a,Nn P (f a)):Nn P (s.bind f):=by
 intro w es a U es1 hr b hb;rw[LR]at hr;split at hr;.rename_i I AU N e0;have:=k _ _ _ _ _ _ hr b hb;rwa[h _ _ _ _ _ e0]at this
 grind
def Nn.dead{s}(h:BD P s):Nn P s:=λ_ _ _ _ _ hr=>absurd hr (h.ne _ _ _ _ _)
def aRz(t l c):Nn P (au t l c):=by
 refine Nn.bind (aUa t) λd=>?_;cases d with
 |slice e=>
  refine Nn.bind (aAw l) λn=>?_;refine Nn.bind (aAw c) λm=>?_;refine Nn.bind (yr e) λi=>?_;dsimp only;split
  .split;.exact .dead (BD.bind (G2 _))
   split;.exact .dead (BD.bind (G2 _))
   exact .dead (BD.behind (Oz _) λ_=>BD.bind (G2 _))
  refine Nn.bind (aUZ _) λ_=>?_;refine Nn.bind (aU_ e) λI=>?_;split;.refine Nn.bind (I9.pure _) λz=>λw es v h es1 hr b hb=>?_;cases hr;cases hb;exact Ad _
  refine Nn.bind (aUb e) λy=>?_;refine Nn.bind (I9.pure _) λz=>λw es v h es1 hr b hb=>?_;cases hr;cases hb;exact Ad _
 |_=>exact .dead (BD.halt _)
def Yc(P:Ao)(x:A3)(s:BS A3):Prop:=∀w es v h es1,s.runT P w es=(AP v h,es1)->∀b,Mh v=Z b->Mh x=b
theorem Yc.bind{α x}{s:BS α}{f}(k:∀a,Yc P x (f a)):Yc P x (s.bind f):=by
 intro w es a h es1 hr b hb;rw[LR]at hr;split at hr;.exact k _ _ _ _ _ _ hr b hb
 grind
def Yc.dead{s}(h:BD P s):Yc P x s:=λ_ _ _ _ _ hr=>absurd hr (h.ne _ _ _ _ _)
theorem aIp(a:An)(n):(a.add n).block=a.block:=by grind[Sc]
def a4P(k)(x y)(c):BD P (bC k x y c:BS α):=by
 unfold bC;split;.exact BD.behind (ET.bind (Oz _) λ_=>ET.pure _) λ_=>G2 _
 exact BD.behind (ET.pure _) λ_=>G2 _
def aQ0(t x i):Yc P x (Y2 t x i):=by
 let U:∀(k:ev)(j:Int)(h:Option An)(I:Nat)(N:BL),(∀a,h=Z a->Mh x=Z a.block)->Yc P x (Dl (Ms t) λd=>match h with
 |Z a=>if 0<=j/\j<I then Dl (Rb N) λl=>Na (B2 (Z (a.add (j.toNat*l))))else if(BK (I<=1)&&match d with
  |a1O ..=>A5
  |_=>A9)=A5 then aG4 (a1T "op/indexAddr.an index out of range at an array of length 0 or 1 (ledger 616)")else bC k j I .index
 |J=>bC k j 0 .index):=by
  intro k j h I N hb;refine .bind λd=>?_;cases h with
  |none=>exact .dead (a4P _ _ _ _)
  |some a=>
   dsimp only;by_cases hj:0<=j/\j<I;.rw[if_pos hj];refine .bind λl=>λw es v w1 es1 hr b hv=>?_;cases hr;cases hv;rw[aIp];exact hb a rfl
   rw[if_neg hj];generalize(BK (I<=1)&&match d with
   |a1O ..=>A5
   |_=>A9)=q;cases q;.exact .dead (a4P _ _ _ _)
   exact .dead (BD.halt _)
 unfold Y2;refine .bind λf=>?_;let⟨k,j⟩:=f;refine .bind λd=>?_;cases d with
 |array n e=>
  cases x with
  |pointer p=>
   cases p with
   |none=>exact .dead (BD.bind (BD.halt _))
   |some p=>exact U k j (Z p) n e λa ha=>by cases ha;rfl
  |_=>exact .dead (BD.bind (BD.halt _))
 |slice e=>
  cases x with
  |slice p n c=>exact U k j p n e λa ha=>by subst ha;rfl
  |_=>exact .dead (BD.bind (BD.halt _))
 |_=>cases x<;>exact .dead (BD.bind (BD.halt _))
theorem a5D{o:B8}{ow:List Nat}(h:va ow o.op=A5)(hr:(AM ρ o).runT P w es=(AP qr w1,es1)):(∃t,t∈ow/\∃v,qr=BB v/\∀b,Mh v=Z b->Mh (ρ (Aa t))=b)∨∃v,qr=BB v/\∀b,Mh v=Z b->w<=b:=by
 unfold AM at hr;let own:∀y,VO ow y=A5->∃t,y=Aa t/\t∈ow:=by intro y hy;cases y with|tmp t=>grind[VO]|_=>cases hy
 cases ho:o.op with
 |move x=>rw[ho]at h hr;obtain⟨t,rfl,ht⟩:=own _ h;cases hr;exact AA ⟨t,ht,_,rfl,λ_ h=>h⟩
 |assign x=>rw[ho]at h hr;obtain⟨t,rfl,ht⟩:=own _ h;cases hr;exact AA ⟨t,ht,_,rfl,λ_ h=>h⟩
 |makeMap t r=>rw[ho]at h hr;cases r with|some r=>cases h|none=>cases hr;exact AF ⟨_,rfl,λb hb=>by cases hb;exact Ad _⟩
 |range t x=>
  rw[ho]at hr;change(Dl (lF t (ρ x)) _).runT P w es=_ at hr;rw[LR]at hr;split at hr;.rename_i v w2 I e;cases hr;exact AF ⟨_,rfl,aVj e⟩
  cases hr
 |makeSlice t l c=>
  rw[ho]at hr;change(Dl (au t (ρ l) (ρ c)) _).runT P w es=_ at hr;rw[LR]at hr;split at hr;.rename_i v w2 I e;cases hr;exact AF ⟨_,rfl,aRz _ _ _ _ _ _ _ _ e⟩
  cases hr
 |indexAddr t x i=>
  rw[ho]at h hr;obtain⟨u,rfl,hu⟩:=own _ h;change(Dl (Y2 t (ρ (Aa u)) (ρ i)) _).runT P w es=_ at hr;rw[LR]at hr;split at hr;.rename_i v w2 I e;cases hr;exact AA ⟨u,hu,_,rfl,aQ0 _ _ _ _ _ _ _ _ e⟩
  cases hr
 |_=>rw[ho]at h;cases h
def Ts(P:Ao)(o:B8):Bool:=match o.op with
 |Em c=>match c.callee with
  |Fw rD=>match P.underlying o.type with
   |Z (PQ e)=>jz e
   |_=>A5
  |_=>A5
 |_=>A5
theorem kH{o}(h:Ts P o=A5):gW P o:=by
 unfold gW Ts at*;split
 .rename_i c hc;rw[hc]at h;simp only at h;split;.rename_i hb;rw[hb]at h;intro e he;rw[he]at h;exact zY h
  trivial
 grind
def aAM(P:Ao)(kb:Nat->Bool)(own:Nat->List Nat)(ow:List Nat)(k:Nat)(o:B8):Bool:=To P kb own ow k o.op&&(nS ow o&&((opsOf o.op).all (ya kb ow)&&Ts P o))
def J2(P:Ao)(kb:Nat->Bool)(own:Nat->List Nat)(fd:List Nat)(k:Nat):Code->Bool|.skip|.exit _|.label _|.goto _|.ret|.refuse _=>A5|.region _ ops _=>ops.toList.all (aAM P kb own fd k)|.seq a b=>J2 P kb own fd k a&&J2 P kb own fd k b|.cond c a b=>ya kb fd c&&(J2 P kb own fd k a&&J2 P kb own fd k b)|.block _ b|.loop b|.scope b=>J2 P kb own fd k b|.rangeFunc ..=>A9
end
section
variable{P:Ao}{F:zy}{kb:Nat->Bool}{fd:Gz}{own:Nat->List Nat}{ow:List Nat}{k:Nat}{E:AZ}{r:List Cd}
def Q7(P:Ao)(kb:Nat->Bool)(own:Nat->List Nat)(ow:List Nat)(k:Nat):Cd->Bool|Aw c|NW c|.inScope c=>J2 P kb own ow k c|.inBlock _=>A5|Ak ops _=>ops.toList.all (aAM P kb own ow k)|_=>A9
def GP(D:List Nat)(T:zw):zw:=T.mapIdx λi v=>if D.contains i then AN else v
theorem xX(T):GP [] T=T:=by grind[GP]
def a7q(D)(T):(GP D T).size=T:=by simp[GP]
def SF{D t}(h:D.contains t=A9)(T):(GP D T)[t]?=T[t]?:=by unfold GP;rw[a'u];cases T[t]? with|none=>rfl|some v=>simp only[Option.map_some,h,Ev,↓reduceIte]
theorem a7p(D)(T){d}(h:D.contains d=A9)(v):GP D (T.setIfInBounds d v)=(GP D T).setIfInBounds d v:=by
 apply Array.ext_getElem?;intro i;by_cases e:d=i;.subst e;rw[SF h,HX,HX,a7q];simp
 simp_all[GP,Mm,e,a'u]
def Al.a7r{F E T d}(h:Al F E T.toList d.toList)(D):Al F E (GP D T).toList (GP D d).toList:=by
 let hl:=h.length;simp at hl;refine Al.of (by simp[a7q,hl]) λi v v' e I=>?_;simp at e I;unfold GP at e I;rw[a'u]at e I;obtain⟨x,hx,rfl⟩:=Qf.1 e;obtain⟨x',U,rfl⟩:=Qf.1 I;by_cases N:D.contains i=A5;.simp only[N,↓reduceIte];exact .tuple .nil
 simp only[N,↓reduceIte];obtain⟨y,hy,hv⟩:=h.get i (Ai hx);simp at hy;rw[U]at hy;obtain rfl:=CP hy;exact hv
def aH(D:List Nat)(f:JL):Bool:=f.results.all λr=>match r with|.tmp t=>!D.contains t|.cell a _=>!D.contains a
theorem zD(f):aH [] f=A5:=by grind[aH,Array.all_eq_true]
structure EZ(P:Ao)(F:zy)(kb:Nat->Bool)(fd:Gz)(k:Nat)(E:AZ)(r:List Cd)(d8 fr':Ah):Prop where
 fn:fr'.fn=d8.fn
 has:∃f,P.funcs[d8.fn]?=Z f/\aH (IE (fd.own d8.fn)) f=A5
 todo:fr'.todo=d8.todo++r
 ok:∀i∈d8.todo,Q7 P kb fd.own (fd.own d8.fn) k i=A5
 defers:d8.defers=[]/\fr'.defers=[]
 mode:fr'.mode=d8.mode
 kind:d8.kind=EI/\fr'.kind=.normal
 round:d8.roundOf=J/\fr'.roundOf=J
 tmps:Al F E (GP (IE (fd.own d8.fn)) d8.tmps).toList (GP (IE (fd.own d8.fn)) fr'.tmps).toList
 own:∀t∈fd.own d8.fn,WL fd (d8.tmps.getD t AN)
def Qh(fd:Gz)(d8:Ah)(v:A3):Prop:=∀ops j rest l d,d8.todo=Ak ops (j::rest)::l->ops[j]?.bind (·.dst)=Z d->d∈fd.own d8.fn->WL fd v
def WL.undef:WL fd undef:=λ_ h=>by cases h
def Qh.undef{d8:Ah}:Qh fd d8 undef:=λ_ _ _ _ _ _ _ _=>WL.undef
def EZ.mono{i4 d8 fr'}(h:EZ P F kb fd k E r d8 fr')(hE:E.le i4):EZ P F kb fd k i4 r d8 fr':=⟨h.fn,h.has,h.todo,h.ok,h.defers,h.mode,h.kind,h.round,h.tmps.mono hE,h.own⟩
def EZ.eval{d8 fr'}(h:EZ P F kb fd k E r d8 fr')(hg:∀b,b<CX->E.rel b b)(hF:∀f,kb f=A5->F f)(x)(hx:ya kb (fd.own d8.fn) x=A5):AK F E (d8.eval x) (fr'.eval x):=by
 cases x with
 |tmp t=>
  unfold Frame.eval;simp;let hl:=h.tmps.length;let hx:(!(IE (fd.own d8.fn)).contains t)=A5:=hx;let hx:(IE (fd.own d8.fn)).contains t=A9:=Ai hx;rw[<-SF hx d8.tmps,<-SF hx fr'.tmps];cases e:(GP (IE (fd.own d8.fn)) d8.tmps)[t]? with
  |none=>let hs:=kV.1 e;rw[kV.2 (by simp at hl;omega)];exact .tuple .nil
  |some v=>obtain⟨v',I,hv⟩:=h.tmps.get t (Ai e);simp at I;rwa[I]
 |const v=>exact jf 20 hx
 |global g=>exact .ptr ⟨hg g (of_decide_eq_true hx),rfl,rfl⟩
 |func f=>exact .func (hF f hx) .nil .nil
def EZ.to(h:EZ P F kb fd k E r d8 fr')(l)(hl:∀i∈l,Q7 P kb fd.own (fd.own d8.fn) k i=A5):EZ P F kb fd k E r {d8 with todo:=l} {fr' with todo:=l++r}:=⟨h.fn,h.has,rfl,hl,h.defers,h.mode,h.kind,h.round,h.tmps,h.own⟩
def EZ.finish{d8 fr'}(h:EZ P F kb fd k E r d8 fr')(hne:d8.todo≠[]){v v'}(hv:AK F E v v')(m:Qh fd d8 v):EZ P F kb fd k E r (d8.finish v) (fr'.finish v'):=by
 unfold an;rw[h.todo];let f:=h.ok;cases e:d8.todo with
 |nil=>exact absurd e hne
 |cons i l=>
  rw[e]at f;let hi:=f i AD;simp;cases i with
  |inRegion ops todo=>
   cases todo with
   |nil=>exact h
   |cons j rest=>
    refine⟨h.fn,h.has,rfl,λx hx=>?_,h.defers,h.mode,h.kind,h.round,?_,?_⟩
    .rcases DO.1 hx with rfl|hx;.exact hi
     exact f x (by simp[hx])
    .dsimp only;cases I:ops[j]?.bind (·.dst)with
     |none=>exact h.tmps
     |some d=>
      let hd:(IE (fd.own d8.fn)).contains d=A9:=by cases eo:ops[j]? with|none=>rw[eo]at I;cases I|some o=>rw[eo]at I;let I:o.dst=d:=I;have s:=Ha.1 hi o (by obtain⟨hlt,rfl⟩:=aV.1 eo;simp);let U:=(Cp.1 (Cp.1 s).2).1;unfold nS at U;rw[I]at U;let h2:=(Cp.1 U).1;unfold nB at h2;simpa using h2
      rw[a7p _ _ hd,a7p _ _ hd];exact h.tmps.aC4 hv d
    intro t ht;dsimp only;cases I:ops[j]?.bind (·.dst)with
    |none=>exact h.own t ht
    |some d=>
     by_cases N:d=t
     .subst N;simp;split;.exact m ops j rest l d e I ht
      exact WL.undef
     have:=h.own t ht;simp at this⊢;rwa[HX,if_neg N]
  |code c=>exact h
  |inBlock b=>exact h
  |inLoop b=>exact h
  |inScope b=>exact h
  |_=>cases hi
def EZ.enter{f:Nat}{c:Code}(h:P.funcs[f]?=fn)(hb:fn.body=c)(hc:J2 P kb fd.own (fd.own f) k c=A5){a a':zw}(I:IE (fd.own f)=[])(N:∀t∈fd.own f,a<=t)(ha:Al F E a.toList a'.toList):EZ P F kb fd k E [] (Fa P f a EI) (Fa P f a' EI):=by
 let hl:=ha.length;simp at hl;unfold Fa;refine⟨rfl,⟨_,h,As I (zD fn)⟩,rfl,λi hi=>?_,⟨rfl,rfl⟩,rfl,⟨rfl,rfl⟩,⟨rfl,rfl⟩,Al.a7r ?_ _,λt ht=>?_⟩;.simp only[h,hb,Option.bind_some,ES]at hi;subst hi;exact hc
 .simp only[a00,hl];refine ha.append (Al.XR λv hv=>?_);simp at hv;rw[hv.2];exact .tuple .nil
 have:=N t ht;simp;rw[a't this,Array.getElem?_replicate];split<;>exact WL.undef
theorem vQ{id}(r):∀{l l'},Sr id l=Z l'->Sr id (l++r)=Z (l'++r)
 |[],_,h=>by trivial
 |i::l,l',h=>by
  rw[UJ];unfold Sr at h⊢;split at h
  .rename_i N;obtain⟨rfl,rfl⟩:=PZ N;split at h;.rename_i U;cases h;simp only[U,↓reduceIte]
   rename_i U;simp only[U,↓reduceIte];exact vQ r h
  .rename_i d N;obtain⟨rfl,rfl⟩:=PZ N;split;.rename_i I;obtain⟨rfl,rfl⟩:=PZ I;exact(d _ rfl).elim
   .rename_i I;obtain⟨rfl,rfl⟩:=PZ I;exact vQ r h
   rename_i I;cases I
  grind
theorem vh{n}(r):∀{l l'},bD n l=Z l'->bD n (l++r)=Z (l'++r)
 |[],_,h=>by trivial
 |i::l,l',h=>by
  rw[UJ];unfold bD at h⊢;split at h
  .rename_i U _ N;obtain⟨rfl,rfl⟩:=PZ N;split at h;.rename_i rest e;cases h;simp only[e,UJ]
   rename_i e;simp only[e];exact vh r h
  .rename_i d N;obtain⟨rfl,rfl⟩:=PZ N;split;.rename_i I;obtain⟨rfl,rfl⟩:=PZ I;exact(d _ rfl).elim
   .rename_i I;obtain⟨rfl,rfl⟩:=PZ I;exact vh r h
   rename_i I;cases I
  grind
theorem vS{id}:∀{l l'},Sr id l=Z l'->(∀i∈l,Q7 P kb own ow k i=A5)->∀i∈l',Q7 P kb own ow k i=A5
 |[],_,h,_=>by trivial
 |i::l,l',h,d=>by
  unfold Sr at h;split at h
  .rename_i I;obtain⟨rfl,rfl⟩:=PZ I;split at h;.cases h;exact λj hj=>d j (by simp[hj])
   exact vS h λj hj=>d j (by simp[hj])
  .rename_i I;obtain⟨rfl,rfl⟩:=PZ I;exact vS h λj hj=>d j (by simp[hj])
  grind
theorem aQO:∀{c r}{l},sa c l=Z r->J2 P kb own ow k c=A5->J2 P kb own ow k r=A5:=by
 intro c;induction c with
 |seq a b I N=>intro r l h hc;unfold J2 at hc;unfold sa at h;cases e:sa a l with|some rest=>grind[J2]|none=>grind
 |label l'=>
  intro r l h hc;unfold sa at h;split at h;.cases h;rfl
  cases h
 |_=>intro r l h;cases h
theorem vi{n}:∀{l l'},bD n l=Z l'->(∀i∈l,Q7 P kb own ow k i=A5)->∀i∈l',Q7 P kb own ow k i=A5
 |[],_,h,_=>by trivial
 |i::l,l',h,d=>by
  unfold bD at h;split at h
  .rename_i N _ I;obtain⟨rfl,rfl⟩:=PZ I;split at h
   .rename_i rest e;cases h;intro j hj;rcases DO.1 hj with rfl|hj;.exact aQO e (d _ (Le ..))
    exact d j hj
   exact vi h λj hj=>d j (by simp[hj])
  .rename_i I;obtain⟨rfl,rfl⟩:=PZ I;exact vi h λj hj=>d j (by simp[hj])
  grind
end
section
variable{P:Ao}{F:zy}{kb:Nat->Bool}{fd:Gz}{k:Nat}{E:AZ}{RO:zy}{r:List Cd}
def behind(P:Ao)(d8:Ah)(cs:List Ah):JM->Option (Ah×List Ah)|BB v=>Z (d8.finish v,cs)|JN=>Z (d8.finish AN,cs)|NY f a=>Z (Fa P f a (match d8.todo with|.call _ A5 _ _::_=>a0E|_=>EI),d8::cs)|_=>J
def H0{d cs e s}(hk:(d8.kind==Jk)=A9)(hr:s.runT P w #[]=(AP qr w1,es))(hb:behind P d8 cs qr=Z (d,e)):Iu P A5 d8 cs J s w=Bl {frame:=d,callers:=e,status:=CZ,dying:=J} w1 (Fc P d8.fn es):=by unfold Iu;cases qr with|value v=>cases hb;simp only[↓reduceIte,hr,hk,Ev,KH,Tw]|skip=>cases hb;simp only[↓reduceIte,hr,hk,Ev,KH,Tw]|enter f a=>cases hb;simp only[↓reduceIte,hr,hk,Ev,KH,Tw];rfl|_=>cases hb
def OD(cs:List Ah)(r:List Cd):List Cd:=match cs with|_::_::_=>[]|_=>r
def bot:Ah:={(default:Ah)with defers:=[{target:=.nil,args:=#[]}],mode:=rl []}
inductive LY(P:Ao)(F:zy)(kb:Nat->Bool)(fd:Gz)(k:Nat)(E:AZ)(r:List Cd)(DG:List Ah):List Ah->List Ah->Prop|base:LY P F kb fd k E r DG [bot] DG|cons{d8 fr':Ah}{l l':List Ah}:EZ P F kb fd k E (OD l r) d8 fr'->d8.mode=LZ->(d8.todo≠[]/\∀v,Qh fd d8 v)->LY P F kb fd k E r DG l l'->LY P F kb fd k E r DG (d8::l) (fr'::l')
def LY.mono{i4 d}(hE:E.le i4):∀{l l'},LY P F kb fd k E r d l l'->LY P F kb fd k i4 r d l l'|_,_,.base=>.base|_,_,.cons h m n t=>.cons (h.mono hE) m n (t.mono hE)
def Laid(P:Ao)(F:zy)(kb:Nat->Bool)(fd:Gz)(k:Nat):Prop:=∀f fn c,F f∨ba (fd.own f)->P.funcs[f]?=Z fn->fn.body=Z c->J2 P kb fd.own (fd.own f) k c=A5/\IE (fd.own f)=[]
def a3S(K:Qk P){so Pr}(L:∀b,Pr b->RO b)(M:so.fz->∀b,¬Pr b){cs cs' A s s'}(hs:AQ P F so (O_ P F fd.own) E s s')(hw:C9 F so RO E w w')(h:EZ P F kb fd k E (OD cs r) d8 fr')(hm:d8.mode=LZ)(hne:d8.todo≠[])(hc:LY P F kb fd k E r A cs cs')(hL:Laid P F kb fd k)(hr:s.runT P w #[]=(AP qr w1,es))(Q:∀v,qr=BB v->Qh fd d8 v)(R:∀f a,qr=NY f a->∀v,Qh fd d8 v):∃E1 U C N D w1' I,Iu P A5 d8 cs J s w=Bl {frame:=U,callers:=N,status:=CZ,dying:=J} w1 (Fc P d8.fn es)/\Iu P A5 fr' cs' J s' w'=Bl {frame:=C,callers:=D,status:=CZ,dying:=J} w1' (Fc P d8.fn I)/\EZ P F kb fd k E1 (OD N r) U C/\U.mode=LZ/\LY P F kb fd k E1 r A N D/\C9 F so RO E1 w1 w1'/\FR Pr E w w' E1 w1 w1'/\Jj RO E1 es.toList I.toList/\∃nx',s'.runT P w' #[]=(AP nx' w1',I):=by
 let⟨E1,nx',w1',I,r1,r2,r3,r4,r5⟩:=AQ.runs K L M hs hw .nil hr;let hk:(d8.kind==Jk)=A9:=Af h.kind.1;let hk':(fr'.kind==Jk)=A9:=Af h.kind.2;let d:(match d8.todo with|.call _ A5 ..::_=>a0E|_=>EI)=EI:=by
  split;.rename_i e;exact absurd (h.ok _ (As e (Le ..))) (by simp[Q7])
  rfl
 let j:(match fr'.todo with|.call _ A5 ..::_=>a0E|_=>EI)=EI:=by rw[h.todo];cases e:d8.todo with|nil=>exact absurd e hne|cons i l=>rw[e]at d;cases i<;>first|rfl|(rename_i b _ _;cases b<;>exact d)
 let h1:=h.mono r4.le;let m:=hc.mono r4.le;let H:∀v,(d8.finish v).mode=d8.mode:=by intro v;unfold an;split<;>rfl
 cases r2 with
 |value hv=>exact⟨E1,_,_,_,_,w1',I,H0 hk hr rfl,As h.fn.symm (H0 hk' r1 rfl),h1.finish hne hv (Q _ rfl),Ar H,m,r3,r4,r5,_,r1⟩
 |skip=>exact⟨E1,_,_,_,_,w1',I,H0 hk hr rfl,As h.fn.symm (H0 hk' r1 rfl),h1.finish hne (.tuple .nil) Qh.undef,Ar H,m,r3,r4,r5,_,r1⟩
 |enter hf hb T ha=>
  let⟨fn,c,e1,e2⟩:=hb;refine⟨E1,_,_,_,_,w1',I,H0 hk hr rfl,As h.fn.symm (H0 hk' r1 rfl),?_,rfl,.cons h1 hm ⟨hne,R _ _ rfl⟩ m,r3,r4,r5,_,r1⟩;let z:OD (d8::cs) r=[]:=by cases hc<;>rfl
  rw[d,j,z];exact EZ.enter e1 e2 (hL _ _ _ hf e1 e2).1 (hL _ _ _ hf e1 e2).2 T ha
end
section
variable{P:Ao}{F:zy}{so:D3}{RO:zy}{E:AZ}
def IC(P:Ao){α}(s:BS α):Prop:=∀w es a h es1,s.runT P w es=(AP a h,es1)->h=w
theorem IC.bind{α lc s}{f:α->BS lc}(h:IC P s)(k:∀a,IC P (f a)):IC P (s.bind f):=by
 intro w es a U es1 hr;rw[LR]at hr;split at hr;.rename_i I AU N e0;have:=h _ _ _ _ _ e0;subst this;exact k _ _ _ _ _ _ hr
 grind
theorem IC.pure(a:α):IC P (Na a):=by intro w es b h es1 hr;simp_all
def IC.dead{s:BS α}(h:BD P s):IC P s:=λw es a I es1 hr=>absurd hr (h.ne _ _ _ _ _)
theorem IC.load(a)(m):IC P (load a m):=by intro w es v h es1 hr;grind[bE,D4]
def gu(m):BD P (UB m:BS α):=BD.halt _
def IC.loadBytes:∀(n)(a)(h),IC P (ln a h n)
 |0,a,h=>IC.pure _
 |n+1,a,h=>by
  refine(IC.load a U7).bind λv=>?_;split;.exact IC.loadBytes n _ _
  exact .dead (gu _)
def aR7{n d s}(h:(ln a d (n+1)).runT P w es=(AP s w1,es1)):(w.cell? a=J->∃e,w.farLoad P a (U7==M8)=ab e)->∃x,w.cell? a=Z (AB .u8 x):=by
 intro I;change(Dl (bE a U7) _).runT P w es=_ at h;rw[LR]at h;unfold bE at h;simp only[D4]at h;cases hc:w.cell? a with
 |none=>let⟨e,he⟩:=I hc;rw[hc,he]at h;simp at h
 |some v=>
  rw[hc]at h;simp only at h;split at h;.rename_i b;exact⟨b,rfl⟩
  exact absurd h ((gu _).ne _ _ _ _ _)
def aYb(h):IC P (lk h):=by
 intro w es v I es1 hr;change(b7 _).runT P w es=_ at hr;simp only[D4]at hr;simp only[Dl]at hr;split at hr;.rename_i d _;cases d with|pointer e=>exact IC.pure _ _ _ _ _ _ hr|_=>exact absurd hr ((gu _).ne _ _ _ _ _)
 exact absurd hr ((BD.bind (gu _)).ne _ _ _ _ _)
theorem aYc(a)(e)(n):IC P (sk a e n):=by
 intro w es v h es1 hr;change(b7 _).runT P w es=_ at hr;simp only[D4]at hr;change(sS ..).runT P w es=_ at hr;simp only[D4]at hr;simp only[Dl]at hr;split at hr;.exact IC.pure _ _ _ _ _ _ hr
 simp_all
theorem aCo{ts}(h:(ag ts t #[x,y]).runT P w es=(AP v w1,es1)):w1=w/\((∃q,y=AB q 0)∨x=B2 J)∨∃a n q m,x=B2 (Z a)/\y=AB q m/\m≠0/\w1=w.freeze a n/\((w.cell? a=J->∃e,w.farLoad P a (U7==M8)=ab e)->∃z,w.cell? a=Z (AB .u8 z)):=by
 unfold ag at h;cases x with
 |pointer p=>
  cases y with
  |int q n=>
   change(match ts[0]? with|Z U=>_|_=>_:BS A3).runT P w es=_ at h;cases d:ts[0]? with
   |none=>simp_all
   |some U=>
    rw[d]at h;dsimp only at h;by_cases h1:n<0;.rw[if_pos h1]at h;exact absurd h ((G2 _).bind.ne _ _ _ _ _)
    rw[if_neg h1]at h;by_cases h2:n>AJ.max;.rw[if_pos h2]at h;exact absurd h ((BD.halt _).bind.ne _ _ _ _ _)
    rw[if_neg h2]at h;cases p with
    |none=>
     dsimp only at h;by_cases I:n=0;.rw[if_pos I]at h;exact AA ⟨IC.pure _ _ _ _ _ _ h,AF rfl⟩
     rw[if_neg I]at h;exact absurd h ((G2 _).ne _ _ _ _ _)
    |some a=>
     dsimp only at h;by_cases I:n=0;.rw[if_pos I]at h;exact AA ⟨IC.pure _ _ _ _ _ _ h,AA ⟨q,by rw[I]⟩⟩
     rw[if_neg I]at h;change(Dl (lk U) _).runT P w es=_ at h;rw[LR]at h;split at h
     .rename_i e w2 f e2;have j:=(aYb U) _ _ _ _ _ e2;subst j;change(Dl (sk a e n.toNat) _).runT P w2 f=_ at h;rw[LR]at h;split at h
      .rename_i b w3 l e3;have A:=(aYc a e n.toNat) _ _ _ _ _ e3;subst A;cases b with
       |false=>exact absurd h ((BD.halt _).ne _ _ _ _ _)
       |true=>
        change(Dl (ln a .empty n.toNat) _).runT P w3 l=_ at h;rw[LR]at h;split at h;.rename_i s w4 N e4;have C:=IC.loadBytes _ _ _ _ _ _ _ _ e4;subst C;let hn:∃m,n.toNat=m+1:=⟨n.toNat-1,A'⟩;let⟨m,hm⟩:=hn;let hf:=e4;rw[hm]at hf;refine AF ⟨a,n.toNat,q,n,rfl,rfl,I,?_,aR7 hf⟩;change(sR a n.toNat _).runT P w4 N=_ at h;simp only[D4]at h;exact IC.pure _ _ _ _ _ _ h
        cases h
      cases h
     cases h
  |pointer a=>cases a<;>(exact absurd h ((BD.halt _).ne _ _ _ _ _))
  |_=>exact absurd h ((BD.halt _).ne _ _ _ _ _)
 |_=>exact absurd h ((gu _).ne _ _ _ _ _)
def aZp{o}(ho:P8 o.op=A5)(j:∀c,o.op=Em c->c.args.size=2)(hown:∀c x,o.op=Em c->c.args[0]?=Z x->∀b,Mh (ρ x)=Z b->¬RO b)(U:∀x∈opsOf o.op,AK F E (ρ x) (ρ' x)){nx' es'}(hw:C9 F so RO E w w')(h:(AM ρ o).runT P w #[]=(AP qr w1,es))(I:(AM ρ' o).runT P w' #[]=(AP nx' w1',es')):∀N,(∀b,E.rel b N->RO b)->w1'.heap[N]?=w'.heap[N]?:=by
 intro N l;unfold AM at h I;cases e:o.op with
 |call c=>
  rw[e]at h I U;have hs:=j c e;have hown:=hown c;let⟨callee,args,ts⟩:=c;unfold P8 at ho;rw[e]at ho;cases callee with
  |builtin b=>
   cases b with
   |unsafeString=>
    obtain⟨x,y,rfl⟩:=two hs;simp only[opsOf,DN,rE]at U;simp only[KQ,JO,Iw]at h I;change(Dl (ag ts o.type #[ρ x,ρ y]) _).runT P w #[]=_ at h;change(Dl (ag ts o.type #[ρ' x,ρ' y]) _).runT P w' #[]=_ at I;rw[LR]at h I;split at h
    .rename_i v w2 D e2;split at I
     .rename_i v' w2' s A;have g1:=IC.pure _ _ _ _ _ _ h;have d:=IC.pure _ _ _ _ _ _ I;subst g1 d;let hx:=U x AD;let hy:=U y AD;rcases aCo A with⟨q,_⟩|⟨a',n',q',m',q1,q2,q3,q4,_⟩;.rw[q]
      rw[q1]at hx;rw[q2]at hy;rcases aCo e2 with⟨_,⟨q5,z⟩|z⟩|⟨a,n,q5,m,p1,p2,p3,C,p5⟩;.rw[z]at hy;cases hy;exact absurd rfl q3
      .rw[z]at hx;cases hx
      rw[p1]at hx;cases hx with
      |ptr ha=>
       let⟨o1,o1',eo,eo',hoo⟩:=hw.heap _ _ ha.1;rcases hoo.kind with⟨c,c',t,p,q,rfl,rfl,_,_⟩|⟨_,y'⟩
       .rw[q4];unfold b9;split;.rfl
        exact O7 _ _ _ λz=>(hown x e rfl _ (Af p1)) (l _ (z▸ha.1))
       rw[q4];unfold b9;split;.rfl
       show(w'.heap.modify a'.block _)[N]?=_;by_cases f:N=a'.block;.rw[f,VI _ _ _ eo',eo'];cases o1'<;>first|rfl|exact absurd rfl (y' _ _ _)
       exact O7 _ _ _ f
     cases I
    cases h
   |_=>cases ho
  |_=>cases ho
 |_=>rw[e]at ho;cases ho
end
section
variable{P:Ao}{F:zy}{kb:Nat->Bool}{fd:Gz}{k:Nat}{E:AZ}{RO:zy}{so:D3}{r:List Cd}
def a_f{ops:Array B8}{a a':zw}{D:List Nat}(h:Al F E (GP D a).toList (GP D a').toList)(U:∀(j d:Nat),ops[j]?.bind (λ(o:B8)=>o.dst)=d->D.contains d=A9):I4 ops a'=I4 ops a:=by funext j;unfold I4;cases N:ops[j]?.bind (·.dst)with|none=>rfl|some d=>simp;let hl:=h.length;rw[<-SF (U j d N) a,<-SF (U j d N) a'];cases e:(GP D a)[d]? with|none=>let hs:=kV.1 e;rw[kV.2 (by simp at hl;omega)]|some v=>obtain⟨v',I,hv⟩:=h.get d (Ai e);simp at I;rw[I];cases hv<;>rfl
def aJv(hw:C9 F so RO E w w')(q):∃t h w1',(Sq q).run P w=AP t h/\(Sq q).run P w'=AP t w1'/\C9 F so RO E h w1'/\FR RO E w w' E h w1':=by
 unfold Sq;simp only[fK];split;.exact⟨_,_,_,rfl,rfl,hw,FR.refl ..⟩
 let ht:=hw.tape 0 q;simp at ht;rw[ht];exact⟨_,_,_,rfl,rfl,hw.draw,⟨AZ.le_refl _,λ_ _ x=>AA x,Ad _,Ad _,rfl,rfl,rfl,rfl,⟨1,rfl,rfl⟩,λ_ _ _=>rfl,id⟩⟩
structure Jh(P:Ao)(F:zy)(kb:Nat->Bool)(fd:Gz)(k:Nat)(so:D3)(RO:zy)(E:AZ)(r:List Cd)(DG:List Ah)(fn:Nat)(w w':A1)(s s':lA):Prop where
 both:∃E1 ws Ui MO Uc w1 w1' es es',s=Bl {frame:=ws,callers:=MO,status:=CZ,dying:=J} w1 (Fc P fn es)/\s'=Bl {frame:=Ui,callers:=Uc,status:=CZ,dying:=J} w1' (Fc P fn es')/\EZ P F kb fd k E1 (OD MO r) ws Ui/\(ws.mode=LZ∨ws.mode=.returning)/\LY P F kb fd k E1 r DG MO Uc/\C9 F so RO E1 w1 w1'/\FR RO E w w' E1 w1 w1'/\Jj RO E1 es.toList es'.toList
def Jh.to{d d8 fr' cs cs' w w'}(h:EZ P F kb fd k E (OD cs r) d8 fr')(hm:d8.mode=LZ)(hc:LY P F kb fd k E r d cs cs')(hw:C9 F so RO E w w')(l)(hl:∀i∈l,Q7 P kb fd.own (fd.own d8.fn) k i=A5):Jh P F kb fd k so RO E r d d8.fn w w' (Bl {frame:={d8 with todo:=l},callers:=cs,status:=CZ,dying:=J} w) (Bl {frame:={fr' with todo:=l++OD cs r},callers:=cs',status:=CZ,dying:=J} w'):=⟨E,_,_,cs,cs',w,w',#[],#[],rfl,rfl,h.to l hl,AA hm,hc,hw,FR.refl ..,.nil⟩
theorem EZ.aC7{q}(h:EZ P F kb fd k E q d8 fr'){o}(ho:To P kb fd.own (fd.own d8.fn) k o=A5):∀x,setOf o=Z x->∀b,Mh (d8.eval x)=Z b->fd.ob b:=by
 intro x hx b hb;rcases aX_ ho hx with hf|⟨t,rfl,ht⟩;.refine fd.all (λe=>?_) b;simp_all[Pn,e]
 exact h.own t ht b hb
def a4r(R:Fit P F)(hG:P.globals=CX)(hC:∀z,Calm P F (Am fd z))(H:so=Am fd A5/\∀b,¬RO b↔fd.ob b)(hF:∀f,kb f=A5->F f)(hL:Laid P F kb fd k)(hg:∀b,b<CX->E.rel b b)(m m':Bool){T:List Ah}{cs cs':List Ah}(h:EZ P F kb fd k E (OD cs r) d8 fr')(hm:d8.mode=LZ)(Pu:d8.todo=[]->OD cs r=[])(hc:LY P F kb fd k E r T cs cs')(hw:C9 F so RO E w w')(hgo:∃g1 w1 es,BY P m A5 d8 cs J w=Bl g1 w1 es)(f9:∀ops j rest l o,d8.todo=Ak ops (j::rest)::l->ops[j]?=Z o->Gd o (I4 ops d8.tmps)=A5->∃qr w1 es,(AM d8.eval o).runT P w #[]=(AP qr w1,es)):Jh P F kb fd k so RO E r T d8.fn w w' (BY P m A5 d8 cs J w) (BY P m' A5 fr' cs' J w'):=by
 obtain⟨g1,w1,es1,hgo⟩:=hgo;let W:=h.ok;let N:=h.todo;let K:=h.round.1;let X:=h.round.2;let Q:Jh P F kb fd k so RO E r T d8.fn w w' (Bl {frame:={d8 with mode:=Mp},callers:=cs,status:=CZ,dying:=J} w) (Bl {frame:={fr' with mode:=Mp},callers:=cs',status:=CZ,dying:=J} w'):=⟨E,_,_,cs,cs',w,w',#[],#[],rfl,rfl,⟨h.fn,h.has,h.todo,h.ok,h.defers,rfl,h.kind,h.round,h.tmps,h.own⟩,AF rfl,hc,hw,FR.refl ..,.nil⟩;cases I:d8.todo with
 |nil=>rw[I,Pu I,List.append_nil]at N;unfold BY;simp only[I,N,K,X,↓reduceIte]at Q⊢;exact Q
 |cons i l=>
  rw[I]at N W;rw[UJ]at N;let hi:=W i AD;let hl:∀j∈l,Q7 P kb fd.own (fd.own d8.fn) k j=A5:=λj hj=>W j (by simp[hj]);cases i with
  |inBlock b=>unfold BY;simp only[I,N];exact Jh.to h hm hc hw l hl
  |inScope b=>unfold BY;simp only[I,N];exact Jh.to h hm hc hw l hl
  |inLoop b=>
   unfold BY;simp only[I,N];exact Jh.to h hm hc hw _ λj hj=>by
    rcases DO.1 hj with rfl|hj;.exact hi
    rcases DO.1 hj with rfl|hj;.exact hi
    exact hl j hj
  |code c=>
   let two:∀(a b:Cd),Q7 P kb fd.own (fd.own d8.fn) k a=A5->Q7 P kb fd.own (fd.own d8.fn) k b=A5->∀j∈a::b::l,Q7 P kb fd.own (fd.own d8.fn) k j=A5:=by
    intro a b ha hb j hj;rcases DO.1 hj with rfl|hj;.exact ha
    rcases DO.1 hj with rfl|hj;.exact hb
    exact hl j hj
   cases c with
   |skip=>unfold BY;simp only[I,N];exact Jh.to h hm hc hw l hl
   |label n=>unfold BY;simp only[I,N];exact Jh.to h hm hc hw l hl
   |ret=>unfold BY;simp only[I,N,K,X,↓reduceIte]at Q⊢;exact Q
   |seq a b=>obtain⟨h1,h2⟩:=Cp.1 hi;unfold BY;simp only[I,N];exact Jh.to h hm hc hw _ (two _ _ h1 h2)
   |cond c a b=>
    obtain⟨h0,nj⟩:=Cp.1 hi;obtain⟨h1,h2⟩:=Cp.1 nj;have hv:=h.eval hg hF c h0;unfold BY at hgo⊢;simp only[I,N]at hgo⊢;generalize d8.eval c=x at hv hgo;generalize fr'.eval c=x' at hv;cases hv with
    |bool v=>
     refine Jh.to h hm hc hw _ λj hj=>?_;rcases DO.1 hj with rfl|hj
     .cases v;.exact h2
      exact h1
     exact hl j hj
    |_=>cases hgo
   |block n b=>unfold BY;simp only[I,N];exact Jh.to h hm hc hw _ (two _ _ hi rfl)
   |loop b=>unfold BY;simp only[I,N];exact Jh.to h hm hc hw _ (two _ _ hi hi)
   |scope b=>unfold BY;simp only[I,N];exact Jh.to h hm hc hw _ (two _ _ hi hi)
   |exit n=>
    unfold BY at hgo⊢;simp only[I,K]at hgo;simp only[I,N];cases e:Sr n l with
    |none=>rw[e]at hgo;simp only[tz,Ev,↓reduceIte]at hgo;cases hgo
    |some l'=>rw[vQ _ e];exact Jh.to h hm hc hw l' (vS e hl)
   |goto n=>
    unfold BY at hgo⊢;simp only[I,K]at hgo;simp only[I,N];cases e:bD n l with
    |none=>rw[e]at hgo;simp only[tz,Ev,↓reduceIte]at hgo;cases hgo
    |some l'=>rw[vh _ e];exact Jh.to h hm hc hw l' (vi e hl)
   |rangeFunc f a b c=>cases hi
   |refuse y=>unfold BY at hgo;simp only[I]at hgo;cases hgo
   |region n ops draw=>
    let LH:∀(t:List Nat),∀j∈Ak ops t::l,Q7 P kb fd.own (fd.own d8.fn) k j=A5:=by
     intro t j hj;rcases DO.1 hj with rfl|hj;.exact hi
     exact hl j hj
    unfold BY;simp only[I,N];cases draw with
    |false=>exact Jh.to h hm hc hw _ (LH _)
    |true=>obtain⟨t,w2,w2',e,e',NF,CY⟩:=aJv hw (Vx d8.fn n);let Y:(Sq (Vx fr'.fn n)).run P w'=AP t w2':=Ar h.fn;simp only[e,Y,Xn,Ev,↓reduceIte];exact⟨E,_,_,cs,cs',w2,w2',#[],#[],rfl,rfl,h.to _ (LH _),AA hm,hc,NF,CY,.nil⟩
  |inRegion ops todo=>
   cases todo with
   |nil=>unfold BY;simp only[I,N];exact Jh.to h hm hc hw l hl
   |cons j rest=>
    let DZ:∀v,(d8.finish v).mode=d8.mode:=by intro v;unfold an;split<;>rfl
    let DX:∀(j d:Nat),ops[j]?.bind (λo=>o.dst)=d->(IE (fd.own d8.fn)).contains d=A9:=by
     intro j d s;cases eo:ops[j]? with
     |none=>rw[eo]at s;cases s
     |some o=>rw[eo]at s;let s:o.dst=d:=s;have xA:=Ha.1 hi o (by obtain⟨hlt,rfl⟩:=aV.1 eo;simp);let h1:=(Cp.1 (Cp.1 xA).2).1;unfold nS at h1;rw[s]at h1;let h2:=(Cp.1 h1).1;unfold nB at h2;simpa using h2
    let ey:=a_f h.tmps DX;let eo:d8.oper?=ops[j]?:=by unfold l9;rw[I]
    let eo':fr'.oper?=ops[j]?:=by unfold l9;rw[N]
    unfold BY;simp only[I,N,ey];by_cases L:(ops[j]?.map (Gd · (I4 ops d8.tmps))).getD A9=A5
    .simp only[L,↓reduceIte];cases e:ops[j]? with
     |none=>rw[e]at L;cases L
     |some o=>
      obtain⟨qr,w2,Pm,hr⟩:=f9 ops j rest l o I e (yu e L);have ho:=Ha.1 hi o (by have:=aV.1 e;obtain⟨hlt,rfl⟩:=this;simp);obtain⟨A,x8⟩:=Cp.1 ho;obtain⟨C,Kc⟩:=Cp.1 x8;have md:=λx hx=>h.eval hg hF x (Ha.1 (Cp.1 Kc).1 x hx);have hs:=jl R hG (hC _) hg (λv=>rfl) (λf=>rfl) (λf=>rfl) o k (j_ hF A) (kH (Cp.1 Kc).2) md (h.aC7 A);let e1:bF P A5 d8 cs J w=Iu P A5 d8 cs J (AM d8.eval o) w:=by unfold bF;rw[eo,e];simp only[K]
      let e2:bF P A5 fr' cs' J w'=Iu P A5 fr' cs' J (AM fr'.eval o) w':=by unfold bF;rw[eo',e];simp only[X]
      let hne:d8.todo≠[]:=As I (aHL _ _);let oB:∀v,(va (fd.own d8.fn) o.op=A5->WL fd v)->Qh fd d8 v:=by intro v hv aAQ j2 aBZ Bj d e2 e3 hd;rw[I]at e2;cases e2;rw[e]at e3;let e3:o.dst=d:=e3;unfold nS at C;rw[e3]at C;let C:=(Cp.1 C).2;simp only[List.contains_eq_mem,hd,decide_true,Xn,Bool.false_or]at C;exact hv C
      let Ke:∀v,qr=BB v->Qh fd d8 v:=by
       rintro v rfl;refine oB v λhf=>?_;rcases a5D hf hr with⟨t,ht,EP,D,hb⟩|⟨EP,D,hb⟩;.cases D;exact λb hb2=>h.own t ht b (hb b hb2)
       cases D;intro b hb2;refine(H.2 b).1 λhro=>?_;have:=(hw.kept b hro).1;have:=hb b hb2;omega
      let oD:∀f a,qr=NY f a->∀v,Qh fd d8 v:=by rintro f a rfl v;refine oB v λhf=>?_;rcases a5D hf hr with⟨t,ht,EP,D,hb⟩|⟨EP,D,hb⟩<;>cases D
      let M:C9 F (Am fd (P8 o.op)) RO E w w':=by rw[H.1]at hw;exact⟨hw.heap,hw.tape,hw.kept,hw.low,hw.even⟩
      cases hu:P8 o.op with
      |false=>rw[hu]at hs M;obtain⟨E1,ws,Ui,MO,Uc,w1',es',q1,q2,q3,q4,q5,q6,q7,q8,_⟩:=a3S R.Ip (λ_ x=>x) (λx=>by cases x) hs M h hm hne hc hL hr Ke oD;exact⟨E1,ws,Ui,MO,Uc,w2,w1',Pm,es',e1.trans q1,e2.trans q2,q3,AA q4,q5,by rw[H.1];exact⟨q6.heap,q6.tape,q6.kept,q6.low,q6.even⟩,q7,q8⟩
      |true=>
       rw[hu]at hs M;obtain⟨E1,ws,Ui,MO,Uc,w1',es',q1,q2,q3,q4,q5,q6,q7,q8,nx',aUW⟩:=a3S R.Ip (λ_ x=>x.elim) (λ_ _ x=>x) hs M h hm hne hc hL hr Ke oD;let oK:=aZp hu (λc hc=>by
        rw[hc]at A hu;obtain⟨U,args,ts⟩:=c;cases U with
        |builtin b=>
         cases b with
         |unsafeString=>exact of_decide_eq_true (Cp.1 A).1
         |_=>cases hu
        |_=>cases hu) (λc x hc hx b hb=>by
        rw[hc]at A hu;obtain⟨U,args,ts⟩:=c;cases U with
        |builtin aJM=>
         cases aJM with
         |unsafeString=>
          let h2:=(Cp.1 A).2;have hx:=hx;rw[hx]at h2;refine(H.2 b).2 ?_;rcases eT.1 h2 with h3|h3;.exact fd.all (by simpa[Pn]using h3) b
          cases x with
          |tmp t=>exact h.own t (by simpa[VO]using h3) b hb
          |_=>cases h3
         |_=>cases hu
        |_=>cases hu) md M hr aUW;exact⟨E1,ws,Ui,MO,Uc,w2,w1',Pm,es',e1.trans q1,e2.trans q2,q3,AA q4,q5,by rw[H.1];exact⟨q6.heap,q6.tape,q6.kept,q6.low,q6.even⟩,⟨q7.le,q7.fresh,q7.size,q7.k8,q7.os,q7.output,q7.tape,q7.e9,q7.drawn,λb' _ hn=>oK b' hn,q7.V4⟩,q8⟩
    simp only[L,Ev,↓reduceIte];exact⟨E,_,_,cs,cs',w,w',#[],#[],rfl,rfl,h.finish (As I (aHL _ _)) (.tuple .nil) Qh.undef,AA (Ar DZ),hc,hw,FR.refl ..,.nil⟩
  |_=>cases hi
end
section
variable{P:Ao}{F:zy}{kb:Nat->Bool}{fd:Gz}{k:Nat}{E:AZ}{RO:zy}{so:D3}{r:List Cd}
def aB3{α:Type}{g g':α->BS A3}:∀(l:List α){E}(_:∀I,E.le I->∀x,AQ P F so (Bp F) I (g x) (g' x)){b b'},Al F E b.toList b'.toList->AQ P F so (Rp F) E (l.foldlM (λb x=>b.push<$>g x) b) (l.foldlM (λb x=>b.push<$>g' x) b')|[],_,_,_,_,h=>.AS h|x::l,E,hg,b,b',h=>by exact AQ.andThen (AQ.andThen (hg E (AZ.le_refl _) x) λE1 N v v' hv=>.AS (by simpa using(h.mono N).snoc hv)) λE2 U c c' hc=>aB3 l (λI hE x=>hg I (AZ.le_trans U hE) x) hc
theorem a5K{a a':zw}(h:Al F E a.toList a'.toList)(t):AK F E (a.getD t AN) (a'.getD t AN):=by simp;let hl:=h.length;cases e:a[t]? with|none=>rw[kV.2 BA];exact .tuple .nil|some v=>obtain⟨v',I,hv⟩:=h.get t (Ai e);grind
def aVV(fn){a a'}(h:Al F E a.toList a'.toList):AQ P F so (Bp F) E (D5 fn a) (D5 fn a'):=by
 refine AQ.andThen (Q:=Rp F) ?_ ?_;.rw[kX,kX,<-kU,<-kU];refine aB3 _ (λi4 hE x=>?_) .nil;cases x with|tmp t=>exact .AS ((a5K h t).mono hE)|cell b t=>exact(jk ((a5K h b).mono hE)).andThen λE2 e x x' hx=>jq hx t
 intro E1 f N d hv;let hl:=hv.length;simp at hl;by_cases I:N.size=1
 .simp only[I,hl.trans I,↓reduceDIte];let⟨v',e',hv'⟩:=hv.get 0 (v:=N[0]) AD;have:=by simp at e';rw[G8 A']at e';exact(CP e').symm
  subst this;exact .AS hv'
 let U:¬d.size=1:=λx=>I (hl.symm.trans x);simp only[I,U,↓reduceDIte];exact .AS (.tuple hv)
def aB_{α:Type}{f g:α->BS A3}:∀(l:List α)(I:zw),(∀x∈l,f x=g x)->l.foldlM (λI a=>do Ex (I.push (<-f a))) I=l.foldlM (λI a=>do Ex (I.push (<-g a))) I|[],_,_=>rfl|x::l,I,h=>by simp only[aHT];rw[h x AD];congr 1;funext b;exact aB_ l b λy hy=>h y (by simp[hy])
def aBa{D}(h:aH D fn=A5)(T):D5 fn (GP D T)=D5 fn T:=by unfold D5;congr 1;rw[kX,kX,<-kU,<-kU];refine aB_ _ _ λx hx=>?_;unfold aH at h;rw[Array.all_eq_true']at h;let h:=h x (Ai hx);cases x with|tmp t=>simp only[QP,SF (Ai h)]|cell a t=>simp only[QP,SF (Ai h)]
def EZ.results{q}(h:EZ P F kb fd k E q d8 fr')(I:P.funcs[d8.fn]?=Z fn):AQ P F so (Bp F) E (D5 fn d8.tmps) (D5 fn fr'.tmps):=by let⟨fn0,h1,h2⟩:=h.has;rw[I]at h1;obtain rfl:=CP h1;rw[<-aBa h2 d8.tmps,<-aBa h2 fr'.tmps];exact aVV fn h.tmps
theorem SZ{m c cs}(hd:d8.defers=[])(hm:d8.mode=Mp)(hk:d8.kind=EI)(h:P.funcs[d8.fn]?=Z fn)(hr:(D5 fn d8.tmps).runT P w #[]=(AP v w1,es)):I3 P m d8 (c::cs) J w=Bl {frame:=c.finish v,callers:=cs,status:=CZ,dying:=J} w1 (Fc P d8.fn es):=by simp_all[I3,doReturn,KH,Tw]
theorem aBb(U:Qk P)(m m'){d q c c' cs cs'}(h:EZ P F kb fd k E q d8 fr')(hm:d8.mode=Mp)(hc:EZ P F kb fd k E (OD cs r) c c')(f:c.mode=LZ)(I:c.todo≠[]/\∀v,Qh fd c v)(e:LY P F kb fd k E r d cs cs')(hw:C9 F so RO E w w')(N:P.funcs[d8.fn]?=Z fn)(hr:(D5 fn d8.tmps).runT P w #[]=(AP v w1,es)):Jh P F kb fd k so RO E r d d8.fn w w' (I3 P m d8 (c::cs) J w) (I3 P m' fr' (c'::cs') J w'):=by
 let hs:AQ P F ⟨so.obj,False,so.own,so.J3⟩ (Bp F) E (D5 fn d8.tmps) (D5 fn fr'.tmps):=h.results N;let⟨E1,v',w1',es',r1,r2,r3,r4,r5⟩:=AQ.runs U (λ_ x=>x) (λx=>a08 x) hs ⟨hw.heap,hw.tape,hw.kept,hw.low,hw.even⟩ .nil hr;let j:∀v,(c.finish v).mode=c.mode:=by intro v;unfold an;grind
 refine⟨E1,_,_,cs,cs',w1,w1',es,es',SZ h.defers.1 hm h.kind.1 N hr,?_,(hc.mono r4.le).finish I.1 r2 (I.2 _),AA BA,e.mono r4.le,⟨r3.heap,r3.tape,r3.kept,r3.low,r3.even⟩,r4,r5⟩;rw[<-h.fn];exact SZ h.defers.2 (h.mode.trans hm) h.kind.2 (Ar h.fn) r1
theorem dw{m g}(hd:g.dying=J)(hm:g.frame.mode=LZ):B9 P m g w A5=BY P m A5 g.frame g.callers J w:=by simp_all[B9]
theorem SX{m g}(hd:g.dying=J)(hm:g.frame.mode=Mp):B9 P m g w A5=I3 P m g.frame g.callers J w:=by simp_all[B9]
end
section
variable{P:Ao}{F:zy}{so:D3}{RO:zy}
def on(w:A1)(T:Nb):A1:={w with tape:=T}
def C9.free(h:C9 F so RO E w w'):C9 F so (λ_=>False) E w w':=⟨h.heap,h.tape,λ_ x=>x.elim,h.low,h.even⟩
theorem a4t{T l}(h:w.farStore P a v b=Gu (w1,l)):(on w T).farStore P a v b=Gu (on w1 T,l)/\w1.drawn=w.drawn/\w1.tape=w.tape:=by
 unfold lg at h⊢;let e:(on w T).heap=w.heap:=rfl;rw[e];split at h
 .rename_i x u hx;unfold a1W at h⊢;by_cases ht:(!tight P P.depth u)=A5;.rw[if_pos ht]at h;cases h
  rw[if_neg ht]at h⊢;let es:(on w T).seen P x u a b=w.seen P x u a b:=rfl;rw[es];cases hs:w.seen P x u a b with
  |error m=>rw[hs]at h;cases h
  |ok r=>
   let⟨c,e,fz,first,like,cells⟩:=r;rw[hs]at h;simp only[aX,Xq]at h⊢;cases hb:v.bytes? with
   |none=>simp only[hb]at h;cases h
   |some bytes=>
    simp only[hb]at h⊢;split at h
    .rename_i r hr;split at hr;.cases hr
     rename_i hlen;split at hr;.cases hr
     simp only[Ex,ko,kn]at hr;subst hr;obtain⟨rfl,rfl⟩:=h;rw[if_neg hlen];exact⟨rfl,rfl,rfl⟩
    cases h
 grind
def aLl(w)(T)(a)(b):(on w T).farLoad P a b=w.farLoad P a b:=rfl
def AQ.tape(A:Qk P){α Q E s s'}(h:AQ P F so Q E s s'):∀{w w':A1}{es:Array C5}{a:α}{w1:A1}{es1:Array C5},C9 F so (λ_=>False) E w w'->s.runT P w es=(AP a w1,es1)->w.drawn<=w1.drawn/\∀T:Nb,(∀i q,w.drawn<=i->i<w1.drawn->T i q=w.tape i q)->s.runT P (on w T) es=(AP a (on w1 T),es1):=by
 induction h with
 |pure q=>intro w w' es a w1 es1 hw hr;simp at hr;obtain⟨⟨rfl,rfl⟩,rfl⟩:=hr;exact⟨Ad _,λT _=>rfl⟩
 |load m ha _ I=>intro w w' es a w1 es1 hw hr;rename_i x x' k N _;simp only[D4]at hr⊢;cases hc:w.cell? x with|some v=>rw[hc]at hr;let⟨v',hc',hv⟩:=hw.cell ha hc;let⟨h1,h2⟩:=I v v' hv hw hr;refine⟨h1,λT hT=>?_⟩;let e:(on w T).cell? x=Z v:=hc;rw[e];exact h2 T hT|none=>rw[hc]at hr;simp only at hr;cases hf:w.farLoad P x (m==M8)with|error h=>rw[hf]at hr;simp at hr|ok r=>let⟨v,l⟩:=r;rw[hf]at hr;let⟨l',q1,q2,q3,q4⟩:=hw.We A ha hf;let⟨h1,h2⟩:=I v v q3 hw hr;refine⟨h1,λT hT=>?_⟩;let e:(on w T).cell? x=J:=hc;rw[e];simp only[aLl,hf];exact h2 T hT
 |store m ha hv _ I=>
  intro w w' es a w1 es1 hw hr;rename_i x x' v v' k N _;by_cases g1:∃c,v=AH c;.obtain⟨c,rfl⟩:=g1;simp[D4]at hr
  by_cases g2:∃c,v=Aj c;.obtain⟨c,rfl⟩:=g2;simp[D4]at hr
  rw[aK (λc x=>g1 ⟨c,x⟩) λc x=>g2 ⟨c,x⟩]at hr;cases hc:w.cell? x with
  |some u=>
   rw[hc]at hr;simp only at hr;by_cases hf:w.frozen? x=A5;.rw[if_pos hf]at hr;simp at hr
   rw[if_neg hf]at hr;let⟨q1,_⟩:=hw.set ha hv hc λx=>x;let⟨h1,h2⟩:=I q1 hr;let hd:(w.setCell x v).drawn=w.drawn:=by unfold QW;split<;>rfl
   let ht:(w.setCell x v).tape=w.tape:=by unfold QW;split<;>rfl
   rw[hd]at h1;refine⟨h1,λT hT=>?_⟩;rw[aK (λc x=>g1 ⟨c,x⟩) λc x=>g2 ⟨c,x⟩];let e:(on w T).cell? x=Z u:=hc;let C:¬(on w T).frozen? x=A5:=hf;let es:(on w T).setCell x v=on (w.setCell x v) T:=rfl;rw[e];simp only;rw[if_neg C,es];exact h2 T (by rwa[hd,ht])
  |none=>rw[hc]at hr;simp only at hr;cases hf:w.farStore P x v (m==M8)with|error h=>rw[hf]at hr;simp at hr|ok r=>let⟨w2,l⟩:=r;rw[hf]at hr;let⟨r',q1,q2,q3,q4,q5,q6⟩:=hw.vX ha hv hf;let⟨h1,h2⟩:=I q3 hr;let hd:=a4t (T:=w.tape) hf;rw[hd.2.1]at h1;refine⟨h1,λT hT=>?_⟩;rw[aK (λc x=>g1 ⟨c,x⟩) λc x=>g2 ⟨c,x⟩];let e:(on w T).cell? x=J:=hc;rw[e];simp only[(a4t hf).1];exact h2 T (by rwa[hd.2.1,hd.2.2])
 |new ho _ hz I=>intro w w' es a w1 es1 hw hr;simp only[D4]at hr⊢;let⟨h1,h2⟩:=I (AR w) (AR w') hw.fresh (hw.push ho hz) hr;exact⟨h1,λT hT=>h2 T hT⟩
 |shape U _ I=>intro w w' es a w1 es1 hw hr;simp only[D4]at hr⊢;let⟨h1,h2⟩:=I _ hw hr;exact⟨h1,λT hT=>h2 T hT⟩
 |freeze n hz ha _ I=>
  intro w w' es a w1 es1 hw hr;rename_i x x' k N _;simp only[D4]at hr⊢;let⟨q1,_⟩:=hw.freeze (Pr:=λ_=>False) ha n λx=>x;let⟨h1,h2⟩:=I q1 hr;let hd:(w.freeze x n).drawn=w.drawn:=by unfold b9;split<;>rfl
  let ht:(w.freeze x n).tape=w.tape:=by unfold b9;split<;>rfl
  rw[hd]at h1;refine⟨h1,λT hT=>?_⟩;let es:(on w T).freeze x n=on (w.freeze x n) T:=by unfold b9 on;dsimp only;split<;>rfl
  rw[es];exact h2 T (by rwa[hd,ht])
 |frozen hz ha _ I=>intro w w' es a w1 es1 hw hr;simp only[D4]at hr⊢;let⟨h1,h2⟩:=I _ hw hr;exact⟨h1,λT hT=>h2 T hT⟩
 |getObj U _ I=>
  intro w w' es a w1 es1 hw hr;rename_i r r' k N _;let⟨o,o',e,e',ho⟩:=hw.heap _ _ U;simp only[D4]at hr⊢;rw[e]at hr;let d:∀T,Fl (on w T) r o:=λT=>e;rcases ho.kind with⟨c,c',t,p,q,rfl,rfl,_,_⟩|⟨x,x'⟩;.simp at hr
  let f:(k o).runT P w (es.push ⟨FI r,A9,o.isChan⟩)=(AP a w1,es1):=by rw[<-hr];cases o<;>first|rfl|exact absurd rfl (x _ _ _)
  let⟨h1,h2⟩:=I o o' ho hw f;refine⟨h1,λT hT=>?_⟩;rw[d,<-h2 T hT];cases o<;>first|rfl|exact absurd rfl (x _ _ _)
 |setObj hs U hn ho _ I=>
  intro w w' es a w1 es1 hw hr;rename_i r r' o o' k N _;simp only[D4]at hr⊢;cases e:w.heap[r]? with
  |none=>rw[e]at hr;simp at hr
  |some old=>
   rw[e]at hr;let d:∀T,Fl (on w T) r old:=λT=>e;by_cases z:∃c t p,old=A7 c t p;.obtain⟨c,t,p,rfl⟩:=z;simp at hr
   have j:=λc t p x=>z ⟨c,t,p,x⟩;let⟨q1,_,_,_,_,_⟩:=hw.setObj hs U hn ho e j;let f:k.runT P {w with heap:=w.heap.setIfInBounds r o} (es.push ⟨FI r,A5,o.isChan⟩)=(AP a w1,es1):=by rw[<-hr];cases old<;>first|rfl|exact absurd rfl (j _ _ _)
   let⟨h1,h2⟩:=I q1 f;refine⟨h1,λT hT=>?_⟩;rw[d,<-h2 T hT];cases old<;>first|rfl|exact absurd rfl (j _ _ _)
 |choose q _ I=>
  intro w w' es a w1 es1 hw hr;rename_i E k N _;simp only[D4]at hr⊢;split at hr;.rename_i hq;let⟨h1,h2⟩:=I _ hw hr;refine⟨h1,λT hT=>?_⟩;rw[if_pos hq];exact h2 T hT
  rename_i hq;let⟨h1,h2⟩:=I _ hw.draw hr;simp only at h1;refine⟨A',λT hT=>?_⟩;rw[if_neg hq];let e:(on w T).tape (on w T).drawn q=w.tape w.drawn q:=hT _ _ (Ad _) (by show w.drawn<w1.drawn;omega);rw[e];exact h2 T λi q hi hl=>hT i q (Nat.le_of_succ_le hi) hl
 |program _ I=>intro w w' es a w1 es1 hw hr;simp only[D4]at hr⊢;let⟨h1,h2⟩:=I hw hr;exact⟨h1,λT hT=>h2 T hT⟩
 |mark hm _ I=>intro w w' es a w1 es1 hw hr;simp only[D4]at hr⊢;let⟨h1,h2⟩:=I hw hr;exact⟨h1,λT hT=>h2 T hT⟩
 |dead s' h=>intro w w' es a w1 es1 hw hr;exact absurd hr (h.ne _ _ _ _ _)
end
section
variable{P:Ao}{F:zy}{so:D3}{RO:zy}
theorem AQ.aNb(j:Qk P){Q}{s s':BS α}(h:AQ P F so Q E s s'):∀{w w':A1}{es:Array C5}{x:aq}{w1:A1}{es1:Array C5},C9 F so (λ_=>False) E w w'->s.runT P w es=(Sm x w1,es1)->TR x:=by
 induction h with
 |pure q=>intro w w' es x w1 es1 hw hr;cases hr
 |load m ha _ I=>intro w w' es x w1 es1 hw hr;rename_i a a' k k' _;simp only[D4]at hr;cases hc:w.cell? a with|some v=>rw[hc]at hr;let⟨v',hc',hv⟩:=hw.cell ha hc;grind|none=>rw[hc]at hr;simp only at hr;cases hf:w.farLoad P a (m==M8)with|error h=>rw[hf]at hr;cases hr;exact hw.aLh ha hf|ok r=>let⟨v,l⟩:=r;rw[hf]at hr;let⟨l',q1,q2,q3,q4⟩:=hw.We j ha hf;grind
 |store m ha hv _ I=>
  intro w w' es x w1 es1 hw hr;rename_i a a' v v' k k' _;by_cases g1:∃c,v=AH c;.obtain⟨c,rfl⟩:=g1;cases hr;trivial
  by_cases g2:∃c,v=Aj c;.obtain⟨c,rfl⟩:=g2;cases hr;trivial
  rw[aK (λc x=>g1 ⟨c,x⟩) λc x=>g2 ⟨c,x⟩]at hr;cases hc:w.cell? a with
  |some u=>
   rw[hc]at hr;simp only at hr;by_cases hf:w.frozen? a=A5;.rw[if_pos hf]at hr;cases hr;intro g e;cases e
   rw[if_neg hf]at hr;let⟨q1,_⟩:=hw.set ha hv hc λx=>x;exact I q1 hr
  |none=>rw[hc]at hr;simp only at hr;cases hf:w.farStore P a v (m==M8)with|error h=>rw[hf]at hr;cases hr;exact hw.aLi ha hf|ok r=>let⟨w2,l⟩:=r;rw[hf]at hr;let⟨r',q1,q2,q3,q4,q5,q6⟩:=hw.vX ha hv hf;exact I q3 hr
 |new ho _ hz I=>intro w w' es x w1 es1 hw hr;simp only[D4]at hr;exact I (AR w) (AR w') hw.fresh (hw.push ho hz) hr
 |shape N _ I=>intro w w' es x w1 es1 hw hr;simp only[D4]at hr;exact I _ hw hr
 |freeze n hz ha _ I=>intro w w' es x w1 es1 hw hr;simp only[D4]at hr;let⟨q1,_⟩:=hw.freeze (Pr:=λ_=>False) ha n λx=>x;exact I q1 hr
 |frozen hz ha _ I=>intro w w' es x w1 es1 hw hr;simp only[D4]at hr;exact I _ hw hr
 |getObj N _ I=>
  intro w w' es x w1 es1 hw hr;rename_i r r' k k' _;let⟨o,o',e,e',ho⟩:=hw.heap _ _ N;simp only[D4]at hr;rw[e]at hr;rcases ho.kind with⟨c,c',t,p,q,rfl,rfl,_,_⟩|⟨y,y'⟩;.cases hr;trivial
  let U:(k o).runT P w (es.push ⟨FI r,A9,o.isChan⟩)=(Sm x w1,es1):=by rw[<-hr];cases o<;>first|rfl|exact absurd rfl (y _ _ _)
  exact I o o' ho hw U
 |setObj hs N hn ho _ I=>
  intro w w' es x w1 es1 hw hr;rename_i r r' o o' k k' _;simp only[D4]at hr;cases e:w.heap[r]? with
  |none=>rw[e]at hr;cases hr;trivial
  |some old=>
   rw[e]at hr;by_cases d:∃c t p,old=A7 c t p;.obtain⟨c,t,p,rfl⟩:=d;cases hr;trivial
   have f:=λc t p x=>d ⟨c,t,p,x⟩;let⟨q1,_,_,_,_,_⟩:=hw.setObj hs N hn ho e f;let U:k.runT P {w with heap:=w.heap.setIfInBounds r o} (es.push ⟨FI r,A5,o.isChan⟩)=(Sm x w1,es1):=by rw[<-hr];cases old<;>first|rfl|exact absurd rfl (f _ _ _)
   exact I q1 U
 |choose q _ I=>
  intro w w' es x w1 es1 hw hr;simp only[D4]at hr;split at hr;.exact I _ hw hr
  exact I _ hw.draw hr
 |program _ I=>intro w w' es x w1 es1 hw hr;exact I hw hr
 |mark hm _ I=>intro w w' es x w1 es1 hw hr;exact I hw hr
 |dead s' h=>intro w w' es x w1 es1 hw hr;let⟨y,_,_,e,k⟩:=h w es;rw[e]at hr;cases hr;exact k
end
section
open Go.Conc(G)
section
variable{P:Ao}{F:zy}{kb:Nat->Bool}{fd:Gz}{k:Nat}{E:AZ}{RO:zy}{so:D3}{r:List Cd}
def YQ(step:A1->lA)(w:A1):Prop:=∃g1 h es,step w=Bl g1 h es/\h.tape=w.tape/\w.drawn<=h.drawn/\∀T:Nb,(∀i q,w.drawn<=i->i<h.drawn->T i q=w.tape i q)->step (on w T)=Bl g1 (on h T) es
def YQ.idle{step w g}(h:∀w,step w=Bl g w):YQ step w:=⟨g,w,#[],h w,rfl,Ad _,λT _=>h (on w T)⟩
inductive Ends(P:Ao)(m:Bool)(d8:Ah)(cs:List Ah)(w:A1):Prop|GL:YQ (λw=>BY P m A5 d8 cs J w) w->(∀ops j rest l o,d8.todo=Ak ops (j::rest)::l->ops[j]?=Z o->Gd o (I4 ops d8.tmps)=A5->∃qr w1 es,(AM d8.eval o).runT P w #[]=(AP qr w1,es))->Ends P m d8 cs w|panic{w1:A1}{es:Array C5}{ch:List aF5}:BY P m A5 d8 cs J w=Bl (G (d8.raise ch) cs) w1 es->Ends P m d8 cs w|ended{o:Outcome}{w1:A1}{es:Array C5}:BY P m A5 d8 cs J w=ao o w1 es->Ends P m d8 cs w
def a4q(C:Fit P F)(hG:P.globals.size=CX)(hC:∀z,Calm P F (Am fd z))(Ii:so=Am fd A5/\∀b,¬RO b↔fd.ob b)(hF:∀f,kb f=A5->F f)(hg:∀b,b<CX->E.rel b b)(m){d8 fr' cs w w'}(h:EZ P F kb fd k E (OD cs r) d8 fr')(hw:C9 F so RO E w w'):Ends P m d8 cs w:=by
 let R:=h.ok;let d:=h.round.1;let hk:(d8.kind==Jk)=A9:=Af h.kind.1;let idle:∀(l:List Cd),(∀w,BY P m A5 d8 cs J w=Bl {frame:={d8 with todo:=l},callers:=cs,status:=CZ,dying:=J} w)->(∀ops j rest l,d8.todo≠Ak ops (j::rest)::l)->Ends P m d8 cs w:=λl hl hn=>.GL (.idle hl) λops j rest l o ht=>absurd ht (hn ops j rest l);let N:(∀w,BY P m A5 d8 cs J w=Bl {frame:={d8 with mode:=Mp},callers:=cs,status:=CZ,dying:=J} w)->(∀ops j rest l,d8.todo≠Ak ops (j::rest)::l)->Ends P m d8 cs w:=λhl hn=>.GL (.idle hl) λops j rest l o ht=>absurd ht (hn ops j rest l);cases I:d8.todo with
 |nil=>refine N (λw=>?_) (λ_ _ _ _ e=>by rw[I]at e;cases e);unfold BY;simp only[I,d,↓reduceIte]
 |cons i l=>
  rw[I]at R;let hi:=R i AD;cases i with
  |inBlock b=>refine idle l (λw=>?_) (λ_ _ _ _ e=>by rw[I]at e;cases e);unfold BY;simp only[I]
  |inScope b=>refine idle l (λw=>?_) (λ_ _ _ _ e=>by rw[I]at e;cases e);unfold BY;simp only[I]
  |inLoop b=>refine idle (Aw b::NW b::l) (λw=>?_) (λ_ _ _ _ e=>by rw[I]at e;cases e);unfold BY;simp only[I]
  |code c=>
   let hn:∀ops j rest l,d8.todo≠Ak ops (j::rest)::l:=λ_ _ _ _ e=>by rw[I]at e;cases e
   cases c with
   |skip=>refine idle l (λw=>?_) hn;unfold BY;simp only[I]
   |label n=>refine idle l (λw=>?_) hn;unfold BY;simp only[I]
   |ret=>refine N (λw=>?_) hn;unfold BY;simp only[I,d,↓reduceIte]
   |seq a b=>refine idle (Aw a::Aw b::l) (λw=>?_) hn;unfold BY;simp only[I]
   |cond c a b=>
    cases hv:d8.eval c with
    |bool v=>refine idle (Aw (if v then a else b)::l) (λw=>?_) hn;unfold BY;simp only[I,hv]
    |_=>refine .ended (o:=sH "cond: bool expected" (d8.pos P)) (w1:=w) (es:=#[]) ?_;unfold BY;simp only[I,hv]
   |block n b=>refine idle (Aw b::.inBlock n::l) (λw=>?_) hn;unfold BY;simp only[I]
   |loop b=>refine idle (Aw b::NW b::l) (λw=>?_) hn;unfold BY;simp only[I]
   |scope b=>refine idle (Aw b::.inScope b::l) (λw=>?_) hn;unfold BY;simp only[I]
   |exit n=>
    cases e:Sr n l with
    |none=>refine .ended (o:=sH "exit, goto: no such block or label" (d8.pos P)) (w1:=w) (es:=#[]) ?_;unfold BY;simp only[I,e,d,tz,Ev,↓reduceIte]
    |some l'=>refine idle l' (λw=>?_) hn;unfold BY;simp only[I,e,aI1]
   |goto n=>
    cases e:bD n l with
    |none=>refine .ended (o:=sH "exit, goto: no such block or label" (d8.pos P)) (w1:=w) (es:=#[]) ?_;unfold BY;simp only[I,e,d,tz,Ev,↓reduceIte]
    |some l'=>refine idle l' (λw=>?_) hn;unfold BY;simp only[I,e,aI1]
   |rangeFunc f a b c=>cases hi
   |refuse y=>refine .ended (o:=sI (.elab y) (d8.pos P)) (w1:=w) (es:=#[]) ?_;unfold BY;simp only[I]
   |region n ops draw=>
    cases draw with
    |false=>refine idle (Ak ops (Lf ops.size)::l) (λw=>?_) hn;unfold BY;simp only[I,Xm,↓reduceIte]
    |true=>
     refine .GL ?_ λops j rest l o ht=>absurd ht (hn ops j rest l);let hgo:∀w:A1,BY P m A5 d8 cs J w=Bl {frame:={d8 with todo:=Ak ops (Region.schedule (P.follows .mixedOrders) ops (w.tape w.drawn (Vx d8.fn n)))::l},callers:=cs,status:=CZ,dying:=J} {w with drawn:=w.drawn+1}:=by intro w;unfold BY;simp only[I,Xn,Ev,↓reduceIte,Sq,fK,sQ,aFU]
     refine⟨_,_,_,hgo w,rfl,Nat.le_succ _,λT hT=>?_⟩;let e:(on w T).tape (on w T).drawn (Vx d8.fn n)=w.tape w.drawn (Vx d8.fn n):=hT _ _ (Ad _) (Nat.lt_succ_self _);show BY P m A5 d8 cs J (on w T)=_;rw[hgo (on w T),e];rfl
  |inRegion ops todo=>
   cases todo with
   |nil=>refine idle l (λw=>?_) (λ_ _ _ _ e=>by rw[I]at e;cases e);unfold BY;simp only[I]
   |cons j rest=>
    let eo:d8.oper?=ops[j]?:=by unfold l9;rw[I]
    by_cases U:(ops[j]?.map (Gd · (I4 ops d8.tmps))).getD A9=A5
    .cases e:ops[j]? with
     |none=>rw[e]at U;cases U
     |some o=>
      have ho:=Ha.1 hi o (by have:=aV.1 e;obtain⟨hlt,rfl⟩:=this;simp);obtain⟨W,x8⟩:=Cp.1 ho;obtain⟨ZP,X⟩:=Cp.1 x8;have md:=λx hx=>h.eval hg hF x (Ha.1 (Cp.1 X).1 x hx);have hs:=jl C hG (hC _) hg (λv=>rfl) (λf=>rfl) (λf=>rfl) o k (j_ hF W) (kH (Cp.1 X).2) md (h.aC7 W);let H:C9 F (Am fd (P8 o.op)) (λ_=>False) E w w':=by rw[Ii.1]at hw;exact⟨hw.heap,hw.tape,λ_ x=>x.elim,hw.low,hw.even⟩
      let e1:∀w,BY P m A5 d8 cs J w=Iu P A5 d8 cs J (AM d8.eval o) w:=by intro w;unfold BY;simp only[I,U,↓reduceIte];unfold bF;rw[eo,e];simp only[d]
      cases hrun:(AM d8.eval o).runT P w #[]with
      |mk res es=>
       cases res with
       |ok qr w1=>
        obtain⟨E1,nx',w1',es',_,K,_,hmv,_⟩:=AQ.runs C.Ip (λ_ x=>x) (λ_ _ x=>x) hs H .nil hrun;obtain⟨hd,ht⟩:=AQ.tape C.Ip hs H hrun;let hb:∃Y MO,behind P d8 cs qr=Z (Y,MO):=by cases K<;>exact⟨_,_,rfl⟩
        obtain⟨Y,MO,hb⟩:=hb;refine .GL ⟨_,w1,_,(e1 w).trans (H0 hk hrun hb),hmv.e9,hd,λT hT=>(e1 (on w T)).trans (H0 hk (ht T hT) hb)⟩ λL j2 M Bj o2 A D _=>?_;rw[I]at A;injection A with x1 x2;injection x1 with x3 x4;injection x4 with x5 x6;subst x3 x5;rw[e]at D;obtain rfl:=CP D;exact⟨qr,w1,es,hrun⟩
       |halt x w1=>
        let hx:=AQ.aNb C.Ip hs H hrun;cases x with
        |panic v=>refine .panic (w1:=w1) (es:=Fc P d8.fn es) (ch:=[{v,recovered:=A9}]) ?_;rw[e1 w];unfold Iu;simp only[↓reduceIte,hrun,hk,Ev,KH,Tw,G]
        |stuck s=>refine .ended (o:=sH s (d8.pos P)) (w1:=w1) (es:=Fc P d8.fn es) ?_;rw[e1 w];unfold Iu;simp only[↓reduceIte,hrun,hk,Ev,KH,Tw]
        |unsupported u=>
         refine .ended (o:=sI u (d8.pos P)) (w1:=w1) (es:=Fc P d8.fn es) ?_;rw[e1 w];unfold Iu;have hu:=hx;cases u<;>first
         |exact absurd rfl (hu _)
         |simp only[↓reduceIte,hrun,hk,Ev,KH,Tw]
        |_=>exact absurd hx (by simp[TR])
    refine .GL ?_ λL j2 M Bj o2 A D Q=>?_;.refine YQ.idle (g:={frame:=d8.finish AN,callers:=cs,status:=CZ,dying:=J}) λw=>?_;unfold BY;simp only[I,U,Ev,↓reduceIte]
    rw[I]at A;injection A with x1 x2;injection x1 with x3 x4;injection x4 with x5 x6;subst x3 x5;rw[D]at U;exact absurd Q U
  |_=>cases hi
end
end
section
open Go.Conc(G solo)
variable{w w1:A1}{a:AY}{E:AZ}{main:Bool}{α:Type}
section
variable{P:Ao}{F:zy}{kb:Nat->Bool}{fd:Gz}{k:Nat}{E:AZ}{RO:zy}{so:D3}{r:List Cd}
theorem a'0(d:Qk P)(m){q d8 fr' c cs w'}(h:EZ P F kb fd k E q d8 fr')(hm:d8.mode=Mp)(hw:C9 F so RO E w w'):(∃fn v I es,P.funcs[d8.fn]?=Z fn/\(D5 fn d8.tmps).runT P w #[]=(AP v I,es)/\YQ (λw=>I3 P m d8 (c::cs) J w) w)∨∃o I es,I3 P m d8 (c::cs) J w=ao o I es:=by let⟨fn0,hfn0,_⟩:=h.has;cases U:P.funcs[d8.fn]? with|none=>grind|some fn=>have N:=hw.free;cases hrun:(D5 fn d8.tmps).runT P w #[]with|mk res es=>cases res with|ok v I=>let⟨hd,ht⟩:=AQ.tape d (h.results U) N hrun;let⟨_,_,_,_,_,_,_,hmv,_⟩:=AQ.runs d (λ_ x=>x) (λ_ _ x=>x) (h.results U) (⟨N.heap,N.tape,N.kept,N.low,N.even⟩) .nil hrun;exact AA ⟨fn,v,I,es,rfl,hrun,_,I,_,SZ h.defers.1 hm h.kind.1 U hrun,hmv.e9,hd,λT hT=>SZ h.defers.1 hm h.kind.1 U (ht T hT)⟩|halt x I=>refine AF ?_;unfold I3;simp only[h.defers.1,hm,U,hrun];cases x<;>exact⟨_,_,_,rfl⟩
inductive Passes:List Ah->Prop|bot:Passes [bot]|cons{d8:Ah}{l:List Ah}:d8.defers=[]->Passes l->Passes (d8::l)
def LY.yg{d}:∀{l l'},LY P F kb fd k E r d l l'->Passes l|_,_,.base=>.bot|_,_,.cons h _ _ t=>.cons h.defers.1 t.yg
def aYZ(hs:a.status=CZ):lp P (Df a w)=(runT P (Df a w) 0).1:=by rw[lp,a0J hs]
def Tq{o es}(hs:a.status=CZ)(h:B9 P A5 a w=ao o w1 es):lp P (Df a w)=.ended o w1:=by rw[aYZ hs];unfold runT Df;simp[h]
def QG{a1 es}(hs:a.status=CZ)(h:B9 P A5 a w=Bl a1 w1 es):lp P (Df a w)=DY (Df a1 w1):=by rw[lp,a0J hs,aE0 h]
theorem raised(c:Ah)(ch):∃ch2,(c.raise ch).mode=rl ch2/\(c.raise ch).defers=c.defers:=by unfold Frame.raise;split<;>grind
def vB:∀{cs:List Ah},Passes cs->∀{d8:Ah}{ch:List aF5}{w w1:A1}{n:Nat}{a:AY},d8.mode=rl ch->d8.defers=[]->EK P n (Df (G d8 cs) w)=DY (Df a w1)->∃ch,a.frame.mode=rl ch:=by
 intro cs hp;induction hp with
 |bot=>
  intro d8 ch w w1 n a hm hd hr;cases n with
  |zero=>
   simp only[EK,RZ]at hr;have:=by have:=congrArg a0o hr;simp[Df]at this;exact this.symm
   rw[this];exact⟨ch,hm⟩
  |succ n=>
   unfold EK at hr;by_cases hc:d8.catches P=A5;.rw[Tq (o:=sI (a1T "a panic or Goexit out of a method that fmt calls behind a cut's door") (d8.pos P)) (w1:=w) (es:=#[]) rfl (by unfold B9;simp only[G,hm];unfold I3;simp only[hd,hm,hc,↓reduceIte])]at hr;cases hr
   rw[QG (a1:=G (bot.raise ch) []) (w1:=w) (es:=#[]) rfl (by unfold B9;simp only[G,hm];unfold I3;simp only[hd,hm,hc,Ev,↓reduceIte])]at hr;simp only at hr;cases n with
   |zero=>
    simp only[EK,RZ]at hr;have:=by have:=congrArg a0o hr;simp[Df]at this;exact this.symm
    rw[this];obtain⟨ch2,h2,_⟩:=raised bot ch;exact⟨ch2,h2⟩
   |succ n=>unfold EK at hr;rw[Tq rfl (by unfold B9;simp;unfold I3;simp;rfl)]at hr;cases hr
 |cons hd0 hp h=>
  rename_i c l;intro d8 ch w w1 n a hm hd hr;cases n with
  |zero=>
   simp only[EK,RZ]at hr;have:=by have:=congrArg a0o hr;simp[Df]at this;exact this.symm
   rw[this];exact⟨ch,hm⟩
  |succ n=>
   unfold EK at hr;by_cases hc:d8.catches P=A5;.rw[Tq (o:=sI (a1T "a panic or Goexit out of a method that fmt calls behind a cut's door") (d8.pos P)) (w1:=w) (es:=#[]) rfl (by unfold B9;simp only[G,hm];unfold I3;simp only[hd,hm,hc,↓reduceIte])]at hr;cases hr
   rw[QG (a1:=G (c.raise ch) l) (w1:=w) (es:=#[]) rfl (by unfold B9;simp only[G,hm];unfold I3;simp only[hd,hm,hc,Ev,↓reduceIte])]at hr;simp only at hr;obtain⟨ch2,h2,h3⟩:=raised c ch;exact h h2 (h3.trans hd0) hr
end
def ID(ret:Bool)(d8:Ah):Prop:=if ret=A5 then d8.mode=Mp else d8.mode=LZ/\d8.todo=[]
def OF(a d:Nat)(T τ:Nb):Prop:=∀i q,a<=i->i<d->T i q=τ i q
section
variable(P:Ao)(H2:Ah)(AU:A1)(ret:Bool)
def At(T:Nb)(n:Nat)(m:Machine):Prop:=EK P n (Df (G H2 [bot]) (on AU T))=DY m
def Open(T:Nb)(n:Nat):Prop:=∀j,j<n->∀h I,At P H2 AU T j (Df (G h [bot]) I)->¬ID ret h
structure gN where
 τ:Nb
 n:Nat
 d:Nat
def gN.ok(p:gN):Prop:=∀T,OF AU.drawn p.d T p.τ->Open P H2 AU ret T p.n
def Hc(p' p:gN):Prop:=p'.n=p.n+1/\p.d<=p'.d/\OF AU.drawn p.d p'.τ p.τ/\p'.ok P H2 AU ret
end
def yV{r}{x:α}(h:¬Acc r x):∃y,r y x/\¬Acc r y:=by refine eV λhn=>h ⟨x,λy hy=>eV λha=>hn ⟨y,hy,ha⟩⟩
noncomputable def c8{α:Type}{r x}(h:¬Acc r x):Nat->{y:α//¬Acc r y}|0=>⟨x,h⟩|n+1=>⟨kl (yV (c8 h n).2),(aZ (yV (c8 h n).2)).2⟩
def aKg{r}{x:α}(h:¬Acc r x)(n):r (c8 h (n+1)).1 (c8 h n).1:=(aZ (yV (c8 h n).2)).1
section
variable{P:Ao}{H2:Ah}{AU:A1}{ret:Bool}
def aAo(h:∀T,∃N e w1,At P H2 AU T N (Df (G e [bot]) w1)/\ID ret e)(p):Acc (Hc P H2 AU ret) p:=by
 refine eV λhn=>?_;let hs:=aKg hn;let s:=λj=>(c8 hn j).1;have hs:=hs;let l:∀j,(s j).n=(s 0).n+j:=by intro j;induction j with|zero=>rfl|succ j U=>rw[(hs j).1,U];omega
 let f:∀j i,(s j).d<=(s (j+i)).d/\OF AU.drawn (s j).d (s (j+i)).τ (s j).τ:=by intro j i;induction i with|zero=>exact⟨Ad _,λ_ _ _ _=>rfl⟩|succ i U=>have:=hs (j+i);exact⟨Dn U.1 this.2.1,λa q I h2=>(this.2.2.1 a q I (Hw h2 U.1)).trans (U.2 a q I h2)⟩
 let m:∀j j' i q,AU.drawn<=i->i<(s j).d->i<(s j').d->(s j).τ i q=(s j').τ i q:=by
  intro j j' i q h0 I h2;rcases Nat.le_total j j' with hl|hl;.have:=(f j (j'-j)).2 i q h0 I;rw[show j+(j'-j)=j' by omega]at this;exact this.symm
  have:=(f j' (j-j')).2 i q h0 h2;rwa[show j'+(j-j')=j by omega]at this
 let hT:∃T:Nb,∀j,OF AU.drawn (s j).d T (s j).τ:=by classical refine⟨λi q=>if hx:∃j,i<(s j).d then(s (kl hx)).τ i q else 0,λj i q h0 I=>?_⟩;let hx:∃j,i<(s j).d:=⟨j,I⟩;simp only[hx,↓reduceDIte];exact m _ _ i q h0 (aZ hx) I
 let⟨T,hT⟩:=hT;let⟨N,e,w1,hN,hf⟩:=h T;exact((hs N).2.2.2 T (hT (N+1))) N (by rw[l];omega) e w1 hN hf
theorem zM(a b)(m):EK P (a+b) m=match EK P a m with|DY m'=>EK P b m'|e=>e:=by induction a generalizing m with|zero=>simp[EK]|succ a h=>grind[EK]
theorem q0{a b m d}(h:EK P (a+b) m=DY d):∃m1,EK P a m=DY m1/\EK P b m1=DY d:=by grind[zM]
theorem RI{b w v}(h:Df a w=Df b v):a=b/\w=v:=by grind[Df]
def a4h{n w w2 v}(h:EK P n (Df (G (bot.finish v) []) w)=DY (Df a w2)):n=0:=by cases n with|zero=>rfl|succ n=>trivial
variable{F:zy}{kb:Nat->Bool}{fd:Gz}{k:Nat}{E:AZ}{RO:zy}{so:D3}{r:List Cd}
def p7(I:Qk P){j q d8 fr' d w w' w1}(h:EZ P F kb fd k E q d8 fr')(hm:d8.mode=Mp)(hw:C9 F so RO E w w')(hr:EK P j (Df (G d8 [bot]) w)=DY (Df (G d [bot]) w1)):j=0:=by
 cases j with
 |zero=>rfl
 |succ j=>
  unfold EK at hr;let hg:B9 P A5 (G d8 [bot]) w=I3 P A5 d8 [bot] J w:=SX rfl hm;rcases a'0 I A5 h hm hw with⟨fn,v,w2,es,N,hrun,_⟩|⟨o,w2,es,he⟩;.rw[QG rfl (hg.trans (SZ h.defers.1 hm h.kind.1 N hrun))]at hr;have:=a4h hr;subst this;simp only[EK,RZ]at hr;have:=(RI hr).1;simp[G]at this
  rw[Tq rfl (hg.trans he)]at hr;cases hr
theorem a8_(I:Qk P){j q d8 fr' d w w' w1}(h:EZ P F kb fd k E q d8 fr')(hf:ID ret d8)(hf1:ID ret d)(hw:C9 F so RO E w w')(hr:EK P j (Df (G d8 [bot]) w)=DY (Df (G d [bot]) w1)):j=0:=by
 unfold ID at hf hf1;cases ret with
 |true=>exact p7 I h hf hw hr
 |false=>
  cases j with
  |zero=>rfl
  |succ j=>
   unfold EK at hr;let he:BY P A5 A5 d8 [bot] J w=Bl (G {d8 with mode:=Mp} [bot]) w:=by unfold BY;simp only[hf.2,h.round.1,↓reduceIte,G]
   rw[QG rfl ((dw rfl hf.1).trans he)]at hr;let h2:EZ P F kb fd k E q {d8 with mode:=Mp} {fr' with mode:=Mp}:=⟨h.fn,h.has,h.todo,h.ok,h.defers,rfl,h.kind,h.round,h.tmps,h.own⟩;have:=p7 I h2 rfl hw hr;subst this;simp only[EK,RZ]at hr;have:=(RI hr).1;simp only[G,U5]at this;grind
end
structure Bc(AG S:zy)(w f5:A1):Prop where
 size:w.heap.size<=f5
 same:∀b,S b∨AG b->f5.heap[b]?=w.heap[b]?
 os:f5.os=w.os
 output:f5.output=w.output
theorem Bc.refl(AG S)(w):Bc AG S w w:=⟨Ad _,λ_ _=>rfl,rfl,rfl⟩
def Bc.trans{AG S w d e}(h:Bc AG S w d)(k:Bc AG S d e):Bc AG S w e:=⟨Dn h.size k.size,λb hb=>(k.same b hb).trans (h.same b hb),k.os.trans h.os,k.output.trans h.output⟩
inductive Ko(AG S:zy):C5->Prop|cell{a:An}(w s:Bool):S a.block∨AG a.block/\w=A9->Ko AG S ⟨KJ a,w,s⟩|obj{r:Nat}(w s:Bool):S r∨AG r/\w=A9->Ko AG S ⟨FI r,w,s⟩|extern(f:Nat):Ko AG S ⟨NX (a0p f),A9,A5⟩|noRoom:Ko AG S ⟨NX lK,A9,A5⟩
structure F8(AG S:zy)(w w':A1)(es:Array C5)(S':zy):Prop where
 size:w.heap.size<=w'
 same:∀b,b<w.heap.size->¬S b->w'.heap[b]?=w.heap[b]?
 os:w'.os=w.os
 output:w'.output=w.output
 tape:w'.tape=w.tape
 grow:∀b,S' b↔S b∨w<=b/\b<w'
 evs:∀e∈es,Ko AG S' e
structure Leaves where
 g:AY
 w:A1
 es:Array C5
 S:zy
inductive Way(P:Ao)(main:Bool)(AG:zy)(Stop:zv):zv|stop{S:zy}{g:AY}{w:A1}:(∀f5,Bc AG S w f5->Stop S g f5)->Way P main AG Stop S g w|go{S:zy}{g:AY}{w:A1}(qr:A1->Leaves):g.status=CZ->(∀f5,Bc AG S w f5->B9 P main g f5=Bl (qr f5).g (qr f5).w (qr f5).es/\F8 AG S f5 (qr f5).w (qr f5).es (qr f5).S)->(∀f5,Bc AG S w f5->Way P main AG Stop (qr f5).S (qr f5).g (qr f5).w)->Way P main AG Stop S g w
theorem Way.step{P AG Stop S g}(hs:g.status=CZ)(h:∀I,Bc AG S w I->∃N w' es S',B9 P main g I=Bl N w' es/\F8 AG S I w' es S'/\Way P main AG Stop S' N w'):Way P main AG Stop S g w:=by
 let h2:∀I,∃l:Leaves,Bc AG S w I->B9 P main g I=Bl l.g l.w l.es/\F8 AG S I l.w l.es l.S/\Way P main AG Stop l.S l.g l.w:=by
  intro I;by_cases hr:Bc AG S w I;.let⟨N,w',es,S',a,b,c⟩:=h I hr;exact⟨⟨N,w',es,S'⟩,λ_=>⟨a,b,c⟩⟩
  exact⟨⟨g,w,#[],S⟩,λx=>absurd x hr⟩
 refine .go (λI=>kl (h2 I)) hs (λI hr=>?_) λI hr=>?_;.have:=aZ (h2 I) hr;exact⟨this.1,this.2.1⟩
 grind
def Way.rely{P AG Stop S g d}(h:Way P main AG Stop S g w)(hr:Bc AG S w d):Way P main AG Stop S g d:=by cases h with|stop h=>exact .stop λN I=>h N (hr.trans I)|go U hs h k=>exact .go U hs (λN I=>h N (hr.trans I)) λN I=>k N (hr.trans I)
def Way.bind{P AG Stop T8 S g}(h:Way P main AG Stop S g w)(k:∀S g w,Stop S g w->Way P main AG T8 S g w):Way P main AG T8 S g w:=by
 induction h with
 |stop h=>
  rename_i S g w;cases k _ _ _ (h w (Bc.refl ..))with
  |stop h2=>exact .stop h2
  |go I hs h2 h3=>exact .go I hs h2 h3
 |go I hs h _ N=>exact .go I hs h N
section
variable{P:Ao}{F:zy}{kb:Nat->Bool}{fd:Gz}{k:Nat}{RO AG:zy}{so:D3}{r:List Cd}
def JK(RO AG S:zy)(E:AZ):Prop:=∀b h,E.rel b h->RO b/\AG h∨¬RO b/\S h
def join(τ:Nb)(n:Nat)(h:Nb)(m:Nat):Nb:=λi q=>if i<n then τ i q else h (m+(i-n)) q
theorem C9.rely{S BX d T}(h:C9 F so RO E (on BX T) w)(hc:JK RO AG S E)(hr:Bc AG S w d)(τ):C9 F so RO E (on BX (join τ BX.drawn d.tape d.drawn)) d:=by
 refine⟨λb I x=>?_,λi q=>?_,h.kept,⟨h.low.1,Dn h.low.2 hr.size⟩,λhf b I x o U e N=>?_⟩;.let⟨o,U,e,N,ho⟩:=h.heap b I x;refine⟨o,U,e,?_,ho⟩;rw[hr.same I (by rcases hc b I x with y|y;exact AF y.2;grind),N]
 .show d.tape (d.drawn+i) q=join τ BX.drawn d.tape d.drawn (BX.drawn+i) q;simp_all[join,if_neg,]
 rw[hr.same I (by rcases hc b I x with y|y;exact AF y.2;exact AA y.2)]at N;exact h.even hf b I x o U e N
def qy(P:Ao)(F:zy)(kb:Nat->Bool)(fd:Gz)(k:Nat)(so:D3)(RO AG:zy)(E0:AZ)(r:List Cd)(N:List Ah)(ret:Bool)(Q:Ah->A1->Prop)(S:zy)(g:AY)(w':A1):Prop:=∃E d8 h I,g=G h N/\EZ P F kb fd k E r d8 h/\ID ret d8/\Q d8 I/\E0.le E/\C9 F so RO E I w'/\JK RO AG S E
theorem aLZ{S'}(hc:JK RO AG S' E):∀{l l'},Jj RO E l l'->∀e∈l',Ko AG S' e:=by
 intro l l' h;induction h with
 |nil=>grind
 |snoc t h I=>
  intro e he;rcases List.mem_append.1 he with he|he;.grind
  rw[ES.1 he];cases h with
  |cell w s ha hro=>
   refine .cell w s ?_;rcases hc _ _ ha.1 with⟨x,y⟩|⟨_,y⟩;.cases w with|false=>exact AF ⟨y,rfl⟩|true=>exact absurd x (hro rfl)
   grind
  |obj w s ha hro=>
   refine .obj w s ?_;rcases hc _ _ ha with⟨x,y⟩|⟨_,y⟩;.cases w with|false=>exact AF ⟨y,rfl⟩|true=>exact absurd x (hro rfl)
   grind
  |mark h=>cases h with|extern f=>exact .extern f|noRoom=>exact .noRoom
theorem Wj{E1:AZ}{S:zy}{w' w1':A1}{fn:Nat}{es es':Array C5}(hc:JK RO AG S E)(d:∀b,RO b->b<w)(hm:FR RO E w w' E1 w1 w1')(he:Jj RO E1 es.toList es'.toList):∃S',F8 AG S w' w1' (Fc P fn es') S'/\JK RO AG S' E1:=by
 let S':=λb=>S b∨AR w'<=b/\b<AR w1';let N:JK RO AG S' E1:=by
  intro b I x;rcases hm.fresh b I x with y|⟨y1,y2,y3,f⟩
  .rcases hc b I y with z|⟨z1,z2⟩;.exact AA z
   grind
  grind
 refine⟨S',⟨hm.k8,λb hb hs=>hm.rest b hb λU x=>?_,hm.os,hm.output,hm.tape,λb=>Sy,λe h=>?_⟩,N⟩
 .rcases hc U b x with y|y;.exact y.1
  grind
 exact aLZ N he e (Ai (Vl h))
end
section
variable{P:Ao}{F:zy}{kb:Nat->Bool}{fd:Gz}{k:Nat}{RO AG:zy}{so:D3}{r:List Cd}
theorem LY.ne{d cs cs'}(h:LY P F kb fd k E r d cs cs'):∃c l,cs=c::l:=by cases h<;>grind
def aZf(H:Fit P F)(hG:P.globals.size=CX)(hC:∀z,Calm P F (Am fd z))(Ii:so=Am fd A5/\∀b,¬RO b↔fd.ob b)(hF:∀f,kb f=A5->F f)(hL:Laid P F kb fd k)(main){H2 AU ret}(Tc:ret=A5->r=[]){L E0 Q}(H8:∀T,∃N D w1,At P H2 AU T N (Df (G D [bot]) w1)/\ID ret D/\Q D w1):∀(p:gN),Acc (Hc P H2 AU ret) p->∀{E:AZ}{d8 fr':Ah}{cs cs':List Ah}{BX w':A1}{S:zy}{T0:Nb},(∀T,OF AU.drawn p.d T p.τ->At P H2 AU T p.n (Df (G d8 cs) (on BX T)))->p.ok P H2 AU ret->p.d=BX.drawn->AU.drawn<=p.d->EZ P F kb fd k E (OD cs r) d8 fr'->d8.mode=LZ∨d8.mode=.returning->LY P F kb fd k E r L cs cs'->(∀b,b<CX->E.rel b b)->E0.le E->C9 F so RO E (on BX T0) w'->JK RO AG S E->Way P main AG (qy P F kb fd k so RO AG E0 r L ret Q) S (G fr' cs') w':=by
 intro p hp;induction hp with
 |intro p _ ih=>
  intro E d8 fr' cs cs' BX w' S T0 hrun W hd hd0 hfr Bw hc Y hV hwr X;by_cases s:cs=[bot]/\ID ret d8
  .obtain⟨rfl,s⟩:=s;have hbase:cs'=L:=by
    cases hc with
    |base=>rfl
    |cons _ _ _ t=>cases t
   subst hbase;refine .stop λU hr=>?_;let A:OF AU.drawn p.d (join p.τ BX.drawn U.tape U.drawn) p.τ:=by intro i q _ h2;unfold join;rw[if_pos A']
   let hw:=hwr.rely X hr p.τ;let⟨N,D,w1,hN,hf1,hq⟩:=H8 (join p.τ BX.drawn U.tape U.drawn);let hat:=hrun _ A;have Z':=by exact UM λhlt=>W _ A N hlt D w1 hN hf1
   obtain⟨j,rfl⟩:=tt Z';let⟨m1,h1,h2⟩:=q0 hN;have:=by unfold At at hat;rw[hat]at h1;exact(YB h1).symm
   subst this;have hj:=a8_ H.Ip hfr s hf1 hw h2;subst hj;simp only[EK,RZ]at h2;let⟨h3,h4⟩:=RI h2;simp only[G,U5]at h3;obtain⟨rfl,_⟩:=h3;subst h4;exact⟨E,d8,fr',_,rfl,hfr,s,hq,hV,hw,X⟩
  refine .step rfl λU hr=>?_;have A:OF AU.drawn p.d (join p.τ BX.drawn U.tape U.drawn) p.τ:=by intro i q _ h2;unfold join;rw[if_pos A']
  have hw:=hwr.rely X hr p.τ;generalize hT:join p.τ BX.drawn U.tape U.drawn=T at A hw;let⟨N,D,w1,hN,hf1,hq⟩:=H8 T;let hat:=hrun _ A;have Z':=by exact UM λhlt=>W _ A N hlt D w1 hN hf1
  obtain⟨j,rfl⟩:=tt Z';let⟨m1,h1,h2⟩:=q0 hN;have:=by unfold At at hat;rw[hat]at h1;exact(YB h1).symm
  subst this;obtain⟨j,rfl⟩:∃i,j=i+1:=by
   cases j with
   |succ j=>exact⟨j,rfl⟩
   |zero=>simp only[EK,RZ]at h2;let⟨h3,_⟩:=RI h2;simp only[G,U5]at h3;obtain⟨rfl,rfl,_⟩:=h3;exact absurd ⟨rfl,hf1⟩ s
  let Zt:∀{s':lA}{fn:Nat},(∀v,B9 P A5 (G d8 cs) v=B9 P A5 (G d8 cs) v)->YQ (λw=>B9 P A5 (G d8 cs) w) (on BX T)->Jh P F kb fd k so RO E r L fn (on BX T) U (B9 P A5 (G d8 cs) (on BX T)) s'->B9 P main (G fr' cs') U=s'->∃g' w' es S',B9 P main (G fr' cs') U=Bl g' w' es/\F8 AG S U w' es S'/\Way P main AG (qy P F kb fd k so RO AG E0 r L ret Q) S' g' w':=by
   intro s' fn _ K Z9 Ow;let⟨g1,w2,C,hgo,xT,wM,htape⟩:=K;let⟨E1,fr2,fr2',cs2,cs2',w3,w3',es,es',q1,q2,q3,q4,q5,q6,q7,q8⟩:=Z9.both;let iQ:B9 P A5 (G d8 cs) (on BX T)=Bl g1 w2 C:=hgo;rw[q1]at iQ;injection iQ with x1 x2 x3;subst x1 x2;obtain⟨S',hgt,wJ⟩:=Wj X (λb hb=>(hw.kept b hb).1) q7 q8;refine⟨_,w3',_,S',Ow.trans q2,hgt,?_⟩;let aNv:BX.drawn<=w3.drawn:=wM;let Up:∀I,OF AU.drawn w3.drawn I T->OF AU.drawn p.d I p.τ:=λI h i q h3 h4=>(h i q h3 A').trans (A i q h3 h4);let xU:w3.tape=T:=xT;refine ih ⟨T,p.n+1,w3.drawn⟩ ⟨rfl,by show p.d<=w3.drawn;omega,A,?_⟩ (T0:=T) ?_ ?_ rfl (by show AU.drawn<=w3.drawn;omega) q3 q4 q5 (λb hb=>q7.le _ _ (Y b hb)) (AZ.le_trans hV q7.le) ?_ wJ
   .intro I e i hi Yp w4 m M;let R:=Up I e;rcases JR i p.n with hlt|K3;.exact W I R i hlt Yp w4 m M
    obtain rfl:i=p.n:=by simp only at hi;omega
    have:=hrun I R;unfold At at this m;rw[this]at m;let⟨h3,_⟩:=RI (YB m);simp only[G,U5]at h3;obtain⟨rfl,rfl,_⟩:=h3;exact s ⟨rfl,M⟩
   .intro I e;let xM:B9 P A5 (G d8 cs) (on BX I)=Bl {frame:=fr2,callers:=cs2,status:=CZ,dying:=J} (on w3 I) C:=htape I λi q h3 h4=>e i q (by have:BX.drawn<=i:=h3;omega) h4;have:=hrun I (Up I e);unfold At at this⊢;rw[zM,this];simp only[EK,QG rfl xM];rfl
   .intro I e i hi Yp w4 m M;let R:=Up I e;rcases JR i p.n with hlt|K3;.exact W I R i hlt Yp w4 m M
    obtain rfl:i=p.n:=by simp only at hi;omega
    have:=hrun I R;unfold At at this m;rw[this]at m;let⟨h3,_⟩:=RI (YB m);simp only[G,U5]at h3;obtain⟨rfl,rfl,_⟩:=h3;exact s ⟨rfl,M⟩
   have:on w3 T=w3:=by rw[<-xU];rfl
   rwa[this]
  rcases Bw with hm|hm
  .let hg:∀v,B9 P A5 (G d8 cs) v=BY P A5 A5 d8 cs J v:=λv=>dw rfl hm;let Pu:d8.todo=[]->OD cs r=[]:=by
    intro ht;cases hc with
    |base=>
     cases ret with
     |true=>exact Tc rfl
     |false=>exact absurd ⟨rfl,by unfold ID;exact⟨hm,ht⟩⟩ s
    |cons _ _ _ t=>obtain⟨c,l,rfl⟩:=t.ne;rfl
   rcases a4q H hG hC Ii hF Y A5 hfr hw with⟨K,f9⟩|⟨he⟩|⟨he⟩;.let hgo:=K;let⟨g1,w2,C,hgo,_⟩:=hgo;let Z9:=a4r H hG hC Ii hF hL Y A5 main hfr hm Pu hc hw ⟨g1,w2,C,hgo⟩ f9;refine Zt (λ_=>rfl) ?_ (Ar hg) (dw rfl (hfr.mode.trans hm));let⟨g1,w2,C,a,b,c,d⟩:=K;exact⟨g1,w2,C,(hg _).trans a,b,c,λI e=>(hg _).trans (d I e)⟩
   .rename_i w2 es ch;unfold EK at h2;rw[QG rfl ((hg _).trans he)]at h2;simp only at h2;let⟨ch2,h3,h4⟩:=raised d8 ch;let⟨ch3,h5⟩:=vB hc.yg h3 (h4.trans hfr.defers.1) h2;exfalso;unfold ID at hf1;simp only[G]at h5;split at hf1;.rw[h5]at hf1;cases hf1
    rw[h5]at hf1;cases hf1.1
   unfold EK at h2;rw[Tq rfl ((hg _).trans he)]at h2;cases h2
  let hg:∀v,B9 P A5 (G d8 cs) v=I3 P A5 d8 cs J v:=λv=>SX rfl hm;cases hc with
  |base=>have:=p7 H.Ip hfr hm hw h2;omega
  |cons wF Ny c_ t=>
   rcases a'0 H.Ip A5 hfr hm hw with⟨fn,v,w2,es,CR,HR,K⟩|⟨o,w2,es,he⟩;.let Z9:=aBb H.Ip A5 main hfr hm wF Ny c_ t hw CR HR;refine Zt (λ_=>rfl) ?_ (Ar hg) (SX rfl (hfr.mode.trans hm));obtain⟨g1,w2,C,a,b,c,d⟩:=K;exact⟨g1,w2,C,(hg _).trans a,b,c,λI e=>(hg _).trans (d I e)⟩
   unfold EK at h2;rw[Tq rfl ((hg _).trans he)]at h2;cases h2
end
end
variable{w:A1}{v:A3}{a:An}{P p:Ao}{t:BL}{b:Bool}{lc α:Type}{k:ev}
def seen_cells{at_ u k r}(h:w.seen p at_ u k b=Gu r):∃c e z,w.heap[at_.block]?=Z (A7 c e z):=by
 unfold aFh at h;cases e:w.heap[at_.block]? with
 |none=>
  exfalso;rw[e]at h;simp at h;repeat' split at h
  all_goals first|cases h|(simp at*)
 |some o=>
  cases o with
  |cells c t z=>exact⟨c,t,z,rfl⟩
  |_=>
   exfalso;rw[e]at h;simp at h;repeat' split at h
   all_goals first|cases h|(simp at*)
def nG{b:Nat}{o:Cq}(h:w.heap[b]?=Z o):b<w:=B3 h
def a3v(h:w.cell? a=Z v):a.block<w:=by refine a_t λhb=>?_;simp[Cr,Array.getElem?_eq_none (UM hb)]at h
theorem aLk{r:A3×List An}(h:w.farLoad p a b=Gu r):∀x∈r.2,x.block<w:=by
 unfold sX at h;split at h
 .split at h
  .rename_i r' e;cases h;unfold aFi at e;simp only[aX,Xq,aHm]at e;split at e;.cases e
   rename_i x hx;let⟨c,t,z,hh⟩:=seen_cells hx;split at e;.cases e;intro y hy;obtain⟨i,_,rfl⟩:=Bt.1 hy;exact nG hh
   cases e
  cases h
 grind
def aLn{r:A1×List An}(h:w.farStore p a v b=Gu r):(∀x∈r.2,x.block<w)/\r.1.heap.size=w/\r.1.os=w.os/\r.1.output=w.output/\r.1.tape=w.tape:=by
 unfold lg at h;split at h
 .split at h
  .rename_i r' e;cases h;unfold a1W at e;simp only[aX,Xq,aHm]at e;split at e;.cases e
   split at e;.cases e
   rename_i x hx;let⟨c,t,z,hh⟩:=seen_cells hx;split at e
   .split at e;.cases e
    split at e;.cases e
    cases e;refine⟨λy hy=>?_,AD,rfl,rfl,rfl⟩;obtain⟨i,_,rfl⟩:=Bt.1 hy;exact nG hh
   cases e
  cases h
 cases h
def BH(P:Ao){α}(Q:α->Prop):BS α->Prop|Na a=>Q a|.load _ _ k=>∀v,BH P Q (k v)|sT _ _ _ k=>BH P Q k|.new _ k=>∀b,BH P Q (k b)|sS _ k=>∀s,BH P Q (k s)|sR _ _ k=>BH P Q k|a1L _ k=>∀b,BH P Q (k b)|Sn _ k=>∀o,BH P Q (k o)|Vy _ _ k=>BH P Q k|a1J _ k=>∀n,BH P Q (k n)|.sys _ _=>False|b7 k=>BH P Q (k P)|.mark m k=>m=lK/\BH P Q k|.halt h=>TR h
def BH.bind{s f}{Q:α->Prop}{R:lc->Prop}(h:BH P Q s)(hf:∀a,Q a->BH P R (f a)):BH P R (s>>=f):=by induction s with|pure a=>exact hf a h|load m a k I=>exact λv=>I v (h v)|store m a v k I=>exact I h|new o k I=>exact λb=>I b (h b)|shape r k I=>exact λb=>I b (h b)|freeze a n k I=>exact I h|frozen a k I=>exact λb=>I b (h b)|getObj r k I=>exact λb=>I b (h b)|setObj r o k I=>exact I h|choose q k I=>exact λb=>I b (h b)|sys c k I=>assumption|program k I=>exact I P h|mark m k I=>exact⟨h.1,I h.2⟩|halt x=>exact h
def any{α:Type}:α->Prop:=λ_=>True
def BH.Oe{s}{f:α->BS lc}{R}(h:BH P any s)(hf:∀a,BH P R (f a)):BH P R (s>>=f):=h.bind λa _=>hf a
def BH.ret(a):BH P any (Ex a:BS α):=trivial
def pt{α}:Result α->A1|AP _ w=>w|Sm _ w=>w
structure E'(w w':A1)(es es':Array C5):Prop where
 size:w.heap.size<=w'
 os:w'.os=w.os
 output:w'.output=w.output
 tape:w'.tape=w.tape
 evs:∀e∈es',e∈es∨Ko (λ_=>False) (λb=>b<w') e
theorem E'.refl(w)(es):E' w w es es:=⟨Ad _,rfl,rfl,rfl,λ_ h=>AA h⟩
def aLY{e n m}(h:Ko (λ_=>False) (λb=>b<n) e)(hn:n<=m):Ko (λ_=>False) (λb=>b<m) e:=by cases h with|cell w s h=>exact .cell w s (h.imp (λx=>Hw x hn) id)|obj w s h=>exact .obj w s (h.imp (λx=>Hw x hn) id)|extern f=>exact .extern f|noRoom=>exact .noRoom
theorem E'.trans{w w1 w2 es es1 d}(h:E' w w1 es es1)(k:E' w1 w2 es1 d):E' w w2 es d:=⟨Dn h.size k.size,k.os.trans h.os,k.output.trans h.output,k.tape.trans h.tape,λe he=>by
 rcases k.evs e he with x|x;.exact(h.evs e x).imp id λy=>aLY y k.size
 grind⟩
def E'.step{w1:A1}{es:Array C5}(I:w.heap.size<=w1)(h2:w1.os=w.os)(h3:w1.output=w.output)(h4:w1.tape=w.tape):E' w w1 es es:=⟨I,h2,h3,h4,λ_ h=>AA h⟩
theorem BH.runs{s}{Q:α->Prop}:∀(w:A1)(es:Array C5),BH P Q s->E' w (pt (s.runT P w es).1) es (s.runT P w es).2:=by
 induction s with
 |pure a=>exact λw es _=>E'.refl w es
 |load m a k I=>
  intro w es h;simp only[D4];split
  .rename_i v hv;refine E'.trans ⟨Ad _,rfl,rfl,rfl,λe he=>?_⟩ (I v w _ (h v));rcases kY.1 he with x|rfl;.grind
   exact AF (.cell _ _ (AA (a3v hv)))
  split
  .rename_i v touched hf;refine E'.trans ⟨Ad _,rfl,rfl,rfl,λe he=>?_⟩ (I v w _ (h v));rcases aW.1 he with x|x;.grind
   obtain⟨y,hy,rfl⟩:=a'w.1 x;exact AF (.cell _ _ (AA (aLk hf y BA)))
  exact E'.refl w es
 |store m a v k I=>
  intro w es h;let U:∀{r:A1×List An},w.farStore P a v (m==M8)=Gu r->E' w (pt (k.runT P r.1 (es++r.2.toArray.map (⟨KJ ·,A5,m==M8⟩))).1) es (k.runT P r.1 (es++r.2.toArray.map (⟨KJ ·,A5,m==M8⟩))).2:=by
   intro r hf;let⟨h1,h2,h3,h4,h5⟩:=aLn hf;refine E'.trans ⟨BA,h3,h4,h5,λe he=>?_⟩ (I r.1 _ h);rcases aW.1 he with x|x;.grind
   obtain⟨y,hy,rfl⟩:=a'w.1 x;exact AF (.cell _ _ (AA BA))
  let N:∀{u:A3},w.cell? a=Z u->E' w (pt (k.runT P (w.setCell a v) (es.push ⟨KJ a,A5,m==M8⟩)).1) es (k.runT P (w.setCell a v) (es.push ⟨KJ a,A5,m==M8⟩)).2:=by
   intro u hu;let hz:w.setCell a v=AR w:=by simp[QW]
   refine E'.trans (w1:=w.setCell a v) ⟨BA,rfl,rfl,rfl,λe he=>?_⟩ (I _ _ h);rcases kY.1 he with x|rfl;.grind
   exact AF (.cell _ _ (AA (As hz (a3v hu))))
  cases v<;>simp only[D4];all_goals
   first
   |exact E'.refl w es
   |
    (
     split
     .split;.exact E'.refl w es
      exact N TE
     split;.exact U TE
     exact E'.refl w es)
 |new o k I=>exact λw es h=>E'.trans (w1:={w with heap:=w.heap.push o}) (.step AD rfl rfl rfl) (I _ _ _ (h _))
 |shape r k I=>exact λw es h=>I _ w es (h _)
 |freeze a n k I=>
  intro w es h;have:(w.freeze a n).heap.size=w/\(w.freeze a n).os=w.os/\(w.freeze a n).output=w.output/\(w.freeze a n).tape=w.tape:=by
   unfold b9;repeat' split
   all_goals simp
  exact E'.trans (.step (As this.1 (Ad _)) this.2.1 this.2.2.1 this.2.2.2) (I _ es h)
 |frozen a k I=>exact λw es h=>I _ w es (h _)
 |getObj r k I=>
  intro w es h;simp only[D4];split;.exact E'.refl w es
  .rename_i o ho _;refine E'.trans ⟨Ad _,rfl,rfl,rfl,λe he=>?_⟩ (I _ w _ (h _));rcases kY.1 he with x|rfl;.exact AA x
   exact AF (.obj _ _ (AA (nG TE)))
  exact E'.refl w es
 |setObj r o k I=>
  intro w es h;simp only[D4];split;.exact E'.refl w es
  .refine E'.trans (w1:={w with heap:=w.heap.setIfInBounds r o}) ⟨AD,rfl,rfl,rfl,λe he=>?_⟩ (I _ _ h);rcases kY.1 he with x|rfl;.exact AA x
   exact AF (.obj _ _ (AA (by simp;exact nG TE)))
  exact E'.refl w es
 |choose q k I=>
  intro w es h;simp only[D4];split;.exact I _ w es (h _)
  exact E'.trans (w1:={w with drawn:=w.drawn+1}) (.step (Ad _) rfl rfl rfl) (I _ _ es (h _))
 |sys c k I=>exact λw es h=>h.elim
 |program k I=>exact λw es h=>I P w es h
 |mark m k I=>
  intro w es h;obtain⟨rfl,h⟩:=h;refine E'.trans ⟨Ad _,rfl,rfl,rfl,λe he=>?_⟩ (I w _ h);rcases kY.1 he with x|rfl;.exact AA x
  exact AF .noRoom
 |halt x=>exact λw es _=>E'.refl w es
def ki(w:A1)(h:aq):Prop:=TR h∨∃g c t,h=a0c (a1S g)/\w.heap[g]?=Z (.pending c t)
def aAC(w)(a)(s):ki w (w.noCell a s):=by
 unfold a1V;split;.rename_i c t e;exact AF ⟨_,c,t,rfl,e⟩
 .exact AA λg e=>BA
 exact AA trivial
theorem aLj{h}(e:w.farLoad p a b=ab h):ki w h:=by
 unfold sX at e;split at e
 .split at e;.grind
  cases e;exact AA λg e=>BA
 cases e;exact aAC ..
theorem aLm{h}(e:w.farStore p a v b=ab h):ki w h:=by
 unfold lg at e;split at e
 .split at e;.grind
  cases e;exact AA λg e=>BA
 cases e;exact aAC ..
def aHk{α}(Q:α->Prop)(r:Result α):Prop:=match r with|AP a _=>Q a|Sm h w=>ki w h
def BH.ends{s}{Q:α->Prop}:∀(w:A1)(es:Array C5),BH P Q s->aHk Q (s.runT P w es).1:=by
 induction s with
 |pure a=>exact λw es h=>h
 |load m a k I=>
  intro w es h;simp only[D4];split;.exact I _ _ _ (h _)
  split;.exact I _ _ _ (h _)
  exact aLj A'
 |store m a v k I=>
  intro w es h;cases v<;>simp only[D4];all_goals
   first
   |exact AA trivial
   |
    (
     split
     .split;.exact AA λg e=>by cases e
      exact I _ _ h
     split;.exact I _ _ h
     exact aLm TE)
 |new o k I=>exact λw es h=>I _ _ _ (h _)
 |shape r k I=>exact λw es h=>I _ w es (h _)
 |freeze a n k I=>exact λw es h=>I _ es h
 |frozen a k I=>exact λw es h=>I _ w es (h _)
 |getObj r k I=>
  intro w es h;simp only[D4];split;.exact AA trivial
  .exact I _ _ _ (h _)
  exact AA trivial
 |setObj r o k I=>
  intro w es h;simp only[D4];split;.exact AA trivial
  .exact I _ _ h
  exact AA trivial
 |choose q k I=>
  intro w es h;simp only[D4];split;.exact I _ w es (h _)
  exact I _ _ es (h _)
 |sys c k I=>exact λw es h=>h.elim
 |program k I=>exact λw es h=>I P w es h
 |mark m k I=>exact λw es h=>I w _ h.2
 |halt x=>exact λw es h=>AA h
section
variable{P:Ao}
def a9I(s):BH P any (UB s:BS α):=trivial
def aRf(v):BH P any (aFp v:BS α):=trivial
def aRv{u}(h:∀g,u≠a1S g):BH P any (aG4 u:BS α):=h
def aRi(a m):BH P any (bE a m):=λ_=>trivial
def aRq(r):BH P any (shape r):=λ_=>trivial
def aRd(a):BH P any (frozen a):=λ_=>trivial
def aRe(r):BH P any (getObj r):=λ_=>trivial
def a98(q):BH P any (Sq q):=λ_=>trivial
def aRl(o):BH P any (newObj o):=λ_=>trivial
def aRp:BH P any fQ:=trivial
def BH.map{s}{f:α->lc}(h:BH P any s):BH P any (f<$>s):=BH.Oe (s:=s) (f:=λa=>Na (f a)) h λ_=>trivial
def JA{s:Sem α}(h:BH P any s:=by repeat' first|contradiction|(with_reducible first|exact BH.ret ..|exact a9I ..|exact aRp|exact a9J ..|exact aRi ..|exact a9G ..|exact aRk ..|exact a9H ..|exact aRl ..|exact aRf ..|exact a98 ..|exact a9F ..|exact aRq ..|exact aRe ..|exact a9C ..|exact a97 ..|exact aRu ..|exact a96 ..|exact aRd ..|exact hcM ..|exact aRb htM ..|exact aRU ..|exact aRn ..|exact ihM ..|exact a99 ..|exact aRa htM ..|refine BH.Oe ?_ λ_=>?_|refine BH.map ?_|refine a95 (λ_=>?_) _)|((with_reducible refine aRv λg e=>?_);cases e)|split|dsimp only|unfold typeInfo|unfold isAgg|unfold zeroValue|unfold storeVar|unfold newRow|unfold newVar|unfold elemOf|unfold part|unfold boundsPanic|unfold Instr.sureAddr|unfold asIntOf|unfold viewAt|unfold numberAt|unfold noView|unfold byteOf|unfold partAt|unfold fieldPlace|unfold behindNumber|unfold asNumber|unfold movedNumber|unfold movedPointer|unfold Op.floatArith|unfold Op.floatCmp|unfold Op.stringOp|unfold Op.intArith|unfold Op.intDiv|unfold Op.intCmp|unfold Op.intBits|unfold Op.Complex.arith|unfold Op.Complex.cmp|unfold Op.twoPlaces|unfold Op.addrSub|unfold Op.addrCmp|unfold Op.addrMod|unfold Builtin.lenOf|unfold Builtin.firstCells|unfold Builtin.holdsCells|unfold Builtin.mayShare|exact trivial):BH P any s:=h
def a9J(t):BH P any (Ms t):=by unfold Ms;exact JA
def a9G(t):BH P any (Rb t):=by unfold Rb;exact JA
def a9B(a):∀(n i:Nat)(h:zw),BH P any (a1_ a i n h)|0,_,_=>trivial|n+1,i,h=>BH.Oe (s:=bE _) (λ_=>trivial) λv=>a9B a n (i+1) (h.push v)
def aRk(a n):BH P any (a1Z a n):=a9B a n 0 #[]
def a9H(a):∀(h:List A3)(i:Nat),BH P any (a1g a h i)|[],_=>trivial|_::rest,i=>BH.Oe (s:=store _ _) trivial λ_=>a9H a rest (i+1)
def a9C(t a):BH P any (sd t a):=by unfold sd;exact JA
def a9F(e):BH P any (W4 e:BS α):=by unfold W4;exact JA
def a97(v):BH P any (fN v):=by unfold fN;exact JA
def a96(v):BH P any (sY v):=by unfold sY;exact JA
def aRc(s v f):BH P any (ru s v f):=by unfold ru;exact JA
def aRg(t x i):BH P any (Y2 t x i):=by unfold Y2;exact JA
def aRj(t x):BH P any (ry t x):=by unfold ry;exact JA
def aRr(t x y):BH P any (s0 t x y):=by unfold s0;exact JA
def aRu(ts t x y):BH P any (ku ts t #[x,y]):=by unfold ku;cases x with|pointer a=>refine BH.Oe (s:=fN y) (a97 y) λn=>?_;exact JA|_=>exact trivial
def aRt(h x):BH P any (lQ h x):=by unfold lQ;exact JA
def aRW(e v):BH P any (rn e v):=by unfold rn;exact JA
def aRU(n):BH P any (bB n):=by
 unfold bB;split;.exact⟨rfl,trivial⟩
 exact trivial
def aRn:BH P any (mark lK):=⟨rfl,trivial⟩
def aRh(ts t args):BH P any (ks ts t args):=by unfold ks;exact JA
def a9A{α lc:Type}{f}(h:∀a,BH P any (f a)):∀(l:List α)(I:List lc),BH P any (aah f l I)|[],_=>trivial|a::l,I=>BH.Oe (h a) λb=>a9A h l (b::I)
def a95{f:α->BS lc}(h:∀a,BH P any (f a))(l:Array α):BH P any (l.mapM f):=As Array.mapM_eq_mapM_toList (BH.map (a9A h _ _))
def aRX(t ps):BH P any (rp t ps):=by unfold rp;exact JA
def aRY(t n ps):BH P any (ar t n ps):=by unfold ar;exact JA
def aRb(htM:P.underlying t=Z (R_ k))(x y):BH P any (U8 t x y):=by
 unfold U8;rw[show lO=9999+1 from rfl];unfold PN;let hu:BH P (λd=>d=R_ k) (Ms t):=by unfold Ms;refine BH.bind (Q:=λp=>p=P) (show BH P _ fQ from rfl) λp hp=>?_;subst hp;rw[htM];exact rfl
 refine BH.bind hu λd hd=>?_;subst hd;dsimp only;exact JA
def aRZ(I)(h:I=.add∨I=.sub∨I=.rem∨I=.lss∨I=.geq∨I=.eql)(k)(a b c d):BH P any (aEx I k a b c d):=by rcases h with rfl|rfl|rfl|rfl|rfl|rfl<;>unfold aEx<;>dsimp only;all_goals exact JA
def aRV(htM:P.underlying t=Z (R_ k))(I)(h:I=.add∨I=.sub∨I=.rem∨I=.lss∨I=.geq∨I=.eql)(x y):BH P any (OQ I t x y):=by let hcM:=λk a b c d=>aRZ (P:=P) I h k a b c d;rcases h with rfl|rfl|rfl|rfl|rfl|rfl<;>unfold OQ<;>split;all_goals exact JA
end
section
variable{P:Ao}
def a9K{d}(ht:P.underlying t=Z d):BH P (λx=>x=d) (Ms t):=by unfold Ms;refine BH.bind (Q:=λp=>p=P) (show BH P _ fQ from rfl) λp hp=>?_;subst hp;rw[ht];exact rfl
def aRS{ts u e}(I:ts[1]?=Z u)(hu:P.underlying u=Z (sW e))(t)(args):BH P any (U1 ts t args):=by
 unfold U1;split
 .refine BH.Oe (a9J _) λd=>?_;split
  .split;.refine BH.Oe (a9G _) λh=>?_;rw[I];dsimp only;refine BH.bind (a9K hu) λd hd=>?_;subst hd;refine BH.bind (Q:=λb=>b=A9) rfl λb hb=>?_;subst hb;simp only[Ev,↓reduceIte,Xm];exact JA
   exact trivial
  exact trivial
 exact trivial
def a99:∀(l:List FieldStep)(t:BL)(x:Option A3),BH P any (aFn l t x)|[],_,_=>trivial|s::rest,t,x=>by have ihM:=λt x=>a99 rest t x;unfold aFn;exact JA
def a9D:∀(n:Nat)(t:BL)(v:A3)(h:String),BH P any (nilAhead n t v h)|0,_,_,_=>trivial|n+1,t,v,h=>by have ihM:=λt v=>a9D n t v h;unfold nilAhead;exact JA
def je:JM->Prop|BB _|JN=>True|_=>False
def Ti{s}(h:BH P any s):BH P je (do Ex (BB (<-s))):=h.bind λ_ _=>trivial
def aRs{s}(h:BH P any s):BH P je (do s;Ex JN):=h.bind λ_ _=>trivial
def aAL(P:Ao):Op->Bool|sE _|sD _|.pick ..|lP _|.load ..|La ..|OP ..|U9 ..|.unOp ..|b1 ..|lL ..|.box ..=>A5|KM op t _ _ _=>(match op with|.add|.sub|.rem|.lss|.geq|.eql=>A5|_=>A9)&&(match P.underlying t with|Z (R_ _)=>A5|_=>A9)|Em {callee:=Fw .len,..}=>A5|Em {callee:=Fw QR,argTypes:=ts,..}=>(match ts[1]? with|Z u=>(match P.underlying u with|Z (sW _)=>A5|_=>A9)|J=>A9)|_=>A9
def aRa(ht:P.underlying t=Z (R_ k))(a b):BH P any (lM lO t a b):=by rw[show lO=9999+1 from rfl];unfold lM;refine BH.bind (a9K ht) λd hd=>?_;subst hd;exact trivial
def aR_(htM:P.underlying t=Z (R_ k))(h)(x y)(a b):BH P any (ll h t x y a b):=by unfold ll;exact JA
def pE{Q}:BH P Q (W4 aF_:BS α):=by unfold W4;exact BH.Oe trivial λp=>trivial
def aRm{ρ o x}(h:o.op=lP x):BH P je (AM ρ o):=by
 unfold AM;rw[h];dsimp only;split;.exact pE
 .exact pE
 .exact pE
 .split;.exact pE
  .refine BH.Oe trivial λp=>BH.Oe (a9D _ _ _ _) λb=>?_;split;.exact λg e=>by cases e
   exact trivial
  exact trivial
 exact trivial
def aRo{ρ o}(h:aAL P o.op=A5):BH P je (AM ρ o):=by
 cases ho:o.op with
 |nilCheck x=>exact aRm ho
 |move x=>unfold AM;rw[ho];exact trivial
 |assign x=>unfold AM;rw[ho];exact trivial
 |pick c a b=>unfold AM;rw[ho];exact(a96 _).bind λ_ _=>trivial
 |load t a=>unfold AM;rw[ho];exact Ti (aRj _ _)
 |store t a x=>unfold AM;rw[ho];exact aRs (aRr _ _ _)
 |fieldAddr s x f=>unfold AM;rw[ho];exact Ti (aRc _ _ _)
 |indexAddr t x i=>unfold AM;rw[ho];exact Ti (aRg _ _ _)
 |unOp op t x=>unfold AM;rw[ho];exact Ti (aRt _ _)
 |build t p=>unfold AM;rw[ho];exact Ti (aRX _ _)
 |buildSlice t n p=>unfold AM;rw[ho];exact Ti (aRY _ _ _)
 |box t x=>unfold AM;rw[ho];exact Ti (aRW _ _)
 |binOp op t x y q=>
  rw[ho]at h;obtain⟨N,h2⟩:=Cp.1 h;cases hu:P.underlying t with
  |none=>rw[hu]at h2;cases h2
  |some d=>
   rw[hu]at h2;cases d with
   |int k=>
    let j:op=.add∨op=.sub∨op=.rem∨op=.lss∨op=.geq∨op=.eql:=by
     cases op<;>first
     |(simp;done)
     |cases N
    unfold AM;rw[ho];exact Ti (BH.Oe (aR_ hu _ _ _ _ _) λ_=>aRV hu op j _ _)
   |_=>cases h2
 |call c=>
  rw[ho]at h;obtain⟨I,U,ts⟩:=c;cases I with
  |builtin b=>
   cases b with
   |len=>unfold AM;rw[ho];exact Ti (aRh _ _ _)
   |append=>
    let h:(match ts[1]? with
    |Z u=>match P.underlying u with
     |Z (sW _)=>A5
     |_=>A9
    |J=>A9)=A5:=h;cases N:ts[1]? with
    |none=>rw[N]at h;cases h
    |some u=>
     rw[N]at h;dsimp only at h;cases hu:P.underlying u with
     |none=>rw[hu]at h;cases h
     |some d=>
      rw[hu]at h;cases d with
      |slice e=>unfold AM;rw[ho];exact Ti (aRS N hu _ _)
      |_=>cases h
   |_=>cases h
  |_=>cases h
 |_=>rw[ho]at h;cases h
end
section
open Go.Conc(G solo Knows Perm Quiet touchAt touch_of touchAt_of getElem?_append_cases knows_own noRace_append Deaf)
open Go.ConcN(PermW)
def FA(l:Loc)(b:Nat):Prop:=(∃a:An,l=KJ a/\a.block=b)∨l=FI b
theorem FA.one{l b b'}(h:FA l b)(k:FA l b'):b=b':=by
 rcases h with⟨a,rfl,rfl⟩|rfl
 .rcases k with⟨a',e,rfl⟩|e;.cases e;rfl
  grind
 rcases k with⟨a',e,rfl⟩|e;.cases e
 grind
def FA.low{l b B}(h:FA l b):l.low B->b<B:=by
 rcases h with⟨a,rfl,rfl⟩|rfl;.exact id
 exact id
def FA.of_low{l b B}(h:FA l b)(hb:b<B):l.low B:=by
 rcases h with⟨a,rfl,rfl⟩|rfl;.exact hb
 trivial
structure ML(Wb:zy)(n B:Nat)(S AG:Nat->zy):Prop where
 apart:∀g h b,S g b->S h b->g=h
 SV:∀g h b,S g b->¬AG h b
 wg:∀g b,Wb b->¬S g b/\¬AG g b
 low:∀g b,S g b∨AG g b->b<B
 num:∀g b,S g b∨AG g b->g<n
 PC:∀b,Wb b->b<B
structure Iz(Wb:zy)(n B:Nat)(S AG:Nat->zy)(t:DT):Prop where
 nr:∀said,¬Race said t
 own:∀g b,S g b->∀l,FA l b->Perm t g l
 shr:∀g b,AG g b->∀l,FA l b->PermW t g l
 quiet:Quiet (λl=>∃b,Wb b/\FA l b) t
 low:∀op∈t,∀x,op.act.touch?=Z x->x.loc.low B
 gs:∀(i:Nat)(op:MemOp),t[i]?=Z op->op.g<n
def QI(S:Nat->zy)(g:Nat)(X:zy):Nat->zy:=λh b=>if h=g then X b else S h b
def eD(S)(g)(X)(b):QI S g X g b↔X b:=by simp[QI]
def VX(S){g h}(X)(e:h≠g)(b):QI S g X h b↔S h b:=by simp[QI,e]
section
variable{Wb:zy}{n B:Nat}{S AG:Nat->zy}{t:DT}
def aZb{FC d e x}(h:Ko d FC e)(hx:(L_ e).touch?=Z x):∃b,FA x.loc b/\(FC b∨d b/\x.write=A9):=by cases h with|cell w s h=>rename_i a;simp only[L_,fC,bd]at hx;subst hx;exact⟨a.block,AA ⟨a,rfl,rfl⟩,h⟩|obj w s h=>rename_i r;cases w<;>cases s<;>simp only[L_,fC,bd,reduceCtorEq]at hx;all_goals(subst hx;exact⟨r,AF rfl,h⟩)|extern f=>trivial|noRoom=>simp[L_,fC]at hx
theorem Iz.fresh(h:Iz Wb n B S AG t){b}(hb:B<=b){l}(hl:FA l b)(g):Perm t g l:=by intro i a ha e;let⟨x,hx,hxa⟩:=aj ha;subst e;have:=hl.low (h.low x (Xk hx) a hxa);omega
theorem Iz.step(R:ML Wb n B S AG)(h:Iz Wb n B S AG t){g}(hg:g<n){B'}(hB:B<=B'){X}(hX:∀b,X b↔S g b∨B<=b/\b<B'){fn pos es}(hes:∀e∈es,Ko (AG g) X e):ML Wb n B' (QI S g X) AG/\Iz Wb n B' (QI S g X) AG (t++KL g fn pos es):=by
 let j:∀b,X b∨AG g b->b<B':=λb hb=>by
  rcases hb with hb|hb
  .rcases(hX b).1 hb with I|I;.have:=R.low g b (AA I);omega
   grind
  have:=R.low g b (AF hb);omega
 let z:∀d b,d≠g->S d b->¬X b:=λd b hne hs hx=>by
  rcases(hX b).1 hx with I|I;.exact hne (R.apart _ _ b hs I)
  have:=R.low d b (AA hs);omega
 let m:∀d b,X b->¬AG d b:=λd b hx hs=>by
  rcases(hX b).1 hx with I|I;.exact R.SV _ _ b I hs
  have:=R.low d b (AF hs);omega
 let s:∀b,Wb b->¬X b:=λb hw hx=>by
  rcases(hX b).1 hx with I|I;.exact(R.wg g b hw).1 I
  have:=R.PC b hw;omega
 let f:∀N∈KL g fn pos es,N.g=g/\∀x,N.act.touch?=Z x->∃b,FA x.loc b/\(X b∨AG g b/\x.write=A9):=λN ho=>by obtain⟨e,he,rfl⟩:=KG ho;exact⟨rfl,λx hx=>aZb (hes e he) hx⟩
 refine⟨⟨λa c b=>?_,λa c b=>?_,λa b hw=>⟨?_,(R.wg a b hw).2⟩,λa b hb=>?_,λa b hb=>?_,λb hb=>BO (R.PC b hb)⟩,λsaid=>?_,λa b hs l hl=>?_,λa b hs l hl=>?_,h.quiet.app λN ho x hx hw=>?_,λN ho=>?_,λi N hi=>?_⟩
 .by_cases U:a=g<;>by_cases A:c=g;.grind
  .rw[U,eD,VX _ _ A];grind
  .rw[A,eD,VX _ _ U];grind
  rw[VX _ _ U,VX _ _ A];exact R.apart a c b
 .by_cases U:a=g;.rw[U,eD];exact m c b
  rw[VX _ _ U];exact R.SV a c b
 .by_cases U:a=g;.rw[U,eD];exact s b hw
  rw[VX _ _ U];exact(R.wg a b hw).1
 .by_cases U:a=g;.rw[U,eD]at hb;exact j b hb
  rw[VX _ _ U]at hb;have:=R.low a b hb;omega
 .by_cases U:a=g;.rwa[U]
  rw[VX _ _ U]at hb;exact R.num a b hb
 .refine rO (h.nr said) (λN ho=>(f N ho).1) λi a ha N ho b hb hc=>?_;let⟨bl,hin,hbx⟩:=(f N ho).2 b hb;rcases hbx with hx|⟨hs,hw⟩
  .rcases(hX bl).1 hx with I|I;.exact h.own g bl I b.loc hin i a ha hc.1
   exact h.fresh I.1 hin g i a ha hc.1
  exact h.shr g bl hs b.loc hin i a ha hc.1 (hc.2.2.1.resolve_right (by simp[hw]))
 .by_cases U:a=g
  .subst U;rw[eD]at hs;refine Perm.app ?_ λN ho _ _ _=>(f N ho).1;rcases(hX b).1 hs with I|I;.exact h.own a b I l hl
   exact h.fresh I.1 hl a
  rw[VX _ _ U]at hs;refine(h.own a b hs l hl).app λN ho x hx e=>?_;let⟨bl,hin,hbx⟩:=(f N ho).2 x hx;have:=FA.one (e▸hin) hl;subst this;rcases hbx with I|⟨I,_⟩;.exact absurd I (z a bl U hs)
  exact absurd I (R.SV a g bl hs)
 .refine(h.shr a b hs l hl).app λN ho x hx e hw=>?_;let⟨bl,hin,hbx⟩:=(f N ho).2 x hx;have:=FA.one (e▸hin) hl;subst this;rcases hbx with I|⟨_,I⟩;.exact absurd hs (m a bl I)
  rw[I]at hw;cases hw
 .let⟨bw,hb1,hb2⟩:=hw;let⟨bl,hin,hbx⟩:=(f N ho).2 x hx;have:=FA.one hin hb2;subst this;rcases hbx with I|⟨I,_⟩;.exact absurd I (s bl hb1)
  exact absurd I (R.wg g bl hb1).2
 .rcases aW.1 ho with ho|ho;.exact λx hx=>aEp hB (h.low N ho x hx)
  intro x hx;let⟨bl,hin,hbx⟩:=(f N ho).2 x hx;exact hin.of_low (j bl (hbx.imp id And.left))
 rcases Vk hi with⟨_,C⟩|⟨_,D⟩;.exact h.gs i N C
 rwa[(f N D).1]
end
end
section
open Go.Conc(G solo Knows Perm Quiet touchAt touch_of touchAt_of touchAt_old getElem?_append_cases knows_own noRace_append Deaf NoRelease)
open Go.ConcN(PermW RelBy)
variable{a:An}
section
variable{Wb:zy}{n B:Nat}{S AG:Nat->zy}{t:DT}
def aHD(Wb:zy)(g:Nat)(h:MemOp):Prop:=h.g=g/\∀x,h.act.touch?=Z x->(∃b,Wb b/\FA x.loc b)/\x.kind≠.plain/\(x.kind=.said->g=0)
theorem Iz.O5(R:ML Wb n B S AG)(h:Iz Wb n B S AG t){g}(hg:g<n){u}(hu:∀I∈u,aHD Wb g I):Iz Wb n B S AG (t++u):=by
 let N:∀I∈u,∀x,I.act.touch?=Z x->∀g' b,S g' b∨AG g' b->¬FA x.loc b:=λI ho x hx g' b hs hin=>by let⟨⟨bw,h1,h2⟩,_⟩:=(hu I ho).2 x hx;have:=FA.one h2 hin;have:=R.wg g' bw h1;grind
 refine⟨λU=>?_,λa b hs l hl=>?_,λa b hs l hl=>?_,h.quiet.app λI ho x hx hw=>?_,λI ho=>?_,λi I hi=>?_⟩;.refine rO (h.nr U) (λI ho=>(hu I ho).1) λi a ha I ho b hb hc=>?_;let⟨h1,h2,h3⟩:=(hu I ho).2 b hb;exact h.quiet.known h1 h2 h3 i a ha hc
 .exact(h.own a b hs l hl).app λI ho x hx e=>absurd (e▸hl) (N I ho x hx a b (AA hs))
 .exact(h.shr a b hs l hl).app λI ho x hx e _=>absurd (e▸hl) (N I ho x hx a b (AF hs))
 .let⟨_,h2,h3⟩:=(hu I ho).2 x hx;exact⟨h2,λe=>(hu I ho).1.trans (h3 e)⟩
 .rcases aW.1 ho with ho|ho;.exact h.low I ho
  intro x hx;let⟨⟨bw,h1,h2⟩,_⟩:=(hu I ho).2 x hx;exact h2.of_low (R.PC bw h1)
 rcases Vk hi with⟨_,d⟩|⟨_,f⟩;.exact h.gs i I d
 rwa[(hu I f).1]
def Iz.hand(h:Iz Wb n B S AG t){BJ n' B' S' d}(hn:n<=n')(hB:B<=B')(hw:∀b,BJ b->Wb b∨B<=b)(ho:∀g b,S' g b->∀l,FA l b->Perm t g l)(hs:∀g b,d g b->∀l,FA l b->PermW t g l):Iz BJ n' B' S' d t:=by
 refine⟨h.nr,ho,hs,λi I x hi hx hw'=>?_,λI N x hx=>aEp hB (h.low I N x hx),λi I hi=>Hw (h.gs i I hi) hn⟩;let⟨b,h1,h2⟩:=hw';rcases hw b h1 with h3|h3;.exact h.quiet i I x hi hx ⟨b,h3,h2⟩
 have:=h2.low (h.low I (Xk hi) x hx);omega
theorem Iz.spawn(h:Iz Wb n B S AG t){S' j x y}(hx:x.g=0/\x.act=.go n)(hy:y.g=n/\y.act=.start)(h0:Deaf t 0=0)(hn:0<n)(RA:∀b,S' 0 b->S 0 b)(C:∀b,S' n b->S 0 b)(oo:∀g b,g≠0->g≠n->S' g b->S g b)(G5:∀b,j 0 b->S 0 b∨AG 0 b)(m:∀b,j n b->S 0 b∨AG 0 b)(s:∀g b,g≠0->g≠n->j g b->AG g b):Iz Wb (n+1) B S' j (t++#[x,y]):=by
 let hk:Deaf t n=0:=a0K λi I hi e=>BO (h.gs i I hi);let U:∀I∈#[x,y],∀b,I.act.touch?=Z b->False:=by
  intro I N b hb;simp at N;rcases N with rfl|rfl;.rw[hx.2]at hb;cases hb
  rw[hy.2]at hb;cases hb
 let old:∀{i:Nat}{a:Touch},l7 (t++#[x,y]) i=Z a->l7 t i=a:=by
  intro i a ha;let⟨z,hz,hza⟩:=aj ha;rcases Vk hz with⟨_,D⟩|⟨_,H⟩;.grind[rT]
  grind
 let d:∀b,S 0 b∨AG 0 b->∀l,FA l b->PermW t 0 l:=λb hb l hl=>by
  rcases hb with hb|hb;.exact PermW.of (h.own 0 b hb l hl)
  exact h.shr 0 b hb l hl
 refine⟨λsaid=>?_,λg b hs l hl=>?_,λg b hs l hl=>?_,h.quiet.app λI N b hb _=>(U I N b hb).elim,λI N=>?_,λi I hi=>?_⟩
 .let e:t++#[x,y]=t++#[x]++#[y]:=by apply qq;simp
  rw[e];refine rO (g:=n) (rO (g:=0) (h.nr said) (λI N=>BA) λi a _ I N b hb _=>(U I BA b hb).elim) (λI N=>BA) λi a _ I N b hb _=>(U I BA b hb).elim
 .by_cases e0:g=0;.subst e0;exact(h.own 0 b (RA b hs) l hl).app λI N b hb _=>(U I N b hb).elim
  by_cases f:g=n;.subst f;exact λi a ha e=>aE6 hx hy h0 hk (h.own 0 b (C b hs) l hl i a (old ha) e)
  exact(h.own g b (oo g b e0 f hs) l hl).app λI N b hb _=>(U I N b hb).elim
 .by_cases e0:g=0;.subst e0;exact(d b (G5 b hs) l hl).app λI N b hb _ _=>(U I N b hb).elim
  by_cases f:g=n;.subst f;exact λi a ha e hw=>aE6 hx hy h0 hk (d b (m b hs) l hl i a (old ha) e hw)
  exact(h.shr g b (s g b e0 f hs) l hl).app λI N b hb _ _=>(U I N b hb).elim
 .rcases aW.1 N with N|N;.exact h.low I N
  exact λb hb=>(U I (Ai N) b hb).elim
 rcases Vk hi with⟨_,K⟩|⟨_,A⟩;.exact Nat.lt_succ_of_lt (h.gs i I K)
 simp at A;rcases A with rfl|rfl;.omega
 omega
end
section
variable(Wb:zy)(c:Nat)(t:DT)
structure T':Prop where
 known:∀i a,l7 t i=Z a->a.loc.isMemory=A5->(¬∃b,Wb b/\FA a.loc b)->Knows t 0 i∨∃g,c<=g/\t.g? i=g
 over:∀i g,t.g? i=Z g->g≠0->t.counts i->(∃j,t.g? j=Z 0/\aEa t i j)∨c<=g
structure Pf(a:An)(k r:Nat):Prop where
 rel:RelBy a t k r
 before:∀i x,l7 t i=Z x->t.g? i=k->(¬∃b,Wb b/\FA x.loc b)->i<r
end
section
variable{Wb:zy}{c:Nat}{t u:DT}
theorem T'.app(h:T' Wb c t){g}(hu:∀U∈u,U.g=g)(hg:g=0∨c<=g∨∀U∈u,U.act.touch?=J):T' Wb c (t++u):=by
 refine⟨λi a ha hm hn=>?_,λi g' d hne hc=>?_⟩
 .let⟨x,hx,hxa⟩:=aj ha;rcases Vk hx with⟨hi,e⟩|⟨_,N⟩
  .rcases h.known i a (Ar (rT e)) hm hn with I|⟨g',I,h2⟩;.exact AA (I.app u)
   grind[ef]
  rcases hg with rfl|hg|hg;.have:=knows_own hx;rw[hu x N]at this;exact AA this
  .exact AF ⟨g,hg,by simp[lY,hx,hu x N]⟩
  grind
 let⟨U,ho,hog⟩:=Qf.1 d;rcases Vk ho with⟨hi,l⟩|⟨_,f⟩
 .rcases h.over i g' (Ar (ef hi).symm) hne ((a_z hi).1 hc)with⟨j,I,h2⟩|I
  .let hj:j<t:=by let⟨z,hz,_⟩:=Qf.1 I;exact aa1 hz
   exact AA ⟨j,Ar (ef hj),aa0 u h2⟩
  grind
 rcases hg with rfl|hg|hg;.grind
 .grind
 let⟨x,hx,_⟩:=hc;have:l7 (t++u) i=x:=hx;rw[rT ho,hg U f]at this;cases this
theorem Pf.other{k r g}(h:Pf Wb t a k r)(hu:∀I∈u,I.g=g)(hg:g≠k):Pf Wb (t++u) a k r:=by
 refine⟨h.rel.appOther hu hg,λi x hx U hn=>?_⟩;let⟨I,ho,hoa⟩:=aj hx;rcases Vk ho with⟨hi,N⟩|⟨_,d⟩;.exact h.before i x (Ar (rT N)) (Ar (ef hi).symm) hn
 grind[lY]
theorem T'.join{n q:Nat}(h:T' Wb c t)(U:∀g,c<=g->(∃i,t.g? i=g)->∃r,Pf Wb t a g r/\r<q){C0:Nat}(hn:∀i,C0<=i->t.act? i≠Z (.mark (.release a)))(hy:∀i g,t.g? i=Z g->c<=g->C0<=i)(hq:t.act? q=Z (.mark (.acquire a)))(hg:t.g? q=Z 0)(hh:t.heard q)(c0:0<c):T' Wb n t:=by
 let e:∀g r,c<=g->Pf Wb t a g r->r<q->aEa t r q:=λg r l hr N=>a3' (AF ⟨.marked N (AF hr.rel.act) hq λk I _=>hn k (BO (hy r g hr.rel.g l)),hr.rel.heard,hh⟩);let f:∃z,t[q]?=Z z/\z.g=0:=by let⟨z,hz,hzg⟩:=Qf.1 hg;exact⟨z,hz,hzg⟩
 let⟨z,hz,hzg⟩:=f;refine⟨λi x hx hm j=>?_,λi g d hne hc=>?_⟩
 .rcases h.known i x hx hm j with I|⟨g,I,h2⟩;.grind
  let⟨r,hr,N⟩:=U g I ⟨i,h2⟩;exact AA ⟨q,z,hz,hzg,AF (.trans (a3' (AA ⟨hr.before i x hx h2 j,g,h2,hr.rel.g⟩)) (e g r I hr N))⟩
 rcases h.over i g d hne hc with I|I;.exact AA I
 let⟨r,hr,N⟩:=U g I ⟨i,d⟩;have hle:=UM λhlt=>hr.rel.after i hlt d hc;rcases JR i r with hlt|m;.exact AA ⟨q,hg,.trans (a3' (AA ⟨hlt,g,d,hr.rel.g⟩)) (e g r I hr N)⟩
 obtain rfl:i=r:=A';exact AA ⟨q,hg,e g i I hr N⟩
end
end
section
open Go.Conc(G solo Deaf Leavers QuitsD crowd crowd_pick runT_crowd_go awake_of woken_quitsD woken_run Deaf_other Deaf_own touch_mute low_mute deafBehind_still woken)
open Go.ConcN(sumTo upd sumTo_upd upd_ne upd_same)
def Du(Wb:zy)(B:Nat):zy:=λb=>b<B/\¬Wb b
def gL(X:zy):Nat->zy:=λg b=>g=0/\X b
def a2k:Nat->zy:=λ_ _=>False
structure Cx(P:Ao)(Wb:zy)(gs:Array AY)(w:A1)(t:DT)(q:Nat->Nat)(a:AY):Prop where
 zero:gs[0]?=a
 leave:Leavers P t gs q
 JG:Iz Wb gs w (gL (Du Wb w)) a2k t
 O4:T' Wb gs t
 hears:Deaf t 0=0
 PC:∀b,Wb b->b<w
section
variable{P:Ao}{Wb:zy}{gs:Array AY}{w w':A1}{t:DT}{q:Nat->Nat}{a:AY}
def Cx.ro(h:Cx P Wb gs w t q a):ML Wb gs w (gL (Du Wb w)) a2k:=by
 have I:=B3 h.zero;refine⟨λg h b x y=>x.1.trans y.1.symm,λ_ _ _ _ x=>x,λg b hb=>⟨λx=>x.2.2 hb,λx=>x⟩,λg b x=>?_,λg b x=>?_,h.PC⟩
 .rcases x with x|x;.exact x.2.1
  trivial
 rcases x with x|x;.rwa[x.1]
 trivial
theorem n_{AG S e}(h:Ko AG S e):e.loc≠NX .disable/\e.loc≠NX .enable:=by cases h<;>refine⟨?_,?_⟩<;>intro x<;>grind
def Cx.own(h:Cx P Wb gs w t q a){a':AY}{es:Array C5}{S':zy}(hs:a'.status=CZ∨True)(hgt:F8 (λ_=>False) (Du Wb w) w w' es S')(fn:Sh)(pos:String):S'=Du Wb w'/\Cx P Wb ((gs.map (woken P a a' w')).setIfInBounds 0 a') w' (t++KL 0 fn pos es) q a':=by
 have d:=B3 h.zero;let N:S'=Du Wb w':=by
  funext b;refine propext ((hgt.grow b).trans ⟨λx=>?_,λx=>?_⟩)
  .rcases x with x|x;.exact⟨RB x.1 hgt.size,x.2⟩
   exact⟨x.2,λy=>BO (h.PC b y)⟩
  by_cases hb:b<w;.exact AA ⟨hb,x.2⟩
  exact AF ⟨A',x.1⟩
 refine⟨N,⟨BA,⟨λj x hj hx=>?_,λj hj=>?_⟩,?_,?_,?_,λb hb=>RB (h.PC b hb) hgt.size⟩⟩;.let hne:0≠j:=A';rw[Mm hne,qt]at hx;obtain⟨y,hy,rfl⟩:=Qf.1 hx;let hq:=h.leave.old j y hj hy;rwa[Xz hq,OL t A' _ λU I=>by obtain⟨e,_,rfl⟩:=KG I;rfl]
 .rw[OL t (g':=0) (by simp at hj;omega) _ λU I=>by obtain⟨e,_,rfl⟩:=KG I;rfl];exact h.leave.above j (Ai hj)
 .have:=(h.JG.step h.ro d hgt.size (λb=>by rw[hgt.grow b];exact⟨λx=>x.imp (λy=>⟨rfl,y⟩) id,λx=>x.imp (λy=>y.2) id⟩) (fn:=fn) (pos:=pos) hgt.evs).2;let e:QI (gL (Du Wb (AR w))) 0 S'=gL (Du Wb (AR w')):=by
   funext g b;unfold QI gL;by_cases hg:g=0;.rw[if_pos hg,N];exact propext ⟨λx=>⟨hg,x⟩,λx=>x.2⟩
   rw[if_neg hg];exact propext ⟨λx=>absurd x.1 hg,λx=>absurd x.1 hg⟩
  rw[e]at this;simpa using this
 .have:=h.O4.app (u:=KL 0 fn pos es) λU I=>by obtain⟨e,_,rfl⟩:=KG I;rfl (AA rfl);simpa using this
 rw[Deaf_own];exact(deafBehind_still (λe he=>n_ (hgt.evs e he)) _).trans h.hears
theorem aBc{n B S AG}(R:ML Wb n B S AG)(h:Iz Wb n B S AG t){g}(hg:g<n){fn pos es}(hm:∀e∈es,e.mute=A5):Iz Wb n B S AG (t++KL g fn pos es):=by refine h.O5 R hg λN I=>?_;obtain⟨e,he,rfl⟩:=KG I;exact⟨rfl,λx hx=>by rw[rU (hm e he)]at hx;grind⟩
theorem Cx.slip(h:Cx P Wb gs w t q a)(hrun:a.status=CZ){i k:Nat}(f:0<i){g g':AY}{es:Array C5}(hi:gs[i]?=g)(hm:∀e∈es,e.mute=A5)(hq':QuitsD P k (deafBehind (Deaf t i) es) g')(fn:Sh)(pos:String):Cx P Wb ((gs.map (woken P g g' w)).setIfInBounds i g') w (t++KL i fn pos es) (upd q i k) a:=by
 have hlt:=B3 hi;refine⟨?_,⟨λj x hj hx=>?_,λj hj=>?_⟩,?_,?_,?_,h.PC⟩;.let hne:i≠0:=A';simp_all[Mm,qt,h.zero,woken_run,hrun]
 .by_cases U:i=j;.grind[upd_same,Deaf_own]
  rw[Mm U,qt]at hx;obtain⟨y,hy,rfl⟩:=Qf.1 hx;let d:=h.leave.old j y hj hy;rwa[Xz d,upd_ne q k (Ne.symm U),OL t U _ λN I=>by obtain⟨e,_,rfl⟩:=KG I;rfl]
 .rw[OL t (g':=i) (by simp at hj;omega) _ λN I=>by obtain⟨e,_,rfl⟩:=KG I;rfl];exact h.leave.above j (Ai hj)
 .have:=aBc h.ro h.JG hlt (fn:=fn) (pos:=pos) hm;simpa using this
 .have:=h.O4.app (u:=KL i fn pos es) λN I=>by obtain⟨e,_,rfl⟩:=KG I;rfl (AF (AF λN I=>by obtain⟨e,he,rfl⟩:=KG I;exact rU (hm e he)));simpa using this
 rw[OL t (g':=i) A' _ λN I=>by obtain⟨e,_,rfl⟩:=KG I;rfl];exact h.hears
theorem Cx.at(h:Cx P Wb gs w t q a)(d):Cx P Wb gs (w.at d) t q a:=⟨h.zero,h.leave,h.JG,h.O4,h.hears,h.PC⟩
theorem Bc.at(AG S)(w)(d):Bc AG S w (w.at d):=⟨Ad _,λ_ _=>rfl,rfl,rfl⟩
def Cx.awake(h:Cx P Wb gs w t q a)(hrun:a.status=CZ):∀g∈gs,aDv g:=by
 intro g hg;obtain⟨i,hi,rfl⟩:=Array.mem_iff_getElem.1 hg;rcases T5 i with rfl|I
 .have:=by simpa[G8 hi]using h.zero
  rw[this];exact awake_of (AA hrun)
 exact awake_of ((h.leave.old i _ I (G8 hi)).status.elim AA λx=>AF (AF x))
end
end
section
open Go.Conc(G solo Deaf Leavers QuitsD crowd crowd_pick runT_crowd_go)
open Go.ConcN(sumTo upd sumTo_upd)
inductive Cy(P:Ao)(Wb:zy)(Stop:AY->A1->Prop):AY->A1->Prop|stop{g:AY}{w:A1}:(∀d,Stop g (w.at d))->Cy P Wb Stop g w|go{g:AY}{w:A1}(qr:Nat->Leaves):g.status=CZ->(∀d,B9 P A5 g (w.at d)=Bl (qr d).g (qr d).w (qr d).es/\F8 (λ_=>False) (Du Wb w) (w.at d) (qr d).w (qr d).es (qr d).S)->(∀d,Cy P Wb Stop (qr d).g (qr d).w)->Cy P Wb Stop g w
section
variable{P:Ao}{Wb:zy}{Stop T8:AY->A1->Prop}{gs:Array AY}{g:AY}{w:A1}{t:DT}{q:Nat->Nat}{a:AY}
def Cy.step(hs:g.status=CZ)(h:∀d,∃I w' es S',B9 P A5 g (w.at d)=Bl I w' es/\F8 (λ_=>False) (Du Wb w) (w.at d) w' es S'/\Cy P Wb Stop I w'):Cy P Wb Stop g w:=by
 let h2:∀d,∃l:Leaves,B9 P A5 g (w.at d)=Bl l.g l.w l.es/\F8 (λ_=>False) (Du Wb (AR w)) (w.at d) l.w l.es l.S/\Cy P Wb Stop l.g l.w:=by intro d;let⟨I,w',es,S',x,y,z⟩:=h d;exact⟨⟨I,w',es,S'⟩,x,y,z⟩
 exact .go (λd=>kl (h2 d)) hs (λd=>⟨(aZ (h2 d)).1,(aZ (h2 d)).2.1⟩) λd=>(aZ (h2 d)).2.2
theorem Cy.at(h:Cy P Wb Stop g w)(d):Cy P Wb Stop g (w.at d):=by cases h with|stop h=>exact .stop λd'=>h d'|go I hs h k=>exact .go I hs (λd'=>h d') k
def Cy.bind(h:Cy P Wb Stop g w)(k:∀g w,Stop g w->Cy P Wb T8 g w):Cy P Wb T8 g w:=by induction h with|stop h=>rename_i g w;exact k g w (h w.drawn)|go N hs h _ I=>exact .go N hs h I
def Cy.mono(h:Cy P Wb Stop g w)(k:∀g w,Stop g w->T8 g w):Cy P Wb T8 g w:=by induction h with|stop h=>exact .stop λd=>k _ _ (h d)|go N hs h _ I=>exact .go N hs h I
def jL{w w':A1}{es:Array C5}{S':zy}(h:∀b,Wb b->b<w)(hgt:F8 (λ_=>False) (Du Wb w) w w' es S'):S'=Du Wb w':=by
 funext b;refine propext ((hgt.grow b).trans ⟨λx=>?_,λx=>?_⟩)
 .rcases x with x|x;.exact⟨RB x.1 hgt.size,x.2⟩
  exact⟨x.2,λy=>BA⟩
 by_cases hb:b<w;.exact AA ⟨hb,x.2⟩
 exact AF ⟨A',x.1⟩
structure KU(Wb:zy)(w w':A1):Prop where
 os:w'.os=w.os
 output:w'.output=w.output
 size:w.heap.size<=w'
 same:∀b,Wb b->b<w->w'.heap[b]?=w.heap[b]?
theorem KU.refl(Wb)(w):KU Wb w w:=⟨rfl,rfl,Ad _,λ_ _ _=>rfl⟩
def KU.trans{Wb w w' d}(h:KU Wb w w')(k:KU Wb w' d):KU Wb w d:=⟨k.os.trans h.os,k.output.trans h.output,Dn h.size k.size,λb hb hl=>(k.same b hb (Hw hl h.size)).trans (h.same b hb hl)⟩
theorem KU.at{Wb w w'}(h:KU Wb w w')(d):KU Wb w (w'.at d):=⟨h.os,h.output,h.size,h.same⟩
def Cy.keep(h:Cy P Wb Stop g w):Cy P Wb (λI w'=>Stop I w'/\KU Wb w w') g w:=by induction h with|stop h=>exact .stop λd=>⟨h d,(KU.refl ..).at d⟩|go U hs h _ N=>refine .go U hs h λd=>(N d).mono λI w'⟨a,b⟩=>⟨a,KU.trans ?_ b⟩;let⟨_,hgt⟩:=h d;exact⟨hgt.os,hgt.output,hgt.size,λb hb hl=>hgt.same b hl λx=>x.2 hb⟩
theorem Ko.wide{AG S S' e}(h:Ko AG S e)(k:∀b,S b->S' b):Ko AG S' e:=by cases h<;>first|(constructor;done)|(constructor;grind)
def Cy.wide{Wc}(h:Cy P Wb Stop g w)(I:∀b,Wc b->Wb b):Cy P Wc Stop g w:=by
 induction h with
 |stop h=>exact .stop h
 |go N hs h _ U=>
  rename_i g w _;refine .go (λd=>{N d with S:=λb=>Du Wc (AR w) b∨AR w<=b/\b<(N d).w.heap.size}) hs (λd=>⟨(h d).1,?_⟩) U;let⟨_,hgt⟩:=h d;refine⟨hgt.size,λb hb hn=>hgt.same b hb λx=>hn ⟨x.1,λy=>x.2 (I b y)⟩,hgt.os,hgt.output,hgt.tape,λb=>Sy,λe he=>(hgt.evs e he).wide λb hb=>?_⟩;rcases(hgt.grow b).1 hb with x|x;.exact AA ⟨x.1,λy=>x.2 (I b y)⟩
  exact AF x
def Cy.beside(h:Cy P Wb Stop a w):∀(gs:Array AY)(sl:Option (Nat×Nat))(t:DT)(q:Nat->Nat),Cx P Wb gs w t q a->∃(N:Nat)(I:Array AY)(a':AY)(w':A1)(sl':Option (Nat×Nat))(e:DT)(q':Nat->Nat),EE P N (ER gs w sl) t=(DY (ER I w' sl'),e)/\I.size=gs/\Cx P Wb I w' e q' a'/\Stop a' w':=by
 induction h with
 |stop h=>rename_i a w;exact λgs sl t q hc=>⟨0,gs,a,w,sl,t,q,rfl,rfl,hc,h w.drawn⟩
 |go qr hrun h hk ih=>
  rename_i a w;intro gs sl t q hc;let l:∀(M:Nat)(f:Nat)(gs:Array AY)(sl:Option (Nat×Nat))(t:DT)(q:Nat->Nat),Ir gs q<=M->Cx P Wb gs (w.at f) t q a->∃(N:Nat)(I:Array AY)(a':AY)(w':A1)(sl':Option (Nat×Nat))(e:DT)(q':Nat->Nat),EE P N (ER gs (w.at f) sl) t=(DY (ER I w' sl'),e)/\I.size=gs/\Cx P Wb I w' e q' a'/\Stop a' w':=by
   intro M;let own:∀(f d:Nat)(gs:Array AY)(sl sl':Option (Nat×Nat))(t:DT)(q:Nat->Nat),Cx P Wb gs (w.at f) t q a->stepT P (ER gs (w.at f) sl)=runT P (ER gs (w.at d) sl') 0->∃(N:Nat)(I:Array AY)(a':AY)(w':A1)(sl':Option (Nat×Nat))(e:DT)(q':Nat->Nat),EE P N (ER gs (w.at f) sl) t=(DY (ER I w' sl'),e)/\I.size=gs/\Cx P Wb I w' e q' a'/\Stop a' w':=by intro f d gs sl sl' t q hc hst;let⟨hgo,hgt⟩:=h d;obtain⟨m,hc'⟩:=Cx.own (hc.at d) (AF trivial) hgt a.frame.fn a.frame.place;let⟨N,I,a',w',sl'',e,q',h1,h2,h3,h4⟩:=ih d _ sl' _ q hc';exact⟨N+1,I,a',w',sl'',e,q',by simp only[EE,hst,QU (sl:=sl') hc.zero (hgo)];exact h1,h2.trans AD,h3,h4⟩
   induction M with
   |zero=>
    intro f gs sl t q hM hc;obtain⟨i,g,d,sl',hi,hg,hst⟩:=Vj (hc.awake hrun) ⟨0,a,hc.zero,hrun⟩;rcases T5 i with rfl|U;.exact own f d gs sl sl' t q hc hst
    let hq:=hc.leave.old i g U hi;have:q i<=Ir gs q:=ep (B3 hi);let s:q i=0:=A';rw[s]at hq;rw[hq.1]at hg;cases hg
   |succ M ihM=>
    intro f gs sl t q hM hc;obtain⟨i,g,d,sl',hi,hg,hst⟩:=Vj (hc.awake hrun) ⟨0,a,hc.zero,hrun⟩;rcases T5 i with rfl|U;.exact own f d gs sl sl' t q hc hst
    let hq:=hc.leave.old i g U hi;let z:(i==0)=A9:=Av;cases j:q i with
    |zero=>rw[j]at hq;rw[hq.1]at hg;cases hg
    |succ k=>
     rw[j]at hq;rcases hq with⟨hf,_⟩|⟨_,g',es,hm,A,hq'⟩;.rw[hf]at hg;cases hg
     let C:Ir gs (upd q i k)+(k+1)=Ir gs q+k:=by have:=sumTo_upd q k id (B3 hi);simpa[j]using this
     let⟨N,I,a',w',sl'',e,q',h1,h2,h3,h4⟩:=ihM d _ sl' _ (upd q i k) Av (Cx.slip (hc.at d) hrun U hi hm hq' g.frame.fn g.frame.place);exact⟨N+1,I,a',w',sl'',e,q',by simp only[EE,hst.trans (QU (sl:=sl') hi (As z (A (w.at d))))];exact h1,h2.trans AD,h3,h4⟩
  exact l _ w.drawn gs sl t q (Ad _) hc
end
end
section
open Go.Conc(G solo)
variable{BX w w':A1}{H2 c':Ah}{code:Code}{fn:JL}
section
variable{P:Ao}{F:zy}{kb:Nat->Bool}{fd:Gz}{k:Nat}{RO AG:zy}{so:D3}{r:List Cd}
structure Static(P:Ao)(F:zy)(kb:Nat->Bool)(fd:Gz)(k:Nat):Prop where
 fit:Fit P F
 Ca:P.globals.size=CX
 calm:∀z,Calm P F (Am fd z)
 sub:∀f,kb f=A5->F f
 laid:Laid P F kb fd k
def BC(F:zy)(so:D3)(RO:zy)(E:AZ)(w w':A1):Prop:=∃T,C9 F so RO E (on w T) w'
def BC.rely{E S BX w d}(h:BC F so RO E BX w)(hc:JK RO AG S E)(hr:Bc AG S w d):BC F so RO E BX d:=by let⟨T,h⟩:=h;exact⟨_,h.rely hc hr T⟩
def a_O(X:Static P F kb fd k)(f:∀b,¬RO b↔fd.ob b)(main ret)(l:ret=A5->r=[]){d e E S Q}(hfr:EZ P F kb fd k E r H2 d)(hm:H2.mode=LZ)(hg:∀b,b<CX->E.rel b b)(hw:BC F (Am fd A5) RO E BX w')(m:JK RO AG S E)(U:∀T,∃N h I,EK P N (Df (G H2 [bot]) (on BX T))=DY (Df (G h [bot]) I)/\ID ret h/\Q h I):Way P main AG (qy P F kb fd k (Am fd A5) RO AG E r e ret Q) S (G d e) w':=by let⟨T0,hw⟩:=hw;exact aZf X.fit X.Ca X.calm ⟨rfl,f⟩ X.sub X.laid main l U _ (aAo (λT=>let⟨N,h,I,a,b,_⟩:=U T;⟨N,h,I,a,b⟩) ⟨BX.tape,0,BX.drawn⟩) (λT _=>rfl) (λT _ j hj=>BA) rfl (Ad _) hfr (AA hm) .base hg (AZ.le_refl _) hw m
theorem X_{α}(s:BS α):∀(w)(es),(s.runT P w es).1=s.run P w:=by simp_all
def aDW(F:zy)(so:D3)(RO AG:zy)(E:AZ)(c':Ah)(cs':List Ah)(Q:A3->A1->Prop)(S:zy)(g:AY)(w':A1):Prop:=∃E1 v v' h,g=G (c'.finish v') cs'/\AK F E1 v v'/\Q v h/\E.le E1/\BC F so RO E1 h w'/\JK RO AG S E1
def a_N(X:Static P F kb fd k)(A:∀b,¬RO b↔fd.ob b)(main){f args l cs' E S Q}(C:P.funcs[f]?=Z fn)(hb:fn.body=Z code)(hc:J2 P kb fd.own (fd.own f) k code=A5)(D:IE (fd.own f)=[])(H:∀t∈fd.own f,args.size<=t)(K:Al F E args.toList l.toList)(hg:∀b,b<CX->E.rel b b)(hw:BC F (Am fd A5) RO E BX w')(L:JK RO AG S E)(M:∀T,Ab P f args (on BX T) λe h=>∃v,e=AV v/\Q v h):Way P main AG (aDW F (Am fd A5) RO AG E c' cs' Q) S (G (Fa P f l EI) (c'::cs')) w':=by
 let R:∀T,∃N U h,EK P N (Df (G (Fa P f args EI) [bot]) (on BX T))=DY (Df (G U [bot]) h)/\ID A5 U/\∃v,Q v h/\U.fn=f/\U.leaving P h (AV v):=by intro T;obtain⟨e,h,U,⟨v,rfl,hq⟩,hst,hf,hl⟩:=M T [bot];let⟨N,hN⟩:=hst;exact⟨N,U,h,hN,hl.1,v,hq,hf,hl⟩
 refine(a_O X A main A5 (λ_=>rfl) (EZ.enter C hb hc D H K) rfl hg hw L R).bind ?_;rintro t0 g w1'⟨E1,d8,I,h,rfl,hfr,DZ,⟨v,hq,wQ,hm,hd,hk,m,W,Y⟩,hE,hwr,s⟩;refine .step rfl λd hr=>?_;let j:C9 F (Am fd A5) RO E1 (on h (join h.tape h.drawn d.tape d.drawn)) d:=hwr.rely s hr _;let hs:AQ P F ⟨fd.ob,False,fd.own,fd.J3⟩ (Bp F) E1 (D5 m d8.tmps) (D5 m I.tmps):=hfr.results W;let hrun:∃es,(D5 m d8.tmps).runT P h #[]=(AP v h,es):=by have:=X_ (P:=P) (D5 m d8.tmps) h #[];rw[Y]at this;exact⟨((D5 m d8.tmps).runT P h #[]).2,by rw[<-this]⟩
 let⟨es,hrun⟩:=hrun;let⟨E2,v',w2',es',r1,r2,r3,r4,r5⟩:=AQ.runs X.fit.Ip (λ_ x=>x) (λx=>a08 x) hs (⟨j.heap,j.tape,j.kept,j.low,j.even⟩) .nil ((AQ.tape X.fit.Ip hs ⟨hwr.heap,hwr.tape,λ_ x=>x.elim,hwr.low,hwr.even⟩ hrun).2 (join h.tape h.drawn d.tape d.drawn) λi q h1 h2=>A');let hgo:B9 P main (G I (c'::cs')) d=Bl (G (c'.finish v') cs') w2' (Fc P I.fn es'):=As (SX rfl (hfr.mode.trans hm)) (SZ hfr.defers.2 (hfr.mode.trans hm) hfr.kind.2 (by show P.funcs[I.fn]?=_;rwa[hfr.fn]) r1);obtain⟨v9,hgt,z⟩:=Wj s (λb hb=>(j.kept b hb).1) r4 r5;refine⟨_,w2',_,v9,hgo,hgt,.stop λE7 Dv=>?_⟩;let hh:BC F (Am fd A5) RO E2 h w2':=⟨_,⟨r3.heap,r3.tape,r3.kept,r3.low,r3.even⟩⟩;exact⟨E2,v,v',h,rfl,r2,hq,AZ.le_trans hE r4.le,hh.rely z Dv,z⟩
end
section
variable{P:Ao}{F:zy}{kb:Nat->Bool}{fd:Gz}{k:Nat}{so:D3}{r:List Cd}
def UO(Wb:zy)(E:AZ):Prop:=∀b h,E.rel b h->¬Wb h
def qz(P:Ao)(F:zy)(kb:Nat->Bool)(fd:Gz)(k:Nat)(so:D3)(Wb:zy)(d:Nat)(E0:AZ)(r:List Cd)(U:List Ah)(ret:Bool)(Q:Ah->A1->Prop)(g:AY)(w':A1):Prop:=∃E d8 h I,g=G h U/\EZ P F kb fd k E r d8 h/\ID ret d8/\Q d8 I/\E0.le E/\C9 F so (λ_=>False) E I w'/\bR E I w'/\UO Wb E/\(∀b,Wb b->b<w')/\∀b N,E.rel b N->E0.rel b N∨d<=b
def aZg(H:Fit P F)(hG:P.globals=CX)(hC:∀z,Calm P F (Am fd z))(Ii:so=Am fd A5/\∀b,¬(λ_:Nat=>False) b↔fd.ob b)(hF:∀f,kb f=A5->F f)(hL:Laid P F kb fd k){Wb:zy}{X:Nat}{AU:A1}{ret:Bool}(Tc:ret=A5->r=[]){L:List Ah}{E0:AZ}{Q:Ah->A1->Prop}(H8:∀T,∃N D w1,At P H2 AU T N (Df (G D [bot]) w1)/\ID ret D/\Q D w1):∀(p:gN),Acc (Hc P H2 AU ret) p->∀{E:AZ}{d8 fr':Ah}{cs cs':List Ah}{BX w':A1}{T0:Nb},(∀T,OF AU.drawn p.d T p.τ->At P H2 AU T p.n (Df (G d8 cs) (on BX T)))->p.ok P H2 AU ret->p.d=BX.drawn->AU.drawn<=p.d->EZ P F kb fd k E (OD cs r) d8 fr'->d8.mode=LZ∨d8.mode=.returning->LY P F kb fd k E r L cs cs'->(∀b,b<CX->E.rel b b)->E0.le E->C9 F so (λ_=>False) E (on BX T0) w'->bR E BX w'->UO Wb E->(∀b,Wb b->b<w')->(∀b b',E.rel b b'->E0.rel b b'∨X<=b)->X<=BX->Cy P Wb (qz P F kb fd k so Wb X E0 r L ret Q) (G fr' cs') w':=by
 intro p hp;induction hp with
 |intro p _ ih=>
  intro E d8 fr' cs cs' BX w' T0 hrun Y hd hd0 hfr Bw hc Dk hV hwr Lu Q1 EW E9 IH;let FT:JK (λ_=>False) (λ_=>False) (Du Wb (AR w')) E:=λb b' x=>AF ⟨λy=>y,(hwr.lt x).2,Q1 b b' x⟩;by_cases s:cs=[bot]/\ID ret d8
  .obtain⟨rfl,s⟩:=s;have hbase:cs'=L:=by
    cases hc with
    |base=>rfl
    |cons _ _ _ t=>cases t
   subst hbase;refine .stop λd=>?_;have hr:=Bc.at (λ_=>False) (Du Wb (AR w')) w' d;generalize y6:w'.at d=U at hr;have A:OF AU.drawn p.d (join p.τ BX.drawn U.tape U.drawn) p.τ:=by intro i q _ h2;unfold join;rw[if_pos A']
   have hw:=hwr.rely FT hr p.τ;let⟨N,D,w1,hN,hf1,hq⟩:=H8 (join p.τ BX.drawn U.tape U.drawn);have hat:=hrun _ A;have Z':=by exact UM λhlt=>Y _ A N hlt D w1 hN hf1
   obtain⟨j,rfl⟩:=tt Z';let⟨m1,h1,h2⟩:=q0 hN;have:=by unfold At at hat;rw[hat]at h1;exact(YB h1).symm
   subst this;have hj:=a8_ H.Ip hfr s hf1 hw h2;subst hj;simp only[EK,RZ]at h2;let⟨h3,h4⟩:=RI h2;simp only[G,U5]at h3;obtain⟨rfl,_⟩:=h3;subst h4;refine⟨E,d8,fr',_,rfl,hfr,s,hq,hV,hw,⟨Lu.1,?_⟩,Q1,?_,E9⟩;.rw[<-y6];exact Lu.2
   rwa[<-y6]
  refine .step rfl λd=>?_;have hr:=Bc.at (λ_=>False) (Du Wb (AR w')) w' d;have M:(w'.at d).heap=w'.heap:=rfl;generalize y6:w'.at d=U at hr M;have A:OF AU.drawn p.d (join p.τ BX.drawn U.tape U.drawn) p.τ:=by intro i q _ h2;unfold join;rw[if_pos A']
  have hw:=hwr.rely FT hr p.τ;generalize hT:join p.τ BX.drawn U.tape U.drawn=T at A hw;let⟨N,D,w1,hN,hf1,hq⟩:=H8 T;have hat:=hrun _ A;have Z':=by exact UM λhlt=>Y _ A N hlt D w1 hN hf1
  obtain⟨j,rfl⟩:=tt Z';let⟨m1,h1,h2⟩:=q0 hN;have:=by unfold At at hat;rw[hat]at h1;exact(YB h1).symm
  subst this;obtain⟨j,rfl⟩:∃i,j=i+1:=by
   cases j with
   |succ j=>exact⟨j,rfl⟩
   |zero=>simp only[EK,RZ]at h2;let⟨h3,_⟩:=RI h2;simp only[G,U5]at h3;obtain⟨rfl,rfl,_⟩:=h3;exact absurd ⟨rfl,hf1⟩ s
  have oK:∀b,(λ_:Nat=>False) b->b<AR (on BX T):=λb hb=>hb.elim;have Zt:∀{s':lA}{fn:Nat},(∀v,B9 P A5 (G d8 cs) v=B9 P A5 (G d8 cs) v)->YQ (λw=>B9 P A5 (G d8 cs) w) (on BX T)->Jh P F kb fd k so (λ_=>False) E r L fn (on BX T) U (B9 P A5 (G d8 cs) (on BX T)) s'->B9 P A5 (G fr' cs') U=s'->∃g' w2 es S',B9 P A5 (G fr' cs') U=Bl g' w2 es/\F8 (λ_=>False) (Du Wb w') U w2 es S'/\Cy P Wb (qz P F kb fd k so Wb X E0 r L ret Q) g' w2:=by
   intro s' fn _ K Z9 Ow;let⟨g1,w2,C,hgo,xT,wM,htape⟩:=K;let⟨E1,fr2,fr2',cs2,cs2',w3,w3',es,es',q1,q2,q3,q4,q5,q6,q7,q8⟩:=Z9.both;have iQ:B9 P A5 (G d8 cs) (on BX T)=Bl g1 w2 C:=hgo;rw[q1]at iQ;injection iQ with x1 x2 x3;subst x1 x2;obtain⟨S',hgt,wJ⟩:=Wj FT oK q7 q8;refine⟨_,w3',_,S',Ow.trans q2,hgt,?_⟩;have aNv:BX.drawn<=w3.drawn:=wM;have Up:∀I,OF AU.drawn w3.drawn I T->OF AU.drawn p.d I p.τ:=λI h i q h3 h4=>(h i q h3 A').trans (A i q h3 h4);have xU:w3.tape=T:=xT;refine ih ⟨T,p.n+1,w3.drawn⟩ ⟨rfl,by show p.d<=w3.drawn;omega,A,?_⟩ (T0:=T) ?_ ?_ rfl (by show AU.drawn<=w3.drawn;omega) q3 q4 q5 (λb hb=>q7.le _ _ (Dk b hb)) (AZ.le_trans hV q7.le) ?_ (q7.V4 ⟨Lu.1,M.trans Lu.2⟩) (λb b' x=>?_) (λb hb=>?_) (λb b' x=>?_) ?_
   .intro I e i hi Yp w4 m R;have W:=Up I e;rcases JR i p.n with hlt|K3;.exact Y I W i hlt Yp w4 m R
    obtain rfl:i=p.n:=by simp only at hi;omega
    have:=hrun I W;unfold At at this m;rw[this]at m;let⟨h3,_⟩:=RI (YB m);simp only[G,U5]at h3;obtain⟨rfl,rfl,_⟩:=h3;exact s ⟨rfl,R⟩
   .intro I e;have xM:B9 P A5 (G d8 cs) (on BX I)=Bl {frame:=fr2,callers:=cs2,status:=CZ,dying:=J} (on w3 I) C:=htape I λi q h3 h4=>e i q (by have:BX.drawn<=i:=h3;omega) h4;have:=hrun I (Up I e);unfold At at this⊢;rw[zM,this];simp only[EK,QG rfl xM];rfl
   .intro I e i hi Yp w4 m R;have W:=Up I e;rcases JR i p.n with hlt|K3;.exact Y I W i hlt Yp w4 m R
    obtain rfl:i=p.n:=by simp only at hi;omega
    have:=hrun I W;unfold At at this m;rw[this]at m;let⟨h3,_⟩:=RI (YB m);simp only[G,U5]at h3;obtain⟨rfl,rfl,_⟩:=h3;exact s ⟨rfl,R⟩
   .have:on w3 T=w3:=by rw[<-xU];rfl
    rwa[this]
   .have Uv:F8 (λ_=>False) (Du Wb U) U w3' (Fc P fn es') S':=by rwa[M]
    rcases wJ b b' x with⟨y,_⟩|⟨_,y⟩;.exact y.elim
    rw[jL (λb hb=>As M (EW b hb)) Uv]at y;exact y.2
   .have:=EW b hb;have h5:=hgt.size;rw[M]at h5;omega
   .rcases q7.fresh b b' x with y|⟨y,_⟩;.exact E9 b b' y
    have y':BX<=b:=y;exact AF A'
   have y:BX.heap.size<=w3:=q7.size;omega
  rcases Bw with hm|hm
  .have hg:∀v,B9 P A5 (G d8 cs) v=BY P A5 A5 d8 cs J v:=λv=>dw rfl hm;have Pu:d8.todo=[]->OD cs r=[]:=by
    intro ht;cases hc with
    |base=>
     cases ret with
     |true=>exact Tc rfl
     |false=>exact absurd ⟨rfl,by unfold ID;exact⟨hm,ht⟩⟩ s
    |cons _ _ _ t=>obtain⟨c,l,rfl⟩:=t.ne;rfl
   rcases a4q H hG hC Ii hF Dk A5 hfr hw with⟨K,f9⟩|⟨he⟩|⟨he⟩;.have hgo:=K;let⟨g1,w2,C,hgo,_⟩:=hgo;have Z9:=a4r H hG hC Ii hF hL Dk A5 A5 hfr hm Pu hc hw ⟨g1,w2,C,hgo⟩ f9;refine Zt (λ_=>rfl) ?_ (Ar hg) (dw rfl (hfr.mode.trans hm));let⟨g1,w2,C,a,b,c,d⟩:=K;exact⟨g1,w2,C,(hg _).trans a,b,c,λI e=>(hg _).trans (d I e)⟩
   .rename_i w2 es ch;unfold EK at h2;rw[QG rfl ((hg _).trans he)]at h2;simp only at h2;let⟨ch2,h3,h4⟩:=raised d8 ch;let⟨ch3,h5⟩:=vB hc.yg h3 (h4.trans hfr.defers.1) h2;exfalso;unfold ID at hf1;simp only[G]at h5;split at hf1;.rw[h5]at hf1;cases hf1
    rw[h5]at hf1;cases hf1.1
   unfold EK at h2;rw[Tq rfl ((hg _).trans he)]at h2;cases h2
  have hg:∀v,B9 P A5 (G d8 cs) v=I3 P A5 d8 cs J v:=λv=>SX rfl hm;cases hc with
  |base=>have:=p7 H.Ip hfr hm hw h2;omega
  |cons wF Ny c_ t=>
   rename_i c c' l l';rcases a'0 H.Ip A5 hfr hm hw with⟨fn,v,w2,es,CR,HR,K⟩|⟨o,w2,es,he⟩;.have Z9:=aBb H.Ip A5 A5 hfr hm wF Ny c_ t hw CR HR;refine Zt (λ_=>rfl) ?_ (Ar hg) (SX rfl (hfr.mode.trans hm));obtain⟨g1,w2,C,a,b,c,d⟩:=K;exact⟨g1,w2,C,(hg _).trans a,b,c,λI e=>(hg _).trans (d I e)⟩
   unfold EK at h2;rw[Tq rfl ((hg _).trans he)]at h2;cases h2
def C7(R:zy):AZ where
 rel:=λb I=>I=b/\R b
 one:=λb c c' h k=>by rw[h.1,k.1]
 other:=λb I c h k=>by rw[<-h.1,<-k.1]
 low:=λb c h=>by rw[h.1]
def xf(R):(C7 R).Self:=λ_ _ h=>h.1
def Q5{R R'}(h:∀b,R b->R' b):(C7 R).le (C7 R'):=λb I x=>⟨x.1,h b x.2⟩
structure Closed(F:zy)(Wb R:zy)(w:A1):Prop where
 heap:∀b,R b->∃o,w.heap[b]?=Z o/\Ff F (C7 R) o o
 off:∀b,R b->¬Wb b
 Ca:∀b,b<CX->R b
theorem Closed.lt{Wb R:zy}(h:Closed F Wb R w){b:Nat}(hb:R b):b<w:=by let⟨o,e,_⟩:=h.heap b hb;grind
theorem Closed.low{Wb R:zy}(h:Closed F Wb R w):CX<=w:=by have:CX-1<CX:=Ac;have:=h.lt (h.Ca _ this);grind
theorem Closed.same{Wb R}(h:Closed F Wb R w)(e:∀b,R b->w'.heap[b]?=w.heap[b]?):Closed F Wb R w':=⟨λb hb=>As (e b hb) (h.heap b hb),h.off,h.Ca⟩
theorem Closed.wr{Wb R}(h:Closed F Wb R w)(so)(T):C9 F so (λ_=>False) (C7 R) (on w (join T w.drawn w.tape w.drawn)) w:=by
 refine⟨λb I x=>?_,λi q=>?_,λ_ x=>x.elim,⟨h.low,h.low⟩,λ_ b I x o U e N=>?_⟩;.obtain⟨rfl,hb⟩:=x;let⟨o,e,k⟩:=h.heap I hb;exact⟨o,o,e,e,k⟩
 .show w.tape (w.drawn+i) q=join T w.drawn w.tape w.drawn (w.drawn+i) q;simp_all[join,if_neg,]
 obtain⟨rfl,_⟩:=x;let e1:Fl w I o:=e;intro _ _ _ _ _ _ y y';grind
theorem gn{E Wb}(h:C9 F so (λ_=>False) E BX w)(hi:bR E BX w)(ho:UO Wb E)(hg:∀b,b<CX->E.rel b b):∃R,E=C7 R/\Closed F Wb R w:=by
 let he:E=C7 λb=>E.rel b b:=by
  let⟨rel,a,b,c⟩:=E;have:rel=λb I=>I=b/\rel b b:=by
   funext b I;refine propext ⟨λx=>?_,λx=>?_⟩;.let e:=hi.1 b I x;grind
   grind
  congr
 refine⟨_,he,λb hb=>?_,λb hb=>ho b b hb,hg⟩;let⟨o,o',e,e',k⟩:=h.heap b b hb;rw[hi.2,e]at e';obtain rfl:=CP e';exact⟨o,Ar hi.2,Ar he.symm⟩
def zL(X:Static P F kb fd k)(f:∀b,fd.ob b){Wb R:zy}(ret)(l:ret=A5->r=[]){d:Ah}{e:List Ah}{Q:Ah->A1->Prop}(hfr:EZ P F kb fd k (C7 R) r H2 d)(hm:H2.mode=LZ)(hR:Closed F Wb R w)(m:∀b,Wb b->b<w)(U:∀T,∃N h I,EK P N (Df (G H2 [bot]) (on w T))=DY (Df (G h [bot]) I)/\ID ret h/\Q h I):Cy P Wb (qz P F kb fd k (Am fd A5) Wb w (C7 R) r e ret Q) (G d e) w:=by exact aZg X.fit X.Ca X.calm ⟨rfl,λb=>⟨λ_=>f b,λ_ x=>x⟩⟩ X.sub X.laid l U _ (aAo (λT=>let⟨N,h,I,a,b,_⟩:=U T;⟨N,h,I,a,b⟩) ⟨w.tape,0,w.drawn⟩) (λT _=>rfl) (λT _ j hj=>BA) rfl (Ad _) hfr (AA hm) .base (λb hb=>⟨rfl,hR.Ca b hb⟩) (AZ.le_refl _) (hR.wr _ w.tape) ⟨xf R,rfl⟩ (λb b' x=>As x.1 (hR.off b x.2)) m (λb b' x=>AA x) (Ad _)
def a01(F:zy)(Wb R:zy)(N:Nat)(c':Ah)(cs':List Ah)(Q:A3->A1->Prop)(g:AY)(w':A1):Prop:=∃h v I,g=G (c'.finish v) cs'/\AK F (C7 h) v v/\Q v I/\(∀b,R b->h b)/\w'.heap=I.heap/\Closed F Wb h w'/\(∀b,Wb b->b<w')/\∀b,h b->R b∨N<=b
def Og(X:Static P F kb fd k)(K:∀b,fd.ob b){Wb R:zy}{f:Nat}{args:zw}{cs':List Ah}{Q:A3->A1->Prop}(L:P.funcs[f]?=fn)(hb:fn.body=code)(hc:J2 P kb fd.own (fd.own f) k code=A5)(M:IE (fd.own f)=[])(W:∀t∈fd.own f,args<=t)(Y:Al F (C7 R) args.toList args.toList)(hR:Closed F Wb R w)(EW:∀b,Wb b->b<w)(cZ:∀T,Ab P f args (on w T) λe h=>∃v,e=AV v/\Q v h):Cy P Wb (a01 F Wb R w c' cs' Q) (G (Fa P f args EI) (c'::cs')) w:=by
 let H8:∀T,∃N j h,EK P N (Df (G (Fa P f args EI) [bot]) (on w T))=DY (Df (G j [bot]) h)/\ID A5 j/\∃v,Q v h/\j.fn=f/\j.leaving P h (AV v):=by intro T;obtain⟨e,h,j,⟨v,rfl,hq⟩,hst,hf,hl⟩:=cZ T [bot];let⟨N,hN⟩:=hst;exact⟨N,j,h,hN,hl.1,v,hq,hf,hl⟩
 refine(zL X K A5 (λ_=>rfl) (EZ.enter L hb hc M W Y) rfl hR EW H8).bind ?_;rintro g w1'⟨E1,d8,I,h,rfl,hfr,DZ,⟨v,hq,wQ,hm,hd,hk,l,ZG,HR⟩,hE,hwr,A,Q1,C,E9⟩;refine .step rfl λd=>?_;let D:JK (λ_=>False) (λ_=>False) (Du Wb (AR w1')) E1:=λb b' x=>AF ⟨λy=>y,(hwr.lt x).2,Q1 b b' x⟩;have hr:=Bc.at (λ_=>False) (Du Wb (AR w1')) w1' d;have m:(w1'.at d).heap=w1'.heap:=rfl;generalize xZ:w1'.at d=U at hr m;let s:C9 F (Am fd A5) (λ_=>False) E1 (on h (join h.tape h.drawn U.tape U.drawn)) U:=hwr.rely D hr _;let hs:AQ P F ⟨fd.ob,False,fd.own,fd.J3⟩ (Bp F) E1 (D5 l d8.tmps) (D5 l I.tmps):=hfr.results ZG;let hrun:∃es,(D5 l d8.tmps).runT P h #[]=(AP v h,es):=by have:=X_ (P:=P) (D5 l d8.tmps) h #[];rw[HR]at this;exact⟨((D5 l d8.tmps).runT P h #[]).2,by rw[<-this]⟩
 let⟨es,hrun⟩:=hrun;let⟨E2,v',w2',es',r1,r2,r3,r4,r5⟩:=AQ.runs X.fit.Ip (λ_ x=>x) (λx=>a08 x) hs (⟨s.heap,s.tape,s.kept,s.low,s.even⟩) .nil ((AQ.tape X.fit.Ip hs ⟨hwr.heap,hwr.tape,λ_ x=>x.elim,hwr.low,hwr.even⟩ hrun).2 (join h.tape h.drawn U.tape U.drawn) λi q h1 h2=>A');let hgo:B9 P A5 (G I (c'::cs')) U=Bl (G (c'.finish v') cs') w2' (Fc P I.fn es'):=As (SX rfl (hfr.mode.trans hm)) (SZ hfr.defers.2 (hfr.mode.trans hm) hfr.kind.2 (by show P.funcs[I.fn]?=_;rwa[hfr.fn]) r1);obtain⟨H,hgt,Pt⟩:=Wj D (λb hb=>hb.elim) r4 r5;let z:=r4.V4 ⟨A.1,m.trans A.2⟩;let Uy:∀b,Wb b->b<w2':=λb hb=>by have:=C b hb;let h5:=hgt.size;rw[m]at h5;omega
 let ZQ:UO Wb E2:=λb b' x=>by
  let Uv:F8 (λ_=>False) (Du Wb U) U w2' (Fc P I.fn es') H:=Ar m;rcases Pt b b' x with⟨y,_⟩|⟨_,y⟩;.exact y.elim
  rw[jL (λb hb=>As m (C b hb)) Uv]at y;exact y.2
 refine⟨_,w2',_,H,hgo,hgt,.stop λd2=>?_⟩;obtain⟨ip,rfl,Er⟩:=gn r3 z ZQ λb hb=>r4.le _ _ (hE _ _ ⟨rfl,hR.Ca b hb⟩);obtain rfl:=r2.same z.1;refine⟨ip,v',h,rfl,r2,hq,λb hb=>(r4.le _ _ (hE b b ⟨rfl,hb⟩)).2,?_,Er.same λ_ _=>rfl,Uy,λb hb=>?_⟩;.exact z.2
 rcases r4.fresh b b ⟨rfl,hb⟩with y|⟨y,_⟩;.exact(E9 b b y).imp (·.2) id
 omega
end
end
end Go.Proofs.YtcfhleenecfghaaGreatDoor.Twin
