/- Least: for every list of raw numbers the law Least answers true and its run ends without a data race, whatever the order in which the goroutines of Load run. No condition. -/
import Derived.Test.YtcfhleenecfghaaGreatDoorCards
import Derived.Test.YtcfhleenecfghaaGreatDoorTie
import Derived.Conc.Holds
import Derived.Conc.LeavingOf
import Derived.Leaving
import Derived.OpenShut
import Derived.LaidMore
import Derived.Lay
import Derived.SevenTiedAt
import Derived.Stop.Joined
import Derived.HandedShaped
import Derived.ShutString
import Derived.Carry
import Derived.ChangeSlices
import Derived.Test.YtcfhleenecfghaaGreatDoorK2
import Derived.Test.YtcfhleenecfghaaGreatDoorK7
set_option linter.all false
set_option maxHeartbeats 4000000
set_option maxRecDepth 100000
open Array renaming getD_eq_getD_getElem?->JX,getElem?_eq_getElem->ET,getElem?_mapIdx->ck,getElem?_push->OX,getElem?_push_lt->H4,getElem?_setIfInBounds_ne->JF,replicate->Sf
open Bool renaming and_eq_true->IP,false->A5,true->A0
open ByteArray renaming size->a6t
open Decidable renaming decide->Bn
open Go renaming Act->Ja,Addr->Aa,Calls->AZ,Code->Cv,Frame->AY,Goroutine->AK,Item->Cw,Oper->Bf,Operand->C2,ReturnsInLeavingWide->a9r,TypeId->A_,Value->A1,World->A',below_drewN->Je,bodyPost->xU,execOp->AU,heap_setCell_same->EV,info_parts->IT,laidMetH->xa,maxLen->BK,reachBytes->aAA,results->De,runNT->Eg,sizedMet->xn,stepG->Be,undef->Y,wp_mono->iw,yielded->Gu
open Go.Act renaming eval->Cu,put->aJ
open Go.CallKind renaming normal->a73
open Go.Cell renaming ok->a7A
open Go.ChangeSpec renaming post_blind->aTq,witness_shaped->aTr
open Go.Claim7 renaming isSixth->a7B
open Go.Code renaming loop->aZv,region->aYH,ret->aYT,rounds->vu,seq->aYB,wp_mono->ME
open Go.Conc renaming Good->a7C,solo->EB,stepG_region->Hu,stepG_region_end->Hf,stepG_seq->GB
open Go.Conc.Good renaming mono->a7D
open Go.ConcR renaming Payload->Ck
open Go.DataW renaming weightsEach->a7q
open Go.DataW.Whole renaming of_heap->aU2
open Go.Ending renaming returned->hq
open Go.Exit renaming exit->aZG,inBlock->Sl,normal->aYP
open Go.Frame renaming enter->GR,eval_at->wM,finish_at->KX
open Go.IntKind renaming i64->Po,u8->aYL
open Go.Item renaming code->aY9,inRegion->aY7
open Go.Lib renaming cell_of_heap->Ad,compareBytes->Hg,frozen_of_heap->Dv
open Go.MakeChecks renaming laidMetH_plain->a86
open Go.Next renaming skip->aYU,value->aYD
open Go.Obj renaming cells->BE,map->oF,row?->a8A
open Go.Op renaming equalIn->Mt,move->aYg
open Go.OpenClaim renaming holds_of_wide_leaving->aU6
open Go.OpenSpec renaming ofChange->wj
open Go.Operand renaming tmp->oM
open Go.Program renaming stepOf->aU9
open Go.Proofs.Tryz renaming checked->wq,f13->wu,f15->a8O,f19->iS,f26->dR,f30->Nj,f49->a8R,f50->a8S,f7->Nk,func13->oR,func19->a8V,func20->a8Y,func26->oT,func27->a8c,func30->Xp,func59->a8l,func60->a8m,func7->aU,params7->a92,prog->A4,underlying33->xH,underlying39->a9Q,underlying59->a_9,zeroCells67->xL
open Go.Proofs.YtcfhleenecfghaaGreatDoor.Rows renaming leastRow->RG,leastSpec->iZ
open Go.Reach renaming any->aYz
open Go.Region renaming wanted->EY
open Go.Result renaming ok->aY6
open Go.RowKit renaming Below->AS,Hid->AP
open Go.RowKit.Below renaming heap_setCell->F_,refl->B9
open Go.Stepped renaming ended->aZP,next->aYG
open Go.Value renaming agg->dd,bool->aY5,cells->de,int->IS,nilIface->aYA,okWide->aA',pointer->aY4,slice->As,string->AI,tuple->aY8
open Go.WideElems renaming Trod_stays->aUR
open Go.World renaming block_lt_of_cell?->Ff,cell?->F3,cell?_of_block->F4,ownsRow->aA3
open Inhabited renaming default->Ag
open List renaming Nodup->pT,append_nil->pU,getElem?_take_of_lt->aBU,getElem_map->pZ,getElem_mem->EC,length->pa,length_append->HN,length_cons->Jg,length_map->Mz,length_nil->pb,mem_cons_of_mem->I8,mem_of_getElem?->pc,pairwise_map->YM,range->H9
open Nat renaming add_assoc->pk,le_refl->AX,le_trans->HA,lt_of_lt_of_le->K9,lt_trichotomy->aBw,zero_le->JJ
open Ne renaming symm->JK
open Option renaming bind_some->RR,getD_some->HB,map_some->MP,none->J,some->Z
open Option.some renaming inj->D3
open Or renaming inl->AA,inr->AF
open Prod renaming ext->RS,fst->pt,snd->aC4
open Std.Legacy.Range renaming forIn_eq_forIn_range'->yj,size->aUY
namespace Go.Proofs.YtcfhleenecfghaaGreatDoor.Twin
section
open Go.Proofs.YtcfhleenecfghaaGreatDoor
open Go.Conc Go.RowKit
variable{w:A'}
noncomputable def JM:Cv:=(Nj.body).getD aYT
noncomputable def lJ:Cv:=fstC JM
noncomputable def QZ:Cv:=sndC JM
noncomputable def lN:Cv:=fstC QZ
noncomputable def Q_:Cv:=sndC QZ
noncomputable def lO:Cv:=fstC Q_
noncomputable def Qa:Cv:=sndC Q_
noncomputable def lQ:Cv:=fstC Qa
noncomputable def Qb:Cv:=sndC Qa
noncomputable def lR:Cv:=fstC Qb
noncomputable def Qc:Cv:=sndC Qb
noncomputable def lS:Cv:=fstC Qc
noncomputable def Qd:Cv:=sndC Qc
noncomputable def lT:Cv:=fstC Qd
noncomputable def NQ:Cv:=sndC Qd
noncomputable def lU:Cv:=fstC NQ
noncomputable def QX:Cv:=sndC NQ
noncomputable def lK:Cv:=fstC QX
noncomputable def QY:Cv:=sndC QX
noncomputable def lL:Cv:=fstC QY
noncomputable def SG:Cv:=sndC QY
noncomputable def lM:Cv:=fstC SG
theorem aCd:JM=aYB lJ (aYB lN (aYB lO (aYB lQ (aYB lR (aYB lS (aYB lT (aYB lU (aYB lK (aYB lL (aYB lM aYT)))))))))):=by kernel_rfl
theorem aKq(f h m:A1)(w:A'):lJ.wp A4 (λe b w'=>e=aYP/\b.defers=[]/\w'=w.alloc (BE #[As J 0 0,AI ⟨#[]⟩] 59)/\b.tmps=#[f,h,m,Y,Y,Y,aY4 (Z ⟨w.heap.size,0,J⟩),aYA,Y,Y,Y,Y,Y,Y,Y,Y,Y,Y,Y,Y,Y,Y,Y,Y,Y,Y,Y,Y,Y,Y,Y,Y,Y,Y,Y,Y,Y,Y,Y,Y,Y,Y,Y,Y,Y,Y,Y,Y,Y,Y,Y,Y,Y,Y,Y,Y,Y,Y,Y,Y,Y,Y,Y,Y,Y]) ⟨#[f,h,m,Y,Y,Y,Y,Y,Y,Y,Y,Y,Y,Y,Y,Y,Y,Y,Y,Y,Y,Y,Y,Y,Y,Y,Y,Y,Y,Y,Y,Y,Y,Y,Y,Y,Y,Y,Y,Y,Y,Y,Y,Y,Y,Y,Y,Y,Y,Y,Y,Y,Y,Y,Y,Y,Y,Y,Y,Y,Y,Y,Y,Y,Y],[]⟩ w:=by simp only[lJ,JM,QZ,Q_,Qa,Qb,Qc,Qd,NQ,QX,QY,SG,Nj,HB,fstC,sndC];go_wp2;done
theorem aPl(b own:ByteArray)(d9:List Ax)(m:Int)(w:A')(y:V.Iv b)(f:Lz (V.parse b).1=Ml own d9)(I:b.size<=1000000000)(C:w.cell? ⟨0,0,J⟩=Z (IS Po m)):AZ A4 45 #[AI b] w λe w'=>∃p H,e=hq (aY8 #[As (Z ⟨p,0,J⟩) (d9.length+1) H,aYA])/\(∀j u,(Ml own d9)[j]?=Z u->w'.cell? ⟨p,j,J⟩=Z u)/\AS w.heap.size w w':=by
 refine(a4z b m w (by omega) C).mono ?_;rintro e K⟨D,x⟩;rcases D with⟨_,v,s,h2⟩|⟨h,_⟩
 ·rw[f]at h2;have A:(V.parse b).1.length=d9.length+1:=by have:=congrArg pa f;simpa[Lz,Ml]using this
  rw[A]at h2;obtain⟨g,c,rfl,_,_⟩:=tV h2 (by omega);exact⟨g,c,s,λj u z=>QV h2 j u z,x⟩
 ·exact absurd y h
theorem aKr(b own:ByteArray)(d9:List Ax)(m:Int)(D U g2 g9 m0 n3 B2 Ap Ar I K M N Q p3 y4 y6 Ak Ao An y3 pp rg v1 rt s1 s2 sm v6 wt p4 C9 CG CH c n r t E F P CI CJ CK CL CB CC CM CN CO CP CQ S CS CU CV CE CF CW CX CY CZ C_ Ca:A1)(w:A')(z:V.Iv b)(A:Lz (V.parse b).1=Ml own d9)(W:b.size<=1000000000)(C:w.cell? ⟨0,0,J⟩=Z (IS Po m)):lN.wp A4 (λe x w'=>e=aYP/\x.defers=[]/\∃f h,(∀j u,(Ml own d9)[j]?=Z u->w'.cell? ⟨f,j,J⟩=Z u)/\AS w.heap.size w w'/\x.tmps=#[AI b,D,U,g2,g9,m0,n3,B2,As (Z ⟨f,0,J⟩) (d9.length+1) h,aYA,I,K,M,N,Q,aY8 #[As (Z ⟨f,0,J⟩) (d9.length+1) h,aYA],AI b,aY8 #[As (Z ⟨f,0,J⟩) (d9.length+1) h,aYA],As (Z ⟨f,0,J⟩) (d9.length+1) h,aYA,An,y3,pp,rg,v1,rt,s1,s2,sm,v6,wt,p4,C9,CG,CH,c,n,r,t,E,F,P,CI,CJ,CK,CL,CB,CC,CM,CN,CO,CP,CQ,S,CS,CU,CV,CE,CF,CW,CX,CY,CZ,C_,Ca]) ⟨#[AI b,D,U,g2,g9,m0,n3,B2,Ap,Ar,I,K,M,N,Q,p3,y4,y6,Ak,Ao,An,y3,pp,rg,v1,rt,s1,s2,sm,v6,wt,p4,C9,CG,CH,c,n,r,t,E,F,P,CI,CJ,CK,CL,CB,CC,CM,CN,CO,CP,CQ,S,CS,CU,CV,CE,CF,CW,CX,CY,CZ,C_,Ca],[]⟩ w:=by have H:=A3 (aPl b own d9 m w z A W C);clear z A C;simp only[lN,JM,QZ,Q_,Qa,Qb,Qc,Qd,NQ,QX,QY,SG,Nj,HB,fstC,sndC];go_wp2_with(go_at_call 45;refine H.out.mono ?_;rintro e w1⟨f,h,rfl,y,h2⟩;have p:=A3 y;have s:=A3 h2;clear y h2);first|exact⟨f,h,p.out,s.out,rfl⟩|exact⟨p.out,s.out⟩
theorem aKv(f h I g2 g9 m0 n3 B2 Ap m p s x y z A C D H An y3 K M N Q U s2 sm v6 wt p4 C9 CG CH c j n r t u E CI CJ CK CL CB CC CM CN CO CP CQ F CS CU CV CE CF CW CX CY CZ C_ Ca:A1)(w:A'):lO.wp A4 (λe b w'=>e=aYP/\b.defers=[]/\w'=w/\b.tmps=#[f,h,I,g2,g9,m0,n3,B2,Ap,aYA,m,p,s,x,y,z,A,C,D,H,aYA,aY5 A5,K,M,N,Q,U,s2,sm,v6,wt,p4,C9,CG,CH,c,j,n,r,t,u,E,CI,CJ,CK,CL,CB,CC,CM,CN,CO,CP,CQ,F,CS,CU,CV,CE,CF,CW,CX,CY,CZ,C_,Ca]) ⟨#[f,h,I,g2,g9,m0,n3,B2,Ap,aYA,m,p,s,x,y,z,A,C,D,H,An,y3,K,M,N,Q,U,s2,sm,v6,wt,p4,C9,CG,CH,c,j,n,r,t,u,E,CI,CJ,CK,CL,CB,CC,CM,CN,CO,CP,CQ,F,CS,CU,CV,CE,CF,CW,CX,CY,CZ,C_,Ca],[]⟩ w:=by simp only[lO,JM,QZ,Q_,Qa,Qb,Qc,Qd,NQ,QX,QY,SG,Nj,HB,fstC,sndC];go_wp2;done
theorem aKw(f h U g9 m0 n3 B2 Ap Ar Am m p s x y z A C D I K M N v1 rt s1 s2 sm Q wt p4 C9 CG CH c j n r t u E CI CJ CK CL CB CC CM CN CO CP CQ F CS CU CV CE CF CW CX CY CZ C_ Ca:A1)(w:A'):lQ.wp A4 (λe b w'=>e=aYP/\b.defers=[]/\w'=w/\b.tmps=#[f,h,AI ⟨#[]⟩,U,g9,m0,n3,B2,Ap,aYA,As J 0 0,m,p,s,x,y,z,A,C,D,I,K,M,N,aY8 #[As J 0 0,aYA],AI ⟨#[]⟩,aY8 #[As J 0 0,aYA],As J 0 0,aYA,Q,wt,p4,C9,CG,CH,c,j,n,r,t,u,E,CI,CJ,CK,CL,CB,CC,CM,CN,CO,CP,CQ,F,CS,CU,CV,CE,CF,CW,CX,CY,CZ,C_,Ca]) ⟨#[f,h,AI ⟨#[]⟩,U,g9,m0,n3,B2,Ap,Ar,Am,m,p,s,x,y,z,A,C,D,I,K,M,N,v1,rt,s1,s2,sm,Q,wt,p4,C9,CG,CH,c,j,n,r,t,u,E,CI,CJ,CK,CL,CB,CC,CM,CN,CO,CP,CQ,F,CS,CU,CV,CE,CF,CW,CX,CY,CZ,C_,Ca],[]⟩ w:=by have H:=A3 (aKa w);simp only[lQ,JM,QZ,Q_,Qa,Qb,Qc,Qd,NQ,QX,QY,SG,Nj,HB,fstC,sndC];go_wp2_with(go_at_call 57;refine H.out.mono ?_;rintro e w1⟨rfl,rfl⟩);done
theorem aKx(f h I g2 g9 m0 n3 B2 Ap m p s x y z A C D H K M N Q U rt s1 s2 sm v6 wt p4 C9 CG CH c j n r t u E CI CJ CK CL CB CC CM CN CO CP CQ F CS CU CV CE CF CW CX CY CZ C_ Ca:A1)(w:A'):lR.wp A4 (λe b w'=>e=aYP/\b.defers=[]/\w'=w/\b.tmps=#[f,h,I,g2,g9,m0,n3,B2,Ap,aYA,m,p,s,x,y,z,A,C,D,H,K,M,N,Q,U,rt,s1,s2,sm,aYA,aY5 A5,p4,C9,CG,CH,c,j,n,r,t,u,E,CI,CJ,CK,CL,CB,CC,CM,CN,CO,CP,CQ,F,CS,CU,CV,CE,CF,CW,CX,CY,CZ,C_,Ca]) ⟨#[f,h,I,g2,g9,m0,n3,B2,Ap,aYA,m,p,s,x,y,z,A,C,D,H,K,M,N,Q,U,rt,s1,s2,sm,v6,wt,p4,C9,CG,CH,c,j,n,r,t,u,E,CI,CJ,CK,CL,CB,CC,CM,CN,CO,CP,CQ,F,CS,CU,CV,CE,CF,CW,CX,CY,CZ,C_,Ca],[]⟩ w:=by simp only[lR,JM,QZ,Q_,Qa,Qb,Qc,Qd,NQ,QX,QY,SG,Nj,HB,fstC,sndC];go_wp2;done
theorem aKy(own:ByteArray)(d9:List Ax)(b m:Nat)(C D g0 g2 g9 m0 n3 B2 Ar I W K M N Q U y6 Ak Ao An y3 pp rg v1 rt s1 s2 sm v6 wt p4 C9 CG CH c n r t E F P CI CJ CK CL CB CC CM CN CO CP CQ S CS CU CV CE CF CW CX CY CZ C_ Ca:A1)(w:A')(A9:d9.length<=1000000)(hc:∀j u,(Ml own d9)[j]?=Z u->w.cell? ⟨b,j,J⟩=Z u):lS.wp A4 (λe z w'=>e=aYP/\z.defers=[]/\∃f h x,w.heap.size<=x/\w'.heap[x]?=Z (BE #[AI own,As f d9.length h,As J 0 0,As J 0 0] 128)/\HO w' (As f d9.length h) d9/\AS w.heap.size w w'/\z.tmps=#[C,D,g0,g2,g9,m0,n3,B2,As (Z ⟨b,0,J⟩) (d9.length+1) m,Ar,I,aY4 (Z ⟨x,0,J⟩),K,M,N,Q,U,y6,Ak,Ao,An,y3,pp,rg,v1,rt,s1,s2,sm,v6,wt,p4,C9,As (Z ⟨b,0,J⟩) (d9.length+1) m,dd #[AI own,As f d9.length h,As J 0 0,As J 0 0],c,n,r,t,E,F,P,CI,CJ,CK,CL,CB,CC,CM,CN,CO,CP,CQ,S,CS,CU,CV,CE,CF,CW,CX,CY,CZ,C_,Ca]) ⟨#[C,D,g0,g2,g9,m0,n3,B2,As (Z ⟨b,0,J⟩) (d9.length+1) m,Ar,I,W,K,M,N,Q,U,y6,Ak,Ao,An,y3,pp,rg,v1,rt,s1,s2,sm,v6,wt,p4,C9,CG,CH,c,n,r,t,E,F,P,CI,CJ,CK,CL,CB,CC,CM,CN,CO,CP,CQ,S,CS,CU,CV,CE,CF,CW,CX,CY,CZ,C_,Ca],[]⟩ w:=by have H:=A3 (a'X b m own d9 w (by omega) hc);clear hc;simp only[lS,JM,QZ,Q_,Qa,Qb,Qc,Qd,NQ,QX,QY,SG,Nj,HB,fstC,sndC];go_wp2_with(go_at_call 58;refine H.out.mono ?_;rintro e y⟨B5,rfl,s,A⟩;have X:=A3 (tk s);(obtain⟨f,h,rfl⟩:=NO s);have p:=A3 A;clear s A);refine⟨f,h,y.heap.size,p.out.size,FX y _ _ rfl,X.out.below ((B9 _ y).alloc (AX _) _),p.out.alloc p.out.size _,?_⟩;first|done|simp|rfl
theorem aKz(u:A1)(A:List Cb)(h m K g2 g9 m0 n3 B2 Ap Ar p s p2 x y z C D I M N Q U v1 rt s1 s2 sm v6 wt p4 C9 CG CH c j n r t E F CI CJ CK CL CB CC CM CN CO CP CQ P CS CU CV CE CF CW CX CY CZ C_ Ca:A1)(w:A')(hv:Jh w u A)(S:A.length<=1000000):lU.wp A4 (λe b w'=>e=aYP/\b.defers=[]/\AS w.heap.size w w'/\b.tmps=#[h,m,K,g2,g9,m0,n3,B2,Ap,Ar,p,s,u,aYA,x,y,z,C,D,I,M,N,Q,U,v1,rt,s1,s2,sm,v6,wt,p4,C9,CG,CH,c,j,n,r,t,E,F,u,aYA,aYA,aY5 A5,CB,CC,CM,CN,CO,CP,CQ,P,CS,CU,CV,CE,CF,CW,CX,CY,CZ,C_,Ca]) ⟨#[h,m,K,g2,g9,m0,n3,B2,Ap,Ar,p,s,u,p2,x,y,z,C,D,I,M,N,Q,U,v1,rt,s1,s2,sm,v6,wt,p4,C9,CG,CH,c,j,n,r,t,E,F,CI,CJ,CK,CL,CB,CC,CM,CN,CO,CP,CQ,P,CS,CU,CV,CE,CF,CW,CX,CY,CZ,C_,Ca],[]⟩ w:=by have H:=A3 (aFB u A w hv S);clear hv;simp only[lU,JM,QZ,Q_,Qa,Qb,Qc,Qd,NQ,QX,QY,SG,Nj,HB,fstC,sndC];go_wp2_with(go_at_call 62;refine H.out.mono ?_;rintro e w1⟨rfl,f⟩;have W:=A3 f;clear f);exact W.out
theorem aKs(u:A1)(A:List Cb)(m:Int)(f:Rel->ByteArray)(g5 j g0 g2 g9 m0 n3 B2 Ap Ar n p2 up p3 y4 y6 Ak Ao An y3 pp rg v1 rt s1 s2 sm v6 wt p4 C9 CG CH t F P S W X GA CI CJ CK CL CB CC CM CN CO CP CQ CR CS CU CV CE CF CW CX CY CZ C_ Ca:A1)(w:A')(hv:Jh w u A)(U:A.length<=1000000)(hs:∀x∈A,x.rel.v.size<=40)(N:(Gr A).Pairwise λa b=>GM a.name b.name≠0)(M:w.cell? ⟨0,0,J⟩=Z (IS Po m))(NH:w.cell? ⟨5,15,J⟩=Z (IS aYL 4))(QS:∀x∈A,Q3 w x.rel (f x.rel)):lK.wp A4 (λe Q w'=>e=aYP/\Q.defers=[]/\∃MW p E,Pl w' p E/\E.Perm (Jn f (Gr A))/\Xa E/\AS w.heap.size w w'/\Q.tmps=#[g5,j,g0,g2,g9,m0,n3,B2,Ap,aYA,As J 0 0,n,u,p2,p,p3,y4,y6,Ak,Ao,An,y3,pp,rg,v1,rt,s1,s2,sm,v6,wt,p4,C9,CG,CH,t,F,P,S,W,X,GA,CI,CJ,CK,CL,CB,CC,aY8 #[p,aYA],As J 0 0,u,MW,aY8 #[p,aYA],p,aYA,CU,CV,CE,CF,CW,CX,CY,CZ,C_,Ca]) ⟨#[g5,j,g0,g2,g9,m0,n3,B2,Ap,Ar,As J 0 0,n,u,p2,up,p3,y4,y6,Ak,Ao,An,y3,pp,rg,v1,rt,s1,s2,sm,v6,wt,p4,C9,CG,CH,t,F,P,S,W,X,GA,CI,CJ,CK,CL,CB,CC,CM,CN,CO,CP,CQ,CR,CS,CU,CV,CE,CF,CW,CX,CY,CZ,C_,Ca],[]⟩ w:=by
 have I:=A3 (aEr u A m f w hv U hs N M NH QS);have D2:=A3 M;have DU:AP (∀x∈Jn f (Gr A),x.1.2.size<=40):=A3 λx hx=>by obtain⟨r,A2,rfl⟩:=List.mem_map.1 hx;obtain⟨y,hy,rfl⟩:=List.mem_map.1 A2;exact hs y hy
 have EW:AP ((Jn f (Gr A)).Pairwise λa b=>GM a.1 b.1≠0):=A3 (by unfold Jn;rw[YM];exact N);have I7:AP ((Jn f (Gr A)).length=A.length):=A3 (by simp[Jn,Gr]);clear hv hs N M NH QS;have H:AP (∀g c R wx,R.Perm (Gr A)->AS w.heap.size w wx->wx.ownsRow w.heap.size 217 3 (As (Z ⟨g,0,J⟩) R.length c) R.length (Kj (Jn f R))->AZ A4 63 #[As J 0 0,As (Z ⟨g,0,J⟩) R.length c] wx λe w'=>∃v E,e=hq (aY8 #[v,aYA])/\E.Perm (Jn f (Gr A))/\Xa E/\Pl w' v E/\AS wx.heap.size wx w'):=A3 λg c R wx D z C=>by
  have X':(Jn f R).Perm (Jn f (Gr A)):=D.map _;have A9:(Jn f R).length=R.length:=by simp[Jn]
  have h:=aMY g c m (Jn f R) wx (a'1 C) (by rw[X'.length_eq,I7.out];exact U) (λx hx=>DU.out x (X'.mem_iff.1 hx)) ((X'.pairwise_iff λ{a b}h=>lo h).2 EW.out) (Aw z D2.out);rw[A9]at h;refine h.mono ?_;rintro e w'⟨v,E,h1,h2,h3,h4,s⟩;exact⟨v,E,h1,h2.trans X',h3,h4,s⟩
 simp only[lK,JM,QZ,Q_,Qa,Qb,Qc,Qd,NQ,QX,QY,SG,Nj,HB,fstC,sndC];go_wp2_with(first|(go_at_call 64;refine I.out.mono ?_;rintro e w1⟨ef,Yg,R,rfl,D,-,C,z⟩;have E4:=A3 D;have Cx:=A3 C;have K:=A3 z;clear D C z)|(go_at_call 63;refine(H.out _ _ _ _ E4.out K.out Cx.out).mono ?_;rintro e w2⟨p,E,rfl,h2,h3,h4,s⟩;have K7:=A3 h2;have Vu:=A3 h3;have dk:=A3 h4;have dm:=A3 (K.out.trans (s.mono K.out.size));clear h2 h3 h4 s));refine⟨As (Z ⟨ef,0,J⟩) R.length Yg,p,E,dk.out,K7.out,Vu.out,dm.out,?_⟩;simp
theorem aKt(f h I g2 g9 m0 n3 B2 Ap m p s x y z A C D H K M N Q U rt s1 s2 sm v6 wt p4 C9 CG CH c j n r t u E CI CJ CK CL CB CC CM CN CO CP CQ F CS CU CV CE CF CW CX CY CZ C_ Ca:A1)(w:A'):lL.wp A4 (λe b w'=>e=aYP/\b.defers=[]/\w'=w/\b.tmps=#[f,h,I,g2,g9,m0,n3,B2,Ap,aYA,m,p,s,x,y,z,A,C,D,H,K,M,N,Q,U,rt,s1,s2,sm,v6,wt,p4,C9,CG,CH,c,j,n,r,t,u,E,CI,CJ,CK,CL,CB,CC,CM,CN,CO,CP,CQ,F,CS,aYA,aY5 A5,CE,CF,CW,CX,CY,CZ,C_,Ca]) ⟨#[f,h,I,g2,g9,m0,n3,B2,Ap,aYA,m,p,s,x,y,z,A,C,D,H,K,M,N,Q,U,rt,s1,s2,sm,v6,wt,p4,C9,CG,CH,c,j,n,r,t,u,E,CI,CJ,CK,CL,CB,CC,CM,CN,CO,CP,CQ,F,CS,CU,CV,CE,CF,CW,CX,CY,CZ,C_,Ca],[]⟩ w:=by simp only[lL,JM,QZ,Q_,Qa,Qb,Qc,Qd,NQ,QX,QY,SG,Nj,HB,fstC,sndC];go_wp2;done
theorem ml(L:List Cb):∀k,∀x∈Ex L k,x∈L
 |0,x,hx=>by cases hx
 |k+1,x,hx=>by
  unfold Ex at hx;split at hx
  ·rename_i y hy;split at hx
   ·rcases List.mem_append.1 hx with hx|hx;·exact ml L k x hx
    ·rw[List.mem_singleton.1 hx];exact pc hy
   ·exact ml L k x hx
  ·exact ml L k x hx
theorem ln{w':A'}{v:A1}{l:List Ax}(h:HO w v l)(e:∀g,v.ownBlock=Z g->w'.heap[g]?=w.heap[g]?):HO w' v l:=by
 rcases h with h|⟨g,c,rfl,h2⟩;·exact AA h
 ·have hc:=λo=>F4 (a:=⟨g,o,J⟩) (e g rfl);exact AF ⟨g,c,rfl,λj b=>⟨(hc _).trans (h2 j b).1,(hc _).trans (h2 j b).2⟩⟩
theorem aMs(L:List Cb):(names L).length=L.length:=by simp[names]
theorem aKu(u z:A1)(A:List Cb)(E:List Fy)(B:Nat)(g5 r g0 g2 g9 m0 B2 Ap Ar Am t p2 p3 y4 y6 Ak Ao An y3 pp rg v1 rt s1 s2 sm v6 wt p4 C9 CG CH F P S W X G9 GA CI CJ CK CL CB CC CM CN CO CP CQ CR CS CU CV CE CF CW CX CY CZ C_ Ca:A1)(w:A')(DC:w.heap[B]?=Z (BE #[As J 0 0,AI ⟨#[]⟩] 59))(hv:Jh w u A)(hn:∀x∈A,H7 w (λ_=>True) x.B5 x.rel.DT)(BI:A.length<=1000000)(hs:∀x∈A,x.rel.p.size<=1000/\x.rel.v.size<=1000)(fd:Pl w z E)(rH:E.length<=1000000)(kC:∀x∈E,x.1.1.size<=1000/\x.1.2.size<=1000/\x.2.size<=1000):lM.wp A4 (λe a' w'=>e=aYP/\a'.defers=[]/\∃s m,w'.heap[B]?=Z (BE #[m,AI ⟨(KE E).toArray⟩] 59)/\HO w' m (names (Ex A A.length))/\(w.heap.size<=w'.heap.size/\∀b,b<w.heap.size->b≠B->w'.heap[b]?=w.heap[b]?)/\a'.tmps=#[g5,r,g0,g2,g9,m0,aY4 (Z ⟨B,0,J⟩),aYA,Ap,Ar,Am,t,u,p2,z,p3,y4,y6,Ak,Ao,An,y3,pp,rg,v1,rt,s1,s2,sm,v6,wt,p4,C9,CG,CH,F,P,S,W,X,G9,GA,CI,CJ,CK,CL,CB,CC,CM,CN,CO,CP,CQ,CR,CS,CU,CV,CE,CF,u,s,m,z,AI ⟨(KE E).toArray⟩,dd #[m,AI ⟨(KE E).toArray⟩]]) ⟨#[g5,r,g0,g2,g9,m0,aY4 (Z ⟨B,0,J⟩),B2,Ap,Ar,Am,t,u,p2,z,p3,y4,y6,Ak,Ao,An,y3,pp,rg,v1,rt,s1,s2,sm,v6,wt,p4,C9,CG,CH,F,P,S,W,X,G9,GA,CI,CJ,CK,CL,CB,CC,CM,CN,CO,CP,CQ,CR,CS,CU,CV,CE,CF,CW,CX,CY,CZ,C_,Ca],[]⟩ w:=by
 have c:∀x∈Ex A A.length,x∈A:=ml A A.length;have I:=A3 (aS8 u A w hv BI);have H:AP (∀s wx,wx.ownsRow w.heap.size 234 8 s (Ex A A.length).length (HV (Ex A A.length))->AS w.heap.size w wx->AZ A4 65 #[s] wx λe w'=>∃m,e=hq m/\w'.ownsRow wx.heap.size 85 2 m (Ex A A.length).length (F1 (names (Ex A A.length)))/\AS wx.heap.size wx w'):=A3 λs wx h f=>aKl s _ wx (aPg h λx hx=>(gU (hn x (c x hx))).below f) (HA (vC A A.length) BI) λx hx=>⟨by have:=(hs x (c x hx)).1;omega,by have:=(hs x (c x hx)).2;omega⟩;have K:AP (∀wx,AS w.heap.size w wx->AZ A4 67 #[z] wx λe w'=>e=hq (AI ⟨(KE E).toArray⟩)/\AS wx.heap.size wx w'):=A3 λwx f=>aSF z E wx (fd.below f) rH kC;have dp:=A3 DC;clear hv hn hs fd kC DC;simp only[lM,JM,QZ,Q_,Qa,Qb,Qc,Qd,NQ,QX,QY,SG,Nj,HB,fstC,sndC];go_wp2_with(first|(go_at_call 66;refine I.out.mono ?_;rintro e w1⟨s,rfl,h,f⟩;have Cx:=A3 h;have D:=A3 f;clear h f)|(go_at_call 65;refine(H.out _ _ Cx.out D.out).mono ?_;rintro e w2⟨m,rfl,h,f⟩;(obtain⟨j,n,rfl⟩:=NO h);have Lb:=A3 h;have M:=A3 (D.out.trans (f.mono D.out.size));clear h f)|(go_at_call 67;refine(K.out _ M.out).mono ?_;rintro e C⟨rfl,f⟩;have Q:=A3 (M.out.trans (f.mono M.out.size));have N:=A3 f;(have y:=IF Q.out dp.out);(have J8:C.cell? ⟨B,0,J⟩=Z (As J 0 0):=by rw[Ad y];rfl);(have DQ:C.cell? ⟨B,1,J⟩=Z (AI ⟨#[]⟩):=by rw[Ad y];rfl);have Dg:=Dv y 0;have FG:=Dv y 1;have U:=A3 y;clear f y));have a'h:B<w.heap.size:=O0 dp.out;have bn:∀b,b≠B->((C.setCell ⟨B,0,J⟩ (As j (Ex A A.length).length n)).setCell ⟨B,1,J⟩ (AI ⟨(KE E).toArray⟩)).heap[b]?=C.heap[b]?:=λb f=>by rw[F_ _ _ _ _ (show b≠B from f),F_ _ _ _ _ (show b≠B from f)]
 refine⟨s,As j (Ex A A.length).length n,?_,?_,⟨Q.out.size,λb f md=>(bn b md).trans (Q.out.block b f)⟩,rfl,rfl⟩;·exact EV _ B 1 _ _ (AI ⟨(KE E).toArray⟩) (EV C B 0 _ _ _ U.out)
 ·have h1:HO w2 (As j (Ex A A.length).length n) (names (Ex A A.length)):=tk (by rw[aMs];exact Lb.out);refine ln (h1.below N.out) λg AB=>bn g ?_;have h2:=(Lb.out.lt g AB).1;have h3:=D.out.size;omega
theorem aDd:F8 A4 Dw Dc [] 8 lJ=A0:=by kernel_rfl
theorem aDe:F8 A4 Dw Dc [] 8 lN=A0:=by kernel_rfl
theorem aDf:F8 A4 Dw Dc [] 8 lO=A0:=by kernel_rfl
theorem aDg:F8 A4 Dw Dc [] 8 lQ=A0:=by kernel_rfl
theorem aDh:F8 A4 Dw Dc [] 8 lR=A0:=by kernel_rfl
theorem aDi:F8 A4 Dw Dc [] 8 lS=A0:=by kernel_rfl
theorem Goes.draw{Wb:Nat->Prop}{b:AY}{a:Ja}{q:List Cw}{cs:List AY}{id:Nat}{ops:Array Bf}{Post:(Nat->Prop)->AK->A'->Prop}(k:∀o∈Tq .any ops ops.size (Sf ops.size A5),∀d,Goes Wb (G (b.at a (aY7 ops o::q)) cs) (w.at d) Post):Goes Wb (G (b.at a (aY9 (aYH id ops A0)::q)) cs) w Post:=by
 have p:A4.follows .mixedOrders=A0:=by kernel_rfl
 refine .JW (Stop:=λf h=>∃o∈Tq .any ops ops.size (Sf ops.size A5),f=G (b.at a (aY7 ops o::q)) cs/\∃d,h=w.at d) (.step rfl λd=>⟨_,_,#[],EM Wb w.heap.size,stepG_region_draw,⟨AX _,λ_ _ _=>rfl,rfl,rfl,rfl,λb=>⟨λx=>AA x,λx=>x.elim (λz=>z) λy=>absurd y.2 (Nat.not_lt.2 y.1)⟩,λe he=>by simp at he⟩,.stop λm=>?_⟩) ?_;·refine⟨_,?_,rfl,m,rfl⟩;unfold Region.schedule;rw[p];exact uA _ _ _ _ _
 ·rintro f h⟨o,s,rfl,d,rfl⟩;exact k o s d
noncomputable def J7:Array Bf:=match lT with|aYH _ ops _=>ops|_=>#[]
theorem aK1:lT=aYH 8 J7 A0:=by kernel_rfl
theorem a3q:J7.size=8:=by kernel_rfl
def zy(D:Nat->Bool):Nat->Bool|0=>A0|1=>A0|2=>D 1|3=>D 0&&D 2|4=>A0|5=>D 4|6=>D 3&&D 5|7=>D 6|_=>A5
def mA(D:Nat->Bool):List Nat->Bool|[]=>D 7|i::r=>!D i&&(zy D i&&mA (λj=>j==i||D j) r)
theorem aNG:(Tq .any J7 8 (Sf 8 A5)).all (mA λ_=>A5)=A0:=by kernel_rfl
open Go.ConcR(Payload)
variable{Post:(Nat->Prop)->AK->A'->Prop}{w w0:A'}{Ak Am An Ao Ap Ar B0 B2 Bi C5 C9 CB CC CE CF CG CH CI CJ CK CL CM CN CO CP CQ CS CU CV CW CX CY CZ C_ Ca Ce Cf Cj Cp D1 g0 g2 g5 g9 m0 n3 p2 p3 p4 pp rg rt s1 s2 sm up v v1 v6 wt y3 y4 y6:A1}{c':AY}{T:Array A1}{s:ByteArray}{ρ:C2->A1}{m:Int}{cs cs':List AY}{d9:List Ax}{q:List Cw}{Gs:List Rel}{Aj bi br cap d f2:Nat}{D:Nat->Bool}{Cn FA R Wb:Nat->Prop}{p:Nat×Nat}{Al a:Option Aa}{f:Rel->ByteArray}
noncomputable def KQ(i:Nat):Bf:=J7.getD i Ag
theorem VQ(i:Nat)(h:i<8):J7[i]?=Z (KQ i):=by unfold KQ;rw[JX,ET (by rw[a3q];exact h)];rfl
theorem aG0:∀i,i<8->(KQ i).guard=J|0,_=>by kernel_rfl|1,_=>by kernel_rfl|2,_=>by kernel_rfl|3,_=>by kernel_rfl|4,_=>by kernel_rfl|5,_=>by kernel_rfl|6,_=>by kernel_rfl|7,_=>by kernel_rfl
theorem XT(i:Nat)(h:i<8)(y:_):EY (KQ i) y=A0:=by simp[EY,aG0 i h]
structure Pj(w0:A')(Cn FA:Nat->Prop)(own:ByteArray)(d9:List Ax)(Al:Option Aa)(Aj f2 bi:Nat)(Gs:List Rel)(m:Int):Prop where
 whole:Whole Gs d9 own
 mh:∀x∈d9,x.1≠own
 check:∀r∈Gs,V.Jo r.p r.v=J
 aR2:∀r∈Gs,r.p.size<=1000000/\r.v.size<=1000000
 parts:w0.heap[f2]?=Z (BE #[AI own,As Al d9.length Aj,As J 0 0,As J 0 0] 128)
 a1k:Cn f2
 DT:HO w0 (As Al d9.length Aj) d9
 aJb:∀g,Value.ownBlock (As Al d9.length Aj)=Z g->Cn g
 reg:Kf w0 bi Gs
 sub:∀b,FA b->Cn b
 Hm:N1 reads FA w0
 SE:FA bi
 files:∀r∈Gs,∀a,r.Bj=Z a->FA a.block
 low:∀b,Cn b->b<w0.heap.size
 EF:w0.cell? ⟨0,0,J⟩=Z (IS Po m)
structure Jf(w0:A')(Cn:Nat->Prop)(own:ByteArray)(d9:List Ax)(Al:Option Aa)(Aj f2 bi cap:Nat)(Gs:List Rel)(D:Nat->Bool)(R:Nat->Prop)(Cj B0 Bi C5 Ce D1 Cf Cp:A1)(w:A'):Prop where
 old:∀b,Cn b->R b/\w.heap[b]?=w0.heap[b]?
 c0:D 0=A0->Cj=dd #[AI own,As Al d9.length Aj,As J 0 0,As J 0 0]
 c1:D 1=A0->B0=As (Z ⟨bi,0,J⟩) Gs.length cap
 c2:D 2=A0->∃Aq,Bi=dd #[As (Z ⟨bi,0,J⟩) Gs.length cap,.map (Z Aq)]/\w.heap[Aq]?=Z (oF (Eb (places Gs)) Gs.length)
 c3:D 3=A0->D 6=A0∨∃r1 r2 Aq,C5=HW own r1 r2 bi Gs.length cap Aq/\w.heap[r1]?=Z (oF #[] 0)/\w.heap[r2]?=Z (oF #[] 0)/\w.heap[Aq]?=Z (oF (Eb (places Gs)) Gs.length)
 c4:D 4=A0->Ce=aY4 (Z ⟨f2,1,J⟩)
 c5:D 5=A0->D1=As Al d9.length Aj
 FO:D 6=A0->∃A,W4 Gs d9 Cn R w0 Cf A w
 F7:D 7=A0->D 6=A0/\Cp=Cf
 d6:D 6=A0->D 3=A0
 d3:D 3=A0->D 2=A0
theorem Jf.next{own:ByteArray}{R':Nat->Prop}{w':A'}(h:Jf w0 Cn own d9 Al Aj f2 bi cap Gs D R Cj B0 Bi C5 Ce D1 Cf Cp w)(s:∀b,R b->R' b)(e:∀b,b<w.heap.size->w'.heap[b]?=w.heap[b]?)(y:∀b,R b->b<w.heap.size)(x:D 6=A0->w'.heap=w.heap):Jf w0 Cn own d9 Al Aj f2 bi cap Gs D R' Cj B0 Bi C5 Ce D1 Cf Cp w':=by
 have hs:∀{b o},w.heap[b]?=Z o->w'.heap[b]?=Z o:=λ{b o}f=>(e b (O0 f)).trans f;refine⟨λb f=>⟨s b (h.old b f).1,(e b (y b (h.old b f).1)).trans (h.old b f).2⟩,h.c0,h.c1,λm=>?_,λm=>?_,h.c4,h.c5,λm=>?_,h.F7,h.d6,h.d3⟩;·obtain⟨p,a,b⟩:=h.c2 m;exact⟨p,a,hs b⟩
 ·rcases h.c3 m with h|⟨C,H,p,a,b,c,d⟩;·exact AA h
  ·exact AF ⟨C,H,p,a,hs b,hs c,hs d⟩
 ·obtain⟨A,z⟩:=h.FO m;exact⟨A,z.heap (x m) s⟩
theorem a3J{F:Nat->Prop}{E:AN}:∀(l:List MapEntry),(∀e∈l,(∃p:Ax,e.key=Gk p)/\∃n:Int,e.val=IS Po n)->E5 F E l l|[],_=>.nil|⟨k,v,n⟩::l,h=>by obtain⟨⟨p,b⟩,z,hv⟩:=h ⟨k,v,n⟩ (by simp);simp only at b hv;subst b hv;exact .cons (.agg (.cons (.string _) (.cons (.string _) .nil))) (.int _ _) (a3J l λe he=>h e (by simp[he]))
theorem aOI{F:Nat->Prop}{E:AN}(l:List (Ax×Nat)):E5 F E (Eb l).toList (Eb l).toList:=a3J _ λe he=>by obtain⟨x,_,b,h2⟩:=a2z he;exact⟨⟨_,b⟩,_,h2⟩
theorem Hq(i j:Nat)(h:D j=A0):(λj=>j==i||D j) j=A0:=by simp[h]
theorem DR{i:Nat}(j:Nat)(b:j≠i)(h:(λj=>j==i||D j) j=A0):D j=A0:=by simpa[b]using h
theorem at8(i:Nat):(λj=>j==i||D j) i=A0:=by simp
theorem aRm{own:ByteArray}{r1 r2 j:Nat}(f:Pj w0 Cn FA own d9 Al Aj f2 bi Gs m)(s:∀b,Cn b->R b/\w.heap[b]?=w0.heap[b]?)(C:∀b,R b->b<w.heap.size)(A:w.heap[r1]?=Z (oF #[] 0))(h2:w.heap[r2]?=Z (oF #[] 0))(D:w.heap[j]?=Z (oF (Eb (places Gs)) Gs.length))(M:R r1)(N:R r2)(x:R j):aw w R (λb=>FA b∨b=r1∨b=r2∨b=j) own r1 r2 bi j Gs:=by
 have hs:∀b,FA b->w.heap[b]?=w0.heap[b]?:=λb h=>(s b (f.sub b h)).2;refine⟨λb h=>?_,⟨λb h=>?_,λb h=>AA (f.Hm.EF b h),?_⟩,⟨⟨m,?_⟩,⟨0,A⟩,⟨0,h2⟩,⟨_,D⟩,λi hi=>?_⟩,AF (AA rfl),AF (AF (AA rfl)),AA f.SE,AF (AF (AF rfl)),λr K a I=>AA (f.files r K a I),C⟩
 ·rcases h with h|rfl|rfl|rfl;·exact(s b (f.sub b h)).1
  ·exact M
  ·exact N
  ·exact x
 ·rcases h with h|rfl|rfl|rfl;·obtain⟨o,e,k,z⟩:=f.Hm.heap b h;exact⟨o,(hs b h).trans e,k.mono (OK λc y=>AA y),z⟩
  ·exact⟨_,A,.map _ .nil,λc t p e=>by cases e⟩
  ·exact⟨_,h2,.map _ .nil,λc t p e=>by cases e⟩
  ·exact⟨_,D,.map _ (aOI _),λc t p e=>by cases e⟩
 ·have H:D4-1<D4:=by decide
  have:=C _ (s _ (f.sub _ (f.Hm.EF (D4-1) H))).1;omega
 ·exact(F4 (a:=⟨0,0,J⟩) (hs 0 (f.Hm.EF 0 (by decide)))).trans f.EF
 ·have hc:=λo=>F4 (a:=⟨bi,o,J⟩) (hs bi f.SE);obtain⟨a,b,c,d⟩:=f.reg i hi;exact⟨(hc _).trans a,(hc _).trans b,(hc _).trans c,(hc _).trans d⟩
theorem aKn{v0 c e v3:A1}(h2:ρ (oM 11)=Af br)(h:w.heap[br]?=Z (BE #[v0,c,e,v3] 128 p)):(AU ρ (KQ 0)).run A4 w=aY6 (aYD (dd #[v0,c,e,v3])) w:=by
 have b:(KQ 0).op=.load 128 (oM 11):=by kernel_rfl
 unfold AU;rw[b];simp only[h2];have c0:w.cell? ⟨br,0,J⟩=Z v0:=by simp[F3,h]
 have c1:w.cell? ⟨br,1,J⟩=Z c:=by simp[F3,h]
 have c2:w.cell? ⟨br,2,J⟩=Z e:=by simp[F3,h]
 have c3:w.cell? ⟨br,3,J⟩=Z v3:=by simp[F3,h]
 simp[go_sem,c0,c1,c2,c3]
theorem aKm{v0 e v3:A1}{n c:Nat}(h2:ρ (oM 39)=aY4 (Z ⟨br,1,J⟩))(h:w.heap[br]?=Z (BE #[v0,As a n c,e,v3] 128 p)):(AU ρ (KQ 5)).run A4 w=aY6 (aYD (As a n c)) w:=by
 have b:(KQ 5).op=.load 124 (oM 39):=by kernel_rfl
 unfold AU;rw[b];simp only[h2];have c1:w.cell? ⟨br,1,J⟩=Z (As a n c):=by simp[F3,h]
 simp[go_sem,c1]
theorem aFM(h2:ρ (oM 11)=Af br):(AU ρ (KQ 4)).run A4 w=aY6 (aYD (aY4 (Z ⟨br,1,J⟩))) w:=by
 have b:(KQ 4).op=.fieldAddr 128 (oM 11) 1:=by kernel_rfl
 unfold AU;rw[b];simp only[h2];simp[go_sem]
theorem aRT{own:ByteArray}{rest:List Nat}{c:A1}(p:Pj w0 Cn FA own d9 Al Aj f2 bi Gs m)(s:Holds Wb R w)(C:Ah R #[g5,As (Z ⟨bi,0,J⟩) Gs.length cap,g0,g2,g9,m0,n3,B2,Ap,Ar,Am,aY4 (Z ⟨f2,0,J⟩),Cp,p2,up,p3,y4,y6,Ak,Ao,An,y3,pp,rg,v1,rt,s1,s2,sm,v6,wt,p4,C9,CG,CH,Cj,B0,Bi,C5,Ce,D1,Cf,CI,CJ,CK,CL,CB,CC,CM,CN,CO,CP,CQ,c,CS,CU,CV,CE,CF,CW,CX,CY,CZ,C_,Ca])(h:Jf w0 Cn own d9 Al Aj f2 bi cap Gs D R Cj B0 Bi C5 Ce D1 Cf Cp w)(k:∀(f R':Nat->Prop)(w':A'),Holds f R' w'->Ah R' #[g5,As (Z ⟨bi,0,J⟩) Gs.length cap,g0,g2,g9,m0,n3,B2,Ap,Ar,Am,aY4 (Z ⟨f2,0,J⟩),Cp,p2,up,p3,y4,y6,Ak,Ao,An,y3,pp,rg,v1,rt,s1,s2,sm,v6,wt,p4,C9,CG,CH,dd #[AI own,As Al d9.length Aj,As J 0 0,As J 0 0],B0,Bi,C5,Ce,D1,Cf,CI,CJ,CK,CL,CB,CC,CM,CN,CO,CP,CQ,c,CS,CU,CV,CE,CF,CW,CX,CY,CZ,C_,Ca]->Jf w0 Cn own d9 Al Aj f2 bi cap Gs (λj=>j==0||D j) R' (dd #[AI own,As Al d9.length Aj,As J 0 0,As J 0 0]) B0 Bi C5 Ce D1 Cf Cp w'->Goes f (G ((AL 30).at ⟨#[g5,As (Z ⟨bi,0,J⟩) Gs.length cap,g0,g2,g9,m0,n3,B2,Ap,Ar,Am,aY4 (Z ⟨f2,0,J⟩),Cp,p2,up,p3,y4,y6,Ak,Ao,An,y3,pp,rg,v1,rt,s1,s2,sm,v6,wt,p4,C9,CG,CH,dd #[AI own,As Al d9.length Aj,As J 0 0,As J 0 0],B0,Bi,C5,Ce,D1,Cf,CI,CJ,CK,CL,CB,CC,CM,CN,CO,CP,CQ,c,CS,CU,CV,CE,CF,CW,CX,CY,CZ,C_,Ca],[]⟩ (aY7 J7 rest::q)) cs) w' Post):Goes Wb (G ((AL 30).at ⟨#[g5,As (Z ⟨bi,0,J⟩) Gs.length cap,g0,g2,g9,m0,n3,B2,Ap,Ar,Am,aY4 (Z ⟨f2,0,J⟩),Cp,p2,up,p3,y4,y6,Ak,Ao,An,y3,pp,rg,v1,rt,s1,s2,sm,v6,wt,p4,C9,CG,CH,Cj,B0,Bi,C5,Ce,D1,Cf,CI,CJ,CK,CL,CB,CC,CM,CN,CO,CP,CQ,c,CS,CU,CV,CE,CF,CW,CX,CY,CZ,C_,Ca],[]⟩ (aY7 J7 (0::rest)::q)) cs) w Post:=by
 refine Goes.op (Q:=λv x=>v=dd #[AI own,As Al d9.length Aj,As J 0 0,As J 0 0]/\x.heap=w.heap) (VQ 0 (by decide)) (XT 0 (by decide) _) (by kernel_rfl) (by kernel_rfl) (by kernel_rfl) (by kernel_rfl) (show(KQ 0).dst=Z 35 by kernel_rfl) (by kernel_rfl) (by decide) s C (λK=>?_) ?_;·exact⟨_,_,aKn (br:=f2) rfl ((h.old f2 p.a1k).2.trans p.parts),rfl,rfl⟩
 rintro R' v x w'⟨rfl,e1⟩e2 A y H;have e:=e2.trans e1;have hn:=h.next A λb _=>by rw[e] (λb I=>s.closed.lt I) λ_=>e;exact k Wb R' w' y H ⟨hn.old,λ_=>rfl,λh=>hn.c1 (DR 1 (by decide) h),λh=>hn.c2 (DR 2 (by decide) h),λh=>(hn.c3 (DR 3 (by decide) h)).imp (Hq 0 6) λz=>z,λh=>hn.c4 (DR 4 (by decide) h),λh=>hn.c5 (DR 5 (by decide) h),λh=>hn.FO (DR 6 (by decide) h),λh=>⟨Hq 0 6 (hn.F7 (DR 7 (by decide) h)).1,(hn.F7 (DR 7 (by decide) h)).2⟩,λh=>Hq 0 3 (hn.d6 (DR 6 (by decide) h)),λh=>Hq 0 2 (hn.d3 (DR 3 (by decide) h))⟩
theorem aRU{own:ByteArray}{rest:List Nat}{c:A1}(M:Pj w0 Cn FA own d9 Al Aj f2 bi Gs m)(p:Holds Wb R w)(C:Ah R #[g5,As (Z ⟨bi,0,J⟩) Gs.length cap,g0,g2,g9,m0,n3,B2,Ap,Ar,Am,aY4 (Z ⟨f2,0,J⟩),Cp,p2,up,p3,y4,y6,Ak,Ao,An,y3,pp,rg,v1,rt,s1,s2,sm,v6,wt,p4,C9,CG,CH,Cj,B0,Bi,C5,Ce,D1,Cf,CI,CJ,CK,CL,CB,CC,CM,CN,CO,CP,CQ,c,CS,CU,CV,CE,CF,CW,CX,CY,CZ,C_,Ca])(h:Jf w0 Cn own d9 Al Aj f2 bi cap Gs D R Cj B0 Bi C5 Ce D1 Cf Cp w)(k:∀(f R':Nat->Prop)(w':A'),Holds f R' w'->Ah R' #[g5,As (Z ⟨bi,0,J⟩) Gs.length cap,g0,g2,g9,m0,n3,B2,Ap,Ar,Am,aY4 (Z ⟨f2,0,J⟩),Cp,p2,up,p3,y4,y6,Ak,Ao,An,y3,pp,rg,v1,rt,s1,s2,sm,v6,wt,p4,C9,CG,CH,Cj,As (Z ⟨bi,0,J⟩) Gs.length cap,Bi,C5,Ce,D1,Cf,CI,CJ,CK,CL,CB,CC,CM,CN,CO,CP,CQ,c,CS,CU,CV,CE,CF,CW,CX,CY,CZ,C_,Ca]->Jf w0 Cn own d9 Al Aj f2 bi cap Gs (λj=>j==1||D j) R' Cj (As (Z ⟨bi,0,J⟩) Gs.length cap) Bi C5 Ce D1 Cf Cp w'->Goes f (G ((AL 30).at ⟨#[g5,As (Z ⟨bi,0,J⟩) Gs.length cap,g0,g2,g9,m0,n3,B2,Ap,Ar,Am,aY4 (Z ⟨f2,0,J⟩),Cp,p2,up,p3,y4,y6,Ak,Ao,An,y3,pp,rg,v1,rt,s1,s2,sm,v6,wt,p4,C9,CG,CH,Cj,As (Z ⟨bi,0,J⟩) Gs.length cap,Bi,C5,Ce,D1,Cf,CI,CJ,CK,CL,CB,CC,CM,CN,CO,CP,CQ,c,CS,CU,CV,CE,CF,CW,CX,CY,CZ,C_,Ca],[]⟩ (aY7 J7 rest::q)) cs) w' Post):Goes Wb (G ((AL 30).at ⟨#[g5,As (Z ⟨bi,0,J⟩) Gs.length cap,g0,g2,g9,m0,n3,B2,Ap,Ar,Am,aY4 (Z ⟨f2,0,J⟩),Cp,p2,up,p3,y4,y6,Ak,Ao,An,y3,pp,rg,v1,rt,s1,s2,sm,v6,wt,p4,C9,CG,CH,Cj,B0,Bi,C5,Ce,D1,Cf,CI,CJ,CK,CL,CB,CC,CM,CN,CO,CP,CQ,c,CS,CU,CV,CE,CF,CW,CX,CY,CZ,C_,Ca],[]⟩ (aY7 J7 (1::rest)::q)) cs) w Post:=by
 refine Goes.op (Q:=λv s=>v=As (Z ⟨bi,0,J⟩) Gs.length cap/\s.heap=w.heap) (VQ 1 (by decide)) (XT 1 (by decide) _) (by kernel_rfl) (by kernel_rfl) (by kernel_rfl) (by kernel_rfl) (show(KQ 1).dst=Z 36 by kernel_rfl) (by kernel_rfl) (by decide) p C (λx=>?_) ?_
 ·have K:(KQ 1).op=aYg (oM 1):=by kernel_rfl
  refine⟨_,on w x,?_,rfl,rfl⟩;unfold AU;rw[K];rfl
 rintro R' v s w'⟨rfl,e1⟩e2 A y H;have e:=e2.trans e1;have hn:=h.next A λb _=>by rw[e] (λb I=>p.closed.lt I) λ_=>e;exact k Wb R' w' y H ⟨hn.old,λh=>hn.c0 (DR 0 (by decide) h),λ_=>rfl,λh=>hn.c2 (DR 2 (by decide) h),λh=>(hn.c3 (DR 3 (by decide) h)).imp (Hq 1 6) λz=>z,λh=>hn.c4 (DR 4 (by decide) h),λh=>hn.c5 (DR 5 (by decide) h),λh=>hn.FO (DR 6 (by decide) h),λh=>⟨Hq 1 6 (hn.F7 (DR 7 (by decide) h)).1,(hn.F7 (DR 7 (by decide) h)).2⟩,λh=>Hq 1 3 (hn.d6 (DR 6 (by decide) h)),λh=>Hq 1 2 (hn.d3 (DR 3 (by decide) h))⟩
theorem aRX{own:ByteArray}{rest:List Nat}{c:A1}(K:Pj w0 Cn FA own d9 Al Aj f2 bi Gs m)(p:Holds Wb R w)(C:Ah R #[g5,As (Z ⟨bi,0,J⟩) Gs.length cap,g0,g2,g9,m0,n3,B2,Ap,Ar,Am,aY4 (Z ⟨f2,0,J⟩),Cp,p2,up,p3,y4,y6,Ak,Ao,An,y3,pp,rg,v1,rt,s1,s2,sm,v6,wt,p4,C9,CG,CH,Cj,B0,Bi,C5,Ce,D1,Cf,CI,CJ,CK,CL,CB,CC,CM,CN,CO,CP,CQ,c,CS,CU,CV,CE,CF,CW,CX,CY,CZ,C_,Ca])(h:Jf w0 Cn own d9 Al Aj f2 bi cap Gs D R Cj B0 Bi C5 Ce D1 Cf Cp w)(k:∀(f R':Nat->Prop)(w':A'),Holds f R' w'->Ah R' #[g5,As (Z ⟨bi,0,J⟩) Gs.length cap,g0,g2,g9,m0,n3,B2,Ap,Ar,Am,aY4 (Z ⟨f2,0,J⟩),Cp,p2,up,p3,y4,y6,Ak,Ao,An,y3,pp,rg,v1,rt,s1,s2,sm,v6,wt,p4,C9,CG,CH,Cj,B0,Bi,C5,aY4 (Z ⟨f2,1,J⟩),D1,Cf,CI,CJ,CK,CL,CB,CC,CM,CN,CO,CP,CQ,c,CS,CU,CV,CE,CF,CW,CX,CY,CZ,C_,Ca]->Jf w0 Cn own d9 Al Aj f2 bi cap Gs (λj=>j==4||D j) R' Cj B0 Bi C5 (aY4 (Z ⟨f2,1,J⟩)) D1 Cf Cp w'->Goes f (G ((AL 30).at ⟨#[g5,As (Z ⟨bi,0,J⟩) Gs.length cap,g0,g2,g9,m0,n3,B2,Ap,Ar,Am,aY4 (Z ⟨f2,0,J⟩),Cp,p2,up,p3,y4,y6,Ak,Ao,An,y3,pp,rg,v1,rt,s1,s2,sm,v6,wt,p4,C9,CG,CH,Cj,B0,Bi,C5,aY4 (Z ⟨f2,1,J⟩),D1,Cf,CI,CJ,CK,CL,CB,CC,CM,CN,CO,CP,CQ,c,CS,CU,CV,CE,CF,CW,CX,CY,CZ,C_,Ca],[]⟩ (aY7 J7 rest::q)) cs) w' Post):Goes Wb (G ((AL 30).at ⟨#[g5,As (Z ⟨bi,0,J⟩) Gs.length cap,g0,g2,g9,m0,n3,B2,Ap,Ar,Am,aY4 (Z ⟨f2,0,J⟩),Cp,p2,up,p3,y4,y6,Ak,Ao,An,y3,pp,rg,v1,rt,s1,s2,sm,v6,wt,p4,C9,CG,CH,Cj,B0,Bi,C5,Ce,D1,Cf,CI,CJ,CK,CL,CB,CC,CM,CN,CO,CP,CQ,c,CS,CU,CV,CE,CF,CW,CX,CY,CZ,C_,Ca],[]⟩ (aY7 J7 (4::rest)::q)) cs) w Post:=by
 refine Goes.op (Q:=λv s=>v=aY4 (Z ⟨f2,1,J⟩)/\s.heap=w.heap) (VQ 4 (by decide)) (XT 4 (by decide) _) (by kernel_rfl) (by kernel_rfl) (by kernel_rfl) (by kernel_rfl) (show(KQ 4).dst=Z 39 by kernel_rfl) (by kernel_rfl) (by decide) p C (λx=>?_) ?_;·exact⟨_,on w x,aFM (br:=f2) rfl,rfl,rfl⟩
 rintro R' v s w'⟨rfl,e1⟩e2 A y H;have e:=e2.trans e1;have hn:=h.next A λb _=>by rw[e] (λb I=>p.closed.lt I) λ_=>e;exact k Wb R' w' y H ⟨hn.old,λh=>hn.c0 (DR 0 (by decide) h),λh=>hn.c1 (DR 1 (by decide) h),λh=>hn.c2 (DR 2 (by decide) h),λh=>(hn.c3 (DR 3 (by decide) h)).imp (Hq 4 6) λz=>z,λ_=>rfl,λh=>hn.c5 (DR 5 (by decide) h),λh=>hn.FO (DR 6 (by decide) h),λh=>⟨Hq 4 6 (hn.F7 (DR 7 (by decide) h)).1,(hn.F7 (DR 7 (by decide) h)).2⟩,λh=>Hq 4 3 (hn.d6 (DR 6 (by decide) h)),λh=>Hq 4 2 (hn.d3 (DR 3 (by decide) h))⟩
theorem aRY{own:ByteArray}{rest:List Nat}{c:A1}(p:Pj w0 Cn FA own d9 Al Aj f2 bi Gs m)(s:Holds Wb R w)(C:Ah R #[g5,As (Z ⟨bi,0,J⟩) Gs.length cap,g0,g2,g9,m0,n3,B2,Ap,Ar,Am,aY4 (Z ⟨f2,0,J⟩),Cp,p2,up,p3,y4,y6,Ak,Ao,An,y3,pp,rg,v1,rt,s1,s2,sm,v6,wt,p4,C9,CG,CH,Cj,B0,Bi,C5,Ce,D1,Cf,CI,CJ,CK,CL,CB,CC,CM,CN,CO,CP,CQ,c,CS,CU,CV,CE,CF,CW,CX,CY,CZ,C_,Ca])(h:Jf w0 Cn own d9 Al Aj f2 bi cap Gs D R Cj B0 Bi C5 Ce D1 Cf Cp w)(K:D 4=A0)(k:∀(f R':Nat->Prop)(w':A'),Holds f R' w'->Ah R' #[g5,As (Z ⟨bi,0,J⟩) Gs.length cap,g0,g2,g9,m0,n3,B2,Ap,Ar,Am,aY4 (Z ⟨f2,0,J⟩),Cp,p2,up,p3,y4,y6,Ak,Ao,An,y3,pp,rg,v1,rt,s1,s2,sm,v6,wt,p4,C9,CG,CH,Cj,B0,Bi,C5,Ce,As Al d9.length Aj,Cf,CI,CJ,CK,CL,CB,CC,CM,CN,CO,CP,CQ,c,CS,CU,CV,CE,CF,CW,CX,CY,CZ,C_,Ca]->Jf w0 Cn own d9 Al Aj f2 bi cap Gs (λj=>j==5||D j) R' Cj B0 Bi C5 Ce (As Al d9.length Aj) Cf Cp w'->Goes f (G ((AL 30).at ⟨#[g5,As (Z ⟨bi,0,J⟩) Gs.length cap,g0,g2,g9,m0,n3,B2,Ap,Ar,Am,aY4 (Z ⟨f2,0,J⟩),Cp,p2,up,p3,y4,y6,Ak,Ao,An,y3,pp,rg,v1,rt,s1,s2,sm,v6,wt,p4,C9,CG,CH,Cj,B0,Bi,C5,Ce,As Al d9.length Aj,Cf,CI,CJ,CK,CL,CB,CC,CM,CN,CO,CP,CQ,c,CS,CU,CV,CE,CF,CW,CX,CY,CZ,C_,Ca],[]⟩ (aY7 J7 rest::q)) cs) w' Post):Goes Wb (G ((AL 30).at ⟨#[g5,As (Z ⟨bi,0,J⟩) Gs.length cap,g0,g2,g9,m0,n3,B2,Ap,Ar,Am,aY4 (Z ⟨f2,0,J⟩),Cp,p2,up,p3,y4,y6,Ak,Ao,An,y3,pp,rg,v1,rt,s1,s2,sm,v6,wt,p4,C9,CG,CH,Cj,B0,Bi,C5,Ce,D1,Cf,CI,CJ,CK,CL,CB,CC,CM,CN,CO,CP,CQ,c,CS,CU,CV,CE,CF,CW,CX,CY,CZ,C_,Ca],[]⟩ (aY7 J7 (5::rest)::q)) cs) w Post:=by
 refine Goes.op (Q:=λv x=>v=As Al d9.length Aj/\x.heap=w.heap) (VQ 5 (by decide)) (XT 5 (by decide) _) (by kernel_rfl) (by kernel_rfl) (by kernel_rfl) (by kernel_rfl) (show(KQ 5).dst=Z 40 by kernel_rfl) (by kernel_rfl) (by decide) s C (λM=>?_) ?_;·have hy:Ce=aY4 (Z ⟨f2,1,J⟩):=h.c4 K;exact⟨_,_,aKm (br:=f2) hy ((h.old f2 p.a1k).2.trans p.parts),rfl,rfl⟩
 rintro R' v x w'⟨rfl,e1⟩e2 A y H;have e:=e2.trans e1;have hn:=h.next A λb _=>by rw[e] (λb I=>s.closed.lt I) λ_=>e;exact k Wb R' w' y H ⟨hn.old,λh=>hn.c0 (DR 0 (by decide) h),λh=>hn.c1 (DR 1 (by decide) h),λh=>hn.c2 (DR 2 (by decide) h),λh=>(hn.c3 (DR 3 (by decide) h)).imp (Hq 5 6) λz=>z,λh=>hn.c4 (DR 4 (by decide) h),λ_=>rfl,λh=>hn.FO (DR 6 (by decide) h),λh=>⟨Hq 5 6 (hn.F7 (DR 7 (by decide) h)).1,(hn.F7 (DR 7 (by decide) h)).2⟩,λh=>Hq 5 3 (hn.d6 (DR 6 (by decide) h)),λh=>Hq 5 2 (hn.d3 (DR 3 (by decide) h))⟩
theorem aR_{own:ByteArray}{rest:List Nat}{c:A1}(N:Pj w0 Cn FA own d9 Al Aj f2 bi Gs m)(p:Holds Wb R w)(C:Ah R #[g5,As (Z ⟨bi,0,J⟩) Gs.length cap,g0,g2,g9,m0,n3,B2,Ap,Ar,Am,aY4 (Z ⟨f2,0,J⟩),Cp,p2,up,p3,y4,y6,Ak,Ao,An,y3,pp,rg,v1,rt,s1,s2,sm,v6,wt,p4,C9,CG,CH,Cj,B0,Bi,C5,Ce,D1,Cf,CI,CJ,CK,CL,CB,CC,CM,CN,CO,CP,CQ,c,CS,CU,CV,CE,CF,CW,CX,CY,CZ,C_,Ca])(h:Jf w0 Cn own d9 Al Aj f2 bi cap Gs D R Cj B0 Bi C5 Ce D1 Cf Cp w)(K:D 6=A0)(k:∀(f R':Nat->Prop)(w':A'),Holds f R' w'->Ah R' #[g5,As (Z ⟨bi,0,J⟩) Gs.length cap,g0,g2,g9,m0,n3,B2,Ap,Ar,Am,aY4 (Z ⟨f2,0,J⟩),Cf,p2,up,p3,y4,y6,Ak,Ao,An,y3,pp,rg,v1,rt,s1,s2,sm,v6,wt,p4,C9,CG,CH,Cj,B0,Bi,C5,Ce,D1,Cf,CI,CJ,CK,CL,CB,CC,CM,CN,CO,CP,CQ,c,CS,CU,CV,CE,CF,CW,CX,CY,CZ,C_,Ca]->Jf w0 Cn own d9 Al Aj f2 bi cap Gs (λj=>j==7||D j) R' Cj B0 Bi C5 Ce D1 Cf Cf w'->Goes f (G ((AL 30).at ⟨#[g5,As (Z ⟨bi,0,J⟩) Gs.length cap,g0,g2,g9,m0,n3,B2,Ap,Ar,Am,aY4 (Z ⟨f2,0,J⟩),Cf,p2,up,p3,y4,y6,Ak,Ao,An,y3,pp,rg,v1,rt,s1,s2,sm,v6,wt,p4,C9,CG,CH,Cj,B0,Bi,C5,Ce,D1,Cf,CI,CJ,CK,CL,CB,CC,CM,CN,CO,CP,CQ,c,CS,CU,CV,CE,CF,CW,CX,CY,CZ,C_,Ca],[]⟩ (aY7 J7 rest::q)) cs) w' Post):Goes Wb (G ((AL 30).at ⟨#[g5,As (Z ⟨bi,0,J⟩) Gs.length cap,g0,g2,g9,m0,n3,B2,Ap,Ar,Am,aY4 (Z ⟨f2,0,J⟩),Cp,p2,up,p3,y4,y6,Ak,Ao,An,y3,pp,rg,v1,rt,s1,s2,sm,v6,wt,p4,C9,CG,CH,Cj,B0,Bi,C5,Ce,D1,Cf,CI,CJ,CK,CL,CB,CC,CM,CN,CO,CP,CQ,c,CS,CU,CV,CE,CF,CW,CX,CY,CZ,C_,Ca],[]⟩ (aY7 J7 (7::rest)::q)) cs) w Post:=by
 refine Goes.op (Q:=λv s=>v=Cf/\s.heap=w.heap) (VQ 7 (by decide)) (XT 7 (by decide) _) (by kernel_rfl) (by kernel_rfl) (by kernel_rfl) (by kernel_rfl) (show(KQ 7).dst=Z 12 by kernel_rfl) (by kernel_rfl) (by decide) p C (λx=>?_) ?_
 ·have M:(KQ 7).op=.assign (oM 41):=by kernel_rfl
  refine⟨_,on w x,?_,rfl,rfl⟩;unfold AU;rw[M];rfl
 rintro R' v s w'⟨rfl,e1⟩e2 A y H;have e:=e2.trans e1;have hn:=h.next A λb _=>by rw[e] (λb I=>p.closed.lt I) λ_=>e;exact k Wb R' w' y H ⟨hn.old,λh=>hn.c0 (DR 0 (by decide) h),λh=>hn.c1 (DR 1 (by decide) h),λh=>hn.c2 (DR 2 (by decide) h),λh=>(hn.c3 (DR 3 (by decide) h)).imp (Hq 7 6) λz=>z,λh=>hn.c4 (DR 4 (by decide) h),λh=>hn.c5 (DR 5 (by decide) h),λh=>hn.FO (DR 6 (by decide) h),λ_=>⟨Hq 7 6 K,rfl⟩,λh=>Hq 7 3 (hn.d6 (DR 6 (by decide) h)),λh=>Hq 7 2 (hn.d3 (DR 3 (by decide) h))⟩
theorem aRV{own:ByteArray}{rest:List Nat}{n:A1}(p:Pj w0 Cn FA own d9 Al Aj f2 bi Gs m)(K:Holds Wb R w)(M:Ah R #[g5,As (Z ⟨bi,0,J⟩) Gs.length cap,g0,g2,g9,m0,n3,B2,Ap,Ar,Am,aY4 (Z ⟨f2,0,J⟩),Cp,p2,up,p3,y4,y6,Ak,Ao,An,y3,pp,rg,v1,rt,s1,s2,sm,v6,wt,p4,C9,CG,CH,Cj,B0,Bi,C5,Ce,D1,Cf,CI,CJ,CK,CL,CB,CC,CM,CN,CO,CP,CQ,n,CS,CU,CV,CE,CF,CW,CX,CY,CZ,C_,Ca])(h:Jf w0 Cn own d9 Al Aj f2 bi cap Gs D R Cj B0 Bi C5 Ce D1 Cf Cp w)(AT:D 1=A0)(r:D 2=A5)(k:∀(C R':Nat->Prop)(w':A')(v:A1),Holds C R' w'->Ah R' #[g5,As (Z ⟨bi,0,J⟩) Gs.length cap,g0,g2,g9,m0,n3,B2,Ap,Ar,Am,aY4 (Z ⟨f2,0,J⟩),Cp,p2,up,p3,y4,y6,Ak,Ao,An,y3,pp,rg,v1,rt,s1,s2,sm,v6,wt,p4,C9,CG,CH,Cj,B0,v,C5,Ce,D1,Cf,CI,CJ,CK,CL,CB,CC,CM,CN,CO,CP,CQ,n,CS,CU,CV,CE,CF,CW,CX,CY,CZ,C_,Ca]->Jf w0 Cn own d9 Al Aj f2 bi cap Gs (λj=>j==2||D j) R' Cj B0 v C5 Ce D1 Cf Cp w'->Goes C (G ((AL 30).at ⟨#[g5,As (Z ⟨bi,0,J⟩) Gs.length cap,g0,g2,g9,m0,n3,B2,Ap,Ar,Am,aY4 (Z ⟨f2,0,J⟩),Cp,p2,up,p3,y4,y6,Ak,Ao,An,y3,pp,rg,v1,rt,s1,s2,sm,v6,wt,p4,C9,CG,CH,Cj,B0,v,C5,Ce,D1,Cf,CI,CJ,CK,CL,CB,CC,CM,CN,CO,CP,CQ,n,CS,CU,CV,CE,CF,CW,CX,CY,CZ,C_,Ca],[]⟩ (aY7 J7 rest::q)) cs) w' Post):Goes Wb (G ((AL 30).at ⟨#[g5,As (Z ⟨bi,0,J⟩) Gs.length cap,g0,g2,g9,m0,n3,B2,Ap,Ar,Am,aY4 (Z ⟨f2,0,J⟩),Cp,p2,up,p3,y4,y6,Ak,Ao,An,y3,pp,rg,v1,rt,s1,s2,sm,v6,wt,p4,C9,CG,CH,Cj,B0,Bi,C5,Ce,D1,Cf,CI,CJ,CK,CL,CB,CC,CM,CN,CO,CP,CQ,n,CS,CU,CV,CE,CF,CW,CX,CY,CZ,C_,Ca],[]⟩ (aY7 J7 (2::rest)::q)) cs) w Post:=by
 have hy:B0=As (Z ⟨bi,0,J⟩) Gs.length cap:=h.c1 AT;subst hy;have t:¬D 6=A0:=λH=>by have:=h.d3 (h.d6 H);rw[r]at this;cases this
 refine Goes.zT (f:=60) (fn:=Tryz.f60) (opd:=#[oM 36]) (ats:=#[47]) (args:=#[As (Z ⟨bi,0,J⟩) Gs.length cap]) (Q:=λv w'=>∃A:A',w'.heap=A.heap/\∃y:Nat,v=dd #[As (Z ⟨bi,0,J⟩) Gs.length cap,.map (Z y)]/\A.heap[y]?=Z (oF (Eb (places Gs)) Gs.length)/\w.heap.size<=A.heap.size/\∀b,b<w.heap.size->A.heap[b]?=w.heap[b]?) (VQ 2 (by decide)) (XT 2 (by decide) _) (by kernel_rfl) (show(KQ 2).dst=Z 37 by kernel_rfl) a8m (by kernel_rfl) (by kernel_rfl) (by kernel_rfl) K M (.cons (Ah.nth M 36 rfl) .nil) (λx=>?_) ?_
 ·refine CallsC.lone (Ra 60 (by kernel_rfl)) a8m (by kernel_rfl) λI=>?_;have s:∀b,FA b->w.heap[b]?=w0.heap[b]?:=λb s=>(h.old b (p.sub b s)).2;have hc:=λo=>F4 (w:=w0) (w':=on (w.at x) I) (a:=⟨bi,o,J⟩) (s bi p.SE);refine(aDG bi cap Gs m (on (w.at x) I) p.whole.ok (λi hi=>?_) p.check ?_ p.aR2).mono ?_;·obtain⟨a,b,c,d⟩:=p.reg i hi;exact⟨(hc _).trans a,(hc _).trans b,(hc _).trans c,(hc _).trans d⟩
  ·exact(F4 (a:=⟨0,0,J⟩) (s 0 (p.Hm.EF 0 (by decide)))).trans p.EF
  ·rintro e A⟨y,rfl,_,h2,h3⟩;exact⟨_,rfl,y,rfl,h2,h3.size,h3.block⟩
 ·rintro C R' v w'⟨A,e,y,rfl,u,hs,E⟩U N F;have hn:=h.next U (λb s=>by rw[e];exact E b s) (λb s=>K.closed.lt s) λH=>absurd H t;exact k C R' w' _ N F ⟨hn.old,λh=>hn.c0 (DR 0 (by decide) h),λh=>hn.c1 (DR 1 (by decide) h),λ_=>⟨y,rfl,by rw[e];exact u⟩,λh=>(hn.c3 (DR 3 (by decide) h)).imp (Hq 2 6) λz=>z,λh=>hn.c4 (DR 4 (by decide) h),λh=>hn.c5 (DR 5 (by decide) h),λh=>hn.FO (DR 6 (by decide) h),λh=>⟨Hq 2 6 (hn.F7 (DR 7 (by decide) h)).1,(hn.F7 (DR 7 (by decide) h)).2⟩,λh=>Hq 2 3 (hn.d6 (DR 6 (by decide) h)),λh=>at8 2⟩
theorem aRW{own:ByteArray}{rest:List Nat}{c:A1}(P:Pj w0 Cn FA own d9 Al Aj f2 bi Gs m)(K:Holds Wb R w)(H:Ah R #[g5,As (Z ⟨bi,0,J⟩) Gs.length cap,g0,g2,g9,m0,n3,B2,Ap,Ar,Am,aY4 (Z ⟨f2,0,J⟩),Cp,p2,up,p3,y4,y6,Ak,Ao,An,y3,pp,rg,v1,rt,s1,s2,sm,v6,wt,p4,C9,CG,CH,Cj,B0,Bi,C5,Ce,D1,Cf,CI,CJ,CK,CL,CB,CC,CM,CN,CO,CP,CQ,c,CS,CU,CV,CE,CF,CW,CX,CY,CZ,C_,Ca])(h:Jf w0 Cn own d9 Al Aj f2 bi cap Gs D R Cj B0 Bi C5 Ce D1 Cf Cp w)(n:D 0=A0)(N:D 2=A0)(r:D 3=A5)(k:∀(A R':Nat->Prop)(w':A')(v:A1),Holds A R' w'->Ah R' #[g5,As (Z ⟨bi,0,J⟩) Gs.length cap,g0,g2,g9,m0,n3,B2,Ap,Ar,Am,aY4 (Z ⟨f2,0,J⟩),Cp,p2,up,p3,y4,y6,Ak,Ao,An,y3,pp,rg,v1,rt,s1,s2,sm,v6,wt,p4,C9,CG,CH,Cj,B0,Bi,v,Ce,D1,Cf,CI,CJ,CK,CL,CB,CC,CM,CN,CO,CP,CQ,c,CS,CU,CV,CE,CF,CW,CX,CY,CZ,C_,Ca]->Jf w0 Cn own d9 Al Aj f2 bi cap Gs (λj=>j==3||D j) R' Cj B0 Bi v Ce D1 Cf Cp w'->Goes A (G ((AL 30).at ⟨#[g5,As (Z ⟨bi,0,J⟩) Gs.length cap,g0,g2,g9,m0,n3,B2,Ap,Ar,Am,aY4 (Z ⟨f2,0,J⟩),Cp,p2,up,p3,y4,y6,Ak,Ao,An,y3,pp,rg,v1,rt,s1,s2,sm,v6,wt,p4,C9,CG,CH,Cj,B0,Bi,v,Ce,D1,Cf,CI,CJ,CK,CL,CB,CC,CM,CN,CO,CP,CQ,c,CS,CU,CV,CE,CF,CW,CX,CY,CZ,C_,Ca],[]⟩ (aY7 J7 rest::q)) cs) w' Post):Goes Wb (G ((AL 30).at ⟨#[g5,As (Z ⟨bi,0,J⟩) Gs.length cap,g0,g2,g9,m0,n3,B2,Ap,Ar,Am,aY4 (Z ⟨f2,0,J⟩),Cp,p2,up,p3,y4,y6,Ak,Ao,An,y3,pp,rg,v1,rt,s1,s2,sm,v6,wt,p4,C9,CG,CH,Cj,B0,Bi,C5,Ce,D1,Cf,CI,CJ,CK,CL,CB,CC,CM,CN,CO,CP,CQ,c,CS,CU,CV,CE,CF,CW,CX,CY,CZ,C_,Ca],[]⟩ (aY7 J7 (3::rest)::q)) cs) w Post:=by
 have hy:Cj=dd #[AI own,As Al d9.length Aj,As J 0 0,As J 0 0]:=h.c0 n;subst hy;obtain⟨z,hy,U⟩:=h.c2 N;subst hy;have t:¬D 6=A0:=λC=>by have:=h.d6 C;rw[r]at this;cases this
 refine Goes.zT (f:=59) (fn:=Tryz.f59) (opd:=#[oM 35,oM 37]) (ats:=#[128,136]) (args:=#[dd #[AI own,As Al d9.length Aj,As J 0 0,As J 0 0],dd #[As (Z ⟨bi,0,J⟩) Gs.length cap,.map (Z z)]]) (Q:=λv w'=>∃p:A',w'.heap=p.heap/\∃s y:Nat,v=HW own s y bi Gs.length cap z/\p.heap[s]?=Z (oF #[] 0)/\p.heap[y]?=Z (oF #[] 0)/\w.heap.size<=p.heap.size/\∀b,b<w.heap.size->p.heap[b]?=w.heap[b]?) (VQ 3 (by decide)) (XT 3 (by decide) _) (by kernel_rfl) (show(KQ 3).dst=Z 38 by kernel_rfl) a8l (by kernel_rfl) (by kernel_rfl) (by kernel_rfl) K H (.cons (Ah.nth H 35 rfl) (.cons (Ah.nth H 37 rfl) .nil)) (λx=>?_) ?_;·refine CallsC.lone (Ra 59 (by kernel_rfl)) a8l (by kernel_rfl) λT0=>?_;refine(aPn own Al d9.length Aj bi Gs.length cap z (on (w.at x) T0)).mono ?_;rintro e p⟨s,y,rfl,_,_,h2,h3,h4⟩;exact⟨_,rfl,s,y,rfl,h2,h3,h4.size,h4.block⟩
 ·rintro A R' v w'⟨p,e,s,y,rfl,h1,h2,hs,M⟩u E F;have hn:=h.next u (λb I=>by rw[e];exact M b I) (λb I=>K.closed.lt I) λC=>absurd C t;exact k A R' w' _ E F ⟨hn.old,λh=>hn.c0 (DR 0 (by decide) h),λh=>hn.c1 (DR 1 (by decide) h),λh=>hn.c2 (DR 2 (by decide) h),λ_=>AF ⟨s,y,z,rfl,by rw[e];exact h1,by rw[e];exact h2,by rw[e];exact(M z (O0 U)).trans U⟩,λh=>hn.c4 (DR 4 (by decide) h),λh=>hn.c5 (DR 5 (by decide) h),λh=>hn.FO (DR 6 (by decide) h),λh=>⟨Hq 3 6 (hn.F7 (DR 7 (by decide) h)).1,(hn.F7 (DR 7 (by decide) h)).2⟩,λh=>at8 3,λ_=>Hq 3 2 N⟩
section
variable[Ck]
theorem aRZ{own:ByteArray}{rest:List Nat}{n:A1}(C:Pj w0 Cn FA own d9 Al Aj f2 bi Gs m)(U:Holds Wb R w)(I:Ah R #[g5,As (Z ⟨bi,0,J⟩) Gs.length cap,g0,g2,g9,m0,n3,B2,Ap,Ar,Am,aY4 (Z ⟨f2,0,J⟩),Cp,p2,up,p3,y4,y6,Ak,Ao,An,y3,pp,rg,v1,rt,s1,s2,sm,v6,wt,p4,C9,CG,CH,Cj,B0,Bi,C5,Ce,D1,Cf,CI,CJ,CK,CL,CB,CC,CM,CN,CO,CP,CQ,n,CS,CU,CV,CE,CF,CW,CX,CY,CZ,C_,Ca])(h:Jf w0 Cn own d9 Al Aj f2 bi cap Gs D R Cj B0 Bi C5 Ce D1 Cf Cp w)(K:D 3=A0)(M:D 5=A0)(r:D 6=A5)(k:∀(H R':Nat->Prop)(w':A')(u:A1),Holds H R' w'->Ah R' #[g5,As (Z ⟨bi,0,J⟩) Gs.length cap,g0,g2,g9,m0,n3,B2,Ap,Ar,Am,aY4 (Z ⟨f2,0,J⟩),Cp,p2,up,p3,y4,y6,Ak,Ao,An,y3,pp,rg,v1,rt,s1,s2,sm,v6,wt,p4,C9,CG,CH,Cj,B0,Bi,C5,Ce,D1,u,CI,CJ,CK,CL,CB,CC,CM,CN,CO,CP,CQ,n,CS,CU,CV,CE,CF,CW,CX,CY,CZ,C_,Ca]->Jf w0 Cn own d9 Al Aj f2 bi cap Gs (λj=>j==6||D j) R' Cj B0 Bi C5 Ce D1 u Cp w'->Goes H (G ((AL 30).at ⟨#[g5,As (Z ⟨bi,0,J⟩) Gs.length cap,g0,g2,g9,m0,n3,B2,Ap,Ar,Am,aY4 (Z ⟨f2,0,J⟩),Cp,p2,up,p3,y4,y6,Ak,Ao,An,y3,pp,rg,v1,rt,s1,s2,sm,v6,wt,p4,C9,CG,CH,Cj,B0,Bi,C5,Ce,D1,u,CI,CJ,CK,CL,CB,CC,CM,CN,CO,CP,CQ,n,CS,CU,CV,CE,CF,CW,CX,CY,CZ,C_,Ca],[]⟩ (aY7 J7 rest::q)) cs) w' Post):Goes Wb (G ((AL 30).at ⟨#[g5,As (Z ⟨bi,0,J⟩) Gs.length cap,g0,g2,g9,m0,n3,B2,Ap,Ar,Am,aY4 (Z ⟨f2,0,J⟩),Cp,p2,up,p3,y4,y6,Ak,Ao,An,y3,pp,rg,v1,rt,s1,s2,sm,v6,wt,p4,C9,CG,CH,Cj,B0,Bi,C5,Ce,D1,Cf,CI,CJ,CK,CL,CB,CC,CM,CN,CO,CP,CQ,n,CS,CU,CV,CE,CF,CW,CX,CY,CZ,C_,Ca],[]⟩ (aY7 J7 (6::rest)::q)) cs) w Post:=by
 have hy:D1=As Al d9.length Aj:=h.c5 M;subst hy;obtain⟨s,x,y,hy,h1,h2,hp⟩:=(h.c3 K).resolve_left λQ=>by rw[r]at Q;cases Q
 subst hy;have t:=Ah.nth I 38 rfl;have hm:R s/\R x/\R y:=by cases t with|agg hv=>exact⟨AJ.gO (Ab.nth 1 hv rfl),AJ.gO (Ab.nth 2 hv rfl),AJ.gO (Ab.nth 4 hv rfl)⟩
 refine .ctl rfl (λ_=>Qz (f:=61) (fn:=Tryz.f61) (c:=KB) (az:=#[.tmp 38,.tmp 40]) (ats:=#[138,124]) (VQ 6 (by decide)) (XT 6 (by decide) _) (by simp[AL]) (by kernel_rfl) Tryz.func61 (by kernel_rfl) (by kernel_rfl)) λd=>?_;have S:(#[.tmp 38,.tmp 40]:Array C2).map (Cu ⟨#[g5,.slice (Z ⟨bi,0,J⟩) Gs.length cap,g0,g2,g9,m0,n3,B2,Ap,Ar,Am,.pointer (Z ⟨f2,0,J⟩),Cp,p2,up,p3,y4,y6,Ak,Ao,An,y3,pp,rg,v1,rt,s1,s2,sm,v6,wt,p4,C9,CG,CH,Cj,B0,Bi,HW own s x bi Gs.length cap y,Ce,.slice Al d9.length Aj,Cf,CI,CJ,CK,CL,CB,CC,CM,CN,CO,CP,CQ,n,CS,CU,CV,CE,CF,CW,CX,CY,CZ,C_,Ca],[]⟩)=#[HW own s x bi Gs.length cap y,.slice Al d9.length Aj]:=by kernel_rfl
 rw[S];have B_:aw (w.at d) R (λb=>FA b∨b=s∨b=x∨b=y) own s x bi y Gs:=aRm (w:=w.at d) C h.old (λb e=>U.closed.lt e) h1 h2 hp hm.1 hm.2.1 hm.2.2;refine(aMz (w:=w.at d) C.whole B_ (U.at d) (.cons t (.cons (Ah.nth I 40 rfl) .nil)) (ln C.DT λg AB=>(h.old g (C.aJb g AB)).2) C.mh).bind ?_;rintro H g' w'⟨R',u,A,rfl,hv,E,W,p⟩;rw[KX,VQ 6 (by decide),RR,show(KQ 6).dst=Z 41 by kernel_rfl];have X:Ah R' #[g5,.slice (Z ⟨bi,0,J⟩) Gs.length cap,g0,g2,g9,m0,n3,B2,Ap,Ar,Am,.pointer (Z ⟨f2,0,J⟩),Cp,p2,up,p3,y4,y6,Ak,Ao,An,y3,pp,rg,v1,rt,s1,s2,sm,v6,wt,p4,C9,CG,CH,Cj,B0,Bi,HW own s x bi Gs.length cap y,Ce,.slice Al d9.length Aj,u,CI,CJ,CK,CL,CB,CC,CM,CN,CO,CP,CQ,n,CS,CU,CV,CE,CF,CW,CX,CY,CZ,C_,Ca]:=(I.mono E).set hv 41;have F:W4 Gs d9 Cn R' w0 u A w':=⟨λb e=>(p.same b (h.old b e).1).trans (h.old b e).2,p.sl,p.KP,p.order,p.nodup,p.reach⟩;have Ma:∀{b o},R b->w.heap[b]?=Z o->w'.heap[b]?=Z o:=λ{b o}e d0=>(p.same b e).trans d0;refine k H R' w' u W X ⟨λb e=>⟨E b (h.old b e).1,F.same b e⟩,λz=>h.c0 (DR 0 (by decide) z),λz=>h.c1 (DR 1 (by decide) z),λz=>?_,λ_=>AA (at8 6),λz=>h.c4 (DR 4 (by decide) z),λz=>rfl,λ_=>⟨A,F⟩,λz=>?_,λ_=>Hq 6 3 K,λz=>Hq 6 2 (h.d3 K)⟩;·obtain⟨N,a,b⟩:=h.c2 (DR 2 (by decide) z);refine⟨N,a,Ma ?_ b⟩;have P:=Ah.nth I 37 rfl;rw[a]at P;cases P with|agg hv=>exact AJ.gO (Ab.nth 1 hv rfl)
 ·have:=(h.F7 (DR 7 (by decide) z)).1;rw[r]at this;cases this
end
theorem n0{P:Program}{c d:Cv}{a:Ja}{j:Ja->A'->Prop}{Q:Exit->Ja->A'->Prop}(h:c.wp P (λe a w=>e=aYP/\j a w) a w)(k:∀a w,j a w->d.wp P Q a w):(aYB c d).wp P Q a w:=by refine wp_seq (iw h ?_);rintro e a w⟨rfl,b⟩;exact k a w b
theorem aQ2:Nj.results=#[.cell 6 59,.tmp 7]:=by kernel_rfl
theorem results30{B:Nat}{n c:Nat}(f:T.getD 6 Y=aY4 (Z ⟨B,0,J⟩))(h:T.getD 7 Y=aYA)(m:w.heap[B]?=Z (BE #[As a n c,AI s] 59)):(De Nj T).run A4 w=aY6 (aY8 #[dd #[As a n c,AI s],aYA]) w:=by
 have b:T[6]?.getD Y=aY4 (Z ⟨B,0,J⟩):=by simpa using f
 have e:T[7]?.getD Y=aYA:=by simpa using h
 simp[De,aQ2,b,e,asAddr,run_loadVar_row w B 59 59 _ _ _ m a_9 rfl (by kernel_rfl)]
theorem a2Y:NQ=aYB lU (aYB lK (aYB lL (aYB lM aYT))):=by kernel_rfl
theorem aDj:F8 A4 Dw Dc [] 8 NQ=A0:=by kernel_rfl
def pe(A:List Cb)(f:Rel->ByteArray)(v:A1)(w1:A'):Prop:=∃a n c E,v=aY8 #[dd #[As a n c,AI ⟨(KE E).toArray⟩],aYA]/\E.Perm (Jn f (Gr A))/\Xa E/\HO w1 (As a n c) (Go.Proofs.YtcfhleenecfghaaGreatDoor.names (Ex A A.length))
theorem aL'(u:A1)(A:List Cb)(m:Int)(f:Rel->ByteArray)(B:Nat)(g5 j g0 g2 g9 m0 B2 Ap Ar n p2 up p3 y4 y6 Ak Ao An y3 pp rg v1 rt s1 s2 sm v6 wt p4 C9 CG CH t F P S W X GA CI CJ CK CL CB CC CM CN CO CP CQ CR CS CU CV CE CF CW CX CY CZ C_ Ca:A1)(w:A')(DC:w.heap[B]?=Z (BE #[As J 0 0,AI ⟨#[]⟩] 59))(hv:Jh w u A)(hn:∀x∈A,H7 w (λ_=>True) x.B5 x.rel.DT)(D:A.length<=1000000)(hs:∀x∈A,x.rel.v.size<=40)(hp:∀x∈A,x.rel.p.size<=1000)(I:(Gr A).Pairwise λa b=>GM a.name b.name≠0)(hm:w.cell? ⟨0,0,J⟩=Z (IS Po m))(NH:w.cell? ⟨5,15,J⟩=Z (IS aYL 4))(QS:∀x∈A,Q3 w x.rel (f x.rel))(s3:∀x∈A,(f x.rel).size<=1000):NQ.wp A4 (xU A4 Nj λe C=>∃v,e=hq v/\pe A f v C/\w.heap.size<=C.heap.size/\∀b,b<w.heap.size->b≠B->C.heap[b]?=w.heap[b]?) ⟨#[g5,j,g0,g2,g9,m0,aY4 (Z ⟨B,0,J⟩),B2,Ap,Ar,As J 0 0,n,u,p2,up,p3,y4,y6,Ak,Ao,An,y3,pp,rg,v1,rt,s1,s2,sm,v6,wt,p4,C9,CG,CH,t,F,P,S,W,X,GA,CI,CJ,CK,CL,CB,CC,CM,CN,CO,CP,CQ,CR,CS,CU,CV,CE,CF,CW,CX,CY,CZ,C_,Ca],[]⟩ w:=by
 rw[a2Y];refine n0 (iw (aKz u A _ _ _ _ _ _ _ _ _ _ _ _ _ _ _ _ _ _ _ _ _ _ _ _ _ _ _ _ _ _ _ _ _ _ _ _ _ _ _ _ _ _ _ _ _ _ _ _ _ _ _ _ _ _ _ _ _ _ _ _ _ _ _ _ w hv D) λe a w' h=>h) ?_;rintro⟨C7,ve⟩C⟨rfl,s,rfl⟩;have GH:∀{x:Cb},H7 w (λ_=>True) x.B5 x.rel.DT->H7 C (λ_=>True) x.B5 x.rel.DT:=λh=>h.at (λ_ _=>trivial) λb c q _ e=>s.block b (O0 e);refine n0 (iw (aKs u A m f _ _ _ _ _ _ _ _ _ _ _ _ _ _ _ _ _ _ _ _ _ _ _ _ _ _ _ _ _ _ _ _ _ _ _ _ _ _ _ _ _ _ _ _ _ _ _ _ _ _ _ _ _ _ _ _ _ _ _ _ _ _ _ C (hv.below s) D hs I (Aw s hm) (Aw s NH) λx hx=>(QS x hx).below s) λe a w' h=>h) ?_;rintro⟨FJ,vf⟩w2⟨rfl,MW,Df,E,fd,rI,H,kc,rfl⟩;have z:=s.trans (kc.mono s.size);refine n0 (iw (aKt _ _ _ _ _ _ _ _ _ _ _ _ _ _ _ _ _ _ _ _ _ _ _ _ _ _ _ _ _ _ _ _ _ _ _ _ _ _ _ _ _ _ _ _ _ _ _ _ _ _ _ _ _ _ _ _ _ _ _ _ _ _ _ _ w2) λe a w' h=>h) ?_;rintro⟨Es,vg⟩w3⟨rfl,rfl,rfl⟩;have rH:E.length<=1000000:=by rw[rI.length_eq];simpa[Jn,Gr]using D
 have kC:∀x∈E,x.1.1.size<=1000/\x.1.2.size<=1000/\x.2.size<=1000:=λx hx=>by obtain⟨r,A2,rfl⟩:=List.mem_map.1 (rI.mem_iff.1 hx);obtain⟨y,hy,rfl⟩:=List.mem_map.1 A2;exact⟨hp y hy,by have:=hs y hy;show y.rel.v.size<=1000;omega,s3 y hy⟩
 refine n0 (iw (aKu u Df A E B _ _ _ _ _ _ _ _ _ _ _ _ _ _ _ _ _ _ _ _ _ _ _ _ _ _ _ _ _ _ _ _ _ _ _ _ _ _ _ _ _ _ _ _ _ _ _ _ _ _ _ _ _ _ _ _ _ _ _ _ _ _ w3 (IF z DC) (hv.below z) (λx hx=>(hn x hx).at (λ_ _=>trivial) λb c q _ e=>z.block b (O0 e)) D (λx hx=>⟨hp x hx,by have:=hs x hx;omega⟩) fd rH kC) λe a w' h=>h) ?_;rintro⟨Et,aTo⟩w4⟨rfl,LW,M',ev,U,⟨LK,EZ⟩,rfl⟩;obtain⟨K,N,M,rfl⟩:∃K N M,M'=As K N M:=by
  rcases U with⟨h,_⟩|⟨g,c,h,_⟩;·exact⟨_,_,_,h⟩
  ·exact⟨_,_,_,h⟩
 refine wp_ret ⟨rfl,_,results30 rfl rfl ev,_,rfl,⟨K,N,M,E,rfl,rI,H,U⟩,?_,λb Q I=>?_⟩;·exact HA z.size LK
 ·exact(EZ b (K9 Q z.size) I).trans (z.block b Q)
section
variable[Ck]
theorem VS{w0:A'}{Cn FA:Nat->Prop}{own:ByteArray}{d9:List Ax}{Al:Option Aa}{Aj f2 bi cap:Nat}{Gs:List Rel}{m:Int}{cs:List AY}{q:List Cw}{g5 g0 g2 g9 m0 n3 B2 Ap Ar Am p2 up p3 y4 y6 Ak Ao An y3 pp rg v1 rt s1 s2 sm v6 wt p4 C9 CG CH CI CJ CK CL CB CC CM CN CO CP CQ u CS CU CV CE CF CW CX CY CZ C_ Ca:A1}{Post:(Nat->Prop)->AK->A'->Prop}(f:Pj w0 Cn FA own d9 Al Aj f2 bi Gs m)(k:∀(D:Nat->Bool)(Wb R:Nat->Prop)(w:A')(x y z A C H I K:A1),D 7=A0->Holds Wb R w->Ah R #[g5,As (Z ⟨bi,0,J⟩) Gs.length cap,g0,g2,g9,m0,n3,B2,Ap,Ar,Am,aY4 (Z ⟨f2,0,J⟩),K,p2,up,p3,y4,y6,Ak,Ao,An,y3,pp,rg,v1,rt,s1,s2,sm,v6,wt,p4,C9,CG,CH,x,y,z,A,C,H,I,CI,CJ,CK,CL,CB,CC,CM,CN,CO,CP,CQ,u,CS,CU,CV,CE,CF,CW,CX,CY,CZ,C_,Ca]->Jf w0 Cn own d9 Al Aj f2 bi cap Gs D R x y z A C H I K w->Goes Wb (G ((AL 30).at ⟨#[g5,As (Z ⟨bi,0,J⟩) Gs.length cap,g0,g2,g9,m0,n3,B2,Ap,Ar,Am,aY4 (Z ⟨f2,0,J⟩),K,p2,up,p3,y4,y6,Ak,Ao,An,y3,pp,rg,v1,rt,s1,s2,sm,v6,wt,p4,C9,CG,CH,x,y,z,A,C,H,I,CI,CJ,CK,CL,CB,CC,CM,CN,CO,CP,CQ,u,CS,CU,CV,CE,CF,CW,CX,CY,CZ,C_,Ca],[]⟩ (aY7 J7 []::q)) cs) w Post):∀(o:List Nat)(D:Nat->Bool)(Wb R:Nat->Prop)(w:A')(x y z A C H I K:A1),mA D o=A0->Holds Wb R w->Ah R #[g5,As (Z ⟨bi,0,J⟩) Gs.length cap,g0,g2,g9,m0,n3,B2,Ap,Ar,Am,aY4 (Z ⟨f2,0,J⟩),K,p2,up,p3,y4,y6,Ak,Ao,An,y3,pp,rg,v1,rt,s1,s2,sm,v6,wt,p4,C9,CG,CH,x,y,z,A,C,H,I,CI,CJ,CK,CL,CB,CC,CM,CN,CO,CP,CQ,u,CS,CU,CV,CE,CF,CW,CX,CY,CZ,C_,Ca]->Jf w0 Cn own d9 Al Aj f2 bi cap Gs D R x y z A C H I K w->Goes Wb (G ((AL 30).at ⟨#[g5,As (Z ⟨bi,0,J⟩) Gs.length cap,g0,g2,g9,m0,n3,B2,Ap,Ar,Am,aY4 (Z ⟨f2,0,J⟩),K,p2,up,p3,y4,y6,Ak,Ao,An,y3,pp,rg,v1,rt,s1,s2,sm,v6,wt,p4,C9,CG,CH,x,y,z,A,C,H,I,CI,CJ,CK,CL,CB,CC,CM,CN,CO,CP,CQ,u,CS,CU,CV,CE,CF,CW,CX,CY,CZ,C_,Ca],[]⟩ (aY7 J7 o::q)) cs) w Post|[],D,Wb,R,w,x,y,z,A,C,H,I,K,E,r,t,h=>k D Wb R w x y z A C H I K E r t h|i::rest,D,Wb,R,w,x,y,z,A,C,H,I,K,E,r,t,h=>by have N:(!D i&&(zy D i&&mA (λj=>j==i||D j) rest))=A0:=E;rw[IP,IP,Bool.not_eq_true']at N;obtain⟨M,s,e⟩:=N;match i,M,s,e with|0,_,_,e=>exact aRT f r t h λp R' w' a b c=>VS f k rest _ p R' w' _ _ _ _ _ _ _ _ e a b c|1,_,_,e=>exact aRU f r t h λp R' w' a b c=>VS f k rest _ p R' w' _ _ _ _ _ _ _ _ e a b c|2,M,s,e=>exact aRV f r t h s M λp R' w' v a b c=>VS f k rest _ p R' w' _ _ _ _ _ _ _ _ e a b c|3,M,s,e=>have AT:(D 0&&D 2)=A0:=s;rw[IP]at AT;exact aRW f r t h AT.1 AT.2 M λp R' w' v a b c=>VS f k rest _ p R' w' _ _ _ _ _ _ _ _ e a b c|4,_,_,e=>exact aRX f r t h λp R' w' a b c=>VS f k rest _ p R' w' _ _ _ _ _ _ _ _ e a b c|5,_,s,e=>exact aRY f r t h s λp R' w' a b c=>VS f k rest _ p R' w' _ _ _ _ _ _ _ _ e a b c|6,M,s,e=>have AT:(D 3&&D 5)=A0:=s;rw[IP]at AT;exact aRZ f r t h AT.1 AT.2 M λp R' w' v a b c=>VS f k rest _ p R' w' _ _ _ _ _ _ _ _ e a b c|7,_,s,e=>exact aR_ f r t h s λp R' w' a b c=>VS f k rest _ p R' w' _ _ _ _ _ _ _ _ e a b c|n+8,_,s,_=>exact absurd s (by show¬A5=A0;decide)
theorem aPx{own:ByteArray}{c:A1}(C:Pj w0 Cn FA own d9 Al Aj f2 bi Gs m)(e:Holds Wb Cn w0)(f:Ah Cn #[g5,As (Z ⟨bi,0,J⟩) Gs.length cap,g0,g2,g9,m0,n3,B2,Ap,Ar,Am,aY4 (Z ⟨f2,0,J⟩),Cp,p2,up,p3,y4,y6,Ak,Ao,An,y3,pp,rg,v1,rt,s1,s2,sm,v6,wt,p4,C9,CG,CH,Cj,B0,Bi,C5,Ce,D1,Cf,CI,CJ,CK,CL,CB,CC,CM,CN,CO,CP,CQ,c,CS,CU,CV,CE,CF,CW,CX,CY,CZ,C_,Ca])(k:∀(Wb R:Nat->Prop)(w:A')(A:List Cb)(Cj B0 Bi C5 Ce D1 Cf Cp:A1),Holds Wb R w->Ah R #[g5,As (Z ⟨bi,0,J⟩) Gs.length cap,g0,g2,g9,m0,n3,B2,Ap,Ar,Am,aY4 (Z ⟨f2,0,J⟩),Cp,p2,up,p3,y4,y6,Ak,Ao,An,y3,pp,rg,v1,rt,s1,s2,sm,v6,wt,p4,C9,CG,CH,Cj,B0,Bi,C5,Ce,D1,Cf,CI,CJ,CK,CL,CB,CC,CM,CN,CO,CP,CQ,c,CS,CU,CV,CE,CF,CW,CX,CY,CZ,C_,Ca]->(∀b,Cn b->R b)->W4 Gs d9 Cn R w0 Cp A w->Goes Wb (G ((AL 30).at ⟨#[g5,As (Z ⟨bi,0,J⟩) Gs.length cap,g0,g2,g9,m0,n3,B2,Ap,Ar,Am,aY4 (Z ⟨f2,0,J⟩),Cp,p2,up,p3,y4,y6,Ak,Ao,An,y3,pp,rg,v1,rt,s1,s2,sm,v6,wt,p4,C9,CG,CH,Cj,B0,Bi,C5,Ce,D1,Cf,CI,CJ,CK,CL,CB,CC,CM,CN,CO,CP,CQ,c,CS,CU,CV,CE,CF,CW,CX,CY,CZ,C_,Ca],[]⟩ q) cs) w Post):Goes Wb (G ((AL 30).at ⟨#[g5,As (Z ⟨bi,0,J⟩) Gs.length cap,g0,g2,g9,m0,n3,B2,Ap,Ar,Am,aY4 (Z ⟨f2,0,J⟩),Cp,p2,up,p3,y4,y6,Ak,Ao,An,y3,pp,rg,v1,rt,s1,s2,sm,v6,wt,p4,C9,CG,CH,Cj,B0,Bi,C5,Ce,D1,Cf,CI,CJ,CK,CL,CB,CC,CM,CN,CO,CP,CQ,c,CS,CU,CV,CE,CF,CW,CX,CY,CZ,C_,Ca],[]⟩ (aY9 lT::q)) cs) w0 Post:=by rw[aK1];refine .draw λo x d=>?_;rw[a3q]at x;refine VS C (λD Wb R w Cj B0 Bi C5 Ce D1 Cf Cp z e f h=>?_) o (λ_=>A5) Wb Cn (w0.at d) _ _ _ _ _ _ _ _ (List.all_eq_true.1 aNG o x) (e.at d) f ⟨λb p=>⟨p,rfl⟩,λh=>(by cases h),λh=>(by cases h),λh=>(by cases h),λh=>(by cases h),λh=>(by cases h),λh=>(by cases h),λh=>(by cases h),λh=>(by cases h),λh=>(by cases h),λh=>by cases h⟩;obtain⟨y,rfl⟩:=h.F7 z;obtain⟨A,H⟩:=h.FO y;refine .ctl rfl (λ_=>Hf) λs=>?_;exact k Wb R (w.at s) A _ _ _ _ _ _ _ _ (e.at s) f (λb p=>(h.old b p).1) (H.heap rfl λ_ h=>h)
end
theorem aEo(x y z:A1):GR A4 30 #[x,y,z] a73=(AL 30).at ⟨#[x,y,z,Y,Y,Y,Y,Y,Y,Y,Y,Y,Y,Y,Y,Y,Y,Y,Y,Y,Y,Y,Y,Y,Y,Y,Y,Y,Y,Y,Y,Y,Y,Y,Y,Y,Y,Y,Y,Y,Y,Y,Y,Y,Y,Y,Y,Y,Y,Y,Y,Y,Y,Y,Y,Y,Y,Y,Y,Y,Y,Y,Y,Y,Y],[]⟩ [aY9 JM]:=by rw[jy Xp (show Nj.body=Z JM by kernel_rfl)];kernel_rfl
theorem Ah.aNC{x y z:A1}(h:Ah R #[x,y,z]):Ah R #[x,y,z,Y,Y,Y,Y,Y,Y,Y,Y,Y,Y,Y,Y,Y,Y,Y,Y,Y,Y,Y,Y,Y,Y,Y,Y,Y,Y,Y,Y,Y,Y,Y,Y,Y,Y,Y,Y,Y,Y,Y,Y,Y,Y,Y,Y,Y,Y,Y,Y,Y,Y,Y,Y,Y,Y,Y,Y,Y,Y,Y,Y,Y,Y]:=by
 show Ab Cy (D6 R) [x,y,z,Y,Y,Y,Y,Y,Y,Y,Y,Y,Y,Y,Y,Y,Y,Y,Y,Y,Y,Y,Y,Y,Y,Y,Y,Y,Y,Y,Y,Y,Y,Y,Y,Y,Y,Y,Y,Y,Y,Y,Y,Y,Y,Y,Y,Y,Y,Y,Y,Y,Y,Y,Y,Y,Y,Y,Y,Y,Y,Y,Y,Y,Y] [x,y,z,Y,Y,Y,Y,Y,Y,Y,Y,Y,Y,Y,Y,Y,Y,Y,Y,Y,Y,Y,Y,Y,Y,Y,Y,Y,Y,Y,Y,Y,Y,Y,Y,Y,Y,Y,Y,Y,Y,Y,Y,Y,Y,Y,Y,Y,Y,Y,Y,Y,Y,Y,Y,Y,Y,Y,Y,Y,Y,Y,Y,Y,Y];cases h with
 |cons a t=>
  cases t with
  |cons b t=>
   cases t with
   |cons c _=>
    refine .cons a (.cons b (.cons c ?_));iterate 62 refine Ab.cons (by constructor;exact Ab.nil) ?_
    exact Ab.nil
structure jO(w:A')(R FA:Nat->Prop)(root own:ByteArray)(d9:List Ax)(bi:Nat)(Gs:List Rel)(m:Int)(f:Rel->ByteArray):Prop where
 Iv:V.Iv root
 lines:Lz (V.parse root).1=Ml own d9
 size:root.size<=1000000000
 whole:Whole Gs d9 own
 mh:∀x∈d9,x.1≠own
 check:∀r∈Gs,V.Jo r.p r.v=J
 uK:∀r∈Gs,r.p.size<=1000
 reg:Kf w bi Gs
 sub:∀b,FA b->R b
 Hm:N1 reads FA w
 SE:FA bi
 files:∀r∈Gs,∀a,r.Bj=Z a->FA a.block
 EF:w.cell? ⟨0,0,J⟩=Z (IS Po m)
 a'_:w.cell? ⟨5,15,J⟩=Z (IS aYL 4)
 a5t:∀r∈Gs,Q3 w r (f r)
 a5u:∀r∈Gs,(f r).size<=1000
 sep:∀a∈Gs,∀b∈Gs,GM a.name b.name=0->a.name=b.name
theorem a5s{w':A'}{r:Rel}(h:Q3 w r s)(e:∀a,r.Bj=Z a->w'.heap[a.block]?=w.heap[a.block]?):Q3 w' r s:=by obtain⟨a,x,y,b,h2,h3,h4,f⟩:=h;have hc:=λo=>F4 (w:=w) (w':=w') (a:=⟨a,o,J⟩) (e ⟨a,0,J⟩ b);exact⟨a,x,y,b,h2,(hc _).trans h3,(hc _).trans h4,f⟩
def aBn(Gs:List Rel)(d9:List Ax)(f:Rel->ByteArray)(R:Nat->Prop)(w:A')(c':AY)(cs':List AY)(e:Nat->Prop)(g':AK)(w':A'):Prop:=∃R' v A,g'=G (c'.finish v) cs'/\AJ Cy (D6 R') v v/\(∀b,R b->R' b)/\Holds e R' w'/\(∀b,R b->w'.heap[b]?=w.heap[b]?)/\pe A f v w'/\T8 A/\(∀x∈A,x.rel∈Gs)/\(Go.Proofs.YtcfhleenecfghaaGreatDoor.names A).Nodup/\∀x,x∈Go.Proofs.YtcfhleenecfghaaGreatDoor.names A↔N.Reach (M4 Gs) d9 x
section
variable[Ck]
theorem aL0{root own:ByteArray}(h:jO w R FA root own d9 bi Gs m f)(B1:Holds Wb R w)(OH:Ah R #[AI root,As (Z ⟨bi,0,J⟩) Gs.length cap,AI ⟨#[]⟩]):Goes Wb (G (GR A4 30 #[AI root,As (Z ⟨bi,0,J⟩) Gs.length cap,AI ⟨#[]⟩] a73) (c'::cs')) w (aBn Gs d9 f R w c' cs'):=by
 have F:∀b,R b->b<w.heap.size:=λb s=>B1.closed.lt s;have a1B:=h.whole.roots;rw[aEo,aCd];refine .Mn (Q:=λT H=>T=#[AI root,As (Z ⟨bi,0,J⟩) Gs.length cap,AI ⟨#[]⟩,Y,Y,Y,aY4 (Z ⟨w.heap.size,0,J⟩),aYA,Y,Y,Y,Y,Y,Y,Y,Y,Y,Y,Y,Y,Y,Y,Y,Y,Y,Y,Y,Y,Y,Y,Y,Y,Y,Y,Y,Y,Y,Y,Y,Y,Y,Y,Y,Y,Y,Y,Y,Y,Y,Y,Y,Y,Y,Y,Y,Y,Y,Y,Y,Y,Y,Y,Y,Y,Y]/\H.heap=w.heap.push (BE #[As J 0 0,AI ⟨#[]⟩] 59)) Xp (by decide) aDd (Ah.aNC OH) B1 (λd I=>ME ?_ (aKq _ _ _ (on (w.at d) I))) ?_;·rintro e a' w'⟨C,h2,rfl,h4⟩;exact⟨C,h2,h4,rfl⟩
 rintro Bs C7 Hr H⟨rfl,FP⟩e1 Dz F' Ic;have e1:=e1.trans FP;have GH:H.heap.size=w.heap.size+1:=by rw[e1];simp
 have Ae:∀b,b<w.heap.size->H.heap[b]?=w.heap[b]?:=λb s=>by rw[e1,H4 s,<-ET]
 have Lx:H.heap[w.heap.size]?=Z (BE #[As J 0 0,AI ⟨#[]⟩] 59):=by rw[e1,OX,if_pos rfl]
 have k7:R 0:=h.sub 0 (h.Hm.EF 0 (by decide));have eo:=F 0 k7;have FD:H.cell? ⟨0,0,J⟩=Z (IS Po m):=(F4 (a:=⟨0,0,J⟩) (Ae 0 eo)).trans h.EF;refine .Mn (Q:=λT w2=>∃p z,(∀j u,(Ml own d9)[j]?=Z u->w2.cell? ⟨p,j,J⟩=Z u)/\(H.heap.size<=w2.heap.size/\∀b,b<H.heap.size->w2.heap[b]?=H.heap[b]?)/\T=#[AI root,As (Z ⟨bi,0,J⟩) Gs.length cap,AI ⟨#[]⟩,Y,Y,Y,aY4 (Z ⟨w.heap.size,0,J⟩),aYA,As (Z ⟨p,0,J⟩) (d9.length+1) z,aYA,Y,Y,Y,Y,Y,aY8 #[As (Z ⟨p,0,J⟩) (d9.length+1) z,aYA],AI root,aY8 #[As (Z ⟨p,0,J⟩) (d9.length+1) z,aYA],As (Z ⟨p,0,J⟩) (d9.length+1) z,aYA,Y,Y,Y,Y,Y,Y,Y,Y,Y,Y,Y,Y,Y,Y,Y,Y,Y,Y,Y,Y,Y,Y,Y,Y,Y,Y,Y,Y,Y,Y,Y,Y,Y,Y,Y,Y,Y,Y,Y,Y,Y,Y,Y,Y,Y]) Xp (by decide) aDe Dz Ic (λd I=>ME ?_ (aKr root own d9 m _ _ _ _ _ _ _ _ _ _ _ _ _ _ _ _ _ _ _ _ _ _ _ _ _ _ _ _ _ _ _ _ _ _ _ _ _ _ _ _ _ _ _ _ _ _ _ _ _ _ _ _ _ _ _ _ _ _ _ _ _ _ _ _ (on (H.at d) I) h.Iv h.lines h.size FD)) ?_;·rintro e a' w'⟨C,h2,p,z,h3,h4,X⟩;exact⟨C,h2,p,z,h3,⟨h4.size,h4.block⟩,X⟩
 rintro MQ FJ Fc w2⟨p,z,Z',⟨G0,kc⟩,rfl⟩e2 FR KG P6;refine .Mn (Q:=λT w3=>T=#[AI root,As (Z ⟨bi,0,J⟩) Gs.length cap,AI ⟨#[]⟩,Y,Y,Y,aY4 (Z ⟨w.heap.size,0,J⟩),aYA,As (Z ⟨p,0,J⟩) (d9.length+1) z,aYA,Y,Y,Y,Y,Y,aY8 #[As (Z ⟨p,0,J⟩) (d9.length+1) z,aYA],AI root,aY8 #[As (Z ⟨p,0,J⟩) (d9.length+1) z,aYA],As (Z ⟨p,0,J⟩) (d9.length+1) z,aYA,aYA,aY5 A5,Y,Y,Y,Y,Y,Y,Y,Y,Y,Y,Y,Y,Y,Y,Y,Y,Y,Y,Y,Y,Y,Y,Y,Y,Y,Y,Y,Y,Y,Y,Y,Y,Y,Y,Y,Y,Y,Y,Y,Y,Y,Y,Y]/\w3.heap=w2.heap) Xp (by decide) aDf FR P6 (λd I=>ME ?_ (aKv _ _ _ _ _ _ _ _ _ _ _ _ _ _ _ _ _ _ _ _ _ _ _ _ _ _ _ _ _ _ _ _ _ _ _ _ _ _ _ _ _ _ _ _ _ _ _ _ _ _ _ _ _ _ _ _ _ _ _ _ _ _ _ _ (on (w2.at d) I))) ?_;·rintro e a' w'⟨C,h2,rfl,h4⟩;exact⟨C,h2,h4,rfl⟩
 rintro N4 Es v3 w3⟨rfl,aEV⟩DF Ln O7 Ur;have DF:=DF.trans aEV;refine .Mn (Q:=λT w4=>T=#[AI root,As (Z ⟨bi,0,J⟩) Gs.length cap,AI ⟨#[]⟩,Y,Y,Y,aY4 (Z ⟨w.heap.size,0,J⟩),aYA,As (Z ⟨p,0,J⟩) (d9.length+1) z,aYA,As J 0 0,Y,Y,Y,Y,aY8 #[As (Z ⟨p,0,J⟩) (d9.length+1) z,aYA],AI root,aY8 #[As (Z ⟨p,0,J⟩) (d9.length+1) z,aYA],As (Z ⟨p,0,J⟩) (d9.length+1) z,aYA,aYA,aY5 A5,Y,Y,aY8 #[As J 0 0,aYA],AI ⟨#[]⟩,aY8 #[As J 0 0,aYA],As J 0 0,aYA,Y,Y,Y,Y,Y,Y,Y,Y,Y,Y,Y,Y,Y,Y,Y,Y,Y,Y,Y,Y,Y,Y,Y,Y,Y,Y,Y,Y,Y,Y,Y,Y,Y,Y,Y,Y]/\w4.heap=w3.heap) Xp (by decide) aDg Ln Ur (λd I=>ME ?_ (aKw _ _ _ _ _ _ _ _ _ _ _ _ _ _ _ _ _ _ _ _ _ _ _ _ _ _ _ _ _ _ _ _ _ _ _ _ _ _ _ _ _ _ _ _ _ _ _ _ _ _ _ _ _ _ _ _ _ _ _ _ _ _ _ _ (on (w3.at d) I))) ?_;·rintro e a' w'⟨C,h2,rfl,h4⟩;exact⟨C,h2,h4,rfl⟩
 rintro YU Et v4 w4⟨rfl,aEW⟩EX P7 Ut O6;have EX:=(EX.trans aEW).trans DF;refine .Mn (Q:=λT M=>T=#[AI root,As (Z ⟨bi,0,J⟩) Gs.length cap,AI ⟨#[]⟩,Y,Y,Y,aY4 (Z ⟨w.heap.size,0,J⟩),aYA,As (Z ⟨p,0,J⟩) (d9.length+1) z,aYA,As J 0 0,Y,Y,Y,Y,aY8 #[As (Z ⟨p,0,J⟩) (d9.length+1) z,aYA],AI root,aY8 #[As (Z ⟨p,0,J⟩) (d9.length+1) z,aYA],As (Z ⟨p,0,J⟩) (d9.length+1) z,aYA,aYA,aY5 A5,Y,Y,aY8 #[As J 0 0,aYA],AI ⟨#[]⟩,aY8 #[As J 0 0,aYA],As J 0 0,aYA,aYA,aY5 A5,Y,Y,Y,Y,Y,Y,Y,Y,Y,Y,Y,Y,Y,Y,Y,Y,Y,Y,Y,Y,Y,Y,Y,Y,Y,Y,Y,Y,Y,Y,Y,Y,Y,Y]/\M.heap=w4.heap) Xp (by decide) aDh P7 O6 (λd I=>ME ?_ (aKx _ _ _ _ _ _ _ _ _ _ _ _ _ _ _ _ _ _ _ _ _ _ _ _ _ _ _ _ _ _ _ _ _ _ _ _ _ _ _ _ _ _ _ _ _ _ _ _ _ _ _ _ _ _ _ _ _ _ _ _ _ _ _ _ (on (w4.at d) I))) ?_;·rintro e a' w'⟨C,h2,rfl,h4⟩;exact⟨C,h2,h4,rfl⟩
 rintro T5 Hh v5 M⟨rfl,aEX⟩P QC Uu Us;have P:M.heap=Fc.heap:=((P.trans aEX).trans EX).trans e2;have fc:∀j u,(Ml own d9)[j]?=Z u->M.cell? ⟨p,j,J⟩=Z u:=λj u H1=>by rw[show M.cell? ⟨p,j,J⟩=Fc.cell? ⟨p,j,J⟩by simp[F3,P]];exact Z' j u H1
 refine .Mn (Q:=λT K=>∃Al Aj f2,K.heap[f2]?=Z (BE #[AI own,As Al d9.length Aj,As J 0 0,As J 0 0] 128)/\HO K (As Al d9.length Aj) d9/\(M.heap.size<=K.heap.size/\∀b,b<M.heap.size->K.heap[b]?=M.heap[b]?)/\T=#[AI root,As (Z ⟨bi,0,J⟩) Gs.length cap,AI ⟨#[]⟩,Y,Y,Y,aY4 (Z ⟨w.heap.size,0,J⟩),aYA,As (Z ⟨p,0,J⟩) (d9.length+1) z,aYA,As J 0 0,aY4 (Z ⟨f2,0,J⟩),Y,Y,Y,aY8 #[As (Z ⟨p,0,J⟩) (d9.length+1) z,aYA],AI root,aY8 #[As (Z ⟨p,0,J⟩) (d9.length+1) z,aYA],As (Z ⟨p,0,J⟩) (d9.length+1) z,aYA,aYA,aY5 A5,Y,Y,aY8 #[As J 0 0,aYA],AI ⟨#[]⟩,aY8 #[As J 0 0,aYA],As J 0 0,aYA,aYA,aY5 A5,Y,Y,As (Z ⟨p,0,J⟩) (d9.length+1) z,dd #[AI own,As Al d9.length Aj,As J 0 0,As J 0 0],Y,Y,Y,Y,Y,Y,Y,Y,Y,Y,Y,Y,Y,Y,Y,Y,Y,Y,Y,Y,Y,Y,Y,Y,Y,Y,Y,Y,Y,Y]) Xp (by decide) aDi QC Us (λd I=>ME ?_ (aKy own d9 p z _ _ _ _ _ _ _ _ _ _ _ _ _ _ _ _ _ _ _ _ _ _ _ _ _ _ _ _ _ _ _ _ _ _ _ _ _ _ _ _ _ _ _ _ _ _ _ _ _ _ _ _ _ _ _ _ _ _ _ _ _ _ _ _ (on (M.at d) I) (by omega) fc)) ?_;·rintro e a' w'⟨C,h2,Al,Aj,f2,_,h3,h4,X,Cz⟩;exact⟨C,h2,Al,Aj,f2,h3,h4,⟨X.size,X.block⟩,Cz⟩
 rintro W9 Li c_ K⟨Al,Aj,f2,Ig,Ls,⟨T_,TO⟩,rfl⟩Jm Ro fD TL;have Da:∀b,b<H.heap.size->K.heap[b]?=H.heap[b]?:=λb s=>by
  have C:b<M.heap.size:=by rw[P];omega
  rw[Jm,TO b C,P,kc b s]
 have km:∀b,b<w.heap.size->K.heap[b]?=w.heap[b]?:=λb s=>(Da b (by omega)).trans (Ae b s);have QB:∀b,R b->W9 b:=λb s=>fD b (Uu b (Ut b (O7 b (KG b (F' b s)))));have S:K.heap[f2]?=Z (BE #[AI own,As Al d9.length Aj,As J 0 0,As J 0 0] 128):=by rw[Jm];exact Ig
 have W:W9 f2:=AJ.gP (Ah.nth Ro 11 rfl);have kB:W9 w.heap.size:=AJ.gP (Ah.nth Ro 6 rfl);refine .ctl rfl (λ_=>GB) λd=>?_;have BD:Pj (K.at d) W9 FA own d9 Al Aj f2 bi Gs m:=by
  refine⟨h.whole,h.mh,h.check,λr A2=>⟨by have:=h.uK r A2;omega,by have:=h.whole.AW r A2;omega⟩,S,W,ln Ls λg _=>by show K.heap[g]?=_;rw[Jm],λg AB=>?_,λi hi=>?_,λb s=>QB b (h.sub b s),h.Hm.same (λb s=>km b (F b (h.sub b s))) ?_,h.SE,h.files,λb s=>TL.closed.lt s,?_⟩;·obtain⟨o,e,k⟩:=TL.closed.heap f2 W;rw[S]at e;obtain rfl:=D3 e;cases k with|cells _ hv _=>exact AJ.uC (Ab.nth 1 hv rfl) AB
  ·have hc:=λo=>F4 (w:=w) (w':=K) (a:=⟨bi,o,J⟩) (km bi (F bi (h.sub bi h.SE)));obtain⟨a,b,c,d⟩:=h.reg i hi;exact⟨(hc _).trans a,(hc _).trans b,(hc _).trans c,(hc _).trans d⟩
  ·have:=h.Hm.low;show D4<=K.heap.size;have h2:=TL.closed.lt kB;omega
  ·exact(F4 (a:=⟨0,0,J⟩) (km 0 eo)).trans h.EF
 refine aPx (cap:=cap) BD (TL.at d) Ro ?_;rintro aCA ao t A Cj B0 Bi C5 Ce D1 Cf Cp Wd QD bL D;rw[<-a2Y];have F0:∀b,R b->t.heap[b]?=w.heap[b]?:=λb s=>(D.same b (QB b s)).trans (km b (F b s));have aGO:t.heap[w.heap.size]?=Z (BE #[As J 0 0,AI ⟨#[]⟩] 59):=((D.same _ kB).trans (Da _ (by omega))).trans Lx;have rC:A.length<=Gs.length:=by
  have C:=N.ly (U:=Gs.map Rel.name) D.nodup λx hx=>by obtain⟨r,A2,e⟩:=h.whole.reach ((D.reach x).1 hx);exact List.mem_map.2 ⟨r,A2,e⟩
  simpa[Go.Proofs.YtcfhleenecfghaaGreatDoor.names]using C
 have a0T:=h.whole.qm;have md:(Gr A).Pairwise λa b=>GM a.name b.name≠0:=by
  have C:((Gr A).map Rel.name).Nodup:=by rw[show(Gr A).map Rel.name=Go.Proofs.YtcfhleenecfghaaGreatDoor.names A by simp[Gr,Go.Proofs.YtcfhleenecfghaaGreatDoor.names]];exact D.nodup
  rw[pT,YM]at C;refine C.imp_of_mem λ{a b}A6 s rh AV=>rh ?_;obtain⟨x,hx,rfl⟩:=List.mem_map.1 A6;obtain⟨y,hy,rfl⟩:=List.mem_map.1 s;exact h.sep _ (D.KP x hx).1 _ (D.KP y hy).1 AV
 have aI4:t.cell? ⟨0,0,J⟩=Z (IS Po m):=(F4 (a:=⟨0,0,J⟩) (F0 0 k7)).trans h.EF;have aGC:R 5:=h.sub 5 (h.Hm.EF 5 (by decide));have NH:t.cell? ⟨5,15,J⟩=Z (IS aYL 4):=(F4 (a:=⟨5,15,J⟩) (F0 5 aGC)).trans h.a'_;refine .tail (Q:=λv H=>pe A f v H/\t.heap.size<=H.heap.size/\∀b,b<t.heap.size->b≠w.heap.size->H.heap[b]?=t.heap[b]?) Xp (by decide) aDj QD Wd (λI=>aL' Cp A m f w.heap.size _ _ _ _ _ _ _ _ _ _ _ _ _ _ _ _ _ _ _ _ _ _ _ _ _ _ _ _ _ _ _ _ _ _ _ _ _ _ _ _ _ _ _ _ _ _ _ _ _ _ _ _ _ _ _ _ _ _ _ _ _ _ (on t I) aGO (a4y D.sl rfl) (λx hx=>(D.KP x hx).2.at (λ_ _=>trivial) λ_ _ _ _ _=>rfl) (by omega) (λx hx=>h.whole.AW _ (D.KP x hx).1) (λx hx=>h.uK _ (D.KP x hx).1) md aI4 NH (λx hx=>a5s (h.a5t _ (D.KP x hx).1) λa A6=>F0 _ (h.sub _ (h.files _ (D.KP x hx).1 a A6))) λx hx=>h.a5u _ (D.KP x hx).1) ?_;rintro jS v OV VY⟨aHs,aVl,Wh⟩Q8 hv bM bJ;refine .here ⟨jS,v,A,rfl,hv,λb s=>bM b (bL b (QB b s)),bJ,λb s=>?_,?_,D.order,λx hx=>(D.KP x hx).1,D.nodup,D.reach⟩;·have C:=Wd.closed.lt (bL b (QB b s));have h2:=F b s;rw[Q8,Wh b C (by omega)];exact F0 b s
 ·obtain⟨a,n,c,E,C,h2,h3,h4⟩:=aHs;exact⟨a,n,c,E,C,h2,h3,a30 h4 Q8⟩
end
section
variable{Wb R:Nat->Prop}{f0:Nat}{ops:Array Bf}{i:Nat}{rest:List Nat}{q:List Cw}{cs:List AY}{o:Bf}{T:Array A1}{w:A'}{d:Nat}{Post:(Nat->Prop)->AK->A'->Prop}
theorem Goes.aNM{Q:A'->Prop}(A7:ops[i]?=Z o)(c:EY o (Gu ops T)=A0)(j:PV A4 Dw Dc [] 8 o.op=A0)(n:Kz A4 o=A0)(r:LX o.op=A5)(u:(opsOf o.op).all (SQ Dw [])=A0)(M:o.dst=J)(y:A4.funcs[f0]?.isSome=A0)(S:f0<4294967296)(s:Holds Wb R w)(A:Ah R T)(E:∀h,∃f,(AU (Cu ⟨T,[]⟩) o).run A4 (on w h)=aY6 aYU f/\Q f)(k:∀R' f w',Q f->w'.heap=f.heap->(∀b,R b->R' b)->Holds Wb R' w'->Ah R' T->Goes Wb (G ((AL f0).at ⟨T,[]⟩ (aY7 ops rest::q)) cs) w' Post):Goes Wb (G ((AL f0).at ⟨T,[]⟩ (aY7 ops (i::rest)::q)) cs) w Post:=by
 obtain⟨p,y⟩:=Option.isSome_iff_exists.1 y;have z:Dc f0=[]:=by unfold Dc;rw[if_neg (by omega)]
 have N:Ej A4 Cy Dw XH 8 (D6 R) [] ((AL f0).at ⟨T,[]⟩ []) ((AL f0).at ⟨T,[]⟩ []):=by refine⟨rfl,⟨p,y,by show Qt (Hi (Dc f0)) p=A0;rw[z];exact h9 p⟩,rfl,λi hi=>(by cases hi),⟨rfl,rfl⟩,rfl,⟨rfl,rfl⟩,⟨rfl,rfl⟩,Ab.bp A _,λt m=>?_⟩;have m:t∈Dc f0:=m;rw[z]at m;cases m
 have U:∀b,b<D4->(D6 R).rel b b:=λb I=>⟨rfl,s.closed.EF b I⟩;refine .JW (Tp Pa (λ_=>trivial) (b0:=AL f0) (a:=⟨T,[]⟩) (rest:=rest) (q:=q) (cs:=cs) (ow:=[]) (Q:=λ_ f=>Q f) A7 c (by simp[AL]) j n r (λx hx=>?_) s.closed s.low λh=>?_) ?_;·have:=N.eval U Ra x (by show SQ Dw (Dc f0) x=A0;rw[z];exact List.all_eq_true.1 u x hx);rw[wM]at this;exact this
 ·obtain⟨f,H,h2⟩:=E h;have h3:=PZ (P:=A4) (AU (Cu ⟨T,[]⟩) o) (on w h) #[];rw[H]at h3;exact⟨aYU,Y,f,_,RS h3 rfl,AF ⟨rfl,rfl⟩,h2⟩
 ·rintro g w'⟨D,v,f,rfl,hv,AD,C,D',K,F,_⟩;have e:aJ ⟨T,[]⟩ o.dst v=⟨T,[]⟩:=by rw[M];rfl
  rw[e];exact k D f w' AD D' C ⟨K,F⟩ (A.mono C)
theorem Goes.calm{v:A1}(A:ops[i]?=Z o)(N:EY o (Gu ops T)=A0)(C:PV A4 Dw Dc [] 8 o.op=A0)(K:Kz A4 o=A0)(M:LX o.op=A5)(D:(opsOf o.op).all (SQ Dw [])=A0)(y:o.dst=Z d)(z:A4.funcs[f0]?.isSome=A0)(I:f0<4294967296)(h:Holds Wb R w)(s:Ah R T)(H:∀w,(AU (Cu ⟨T,[]⟩) o).run A4 w=aY6 (aYD v) w)(k:∀R' w',w'.heap=w.heap->(∀b,R b->R' b)->Holds Wb R' w'->Ah R' (T.setIfInBounds d v)->Goes Wb (G ((AL f0).at ⟨T.setIfInBounds d v,[]⟩ (aY7 ops rest::q)) cs) w' Post):Goes Wb (G ((AL f0).at ⟨T,[]⟩ (aY7 ops (i::rest)::q)) cs) w Post:=Goes.op (Q:=λu f=>u=v/\f.heap=w.heap) A N C K M D y z I h s (λU=>⟨v,_,H _,rfl,rfl⟩) λR' u f w'⟨hu,he⟩e p m x=>by subst hu;exact k R' w' (e.trans he) p m x
end
noncomputable def Uc:Cv:=(dR.body).getD aYT
noncomputable def jk:Cv:=fstC Uc
noncomputable def qN:Cv:=fstC (sndC Uc)
noncomputable def Oz:Cv:=sndC (sndC Uc)
theorem aCc:Uc=aYB jk (aYB qN Oz):=by kernel_rfl
noncomputable def PW:Array Bf:=match qN with|aYH _ ops _=>ops|_=>#[]
theorem aEF:qN=aYH 1 PW A5:=by kernel_rfl
theorem a3r:PW.size=9:=by kernel_rfl
noncomputable def J6(i:Nat):Bf:=PW.getD i Ag
theorem Tn(i:Nat)(h:i<9):PW[i]?=Z (J6 i):=by unfold J6;rw[JX,ET (by rw[a3r];exact h)];rfl
theorem aG1:∀i,i<9->(J6 i).guard=J|0,_=>by kernel_rfl|1,_=>by kernel_rfl|2,_=>by kernel_rfl|3,_=>by kernel_rfl|4,_=>by kernel_rfl|5,_=>by kernel_rfl|6,_=>by kernel_rfl|7,_=>by kernel_rfl|8,_=>by kernel_rfl
theorem VZ(i:Nat)(h:i<9)(y:_):EY (J6 i) y=A0:=by simp[EY,aG1 i h]
theorem aDP:F8 A4 Dw Dc [] 8 jk=A0:=by kernel_rfl
theorem aDQ:F8 A4 Dw Dc [] 8 Oz=A0:=by kernel_rfl
theorem aL6(x y:A1)(w:A'):jk.wp A4 (λe b w'=>e=aYP/\b.defers=[]/\w'=w.alloc (BE #[As J 0 0,AI ⟨#[]⟩] 59)/\b.tmps=#[x,y,Y,Y,aY4 (Z ⟨w.heap.size,0,J⟩),aY5 A5,Y,Y,Y,Y,Y,Y,Y,Y,Y,Y,Y]) ⟨#[x,y,Y,Y,Y,Y,Y,Y,Y,Y,Y,Y,Y,Y,Y,Y,Y],[]⟩ w:=by simp only[jk,Uc,dR,HB,fstC,sndC];go_wp2;done
theorem aL7(B f N y x:Nat)(m:Option Aa)(s:ByteArray)(g5 c Ap Ar Am j n p2:A1)(w:A')(z:w.heap[B]?=Z (BE #[As J 0 0,AI ⟨#[]⟩] 59))(C:w.heap[f]?=Z (BE #[As m y x,AI s] 59))(A:B≠f):Oz.wp A4 (xU A4 dR λe H=>∃v,e=hq v/\v=aY8 #[dd #[As m y x,AI s],aY5 A0]/\w.heap.size<=H.heap.size/\∀b,b<w.heap.size->b≠B->H.heap[b]?=w.heap[b]?) ⟨#[g5,c,Y,Y,aY4 (Z ⟨B,0,J⟩),aY5 A5,aY4 (Z ⟨f,0,J⟩),aYA,Ap,Ar,Am,j,n,p2,Y,Y,Y],[]⟩ w:=by
 have r:w.cell? ⟨B,0,J⟩=Z (As J 0 0):=by rw[Ad z];rfl
 have t:w.cell? ⟨B,1,J⟩=Z (AI ⟨#[]⟩):=by rw[Ad z];rfl
 have Q:w.cell? ⟨f,0,J⟩=Z (As m y x):=by rw[Ad C];rfl
 have U:w.cell? ⟨f,1,J⟩=Z (AI s):=by rw[Ad C];rfl
 have z0:=Dv z 0;have E2:=Dv z 1;have I:=A3 z;have K:∀w,(binOp .eql 24 aYA aYA).run A4 w=aY6 (aY5 A0) w:=λw=>by kernel_rfl
 clear z C;simp only[Oz,Uc,dR,HB,fstC,sndC];go_wp2_with fail;have M:(⟨B,0,J⟩:Aa)≠⟨f,0,J⟩:=λh=>A (congrArg Addr.block h);go_region_held2 λwx=>wx.cell? ⟨f,0,J⟩=Z (As m y x)/\wx.cell? ⟨f,1,J⟩=Z (AI s)(first|(go_keep;done)|exact⟨(F4 (a:=⟨f,0,J⟩) (by rw[F_ _ _ _ _ (show f≠B from JK A),F_ _ _ _ _ (show f≠B from JK A)];rfl)).trans Q,(F4 (a:=⟨f,1,J⟩) (by rw[F_ _ _ _ _ (show f≠B from JK A),F_ _ _ _ _ (show f≠B from JK A)];rfl)).trans U⟩)(fail);all_goals
  go_wp2_with fail;(try simp only[Sl,Exit.then]);refine bodyPost_ret (results_cell_tmp (p:=4) (q:=5) (ty:=59) rfl _ _ B 59 _ _ _ rfl (EV _ B 1 _ _ (AI s) (EV _ B 0 _ _ (As m y x) I.out)) a_9 rfl (by kernel_rfl)) rfl ⟨_,rfl,rfl,?_,λb hb D=>?_⟩;·exact(((B9 0 w).setCell (p:=⟨B,0,J⟩) (JJ _) (As m y x)).setCell (p:=⟨B,1,J⟩) (JJ _) (AI s)).size
  ·show((w.setCell ⟨B,0,J⟩ (As m y x)).setCell ⟨B,1,J⟩ (AI s)).heap[b]?=_;rw[F_ _ _ _ _ (show b≠B from D),F_ _ _ _ _ (show b≠B from D)]
theorem aEn(x y:A1):GR A4 26 #[x,y] a73=(AL 26).at ⟨#[x,y,Y,Y,Y,Y,Y,Y,Y,Y,Y,Y,Y,Y,Y,Y,Y],[]⟩ [aY9 Uc]:=by rw[jy oT (show dR.body=Z Uc by kernel_rfl)];kernel_rfl
theorem Ah.aNB{x y:A1}(h:Ah R #[x,y]):Ah R #[x,y,Y,Y,Y,Y,Y,Y,Y,Y,Y,Y,Y,Y,Y,Y,Y]:=by
 show Ab Cy (D6 R) [x,y,Y,Y,Y,Y,Y,Y,Y,Y,Y,Y,Y,Y,Y,Y,Y] [x,y,Y,Y,Y,Y,Y,Y,Y,Y,Y,Y,Y,Y,Y,Y,Y];cases h with
 |cons a t=>
  cases t with
  |cons b _=>
   refine .cons a (.cons b ?_);iterate 15 refine Ab.cons (by constructor;exact Ab.nil) ?_
   exact Ab.nil
def aBo(Gs:List Rel)(d9:List Ax)(f:Rel->ByteArray)(R:Nat->Prop)(w:A')(c':AY)(cs':List AY)(p:Nat->Prop)(g':AK)(w':A'):Prop:=∃R' e m h s A,g'=G (c'.finish (aY8 #[dd #[As e m h,AI s],aY5 A0])) cs'/\AJ Cy (D6 R') (aY8 #[dd #[As e m h,AI s],aY5 A0]) (aY8 #[dd #[As e m h,AI s],aY5 A0])/\(∀b,R b->R' b)/\Holds p R' w'/\(∀b,R b->w'.heap[b]?=w.heap[b]?)/\HO w' (As e m h) (names (Ex A A.length))/\T8 A/\(∀x∈A,x.rel∈Gs)/\(names A).Nodup/\∀x,x∈names A↔N.Reach (M4 Gs) d9 x
section
variable[Ck]
omit[Ck]in theorem aCP(w:A'):(AU ρ (J6 6)).run A4 w=aY6 (aYD (aY4 (Z ⟨w.heap.size,0,J⟩))) (w.alloc (BE #[As J 0 0,AI ⟨#[]⟩] 59)):=by
 have b:(J6 6).op=.alloc 59:=by kernel_rfl
 have e:=Tryz.zeroValue59;unfold AU;rw[b];simp[go_sem,e]
omit[Ck]in theorem aRn{b:Nat}{BN:Option Aa}{BP hH:Nat}(f:ρ (oM 6)=Af b)(e:ρ (oM 12)=dd #[As BN BP hH,AI s])(h:w.heap[b]?=Z (BE #[As J 0 0,AI ⟨#[]⟩] 59)):(AU ρ (J6 7)).run A4 w=aY6 aYU ((w.setCell ⟨b,0,J⟩ (As BN BP hH)).setCell ⟨b,1,J⟩ (AI s)):=by
 have m:(J6 7).op=.store 59 (oM 6) (oM 12):=by kernel_rfl
 unfold AU;rw[m];simp only[f,e];have c0:w.cell? ⟨b,0,J⟩=Z (As J 0 0):=by simp[F3,h]
 have c1:w.cell? ⟨b,1,J⟩=Z (AI ⟨#[]⟩):=by simp[F3,h]
 have z0:=Dv h 0;have E2:=Dv h 1;simp[go_sem,c0,c1,z0,E2]
theorem aL8{root own:ByteArray}(z:jO w R FA root own d9 bi Gs m f)(B1:Holds Wb R w)(OH:Ah R #[AI root,As (Z ⟨bi,0,J⟩) Gs.length cap]):Goes Wb (G (GR A4 26 #[AI root,As (Z ⟨bi,0,J⟩) Gs.length cap] a73) (c'::cs')) w (aBo Gs d9 f R w c' cs'):=by
 have LB:∀b,R b->b<w.heap.size:=λb C=>B1.closed.lt C;rw[aEn,aCc];refine .Mn (Q:=λT H=>T=#[AI root,As (Z ⟨bi,0,J⟩) Gs.length cap,Y,Y,aY4 (Z ⟨w.heap.size,0,J⟩),aY5 A5,Y,Y,Y,Y,Y,Y,Y,Y,Y,Y,Y]/\H.heap=w.heap.push (BE #[As J 0 0,AI ⟨#[]⟩] 59)) oT (by decide) aDP (Ah.aNB OH) B1 (λd N=>ME ?_ (aL6 _ _ (on (w.at d) N))) ?_;·rintro e a' w'⟨h1,h2,rfl,h4⟩;exact⟨h1,h2,h4,rfl⟩
 rintro Bs C7 Hr H⟨rfl,FP⟩e1 Dz F' Ic;have e1:=e1.trans FP;have GH:H.heap.size=w.heap.size+1:=by rw[e1];simp
 have Ae:∀b,b<w.heap.size->H.heap[b]?=w.heap[b]?:=λb C=>by rw[e1,H4 C,<-ET]
 have Lx:H.heap[w.heap.size]?=Z (BE #[As J 0 0,AI ⟨#[]⟩] 59):=by rw[e1,OX,if_pos rfl]
 refine .ctl rfl (λ_=>GB) λd1=>?_;rw[aEF];refine .ctl rfl (λ_=>Hu) λd2=>?_;rw[a3r];show Goes Wb (G ((AL 26).at ⟨#[AI root,As (Z ⟨bi,0,J⟩) Gs.length cap,Y,Y,aY4 (Z ⟨w.heap.size,0,J⟩),aY5 A5,Y,Y,Y,Y,Y,Y,Y,Y,Y,Y,Y],[]⟩ (aY7 PW [0,1,2,3,4,5,6,7,8]::[aY9 Oz])) (c'::cs')) _ _;refine Goes.calm (v:=AI root) (Tn 0 (by decide)) (VZ 0 (by decide) _) (by kernel_rfl) (by kernel_rfl) (by kernel_rfl) (by kernel_rfl) (show(J6 0).dst=Z 9 by kernel_rfl) (by kernel_rfl) (by decide) ((Ic.at d1).at d2) Dz (λw=>?_) ?_
 ·have I:(J6 0).op=aYg (oM 0):=by kernel_rfl
  unfold AU;rw[I];rfl
 intro MQ w2 e2 KG P6 FR;have e2:w2.heap=H.heap:=e2;have FR:Ah MQ #[AI root,As (Z ⟨bi,0,J⟩) Gs.length cap,Y,Y,aY4 (Z ⟨w.heap.size,0,J⟩),aY5 A5,Y,Y,Y,AI root,Y,Y,Y,Y,Y,Y,Y]:=FR;show Goes Wb (G ((AL 26).at ⟨#[AI root,As (Z ⟨bi,0,J⟩) Gs.length cap,Y,Y,aY4 (Z ⟨w.heap.size,0,J⟩),aY5 A5,Y,Y,Y,AI root,Y,Y,Y,Y,Y,Y,Y],[]⟩ (aY7 PW [1,2,3,4,5,6,7,8]::[aY9 Oz])) (c'::cs')) _ _;refine Goes.calm (v:=As (Z ⟨bi,0,J⟩) Gs.length cap) (Tn 1 (by decide)) (VZ 1 (by decide) _) (by kernel_rfl) (by kernel_rfl) (by kernel_rfl) (by kernel_rfl) (show(J6 1).dst=Z 10 by kernel_rfl) (by kernel_rfl) (by decide) P6 FR (λw=>?_) ?_
 ·have I:(J6 1).op=aYg (oM 1):=by kernel_rfl
  unfold AU;rw[I];rfl
 intro W M t O7 Ur u;have t:M.heap=H.heap:=t.trans e2;have u:Ah W #[AI root,As (Z ⟨bi,0,J⟩) Gs.length cap,Y,Y,aY4 (Z ⟨w.heap.size,0,J⟩),aY5 A5,Y,Y,Y,AI root,As (Z ⟨bi,0,J⟩) Gs.length cap,Y,Y,Y,Y,Y,Y]:=u;show Goes Wb (G ((AL 26).at ⟨#[AI root,As (Z ⟨bi,0,J⟩) Gs.length cap,Y,Y,aY4 (Z ⟨w.heap.size,0,J⟩),aY5 A5,Y,Y,Y,AI root,As (Z ⟨bi,0,J⟩) Gs.length cap,Y,Y,Y,Y,Y,Y],[]⟩ (aY7 PW [2,3,4,5,6,7,8]::[aY9 Oz])) (c'::cs')) _ _;have X:∀b,R b->W b:=λb C=>O7 b (KG b (F' b C));have Da:∀b,R b->M.heap[b]?=w.heap[b]?:=λb C=>by rw[t];exact Ae b (LB b C)
 have kB:W w.heap.size:=AJ.gP (Ah.nth u 4 rfl);refine .ctl rfl (λ_=>Qz (f:=30) (fn:=Nj) (c:=JM) (az:=#[.tmp 9,.tmp 10,.const (.string ⟨#[]⟩)]) (ats:=#[9,47,9]) (Tn 2 (by decide)) (VZ 2 (by decide) _) (by simp[AL]) (by kernel_rfl) Xp (by kernel_rfl) (by kernel_rfl)) λd3=>?_;have JN:(#[.tmp 9,.tmp 10,.const (.string ⟨#[]⟩)]:Array C2).map (Cu ⟨#[.string root,.slice (Z ⟨bi,0,J⟩) Gs.length cap,Y,Y,.pointer (Z ⟨w.heap.size,0,J⟩),.bool A5,Y,Y,Y,.string root,.slice (Z ⟨bi,0,J⟩) Gs.length cap,Y,Y,Y,Y,Y,Y],[]⟩)=#[.string root,.slice (Z ⟨bi,0,J⟩) Gs.length cap,.string ⟨#[]⟩]:=by kernel_rfl
 rw[JN];have kD:jO (M.at d3) W FA root own d9 bi Gs m f:=by
  have hs:∀b,FA b->M.heap[b]?=w.heap[b]?:=λb C=>Da b (z.sub b C);have n:∀b o,FA b->(M.at d3).cell? ⟨b,o,J⟩=w.cell? ⟨b,o,J⟩:=λb o C=>F4 (a:=⟨b,o,J⟩) (hs b C);refine⟨z.Iv,z.lines,z.size,z.whole,z.mh,z.check,z.uK,λi hi=>?_,λb C=>X b (z.sub b C),z.Hm.same hs ?_,z.SE,z.files,(n 0 0 (z.Hm.EF 0 (by decide))).trans z.EF,(n 5 15 (z.Hm.EF 5 (by decide))).trans z.a'_,λr A2=>a5s (z.a5t r A2) λa A6=>hs _ (z.files r A2 a A6),z.a5u,z.sep⟩;·obtain⟨a,b,c,d⟩:=z.reg i hi;exact⟨(n _ _ z.SE).trans a,(n _ _ z.SE).trans b,(n _ _ z.SE).trans c,(n _ _ z.SE).trans d⟩
  ·show D4<=M.heap.size;have:=z.Hm.low;rw[t];omega
 refine(aL0 (cap:=cap) kD (Ur.at d3) (.cons (.string _) (.cons (Ah.nth u 10 rfl) (.cons (.string _) .nil)))).bind ?_;rintro U g4 w4⟨YU,v4,A,rfl,gI,Ut,O6,F,⟨p,y,x,E,rfl,_,_,Ls⟩,KL,Ma,EH,V8⟩;generalize(⟨(KE E).toArray⟩:ByteArray)=s at gI;rw[KX,Tn 2 (by decide),RR,show(J6 2).dst=Z 11 by kernel_rfl];have P7:Ah YU #[.string root,.slice (Z ⟨bi,0,J⟩) Gs.length cap,Y,Y,.pointer (Z ⟨w.heap.size,0,J⟩),.bool A5,Y,Y,Y,.string root,.slice (Z ⟨bi,0,J⟩) Gs.length cap,.tuple #[.agg #[.slice p y x,.string s],.nilIface],Y,Y,Y,Y,Y]:=(u.mono Ut).set gI 11;show Goes U (G ((AL 26).at ⟨#[.string root,.slice (Z ⟨bi,0,J⟩) Gs.length cap,Y,Y,.pointer (Z ⟨w.heap.size,0,J⟩),.bool A5,Y,Y,Y,.string root,.slice (Z ⟨bi,0,J⟩) Gs.length cap,.tuple #[.agg #[.slice p y x,.string s],.nilIface],Y,Y,Y,Y,Y],[]⟩ (.inRegion PW [3,4,5,6,7,8]::[.code Oz])) (c'::cs')) _ _;refine Goes.calm (v:=.tuple #[.agg #[.slice p y x,.string s],.nilIface]) (Tn 3 (by decide)) (VZ 3 (by decide) _) (by kernel_rfl) (by kernel_rfl) (by kernel_rfl) (by kernel_rfl) (show(J6 3).dst=Z 8 by kernel_rfl) (by kernel_rfl) (by decide) O6 P7 (λw=>?_) ?_
 ·have I:(J6 3).op=.move (.tmp 11):=by kernel_rfl
  unfold AU;rw[I];rfl
 intro T5 ES Iu Uu Us QC;have QC:Ah T5 #[.string root,.slice (Z ⟨bi,0,J⟩) Gs.length cap,Y,Y,.pointer (Z ⟨w.heap.size,0,J⟩),.bool A5,Y,Y,.tuple #[.agg #[.slice p y x,.string s],.nilIface],.string root,.slice (Z ⟨bi,0,J⟩) Gs.length cap,.tuple #[.agg #[.slice p y x,.string s],.nilIface],Y,Y,Y,Y,Y]:=QC;show Goes U (G ((AL 26).at ⟨#[.string root,.slice (Z ⟨bi,0,J⟩) Gs.length cap,Y,Y,.pointer (Z ⟨w.heap.size,0,J⟩),.bool A5,Y,Y,.tuple #[.agg #[.slice p y x,.string s],.nilIface],.string root,.slice (Z ⟨bi,0,J⟩) Gs.length cap,.tuple #[.agg #[.slice p y x,.string s],.nilIface],Y,Y,Y,Y,Y],[]⟩ (.inRegion PW [4,5,6,7,8]::[.code Oz])) (c'::cs')) _ _;refine Goes.calm (v:=.agg #[.slice p y x,.string s]) (Tn 4 (by decide)) (VZ 4 (by decide) _) (by kernel_rfl) (by kernel_rfl) (by kernel_rfl) (by kernel_rfl) (show(J6 4).dst=Z 12 by kernel_rfl) (by kernel_rfl) (by decide) Us QC (λw=>?_) ?_
 ·have I:(J6 4).op=.extract (.tmp 8) 0:=by kernel_rfl
  unfold AU;rw[I];rfl
 intro W9 aXB Jm fD TL Ro;have Ro:Ah W9 #[.string root,.slice (Z ⟨bi,0,J⟩) Gs.length cap,Y,Y,.pointer (Z ⟨w.heap.size,0,J⟩),.bool A5,Y,Y,.tuple #[.agg #[.slice p y x,.string s],.nilIface],.string root,.slice (Z ⟨bi,0,J⟩) Gs.length cap,.tuple #[.agg #[.slice p y x,.string s],.nilIface],.agg #[.slice p y x,.string s],Y,Y,Y,Y]:=Ro;show Goes U (G ((AL 26).at ⟨#[.string root,.slice (Z ⟨bi,0,J⟩) Gs.length cap,Y,Y,.pointer (Z ⟨w.heap.size,0,J⟩),.bool A5,Y,Y,.tuple #[.agg #[.slice p y x,.string s],.nilIface],.string root,.slice (Z ⟨bi,0,J⟩) Gs.length cap,.tuple #[.agg #[.slice p y x,.string s],.nilIface],.agg #[.slice p y x,.string s],Y,Y,Y,Y],[]⟩ (.inRegion PW [5,6,7,8]::[.code Oz])) (c'::cs')) _ _;refine Goes.calm (v:=.nilIface) (Tn 5 (by decide)) (VZ 5 (by decide) _) (by kernel_rfl) (by kernel_rfl) (by kernel_rfl) (by kernel_rfl) (show(J6 5).dst=Z 13 by kernel_rfl) (by kernel_rfl) (by decide) TL Ro (λw=>?_) ?_
 ·have I:(J6 5).op=.extract (.tmp 8) 1:=by kernel_rfl
  unfold AU;rw[I];rfl
 intro T6 D Rc rS rN We;have We:Ah T6 #[.string root,.slice (Z ⟨bi,0,J⟩) Gs.length cap,Y,Y,.pointer (Z ⟨w.heap.size,0,J⟩),.bool A5,Y,Y,.tuple #[.agg #[.slice p y x,.string s],.nilIface],.string root,.slice (Z ⟨bi,0,J⟩) Gs.length cap,.tuple #[.agg #[.slice p y x,.string s],.nilIface],.agg #[.slice p y x,.string s],.nilIface,Y,Y,Y]:=We;have qX:D.heap=w4.heap:=(Rc.trans Jm).trans Iu;show Goes U (G ((AL 26).at ⟨#[.string root,.slice (Z ⟨bi,0,J⟩) Gs.length cap,Y,Y,.pointer (Z ⟨w.heap.size,0,J⟩),.bool A5,Y,Y,.tuple #[.agg #[.slice p y x,.string s],.nilIface],.string root,.slice (Z ⟨bi,0,J⟩) Gs.length cap,.tuple #[.agg #[.slice p y x,.string s],.nilIface],.agg #[.slice p y x,.string s],.nilIface,Y,Y,Y],[]⟩ (.inRegion PW [6,7,8]::[.code Oz])) (c'::cs')) _ _;refine Goes.op (Q:=λv H=>v=.pointer (Z ⟨D.heap.size,0,J⟩)/\H.heap=D.heap.push (.cells #[.slice J 0 0,.string ⟨#[]⟩] 59)) (Tn 6 (by decide)) (VZ 6 (by decide) _) (by kernel_rfl) (by kernel_rfl) (by kernel_rfl) (by kernel_rfl) (show(J6 6).dst=Z 6 by kernel_rfl) (by kernel_rfl) (by decide) rN We (λN=>⟨_,_,aCP _,rfl,rfl⟩) ?_;rintro ao mr Il KT⟨rfl,jv⟩Re bL Wd QD;have Re:=Re.trans jv;have QD:Ah ao #[.string root,.slice (Z ⟨bi,0,J⟩) Gs.length cap,Y,Y,.pointer (Z ⟨w.heap.size,0,J⟩),.bool A5,.pointer (Z ⟨D.heap.size,0,J⟩),Y,.tuple #[.agg #[.slice p y x,.string s],.nilIface],.string root,.slice (Z ⟨bi,0,J⟩) Gs.length cap,.tuple #[.agg #[.slice p y x,.string s],.nilIface],.agg #[.slice p y x,.string s],.nilIface,Y,Y,Y]:=QD;have P:KT.heap[D.heap.size]?=Z (.cells #[.slice J 0 0,.string ⟨#[]⟩] 59):=by rw[Re,OX,if_pos rfl]
 show Goes U (G ((AL 26).at ⟨#[.string root,.slice (Z ⟨bi,0,J⟩) Gs.length cap,Y,Y,.pointer (Z ⟨w.heap.size,0,J⟩),.bool A5,.pointer (Z ⟨D.heap.size,0,J⟩),Y,.tuple #[.agg #[.slice p y x,.string s],.nilIface],.string root,.slice (Z ⟨bi,0,J⟩) Gs.length cap,.tuple #[.agg #[.slice p y x,.string s],.nilIface],.agg #[.slice p y x,.string s],.nilIface,Y,Y,Y],[]⟩ (.inRegion PW [7,8]::[.code Oz])) (c'::cs')) _ _;refine Goes.aNM (Q:=λH=>H.heap=((KT.setCell ⟨D.heap.size,0,J⟩ (.slice p y x)).setCell ⟨D.heap.size,1,J⟩ (.string s)).heap) (Tn 7 (by decide)) (VZ 7 (by decide) _) (by kernel_rfl) (by kernel_rfl) (by kernel_rfl) (by kernel_rfl) (show(J6 7).dst=J by kernel_rfl) (by kernel_rfl) (by decide) Wd QD (λN=>?_) ?_;·exact⟨_,aRn (ρ:=Cu ⟨#[.string root,.slice (Z ⟨bi,0,J⟩) Gs.length cap,Y,Y,.pointer (Z ⟨w.heap.size,0,J⟩),.bool A5,.pointer (Z ⟨D.heap.size,0,J⟩),Y,.tuple #[.agg #[.slice p y x,.string s],.nilIface],.string root,.slice (Z ⟨bi,0,J⟩) Gs.length cap,.tuple #[.agg #[.slice p y x,.string s],.nilIface],.agg #[.slice p y x,.string s],.nilIface,Y,Y,Y],[]⟩) (w:=on KT N) (b:=D.heap.size) rfl rfl P,rfl⟩
 rintro jS aXC OV aEa Um bM bJ rX;have Um:=Um.trans aEa;have aJN:OV.heap[D.heap.size]?=Z (.cells #[.slice p y x,.string s] 59):=by rw[Um];exact EV _ _ 1 _ _ (.string s) (EV KT _ 0 _ _ (.slice p y x) P)
 have Wh:∀b,b<D.heap.size->OV.heap[b]?=w4.heap[b]?:=λb C=>by rw[Um,F_ _ _ _ _ (show b≠D.heap.size by omega),F_ _ _ _ _ (show b≠D.heap.size by omega),Re,H4 C,<-ET,qX]
 show Goes U (G ((AL 26).at ⟨#[.string root,.slice (Z ⟨bi,0,J⟩) Gs.length cap,Y,Y,.pointer (Z ⟨w.heap.size,0,J⟩),.bool A5,.pointer (Z ⟨D.heap.size,0,J⟩),Y,.tuple #[.agg #[.slice p y x,.string s],.nilIface],.string root,.slice (Z ⟨bi,0,J⟩) Gs.length cap,.tuple #[.agg #[.slice p y x,.string s],.nilIface],.agg #[.slice p y x,.string s],.nilIface,Y,Y,Y],[]⟩ (.inRegion PW [8]::[.code Oz])) (c'::cs')) _ _;refine Goes.calm (v:=.nilIface) (Tn 8 (by decide)) (VZ 8 (by decide) _) (by kernel_rfl) (by kernel_rfl) (by kernel_rfl) (by kernel_rfl) (show(J6 8).dst=Z 7 by kernel_rfl) (by kernel_rfl) (by decide) bJ rX (λw=>?_) ?_
 ·have I:(J6 8).op=.assign (.tmp 13):=by kernel_rfl
  unfold AU;rw[I];rfl
 intro pw K Q8 a'q rL Ys;have Ys:Ah pw #[.string root,.slice (Z ⟨bi,0,J⟩) Gs.length cap,Y,Y,.pointer (Z ⟨w.heap.size,0,J⟩),.bool A5,.pointer (Z ⟨D.heap.size,0,J⟩),.nilIface,.tuple #[.agg #[.slice p y x,.string s],.nilIface],.string root,.slice (Z ⟨bi,0,J⟩) Gs.length cap,.tuple #[.agg #[.slice p y x,.string s],.nilIface],.agg #[.slice p y x,.string s],.nilIface,Y,Y,Y]:=Ys;refine .ctl rfl (λ_=>Hf) λd4=>?_;have ev:w4.heap[w.heap.size]?=Z (.cells #[.slice J 0 0,.string ⟨#[]⟩] 59):=by rw[F _ kB];show M.heap[w.heap.size]?=_;rw[t];exact Lx
 have a'h:w.heap.size<D.heap.size:=by rw[qX];exact O0 ev
 have aGN:K.heap[w.heap.size]?=Z (.cells #[.slice J 0 0,.string ⟨#[]⟩] 59):=by rw[Q8,Wh _ a'h];exact ev
 have S:K.heap[D.heap.size]?=Z (.cells #[.slice p y x,.string s] 59):=by rw[Q8];exact aJN
 refine .tail (Q:=λv H=>v=.tuple #[.agg #[.slice p y x,.string s],.bool A0]/\K.heap.size<=H.heap.size/\∀b,b<K.heap.size->b≠w.heap.size->H.heap[b]?=K.heap[b]?) oT (by decide) aDQ Ys (rL.at d4) (λN=>aL7 w.heap.size D.heap.size 0 y x p s _ _ _ _ _ _ _ _ (on (K.at d4) N) aGN S (by omega)) ?_;rintro jR aSv aTG IM⟨rfl,aVk,aGx⟩Yf aJ2 a'r rM;have aGh:∀b,YU b->jR b:=λb C=>a'r b (a'q b (bM b (bL b (rS b (fD b (Uu b C))))));have f_:∀b,YU b->b≠w.heap.size->IM.heap[b]?=w4.heap[b]?:=λb C md=>by
  have h1:b<D.heap.size:=by rw[qX];exact O6.closed.lt C
  have h2:b<K.heap.size:=by have:=O0 S;omega
  rw[Yf,aGx b h2 md,Q8,Wh b h1]
 refine .here ⟨jR,p,y,x,s,A,rfl,aJ2,λb C=>aGh b (Ut b (X b C)),rM,λb C=>?_,?_,KL,Ma,EH,V8⟩;·rw[f_ b (Ut b (X b C)) (by have:=LB b C;omega),F b (X b C)];exact Da b C
 ·by_cases Z4:names (Ex A A.length)=[]
  ·rcases Ls with h|⟨g,c,h,_⟩;·exact AA h
   ·exact AF ⟨g,c,h,λj H1=>by rw[Z4]at H1;cases H1⟩
  ·refine ln Ls λg AB=>f_ g ?_ λe=>?_;·cases gI with|tuple hv=>have h1:=Ab.nth 0 hv rfl;cases h1 with|agg h2=>exact AJ.uC (Ab.nth 0 h2 rfl) AB
   ·subst e;rcases Ls with⟨h,AV⟩|⟨Ds,c2,h,Ev⟩;·exact Z4 AV
    ·rw[h]at AB;have AB:Ds=w.heap.size:=D3 AB;subst AB;have h3:=(Ev 0 (List.length_pos_iff.2 Z4)).1;rw[Nat.zero_mul,Ad ev]at h3;cases h3
end
theorem Ah.uq(h:Ah R (E_ [0,15] T))(hv:AJ Cy (D6 R) v v)(b:[0,15].contains d=A5):Ah R (E_ [0,15] (T.setIfInBounds d v)):=by rw[ss _ _ b];exact Ah.set h hv d
theorem Ah.gj(h:Ah R (E_ [0,15] T))(i:Nat)(hi:[0,15].contains i=A5)(e:T[i]?=Z v):AJ Cy (D6 R) v v:=by rw[<-Ta hi T]at e;exact Ah.nth h i e
theorem Ah.Tx{b:Array A1}(h:Ah R (E_ [0,15] T))(e:b=T):Ah R (E_ [0,15] b):=by rw[e];exact h
theorem a1N{D:List Nat}(b:D.contains d=A0)(T:Array A1)(v:A1):E_ D (T.setIfInBounds d v)=E_ D T:=by
 apply Array.ext_getElem?;intro i;unfold E_;rw[ck,ck];by_cases e:d=i
 ·subst e;rw[Array.getElem?_setIfInBounds];by_cases h:d<T.size;·simp only[↓reduceIte,h,MP,b];rw[ET h];simp only[MP]
  ·simp only[↓reduceIte,h,Option.map_none];rw[Array.getElem?_eq_none (by omega)];rfl
 ·rw[JF e]
section
variable{Wb R:Nat->Prop}{ops:Array Bf}{i:Nat}{rest:List Nat}{q:List Cw}{cs:List AY}{o:Bf}{T:Array A1}{w:A'}{d:Nat}{Post:(Nat->Prop)->AK->A'->Prop}
theorem Goes.zU{f:Nat}{fn:Func}{opd:Array C2}{ats:Array A_}{args:Array A1}{Q:A1->A'->Prop}(p:ops[i]?=Z o)(c:EY o (Gu ops T)=A0)(N:o.op=.call {callee:=.value (.func f),args:=opd,argTypes:=ats})(I:o.dst=Z d)(K:A4.funcs[f]?=Z fn)(M:(fn.name== "runtime.NumGoroutine")=A5)(C:fn.body.isSome=A0)(j:[0,15].contains d=A5)(A:opd.map (Cu ⟨T,[]⟩)=args)(s:Holds Wb R w)(z:Ah R (E_ [0,15] T))(n:Ah R args)(H:∀x,CallsC f args (w.at x) Q)(k:∀e R' v w',Q v w'->(∀b,R b->R' b)->Holds e R' w'->Ah R' (E_ [0,15] (T.setIfInBounds d v))->Goes e (G ((AL 7).at ⟨T.setIfInBounds d v,[]⟩ (aY7 ops rest::q)) cs) w' Post):Goes Wb (G ((AL 7).at ⟨T,[]⟩ (aY7 ops (i::rest)::q)) cs) w Post:=by obtain⟨h,D⟩:=Option.isSome_iff_exists.1 C;refine .ctl rfl (λw=>Qz p c (by simp[AL]) N K M D) λx=>?_;rw[A];refine(H x Wb R _ cs (s.at x) n).bind ?_;rintro e g' w'⟨R',v,rfl,hv,U,m,y⟩;rw[KX,p,RR,I];exact k e R' v w' U m y (Ah.uq (Ah.mono z m) hv j)
theorem Goes.a3l{Q:A1->A'->Prop}(A7:ops[i]?=Z o)(c:EY o (Gu ops T)=A0)(j:PV A4 Dw M8 [1000007] 8 o.op=A0)(n:Kz A4 o=A0)(r:LX o.op=A5)(u:(opsOf o.op).all (SQ Dw [1000007])=A0)(I:o.dst=Z d)(h:A4.funcs[7]?.isSome=A0)(E:[0,15].contains d=A5)(p:Holds Wb R w)(s:Ah R (E_ [0,15] T))(U:∀m,∃v f,(AU (Cu ⟨T,[]⟩) o).run A4 (on w m)=aY6 (aYD v) f/\Q v f)(k:∀R' v f w',Q v f->w'.heap=f.heap->(∀b,R b->R' b)->Holds Wb R' w'->Ah R' (E_ [0,15] (T.setIfInBounds d v))->Goes Wb (G ((AL 7).at ⟨T.setIfInBounds d v,[]⟩ (aY7 ops rest::q)) cs) w' Post):Goes Wb (G ((AL 7).at ⟨T,[]⟩ (aY7 ops (i::rest)::q)) cs) w Post:=by
 obtain⟨A,h⟩:=Option.isSome_iff_exists.1 h;have K:Ej A4 Cy Dw ZQ 8 (D6 R) [] ((AL 7).at ⟨T,[]⟩ []) ((AL 7).at ⟨T,[]⟩ []):=by refine⟨rfl,⟨A,h,by rw[aU]at h;obtain rfl:=D3 h;kernel_rfl⟩,rfl,λi hi=>(by cases hi),⟨rfl,rfl⟩,rfl,⟨rfl,rfl⟩,⟨rfl,rfl⟩,s,λt AH=>λ_ _=>trivial⟩
 have M:∀b,b<D4->(D6 R).rel b b:=λb D=>⟨rfl,p.closed.EF b D⟩;refine .JW (Tp v8 (λ_=>trivial) (b0:=AL 7) (a:=⟨T,[]⟩) (rest:=rest) (q:=q) (cs:=cs) (ow:=[1000007]) (Q:=Q) A7 c (by simp[AL]) j n r (λx hx=>?_) p.closed p.low λm=>?_) ?_;·have:=K.eval M Ra x (List.all_eq_true.1 u x hx);rw[wM]at this;exact this
 ·obtain⟨v,f,C,h2⟩:=U m;have h3:=PZ (P:=A4) (AU (Cu ⟨T,[]⟩) o) (on w m) #[];rw[C]at h3;exact⟨aYD v,v,f,_,RS h3 rfl,AA rfl,h2⟩
 ·rintro g w'⟨z,v,f,rfl,hv,AD,y,N,H,F,_⟩;have e:aJ ⟨T,[]⟩ o.dst v=⟨T.setIfInBounds d v,[]⟩:=by rw[I];rfl
  rw[e];exact k z v f w' AD N y ⟨H,F⟩ (Ah.uq (Ah.mono s y) hv E)
theorem Goes.aNN{Q:A'->Prop}(A7:ops[i]?=Z o)(c:EY o (Gu ops T)=A0)(j:PV A4 Dw M8 [1000007] 8 o.op=A0)(n:Kz A4 o=A0)(r:LX o.op=A5)(u:(opsOf o.op).all (SQ Dw [1000007])=A0)(K:o.dst=J)(h:A4.funcs[7]?.isSome=A0)(A:True)(p:Holds Wb R w)(s:Ah R (E_ [0,15] T))(E:∀m,∃f,(AU (Cu ⟨T,[]⟩) o).run A4 (on w m)=aY6 aYU f/\Q f)(k:∀R' f w',Q f->w'.heap=f.heap->(∀b,R b->R' b)->Holds Wb R' w'->Ah R' (E_ [0,15] T)->Goes Wb (G ((AL 7).at ⟨T,[]⟩ (aY7 ops rest::q)) cs) w' Post):Goes Wb (G ((AL 7).at ⟨T,[]⟩ (aY7 ops (i::rest)::q)) cs) w Post:=by
 obtain⟨C,h⟩:=Option.isSome_iff_exists.1 h;have M:Ej A4 Cy Dw ZQ 8 (D6 R) [] ((AL 7).at ⟨T,[]⟩ []) ((AL 7).at ⟨T,[]⟩ []):=by refine⟨rfl,⟨C,h,by rw[aU]at h;obtain rfl:=D3 h;kernel_rfl⟩,rfl,λi hi=>(by cases hi),⟨rfl,rfl⟩,rfl,⟨rfl,rfl⟩,⟨rfl,rfl⟩,s,λt AH=>λ_ _=>trivial⟩
 have N:∀b,b<D4->(D6 R).rel b b:=λb H=>⟨rfl,p.closed.EF b H⟩;refine .JW (Tp v8 (λ_=>trivial) (b0:=AL 7) (a:=⟨T,[]⟩) (rest:=rest) (q:=q) (cs:=cs) (ow:=[1000007]) (Q:=λ_ f=>Q f) A7 c (by simp[AL]) j n r (λx hx=>?_) p.closed p.low λm=>?_) ?_;·have:=M.eval N Ra x (List.all_eq_true.1 u x hx);rw[wM]at this;exact this
 ·obtain⟨f,D,h2⟩:=E m;have h3:=PZ (P:=A4) (AU (Cu ⟨T,[]⟩) o) (on w m) #[];rw[D]at h3;exact⟨aYU,Y,f,_,RS h3 rfl,AF ⟨rfl,rfl⟩,h2⟩
 ·rintro g w'⟨z,v,f,rfl,hv,AD,y,U,I,F,_⟩;have e:aJ ⟨T,[]⟩ o.dst v=⟨T,[]⟩:=by rw[K];rfl
  rw[e];exact k z f w' AD U y ⟨I,F⟩ (Ah.mono s y)
theorem Goes.WK{v:A1}(A:ops[i]?=Z o)(N:EY o (Gu ops T)=A0)(C:PV A4 Dw M8 [1000007] 8 o.op=A0)(K:Kz A4 o=A0)(M:LX o.op=A5)(D:(opsOf o.op).all (SQ Dw [1000007])=A0)(y:o.dst=Z d)(z:A4.funcs[7]?.isSome=A0)(I:[0,15].contains d=A5)(h:Holds Wb R w)(s:Ah R (E_ [0,15] T))(H:∀w,(AU (Cu ⟨T,[]⟩) o).run A4 w=aY6 (aYD v) w)(k:∀R' w',w'.heap=w.heap->(∀b,R b->R' b)->Holds Wb R' w'->Ah R' (E_ [0,15] (T.setIfInBounds d v))->Goes Wb (G ((AL 7).at ⟨T.setIfInBounds d v,[]⟩ (aY7 ops rest::q)) cs) w' Post):Goes Wb (G ((AL 7).at ⟨T,[]⟩ (aY7 ops (i::rest)::q)) cs) w Post:=Goes.a3l (Q:=λu f=>u=v/\f.heap=w.heap) A N C K M D y z I h s (λU=>⟨v,_,H _,rfl,rfl⟩) λR' u f w'⟨hu,he⟩e p m x=>by subst hu;exact k R' w' (e.trans he) p m x
end
end
end Go.Proofs.YtcfhleenecfghaaGreatDoor.Twin
namespace Go.Proofs.YtcfhleenecfghaaGreatDoor
section
open Go.RowKit
open Go.Proofs.YtcfhleenecfghaaGreatDoor.Twin
structure Kc(AW:Nat->Nat->Nat)(ip:Nat->Nat->List (Nat×Nat))(d9:List (Nat×Nat))(Gs:List Rel):Prop where
 len:Gs.length=15
 rel:∀j(h:j<Gs.length),Gs[j].p=V.mp (j/3)/\Gs[j].v=V.Df (AW (j/3) (j%3))/\Gs[j].DT=(ip (j/3) (j%3)).map F2
 low:∀q k,q<5->k<3->AW q k<10
 inj:∀q j k,q<5->j<3->k<3->AW q j=AW q k->j=k
 M3:∀q k,q<5->k<3->∀x∈ip q k,x.1<5/\∃j,j<3/\x.2=AW x.1 j
 root:∀x∈d9,x.1<5/\∃j,j<3/\x.2=AW x.1 j
def O5(AW:Nat->Nat->Nat)(ip:Nat->Nat->List (Nat×Nat))(x:Nat×Nat):List (Nat×Nat):=match(H9 3).find? λk=>AW x.1 k==x.2with|Z k=>ip x.1 k|J=>[]
theorem a34{x y:Nat×Nat}(h1:x.1<5/\x.2<30)(h2:y.1<5/\y.2<30)(h:F2 x=F2 y):x=y:=by have a:=tq h1.1 h2.1 (congrArg pt h);have b:=a3K h1.2 h2.2 (congrArg aC4 h);exact RS a b
section
variable{AW:Nat->Nat->Nat}{ip:Nat->Nat->List (Nat×Nat)}{d9:List (Nat×Nat)}{Gs:List Rel}
theorem Kc.O5(h:Kc AW ip d9 Gs)(q k:Nat)(m:q<5)(b:k<3):O5 AW ip (q,AW q k)=ip q k:=by
 unfold YtcfhleenecfghaaGreatDoor.O5;cases e:(H9 3).find? λj=>AW q j==AW q k with
 |none=>have:=List.find?_eq_none.1 e k (List.mem_range.2 b);simp at this
 |some j=>
  have f:AW q j=AW q k:=by simpa using List.find?_some e
  have h2:=List.mem_range.1 (List.mem_of_find?_eq_some e);obtain rfl:=h.inj q j k m h2 b f;rfl
theorem Kc.ok(h:Kc AW ip d9 Gs){x:Nat×Nat}(f:N.Reach (YtcfhleenecfghaaGreatDoor.O5 AW ip) d9 x):x.1<5/\∃k,k<3/\x.2=AW x.1 k:=by induction f with|root hx=>exact h.root _ hx|@step x y _ hy m=>obtain⟨b,k,h2,h3⟩:=m;have e:x=(x.1,AW x.1 k):=RS rfl h3;rw[e,h.O5 x.1 k b h2]at hy;exact h.M3 _ _ b h2 y hy
theorem Kc.name(h:Kc AW ip d9 Gs)(j:Nat)(e:j<Gs.length):Gs[j].name=F2 (j/3,AW (j/3) (j%3)):=by obtain⟨b,h2,_⟩:=h.rel j e;exact RS b h2
theorem Kc.find(h:Kc AW ip d9 Gs)(q k:Nat)(f:q<5)(e:k<3):∃r∈Gs,r.name=F2 (q,AW q k)/\r.DT=(ip q k).map F2:=by
 have b:q*3+k<Gs.length:=by rw[h.len];omega
 have e1:(q*3+k)/3=q:=by omega
 have e2:(q*3+k)%3=k:=by omega
 refine⟨Gs[q*3+k],EC b,?_,?_⟩;·rw[h.name _ b,e1,e2]
 ·rw[(h.rel _ b).2.2,e1,e2]
theorem Kc.of(h:Kc AW ip d9 Gs){r:Rel}(e:r∈Gs):∃q k,q<5/\k<3/\r.name=F2 (q,AW q k)/\r.DT=(ip q k).map F2:=by obtain⟨j,b,rfl⟩:=List.mem_iff_getElem.1 e;have:=h.len;exact⟨j/3,j%3,by omega,by omega,h.name j b,(h.rel j b).2.2⟩
theorem Kc.a5'(h:Kc AW ip d9 Gs):O' Gs:=by
 refine⟨?_,λr m=>?_,by rw[h.len];omega⟩;·rw[pT,List.pairwise_iff_getElem];intro i j hi f s e;rw[pZ,pZ]at e;have y:=h.len;rw[Mz]at hi f;rw[h.name i hi,h.name j f]at e;have e2:=a34 ⟨by show i/3<5;omega,by have:=h.low (i/3) (i%3) (by omega) (by omega);show AW (i/3) (i%3)<30;omega⟩ ⟨by show j/3<5;omega,by have:=h.low (j/3) (j%3) (by omega) (by omega);show AW (j/3) (j%3)<30;omega⟩ e;have a:i/3=j/3:=congrArg pt e2;have b:AW (i/3) (i%3)=AW (j/3) (j%3):=congrArg aC4 e2;rw[a]at b;have:=h.inj (j/3) (i%3) (j%3) (by omega) (by omega) (by omega) b;omega
 ·obtain⟨q,k,z,x,e,_⟩:=h.of m;rw[e];have p:(F2 (q,AW q k)).1.size=3:=Tk q;have h2:(F2 (q,AW q k)).2.size<=9:=ZL _;exact⟨by unfold BK;omega,by unfold BK;omega⟩
theorem Kc.M4(h:Kc AW ip d9 Gs)(q k:Nat)(f:q<5)(e:k<3):M4 Gs (F2 (q,AW q k))=(ip q k).map F2:=by obtain⟨r,m,b,h2⟩:=h.find q k f e;rw[<-b,tx h.a5' m,h2]
theorem Kc.reach(h:Kc AW ip d9 Gs)(m:Ax):N.Reach (Twin.M4 Gs) (d9.map F2) m↔∃x,N.Reach (YtcfhleenecfghaaGreatDoor.O5 AW ip) d9 x/\m=F2 x:=by
 constructor;·intro p;induction p with|root hx=>obtain⟨x,s,rfl⟩:=List.mem_map.1 hx;exact⟨x,.root s,rfl⟩|step _ hy f=>obtain⟨x,hx,rfl⟩:=f;obtain⟨b,k,h2,h3⟩:=h.ok hx;have e:x=(x.1,AW x.1 k):=RS rfl h3;rw[e,h.M4 x.1 k b h2]at hy;obtain⟨y,z,rfl⟩:=List.mem_map.1 hy;refine⟨y,.step hx ?_,rfl⟩;rw[e,h.O5 x.1 k b h2];exact z
 ·rintro⟨x,hx,rfl⟩;induction hx with|root hx=>exact .root (List.mem_map.2 ⟨_,hx,rfl⟩)|@step x y hx hy f=>obtain⟨b,k,h2,h3⟩:=h.ok hx;have e:x=(x.1,AW x.1 k):=RS rfl h3;refine .step f ?_;rw[e,h.O5 x.1 k b h2]at hy;rw[e,h.M4 x.1 k b h2];exact List.mem_map.2 ⟨y,hy,rfl⟩
end
theorem aMM{x y:Nat×Nat}(h1:x.1<5/\x.2<10)(h2:y.1<5/\y.2<10)(e:GM (F2 x) (F2 y)<=0)(s:x≠y):N.Lex x y:=by
 unfold GM F2 at e;simp only[V.PT,V.XA]at e;have m:∀a b:Fin 5,(a.val<b.val->Hg (V.Hn a.val) (V.Hn b.val)=-1)/\(b.val<a.val->Hg (V.Hn a.val) (V.Hn b.val)=1)/\(a.val=b.val->Hg (V.Hn a.val) (V.Hn b.val)=0):=by decide
 have p:∀a b:Fin 10,b.val<a.val->V.order (V.Jy a.val) (V.Jy b.val)=1:=by decide+kernel
 rcases aBw x.1 y.1 with h|h|h;·exact AA h
 ·right;refine⟨h,?_⟩;rw[(m ⟨x.1,h1.1⟩ ⟨y.1,h2.1⟩).2.2 h,if_neg (by simp)]at e;rcases aBw x.2 y.2 with f|f|f;·exact f
  ·exact absurd (RS h f) s
  ·rw[p ⟨x.2,h1.2⟩ ⟨y.2,h2.2⟩ f]at e;exact absurd e (by decide)
 ·rw[(m ⟨x.1,h1.1⟩ ⟨y.1,h2.1⟩).2.1 h,if_pos (by decide)]at e;exact absurd e (by decide)
theorem aMN{x y:Nat×Nat}(h1:x.1<5/\x.2<10)(h2:y.1<5/\y.2<10)(e:GM (F2 x) (F2 y)=0):x=y:=by
 by_cases h:x=y;·exact h
 ·unfold GM F2 at e;simp only[V.PT,V.XA]at e;have m:∀a b:Fin 5,Hg (V.Hn a.val) (V.Hn b.val)=0->a.val=b.val:=by decide
  have p:∀a b:Fin 10,V.order (V.Jy a.val) (V.Jy b.val)=0->a.val=b.val:=by decide+kernel
  split at e;·exact absurd e (by assumption)
  ·rename_i f;exact RS (m ⟨x.1,h1.1⟩ ⟨y.1,h2.1⟩ (Classical.not_not.1 f)) (p ⟨x.2,h1.2⟩ ⟨y.2,h2.2⟩ e)
def XN(x y:Cb):Bool:=Bn (x.rel.p.toList=y.rel.p.toList)
theorem vB(x:Cb)(L:List Cb):∀k,Ex (x::L) (k+1)=(if Td (x::L) 0 then[x]else[])++Ex L k
 |0=>by show(if Td (x::L) 0 then[]++[x]else[])=_;simp[Ex]
 |k+1=>by
  have e:=vB x L k;have b:Td (x::L) (k+1)=Td L k:=by unfold Td;simp
  rw[Ex,e,Ex];simp only[List.getElem?_cons_succ,b];split
  ·split;·rw[List.append_assoc]
   ·rfl
  ·rfl
theorem a61:∀L:List Cb,Ex L L.length=N.IG XN L
 |[]=>rfl
 |[x]=>by rw[Jg,vB];rfl
 |x::y::l=>by
  have e:=a61 (y::l);rw[Jg,vB,e,N.IG];have b:Td (x::y::l) 0=!XN x y:=by unfold Td XN;simp
  rw[b];cases XN x y<;>simp
theorem a3Q:∀(A:List Cb)(X:List (Nat×Nat)),names A=X.map F2->(∀x∈X,x.1<5)->names (N.IG XN A)=(N.IG N.MA X).map F2
 |[],[],_,_=>rfl
 |[],_::_,h,_=>by cases h
 |_::_,[],h,_=>by cases h
 |[a],[x],h,_=>h
 |[a],x::y::X,h,_=>by have:=congrArg pa h;simp[names]at this
 |a::b::A,[x],h,_=>by have:=congrArg pa h;simp[names]at this
 |a::b::A,x::y::X,h,hx=>by
  have s:a.rel.name::b.rel.name::names A=F2 x::F2 y::X.map F2:=h;injection s with e1 e2;have m:=e2;injection e2 with e2 c;have f:=a3Q (b::A) (y::X) m λz D=>hx z (I8 _ D);have hs:XN a b=N.MA x y:=by
   unfold XN N.MA;have H:a.rel.p=V.mp x.1:=congrArg pt e1;have I:b.rel.p=V.mp y.1:=congrArg pt e2;rw[H,I];by_cases e:x.1=y.1;·rw[e];simp
   ·have:¬(V.mp x.1).toList=(V.mp y.1).toList:=λC=>e (tq (hx x (by simp)) (hx y (by simp)) ((qB _ _).1 C));rw[decide_eq_false this];simp[e]
  rw[N.IG,N.IG,hs];cases N.MA x y;·show a.rel.name::names (N.IG XN (b::A))=F2 x::(N.IG N.MA (y::X)).map F2;rw[f,e1]
  ·exact f
theorem Kc.aL5{AW:Nat->Nat->Nat}{ip:Nat->Nat->List (Nat×Nat)}{d9:List (Nat×Nat)}{Gs:List Rel}(h:Kc AW ip d9 Gs)(A:List Cb)(K:T8 A)(C:(names A).Nodup)(H:∀x,x∈names A↔N.Reach (Twin.M4 Gs) (d9.map F2) x):∃X:List (Nat×Nat),X.Pairwise N.Lex/\(∀x,x∈X↔N.Reach (YtcfhleenecfghaaGreatDoor.O5 AW ip) d9 x)/\names (Ex A A.length)=(N.IG N.MA X).map F2:=by
 have I:∀B:List Cb,(∀m∈names B,∃x,N.Reach (YtcfhleenecfghaaGreatDoor.O5 AW ip) d9 x/\m=F2 x)->∃X:List (Nat×Nat),names B=X.map F2/\∀x∈X,N.Reach (YtcfhleenecfghaaGreatDoor.O5 AW ip) d9 x:=by
  intro B;induction B with
  |nil=>exact λ_=>⟨[],rfl,λx hx=>by cases hx⟩
  |cons b B M=>
   intro z;obtain⟨x,hx,e⟩:=z b.rel.name (List.mem_cons_self ..);obtain⟨X,f,h2⟩:=M λm s=>z m (I8 _ s);refine⟨x::X,?_,λy hy=>?_⟩;·show b.rel.name::names B=F2 x::X.map F2;rw[e,f]
   ·rcases List.mem_cons.1 hy with rfl|hy;·exact hx
    ·exact h2 y hy
 obtain⟨X,f,h2⟩:=I A λm s=>(h.reach m).1 ((H m).1 s);have p:∀x,N.Reach (YtcfhleenecfghaaGreatDoor.O5 AW ip) d9 x->x.1<5/\x.2<10:=λx hx=>by obtain⟨a,k,b,c⟩:=h.ok hx;exact⟨a,by rw[c];exact h.low _ _ a b⟩
 refine⟨X,?_,λx=>⟨h2 x,λhx=>?_⟩,?_⟩
 ·have D:(names A).Pairwise λa b=>GM a b<=0:=by unfold names;rw[YM];exact K
  rw[f,YM]at D;rw[f,pT,YM]at C;refine(List.pairwise_and_iff.2 ⟨D,C⟩).imp_of_mem ?_;intro x y hx hy⟨a,b⟩;exact aMM (p x (h2 x hx)) (p y (h2 y hy)) a λe=>b (by rw[e])
 ·have:=(H (F2 x)).2 ((h.reach _).2 ⟨x,hx,rfl⟩);rw[f]at this;obtain⟨y,hy,e⟩:=List.mem_map.1 this;have E6:=p x hx;have b2:=p y (h2 y hy);rw[a34 ⟨b2.1,by omega⟩ ⟨E6.1,by omega⟩ e]at hy;exact hy
 ·rw[a61];exact a3Q A X f λx hx=>(p x (h2 x hx)).1
end
section
open Go.RowKit
open Go.Proofs.YtcfhleenecfghaaGreatDoor.Twin(fstC sndC)
variable{w:A'}{v:A1}{Q:Exit->Ja->A'->Prop}{a:Ja}{l:List (Nat×Nat)}
noncomputable def RZ:Cv:=(Nk.body).getD aYT
noncomputable def inLoop:Cv->Cv|.block _ (aZv c)=>c|c=>c
noncomputable def Gc:Cv:=sndC (sndC (sndC (sndC (sndC RZ))))
noncomputable def q9:Cv:=inLoop (fstC (sndC (sndC (sndC (sndC (sndC (sndC (sndC Gc))))))))
theorem aMw{g:Nat}(h:∀j(_:j<l.length),w.cell? ⟨g,j*2,J⟩=Z (IS Po (l[j].1:Int))/\w.cell? ⟨g,j*2+1,J⟩=Z (IS Po (l[j].2:Int)))(j:Nat)(u:A1)(b:(Gl l)[j]?=Z u):w.cell? ((⟨g,0,J⟩:Aa).add j)=Z u:=by
 have m:(Gl l).length=l.length*2:=by clear b h;induction l with|nil=>rfl|cons x s p=>show(_::_::Gl s).length=_;simp only[Jg,p];omega
 have y:j<l.length*2:=by rw[<-m];exact(List.getElem?_eq_some_iff.1 b).1
 rw[Gg];try rw[Nat.zero_add]
 have hm:=h (j/2) (by omega);have AB:=a3S l (j/2) (by omega);rcases Nat.mod_two_eq_zero_or_one j with f|f
 ·have e:j=j/2*2:=by omega
  rw[<-e]at hm AB;rw[AB.1]at b;rw[<-b];exact hm.1
 ·have e:j=j/2*2+1:=by omega
  rw[<-e]at hm AB;rw[AB.2]at b;rw[<-b];exact hm.2
theorem gg(l:List (Nat×Nat)):(Gl l).length=l.length*2:=by induction l with|nil=>rfl|cons x e b=>show(_::_::Gl e).length=_;simp only[Jg,b];omega
theorem tv(a b:List (Nat×Nat)):Gl (a++b)=Gl a++Gl b:=by simp[Gl]
theorem vR{ops:Array Bf}{rest:List Bf}{o:Bf}(p:o.guard=J)(s x:C2)(z:o.op=.call {callee:=.builtin .append,args:=#[s,x],argTypes:=#[39,39]})(B:Nat)(v:A1)(l:List (Nat×Nat))(hs:a.eval s=v)(m:w.ownsRow B 45 2 v l.length (Gl l))(e:A1)(b:List (Nat×Nat))(hx:a.eval x=e)(H:MO w e b)(N:l.length+b.length<=1000000)(D:B<=w.heap.size)(h:∀f w',w'.ownsRow B 45 2 f (l++b).length (Gl (l++b))->w.grownBy w' v.ownBlock->wpList A4 ops Q rest (a.put o.dst f) w'):wpList A4 ops Q (o::rest) a w:=by
 obtain⟨A,hi,I,K,M⟩:=IT tH;rcases H with⟨rfl,rfl⟩|⟨g,c,rfl,hc⟩;·refine wpList_append_own_none p s x 39 z B 45 A 2 a9Q hi v l.length (Gl l) hs m hx ?_;have:=h v w (by rw[pU];exact m) ⟨rfl,rfl,rfl,AX _,λ_ _ _=>rfl⟩;exact this
 ·refine wpList_append_own _ p s x 39 z B 45 A (dd #[IS Po 0,IS Po 0]) 2 16 a9Q hi I K M rfl (by decide) v l.length (Gl l) hs m ⟨g,0,J⟩ b.length c (Gl b) hx (gg b) (aMw hc) (λu hu=>?_) (by unfold BK;omega) (by omega) D ?_;·unfold Gl at hu;obtain⟨y,_,hy⟩:=List.mem_flatMap.1 hu;simp at hy;rcases hy with rfl|rfl<;>rfl
  ·intro f w' C h2 _;refine h f w' ?_ h2;rw[HN,tv];exact C
theorem a6d:xL=Sf 100 (aY5 A5):=by kernel_rfl
structure Walk(w:A')(GX EE el B:Nat)(got:Nat->Int)(Gx Hy l:List (Nat×Nat))(v:A1)(wr:A'):Prop where
 below:AS w.heap.size w wr
 WX:wr.heap[GX]?=Z (BE (N7 got) 63)
 R_:wr.heap[EE]?=Z (BE (N7 (KC Gx)) 63)
 cR:∃C,wr.heap[el]?=Z (BE C 67)/\C.size=100/\∀p x,p<5->x<20->C[p*20+x]?=Z (aY5 (Bn ((p,x)∈Hy)))
 todo:wr.ownsRow B 45 2 v l.length (Gl l)
 new:w.heap.size<=GX/\w.heap.size<=EE/\w.heap.size<=el/\w.heap.size<=B/\GX≠EE
section
variable{w:A'}{GX EE el B:Nat}{got:Nat->Int}{Gx Hy l:List (Nat×Nat)}{v:A1}{wr:A'}
theorem Walk.Aw{w':A'}(h:Walk w GX EE el B got Gx Hy l v wr)(f:AS w.heap.size w w')(hs:∀(b:Nat)(c:Array A1)(t:Nat),wr.heap[b]?=Z (BE c t)->t≠45->w'.heap[b]?=wr.heap[b]?){j:List (Nat×Nat)}{v':A1}(m:w'.ownsRow B 45 2 v' j.length (Gl j)):Walk w GX EE el B got Gx Hy j v' w':=by obtain⟨C,e,h2,h3⟩:=h.cR;exact⟨f,(hs _ _ _ h.WX (by decide)).trans h.WX,(hs _ _ _ h.R_ (by decide)).trans h.R_,⟨C,(hs _ _ _ e (by decide)).trans e,h2,h3⟩,m,h.new⟩
theorem Walk.drewN(h:Walk w GX EE el B got Gx Hy l v wr)(n:Nat):Walk w GX EE el B got Gx Hy l v (wr.drewN n):=h.Aw (Je h.below n) (λ_ _ _ _ _=>rfl) h.todo
theorem Walk.alloc(h:Walk w GX EE el B got Gx Hy l v wr)(o:Obj):Walk w GX EE el B got Gx Hy l v (wr.alloc o):=h.Aw (h.below.alloc h.below.size o) (λb _ _ e _=>E' _ _ _ (Array.getElem?_eq_some_iff.1 e).1) (h.todo.alloc o)
theorem Walk.later{w':A'}(h:Walk w GX EE el B got Gx Hy l v wr)(e:AS wr.heap.size wr w'):Walk w GX EE el B got Gx Hy l v w':=h.Aw (h.below.trans (e.mono h.below.size)) (λb _ _ f _=>e.block b (Array.getElem?_eq_some_iff.1 f).1) (lV h.todo e)
theorem Walk.grown{w':A'}(h:Walk w GX EE el B got Gx Hy l v wr)(m:wr.grownBy w' v.ownBlock){j:List (Nat×Nat)}{v':A1}(x:w'.ownsRow B 45 2 v' j.length (Gl j)):Walk w GX EE el B got Gx Hy j v' w':=by
 refine h.Aw (h.below.grown m h.below.size λk s=>by have:=(h.todo.lt k s).1;have:=h.new;omega) (λb c t f y=>?_) x;refine m.block b (Array.getElem?_eq_some_iff.1 f).1 λe=>?_;rcases h.todo.2 with⟨rfl,_⟩|⟨g,p,z,rfl,_,h3,_⟩;·cases e
 ·have e:b=g:=D3 e;subst e;rw[f]at h3;injection h3 with h3;injection h3 with _ h3;exact y h3
theorem Walk.pop{x:Nat×Nat}{c:Option Aa}{n j:Nat}(h:Walk w GX EE el B got Gx Hy (l++[x]) (As c n j) wr):n=l.length+1/\Walk w GX EE el B got Gx Hy l (As c l.length j) wr/\∃g,c=Z ⟨g,0,J⟩/\l.length+1<=j/\wr.cell? ⟨g,l.length*2,J⟩=Z (IS Po (x.1:Int))/\wr.cell? ⟨g,l.length*2+1,J⟩=Z (IS Po (x.2:Int)):=by
 have f:(l++[x]).length=l.length+1:=by simp
 have AH:=h.todo;rcases AH.2 with⟨_,s⟩|⟨g,p,b,e,y,h2,h3,h4,z,m⟩;·rw[f]at s;omega
 ·injection e with e1 e2 r;subst e1 e2 r;rw[f]at h3 m;have hc:∀(o:Nat)(u:A1),(Gl [x])[o]?=Z u->wr.cell? ⟨g,l.length*2+o,J⟩=Z u:=λo u hu=>by refine QV AH (l.length*2+o) u ?_;rw[tv,List.getElem?_append_right (by rw[gg];omega),gg,Nat.add_sub_cancel_left];exact hu
  refine⟨f,h.Aw h.below (λ_ _ _ _ _=>rfl) ⟨gg l,AF ⟨g,_,b,rfl,y,h2,by omega,h4,z,?_⟩⟩,g,rfl,by omega,hc 0 _ rfl,hc 1 _ rfl⟩;have A:b.toList.take (l.length*2)=(b.toList.take ((l.length+1)*2)).take (l.length*2):=by rw[List.take_take,Nat.min_eq_left (by omega)]
  rw[A,m,tv,<-gg l,List.take_left]
theorem Walk.aQv(h:Walk w GX EE el B got Gx Hy l v wr){x:Nat×Nat}(U:x.1<5)(h2:x.2<20):Walk w GX EE el B got Gx (Hy++[x]) l v (wr.setCell ⟨el,x.1*20+x.2,J⟩ (aY5 A0)):=by
 obtain⟨C,c1,c2,c3⟩:=h.cR;have s:∀(b:Nat)(c:Array A1)(t:Nat),wr.heap[b]?=Z (BE c t)->t≠67->(wr.setCell ⟨el,x.1*20+x.2,J⟩ (aY5 A0)).heap[b]?=wr.heap[b]?:=λb c t M Q=>by refine F_ _ _ _ _ λe=>?_;have e:b=el:=e;subst e;rw[M]at c1;injection c1 with c1;injection c1 with _ c1;exact Q c1
 refine⟨h.below.setCell (p:=⟨el,x.1*20+x.2,J⟩) (by have:=h.new;show w.heap.size<=el;omega) _,(s _ _ _ h.WX (by decide)).trans h.WX,(s _ _ _ h.R_ (by decide)).trans h.R_,⟨_,EV wr el _ _ _ _ c1,by simpa using c2,λp y N hy=>?_⟩,?_,h.new⟩
 ·by_cases e:x.1*20+x.2=p*20+y
  ·have e1:x.1=p:=by omega
   have e2:x.2=y:=by omega
   rw[e,Array.getElem?_setIfInBounds_self_of_lt (by omega)];have:(p,y)∈Hy++[x]:=by rw[<-e1,<-e2];simp
   rw[decide_eq_true this]
  ·rw[JF e,c3 p y N hy];congr 2;refine decide_eq_decide.2 ⟨λf=>List.mem_append.2 (AA f),λf=>?_⟩;rcases List.mem_append.1 f with f|f;·exact f
   ·have:=List.mem_singleton.1 f;rw[<-this]at e;exact absurd rfl e
 ·obtain⟨a,y⟩:=h.todo;refine⟨a,y.imp (λz=>z) ?_⟩;rintro⟨g,m,D,H,I,A,K⟩;exact⟨g,m,D,H,I,(s _ _ _ A (by decide)).trans A,K⟩
theorem Walk.put(h:Walk w GX EE el B got Gx Hy l v wr){x:Nat×Nat}(M:x.1<5)(U:KC Gx x.1<(x.2:Int)):Walk w GX EE el B got (Gx++[x]) Hy l v (wr.setCell ⟨EE,x.1,J⟩ (IS Po (x.2:Int))):=by
 obtain⟨C,c1,c2,c3⟩:=h.cR;have s:∀(b:Nat)(c:Array A1)(t:Nat),wr.heap[b]?=Z (BE c t)->t≠63∨b≠EE->(wr.setCell ⟨EE,x.1,J⟩ (IS Po (x.2:Int))).heap[b]?=wr.heap[b]?:=λb c t N f=>by
  refine F_ _ _ _ _ λe=>?_;have e:b=EE:=e;subst e;have h2:=h.R_;rw[N]at h2;injection h2 with h2;injection h2 with _ h2;rcases f with f|f;·exact f h2
  ·exact f rfl
 have Q:ZS (KC Gx) x.1 (x.2:Int)=KC (Gx++[x]):=by
  funext p;rw[q8];unfold ZS;by_cases e:p=x.1;·subst e;rw[if_pos rfl,if_pos ⟨rfl,U⟩]
  ·rw[if_neg e,if_neg λD'=>e D'.1.symm]
 refine⟨h.below.setCell (p:=⟨EE,x.1,J⟩) (by have:=h.new;show w.heap.size<=EE;omega) _,(s _ _ _ h.WX (AF h.new.2.2.2.2)).trans h.WX,?_,⟨C,(s _ _ _ c1 (AA (by decide))).trans c1,c2,c3⟩,?_,h.new⟩;·rw[EV wr EE _ _ _ _ h.R_,yv _ M,Q]
 ·obtain⟨a,y⟩:=h.todo;refine⟨a,y.imp (λz=>z) ?_⟩;rintro⟨g,m,D,H,I,A,K⟩;exact⟨g,m,D,H,I,(s _ _ _ A (AA (by decide))).trans A,K⟩
theorem Walk.stay(h:Walk w GX EE el B got Gx Hy l v wr){x:Nat×Nat}(f:¬KC Gx x.1<(x.2:Int)):Walk w GX EE el B got (Gx++[x]) Hy l v wr:=by
 have b:KC (Gx++[x])=KC Gx:=by funext p;rw[q8,if_neg];rintro⟨rfl,e⟩;exact f e
 exact⟨h.below,h.WX,by rw[b];exact h.R_,h.cR,h.todo,h.new⟩
end
structure Nt(AW:Nat->Nat->Nat)(ip:Nat->Nat->List (Nat×Nat))(d9:List (Nat×Nat))(hW:Nat)(w:A'):Prop where
 Sb:∀q k,q<5->k<3->w.cell? ⟨hW,q*3+k,J⟩=Z (IS Po (AW q k:Int))/\AW q k<10
 inj:∀q j k,q<5->j<3->k<3->AW q j=AW q k->j=k
 DT:∀q k,q<5->k<3->∃a n c,w.cell? ⟨hW,15+q*3+k,J⟩=Z (As a n c)/\MO w (As a n c) (ip q k)
 root:∃a n c,w.cell? ⟨hW,30,J⟩=Z (As a n c)/\MO w (As a n c) d9
theorem Walk.cells{GX EE el B:Nat}{got:Nat->Int}{Gx Hy:List (Nat×Nat)}{wr:A'}(h:Walk w GX EE el B got Gx Hy l v wr){p y:Nat}(b:p<5)(hy:y<20):wr.cell? ⟨el,p*20+y,J⟩=Z (aY5 (Bn ((p,y)∈Hy)))/\wr.frozen? ⟨el,p*20+y,J⟩=A5/\wr.cell? ⟨EE,p,J⟩=Z (IS Po (KC Gx p))/\wr.frozen? ⟨EE,p,J⟩=A5:=by
 obtain⟨C,c1,c2,c3⟩:=h.cR;refine⟨?_,Dv c1 _,?_,Dv h.R_ _⟩;·rw[Ad c1];exact c3 p y b hy
 ·rw[Ad h.R_];match p,b with|0,_=>rfl|1,_=>rfl|2,_=>rfl|3,_=>rfl|4,_=>rfl
theorem Walk.val{GX EE el B:Nat}{got:Nat->Int}{Gx Hy:List (Nat×Nat)}{wr:A'}(h:Walk w GX EE el B got Gx Hy l v wr):∃f m,v=As f l.length m:=by
 rcases h.todo.2 with⟨rfl,e⟩|⟨g,b,p,rfl,_⟩;·exact⟨J,0,by rw[e]⟩
 ·exact⟨_,_,rfl⟩
def u9(E:Ja->A'->Prop):Exit->Ja->A'->Prop|aZG 0,a,w=>E a w|_,_,_=>False
theorem aQD(AW:Nat->Nat->Nat)(ip:Nat->Nat->List (Nat×Nat))(d9:List (Nat×Nat))(F:Nat×Nat->List (Nat×Nat))(hW GX EE el B:Nat)(got:Nat->Int)(w:A')(E:Ja->A'->Prop)(ID:Nt AW ip d9 hW w)(a2:∀q k,q<5->k<3->F (q,AW q k)=ip q k)(Bz:∀q k,q<5->k<3->(ip q k).length<=5)(B8:∀x,N.Reach F d9 x->x.1<5/\∃k,k<3/\x.2=AW x.1 k)(QF:∀(g5 fk g0 g2 m0 n3 BV BR p2 up p3 y4 y6 Ak Ao An y3 pp rg v1 rt s1 s2 sm v6 wt p4 C9 CG CH G4 G5 G6 G7 G8 G9 GA CI CJ CK CL CB CC CM CN CO CP CQ CR CS CU CV CE CF CW CX CY CZ C_ Ca Ze Zf Zg Zh Zi Zj Zk Zl Zm Zn Zo Zp Zq Zr Zs Zt Zu Zv Zw Zx Zy Zz a6 a7 a8:A1)(S:List (Nat×Nat))(v:A1)(wr:A'),Walk w GX EE el B got S S [] v wr->Nq F d9 S []->E ⟨#[g5,fk,g0,g2,aY4 (Z ⟨hW,0,J⟩),m0,n3,aY4 (Z ⟨GX,0,J⟩),v,aY4 (Z ⟨EE,0,J⟩),aY4 (Z ⟨el,0,J⟩),BV,BR,p2,up,p3,y4,y6,Ak,Ao,An,y3,pp,rg,v1,rt,s1,s2,sm,v6,wt,p4,C9,CG,CH,G4,G5,G6,G7,G8,G9,GA,CI,CJ,CK,CL,CB,CC,CM,CN,CO,CP,CQ,CR,CS,CU,CV,CE,CF,CW,CX,CY,CZ,C_,Ca,Ze,Zf,Zg,Zh,Zi,Zj,Zk,Zl,Zm,Zn,Zo,Zp,Zq,Zr,Zs,Zt,Zu,Zv,Zw,Zx,Zy,Zz,a6,a7,a8],[]⟩ wr):∀(n:Nat)(g5 fk g0 g2 m0 n3 BV BR p2 up p3 y4 y6 Ak Ao An y3 pp rg v1 rt s1 s2 sm v6 wt p4 C9 CG CH G4 G5 G6 G7 G8 G9 GA CI CJ CK CL CB CC CM CN CO CP CQ CR CS CU CV CE CF CW CX CY CZ C_ Ca Ze Zf Zg Zh Zi Zj Zk Zl Zm Zn Zo Zp Zq Zr Zs Zt Zu Zv Zw Zx Zy Zz a6 a7 a8:A1)(S l:List (Nat×Nat))(v:A1)(wr:A'),Walk w GX EE el B got S S l v wr->Nq F d9 S l->6*(15-S.length)+l.length<n->n<=1000->vu A4 q9 (u9 E) n ⟨#[g5,fk,g0,g2,aY4 (Z ⟨hW,0,J⟩),m0,n3,aY4 (Z ⟨GX,0,J⟩),v,aY4 (Z ⟨EE,0,J⟩),aY4 (Z ⟨el,0,J⟩),BV,BR,p2,up,p3,y4,y6,Ak,Ao,An,y3,pp,rg,v1,rt,s1,s2,sm,v6,wt,p4,C9,CG,CH,G4,G5,G6,G7,G8,G9,GA,CI,CJ,CK,CL,CB,CC,CM,CN,CO,CP,CQ,CR,CS,CU,CV,CE,CF,CW,CX,CY,CZ,C_,Ca,Ze,Zf,Zg,Zh,Zi,Zj,Zk,Zl,Zm,Zn,Zo,Zp,Zq,Zr,Zs,Zt,Zu,Zv,Zw,Zx,Zy,Zz,a6,a7,a8],[]⟩ wr:=by
 have aAh:=A3 QF;have M:=A3 ID;have El:=A3 a2;have aa:=A3 Bz;have Sz:=A3 B8;clear QF ID a2 Bz B8;intro n;induction n with
 |zero=>intro g5 fk g0 g2 m0 n3 BV BR p2 up p3 y4 y6 Ak Ao An y3 pp rg v1 rt s1 s2 sm v6 wt p4 C9 CG CH G4 G5 G6 G7 G8 G9 GA CI CJ CK CL CB CC CM CN CO CP CQ CR CS CU CV CE CF CW CX CY CZ C_ Ca Ze Zf Zg Zh Zi Zj Zk Zl Zm Zn Zo Zp Zq Zr Zs Zt Zu Zv Zw Zx Zy Zz a6 a7 a8 S l v wr _ _ h _;omega
 |succ n ih=>
  have jB:=A3 ih;clear ih;intro g5 fk g0 g2 m0 n3 BV BR p2 up p3 y4 y6 Ak Ao An y3 pp rg v1 rt s1 s2 sm v6 wt p4 C9 CG CH G4 G5 G6 G7 G8 G9 GA CI CJ CK CL CB CC CM CN CO CP CQ CR CS CU CV CE CF CW CX CY CZ C_ Ca Ze Zf Zg Zh Zi Zj Zk Zl Zm Zn Zo Zp Zq Zr Zs Zt Zu Zv Zw Zx Zy Zz a6 a7 a8 S l v wr P AB hn a0u;rw[rounds_succ];generalize Bb:vu A4 q9 (u9 E) n=R at jB⊢;clear Bb;simp only[q9,Gc,RZ,Nk,HB,fstC,sndC,inLoop];induction l using a5b with
  |none=>obtain⟨JC,X,rfl⟩:=P.val;have FB:=A3 P;have Kb:=A3 AB;clear P AB;go_wp2;exact aAh.out _ _ _ _ _ _ _ _ _ _ _ _ _ _ _ _ _ _ _ _ _ _ _ _ _ _ _ _ _ _ _ _ _ _ _ _ _ _ _ _ _ _ _ _ _ _ _ _ _ _ _ _ _ _ _ _ _ _ _ _ _ _ _ _ _ _ _ _ _ _ _ _ _ _ _ _ _ _ _ _ _ _ _ _ _ S _ wr FB.out Kb.out
  |more l x _=>
   obtain⟨JC,X,rfl⟩:=P.val;obtain⟨A9,C4,g,rfl,aVq,c0,c1⟩:=P.pop;obtain⟨b,k,m,tA⟩:=Sz.out x (AB.todo x (by simp));obtain⟨p,y⟩:=x;simp only at b tA c0 c1;have hy:y<20:=by have:=(M.out.Sb p k b m).2;omega
   rw[A9]at hn⊢;have j9:=A3 tA;clear tA;have Z':(l.length:Int)<1000:=by omega
   have FB:=A3 C4;have Kb:=A3 AB;clear P C4 AB;have e1:(l.length:Int)+1-1=(l.length:Int):=by omega
   have e2:(0:Int)<(l.length:Int)+1:=by omega
   have DF:(l.length:Int)<(l.length:Int)+1:=by omega
   have EX:(l.length:Int)<=(X:Int):=by omega
   have PQ:(p:Int)<5:=by omega
   have OJ:(y:Int)<20:=by omega
   clear A9;go_wp2_with fail;have QE:EE<wr.heap.size/\el<wr.heap.size:=by obtain⟨C,c1,_⟩:=FB.out.cR;exact⟨(Array.getElem?_eq_some_iff.1 FB.out.R_).1,(Array.getElem?_eq_some_iff.1 c1).1⟩
   have Ns:=A3 (FB.out.alloc (BE #[IS Po (p:Int),IS Po (y:Int)] 45));have J1:=FX wr (BE #[IS Po (p:Int),IS Po (y:Int)] 45) wr.heap.size rfl;clear FB c0 c1;generalize wr.alloc (BE #[IS Po (p:Int),IS Po (y:Int)] 45)=W at Ns J1⊢;generalize wr.heap.size=f at J1 QE⊢;have EW:=A3 J1;clear J1;have c:W.cell? ⟨f,0,J⟩=Z (IS Po (p:Int)):=by rw[Ad EW.out];rfl
   have s:W.cell? ⟨f,1,J⟩=Z (IS Po (y:Int)):=by rw[Ad EW.out];rfl
   obtain⟨H,z0,I,K⟩:=Ns.out.cells b hy;by_cases hs:(p,y)∈S;·rw[decide_eq_true hs]at H;go_quiet(fail);go_wp2;exact jB.out _ _ _ _ _ _ _ _ _ _ _ _ _ _ _ _ _ _ _ _ _ _ _ _ _ _ _ _ _ _ _ _ _ _ _ _ _ _ _ _ _ _ _ _ _ _ _ _ _ _ _ _ _ _ _ _ _ _ _ _ _ _ _ _ _ _ _ _ _ _ _ _ _ _ _ _ _ _ _ _ _ _ _ _ _ S l _ _ (Ns.out.drewN nq) (Kb.out.skip hs) (by omega) (by omega)
   ·rw[decide_eq_false hs]at H;go_quiet(fail);have j7:=A3 (Ns.out.drewN nq);have Y4:AP ((W.drewN nq).heap[f]?=_):=A3 EW.out;clear c s H z0 I K Ns EW;generalize W.drewN nq=WE at j7 Y4⊢;have c:WE.cell? ⟨f,0,J⟩=Z (IS Po (p:Int)):=by rw[Ad Y4.out];rfl
    have s:WE.cell? ⟨f,1,J⟩=Z (IS Po (y:Int)):=by rw[Ad Y4.out];rfl
    obtain⟨H,z0,I,K⟩:=j7.out.cells b hy;have fj:el≠f:=by omega
    have a0u:EE≠f:=by omega
    go_wp2_with fail;go_region_held2 λwx=>wx.cell? ⟨f,0,J⟩=Z (IS Po (p:Int))/\wx.cell? ⟨f,1,J⟩=Z (IS Po (y:Int))(go_keep)(fail);have B3:S.length+1<=15:=by
     have h1:=Kb.out.more hs;have h2:=N.ly (U:=(H9 15).map λi=>(i/3,AW (i/3) (i%3))) h1.nodup λz AR=>by
      obtain⟨a1,k1,I0,a3⟩:=Sz.out z (h1.seen z AR);refine List.mem_map.2 ⟨z.1*3+k1,List.mem_range.2 (by omega),?_⟩;have E6:(z.1*3+k1)/3=z.1:=by omega
      have b2:(z.1*3+k1)%3=k1:=by omega
      rw[E6,b2,<-a3]
     simpa using h2
    have T':=A3 B3;have ae:AP (Walk w GX EE el B got S (S++[(p,y)]) l (As (Z ⟨g,0,J⟩) l.length X) (WE.setCell ⟨el,p*20+y,J⟩ (aY5 A0)).drew):=A3 ((j7.out.aQv b hy).drewN 1);have Q:AP ((WE.setCell ⟨el,p*20+y,J⟩ (aY5 A0)).drew.heap[f]?=Z (BE #[IS Po (p:Int),IS Po (y:Int)] 45)):=A3 ((F_ _ _ _ _ λe=>fj e.symm).trans Y4.out);clear c s H z0 I K j7 Y4 B3;generalize(WE.setCell ⟨el,p*20+y,J⟩ (aY5 A0)).drew=ay at ae Q⊢;have c:ay.cell? ⟨f,0,J⟩=Z (IS Po (p:Int)):=by rw[Ad Q.out];rfl
    have s:ay.cell? ⟨f,1,J⟩=Z (IS Po (y:Int)):=by rw[Ad Q.out];rfl
    obtain⟨H,z0,I,K⟩:=ae.out.cells b hy;clear H z0;go_wp2_with fail;by_cases BW:KC S p<(y:Int)
    ·go_quiet(fail);have j8:=A3 (ae.out.drewN nq);have dt:AP ((ay.drewN nq).heap[f]?=_):=A3 Q.out;clear c s I K ae Q;generalize ay.drewN nq=eL at j8 dt⊢;have c:eL.cell? ⟨f,0,J⟩=Z (IS Po (p:Int)):=by rw[Ad dt.out];rfl
     have s:eL.cell? ⟨f,1,J⟩=Z (IS Po (y:Int)):=by rw[Ad dt.out];rfl
     obtain⟨H,z0,I,K⟩:=j8.out.cells b hy;clear H z0;go_wp2_with fail;have A:AP (Walk w GX EE el B got (S++[(p,y)]) (S++[(p,y)]) l (As (Z ⟨g,0,J⟩) l.length X) (eL.setCell ⟨EE,p,J⟩ (IS Po (y:Int)))):=A3 (j8.out.put (x:=(p,y)) b BW);have r:AP ((eL.setCell ⟨EE,p,J⟩ (IS Po (y:Int))).heap[f]?=Z (BE #[IS Po (p:Int),IS Po (y:Int)] 45)):=A3 ((F_ _ _ _ _ λe=>a0u e.symm).trans dt.out);clear c s I K j8 dt;generalize eL.setCell ⟨EE,p,J⟩ (IS Po (y:Int))=t at A r⊢;have c:t.cell? ⟨f,0,J⟩=Z (IS Po (p:Int)):=by rw[Ad r.out];rfl
     have s:t.cell? ⟨f,1,J⟩=Z (IS Po (y:Int)):=by rw[Ad r.out];rfl
     obtain⟨Al,M5,Aj,EH,Fo⟩:=M.out.DT p k b m;have u:=a3j AW hW p k Al M5 Aj t b m (λj H1=>Aw A.out.below (M.out.Sb p j b H1).1) λj H1 e=>by have:=M.out.inj p j k b (by omega) m e;omega (Aw A.out.below EH);rw[<-j9.out]at u;have oy:=A3 u;have Lc:=A3 Fo;clear u Fo EH;go_wp2_with(first|(go_at_call 29;refine oy.out.mono ?_;rintro e ES⟨rfl,IE⟩;have D:=A3 (A.out.later IE);clear IE)|(at_builtin;refine vR rfl _ _ rfl B (As (Z ⟨g,0,J⟩) l.length X) l rfl D.out.todo (As Al M5 Aj) (ip p k) rfl (Lc.out.later D.out.below) (by have:=aa.out p k b m;omega) (by have:=D.out.todo.lt g rfl;omega) ?_;intro c_ DZ Z7 fS;have pQ:=A3 (D.out.grown fS Z7);clear Z7 fS));have rJ:F (p,y)=ip p k:=by rw[j9.out];exact El.out p k b m
     have lc:=Kb.out.more hs;rw[rJ]at lc;exact jB.out _ _ _ _ _ _ _ _ _ _ _ _ _ _ _ _ _ _ _ _ _ _ _ _ _ _ _ _ _ _ _ _ _ _ _ _ _ _ _ _ _ _ _ _ _ _ _ _ _ _ _ _ _ _ _ _ _ _ _ _ _ _ _ _ _ _ _ _ _ _ _ _ _ _ _ _ _ _ _ _ _ _ _ _ _ (S++[(p,y)]) (l++ip p k) c_ DZ pQ.out lc (by have:=aa.out p k b m;have:=T'.out;simp only[HN,Jg,pb];omega) (by omega)
    ·go_quiet(fail);have A:=A3 ((ae.out.stay (x:=(p,y)) BW).drewN nq);have r:AP ((ay.drewN nq).heap[f]?=_):=A3 Q.out;clear c s I K ae Q;generalize ay.drewN nq=t at A r⊢;have c:t.cell? ⟨f,0,J⟩=Z (IS Po (p:Int)):=by rw[Ad r.out];rfl
     have s:t.cell? ⟨f,1,J⟩=Z (IS Po (y:Int)):=by rw[Ad r.out];rfl
     clear BW;obtain⟨Al,M5,Aj,EH,Fo⟩:=M.out.DT p k b m;have u:=a3j AW hW p k Al M5 Aj t b m (λj H1=>Aw A.out.below (M.out.Sb p j b H1).1) λj H1 e=>by have:=M.out.inj p j k b (by omega) m e;omega (Aw A.out.below EH);rw[<-j9.out]at u;have oy:=A3 u;have Lc:=A3 Fo;clear u Fo EH;go_wp2_with(first|(go_at_call 29;refine oy.out.mono ?_;rintro e ES⟨rfl,IE⟩;have D:=A3 (A.out.later IE);clear IE)|(at_builtin;refine vR rfl _ _ rfl B (As (Z ⟨g,0,J⟩) l.length X) l rfl D.out.todo (As Al M5 Aj) (ip p k) rfl (Lc.out.later D.out.below) (by have:=aa.out p k b m;omega) (by have:=D.out.todo.lt g rfl;omega) ?_;intro c_ DZ Z7 fS;have pQ:=A3 (D.out.grown fS Z7);clear Z7 fS));have rJ:F (p,y)=ip p k:=by rw[j9.out];exact El.out p k b m
     have lc:=Kb.out.more hs;rw[rJ]at lc;exact jB.out _ _ _ _ _ _ _ _ _ _ _ _ _ _ _ _ _ _ _ _ _ _ _ _ _ _ _ _ _ _ _ _ _ _ _ _ _ _ _ _ _ _ _ _ _ _ _ _ _ _ _ _ _ _ _ _ _ _ _ _ _ _ _ _ _ _ _ _ _ _ _ _ _ _ _ _ _ _ _ _ _ _ _ _ _ (S++[(p,y)]) (l++ip p k) c_ DZ pQ.out lc (by have:=aa.out p k b m;have:=T'.out;simp only[HN,Jg,pb];omega) (by omega)
theorem aLE{P:Program}{c:Cv}(n:Nat)(h:vu P c (u9 (Q (aZG 0))) n a w):(aZv c).wp P Q a w:=iw (wp_loop_rounds n h) λe a w h=>by match e,h with|aZG 0,h=>exact h|aZG (_+1),h=>exact h.elim|aYP,h=>exact h.elim|.goto _,h=>exact h.elim|.ret,h=>exact h.elim|.panic _,h=>exact h.elim|.outgrown,h=>exact h.elim
theorem aEx(f:Nat->Int)(w:A'):(Mt 10000 63 (dd #[IS Po (f 0),IS Po (f 1),IS Po (f 2),IS Po (f 3),IS Po (f 4)]) (dd #[IS Po (f 0),IS Po (f 1),IS Po (f 2),IS Po (f 3),IS Po (f 4)])).run A4 w=aY6 A0 w:=by have u3:=Tryz.underlying3;have b:=Tryz.isAgg3;have e:=Tryz.sizeOf3;rw[show(10000:Nat)=9999+1 from rfl,Mt];simp only[Sem.run_bind,run_underlying Tryz.underlying63,Result.andThen_ok];simp only[yj,aUY,Nat.sub_zero,Nat.add_sub_cancel,Nat.div_one,List.range'_succ,List.range'_zero,List.forIn_cons,List.forIn_nil];go_simp
theorem aKX(AW:Nat->Nat->Nat)(ip:Nat->Nat->List (Nat×Nat))(d9 T:List (Nat×Nat))(F:Nat×Nat->List (Nat×Nat))(K n:Nat)(r:A1)(s:ByteArray)(g5 fk g0 g2 B2 Ap Ar Am BV BR p2 up p3 y4 y6 Ak Ao An y3 pp rg v1 rt s1 s2 sm v6 wt p4 C9 CG CH G4 G5 G6 G7 G8 G9 GA CI CJ CK CL CB CC CM CN CO CP CQ CR CS CU CV CE CF CW CX CY CZ C_ Ca Ze Zf Zg Zh Zi Zj Zk Zl Zm Zn Zo Zp Zq Zr Zs Zt Zu Zv Zw Zx Zy Zz a6 a7 a8:A1)(w:A')(C:Nt AW ip d9 K w)(a2:∀q k,q<5->k<3->F (q,AW q k)=ip q k)(Bz:∀q k,q<5->k<3->(ip q k).length<=5)(gB:d9.length<=5)(B8:∀x,N.Reach F d9 x->x.1<5/\∃k,k<3/\x.2=AW x.1 k)(IE:w.heap[n]?=Z (BE #[r,AI s] 59))(hv:HO w r (T.map F2))(i1:∀x∈T,x.1<5/\∃k,k<3/\x.2=AW x.1 k)(bj:T.Pairwise λx y=>x.1<y.1)(NJ:∀S,Nq F d9 S []->M7 T=KC S):Gc.wp A4 (xU A4 Nk λe m=>∃v,e=hq v/\v=aY5 A0/\w.heap.size<=m.heap.size/\∀b,b<w.heap.size->m.heap[b]?=w.heap[b]?) ⟨#[g5,fk,g0,g2,aY4 (Z ⟨K,0,J⟩),aY4 (Z ⟨n,0,J⟩),aY5 A0,B2,Ap,Ar,Am,BV,BR,p2,up,p3,y4,y6,Ak,Ao,An,y3,pp,rg,v1,rt,s1,s2,sm,v6,wt,p4,C9,CG,CH,G4,G5,G6,G7,G8,G9,GA,CI,CJ,CK,CL,CB,CC,CM,CN,CO,CP,CQ,CR,CS,CU,CV,CE,CF,CW,CX,CY,CZ,C_,Ca,Ze,Zf,Zg,Zh,Zi,Zj,Zk,Zl,Zm,Zn,Zo,Zp,Zq,Zr,Zs,Zt,Zu,Zv,Zw,Zx,Zy,Zz,a6,a7,a8],[]⟩ w:=by
 obtain⟨t,u,E,rfl⟩:∃t u E,r=As t u E:=by
  rcases hv with⟨h,_⟩|⟨g,c,h,_⟩;·exact⟨_,_,_,h⟩
  ·exact⟨_,_,_,h⟩
 have J8:w.cell? ⟨n,0,J⟩=Z (As t u E):=by rw[Ad IE];rfl
 obtain⟨got,P⟩:∃f,f=M7 T:=⟨_,rfl⟩;have W:=A3 P;have Q:=aS9 AW K T _ w (λq k AD U=>⟨(C.Sb q k AD U).1,by have:=(C.Sb q k AD U).2;omega⟩) C.inj hv i1 bj;rw[<-P]at Q;unfold N7 at Q;have X:=A3 Q;clear Q P;have GS:=A3 C;have El:=A3 a2;have aa:=A3 Bz;have Sz:=A3 B8;have aAz:=A3 NJ;obtain⟨BL,aQ9,rc,kr,Fo⟩:=C.root;have aB':=A3 kr;have Lc:=A3 Fo;obtain⟨i0,hi,E9,DL,Cc⟩:=IT tH;clear C a2 Bz B8 hv i1 bj NJ IE kr Fo;simp only[Gc,RZ,Nk,HB,fstC,sndC];go_wp2_with(first|(at_builtin;refine vR rfl _ _ rfl (m.heap.size+1) (As J 0 0) [] rfl (World.ownsRow_nil _ _ _ _) (As BL aQ9 rc) d9 rfl ((Lc.out.later H.out).later ((B9 _ m).alloc (AX _) _)) (by simp;omega) (by simp) ?_;intro Fc z be I;have Lb:=A3 be;have aAj:=A3 I;clear be I)|(go_at_call 28;refine X.out.mono ?_;rintro e m⟨rfl,Ae⟩;have H:=A3 Ae;(have M:=Aw Ae aB'.out);(have a0s:K<m.heap.size:=Ff (h:=M));clear Ae));have FF:Walk w m.heap.size z.heap.size (z.heap.size+1) (m.heap.size+1) got [] [] d9 Fc ((z.alloc (BE #[IS Po (-1),IS Po (-1),IS Po (-1),IS Po (-1),IS Po (-1)] 63)).alloc (BE xL 67)):=by
  have NA:=aAj.out;have b0:AS w.heap.size w z:=(H.out.alloc H.out.size _).grown NA (by have:=H.out.size;simp;omega) (λk U=>by cases U);have g1:z.heap[m.heap.size]?=Z (BE (N7 got) 63):=(NA.block _ (by simp) λe=>by cases e).trans (FX _ _ _ rfl);have E2:=(Array.getElem?_eq_some_iff.1 g1).1;have E6:=b0.alloc b0.size (BE #[IS Po (-1),IS Po (-1),IS Po (-1),IS Po (-1),IS Po (-1)] 63);have HJ:(z.alloc (BE #[IS Po (-1),IS Po (-1),IS Po (-1),IS Po (-1),IS Po (-1)] 63)).heap.size=z.heap.size+1:=by simp
  refine⟨E6.alloc E6.size _,?_,?_,⟨xL,FX _ _ _ HJ.symm,by rw[a6d];rfl,λp x hp hx=>?_⟩,(Lb.out.alloc _).alloc _,?_⟩;·rw[E' _ _ _ (by rw[HJ];omega),E' _ _ _ E2];exact g1
  ·rw[E' _ _ _ (by rw[HJ];omega),FX _ _ _ rfl];rfl
  ·rw[a6d,Array.getElem?_replicate,if_pos (by omega)];rfl
  ·have:=H.out.size;have:=b0.size;omega
 have aBA:=A3 FF;clear FF;refine aLE 200 ?_;refine aQD AW ip d9 F K m.heap.size z.heap.size (z.heap.size+1) (m.heap.size+1) got w _ GS.out El.out aa.out Sz.out ?_ 200 _ _ _ _ _ _ _ _ _ _ _ _ _ _ _ _ _ _ _ _ _ _ _ _ _ _ _ _ _ _ _ _ _ _ _ _ _ _ _ _ _ _ _ _ _ _ _ _ _ _ _ _ _ _ _ _ _ _ _ _ _ _ _ _ _ _ _ _ _ _ _ _ _ _ _ _ _ _ _ _ _ _ _ _ _ [] d9 Fc _ aBA.out (Nq.start F d9) (by simp;omega) (by omega);intro z0 E2 z2 z3 z5 U0 hQ z12 hR n9 cj nA z17 aXH aXI z20 z21 z22 aXJ aXK z25 aXL aXM aXN aXO aXP z31 aXQ aXR aXS aXT aXU z37 aXV z39 z40 aXW aXX aXY aXZ z45 z46 aX_ aXa aXb z50 z51 aXc z53 aXd z55 aXe aXf aXg z59 aXh aXi aXj aXk aXl aXm z66 aXn aXo aXp z70 aXq z72 aXr aXs aXt z76 z77 aXu aXv aXw aXx aXy aXz aY' aTg aY0 aY1 aY2 aY3 S v wr j AB;have bR:KC S=got:=by rw[<-aAz.out S AB,W.out]
 have A:=j.R_;rw[bR]at A;have D:=j.WX;have UM:=A3 j.below;have NA:wr.cell? ⟨m.heap.size,0,J⟩=Z (IS Po (got 0)):=by rw[Ad D];rfl
 have g1:wr.cell? ⟨m.heap.size,1,J⟩=Z (IS Po (got 1)):=by rw[Ad D];rfl
 have Ds:wr.cell? ⟨m.heap.size,2,J⟩=Z (IS Po (got 2)):=by rw[Ad D];rfl
 have g3:wr.cell? ⟨m.heap.size,3,J⟩=Z (IS Po (got 3)):=by rw[Ad D];rfl
 have g4:wr.cell? ⟨m.heap.size,4,J⟩=Z (IS Po (got 4)):=by rw[Ad D];rfl
 have AV:wr.cell? ⟨z.heap.size,0,J⟩=Z (IS Po (got 0)):=by rw[Ad A];rfl
 have h1:wr.cell? ⟨z.heap.size,1,J⟩=Z (IS Po (got 1)):=by rw[Ad A];rfl
 have h2:wr.cell? ⟨z.heap.size,2,J⟩=Z (IS Po (got 2)):=by rw[Ad A];rfl
 have h3:wr.cell? ⟨z.heap.size,3,J⟩=Z (IS Po (got 3)):=by rw[Ad A];rfl
 have h4:wr.cell? ⟨z.heap.size,4,J⟩=Z (IS Po (got 4)):=by rw[Ad A];rfl
 clear j AB A D bR J8 M;have Uq:=aEx got;have aVW:A4.eqGuardType A4.depth 63=A5:=by kernel_rfl
 (try simp only[Sl,Exit.then,if_true]);go_wp2;go_ret;exact⟨_,rfl,rfl,UM.out.size,λb hb=>UM.out.block b hb⟩
end
section
open Go.RowKit
open Go.Proofs.YtcfhleenecfghaaGreatDoor.Twin
variable{w:A'}{C:Array A1}{d9:List (Nat×Nat)}{B:Nat}{AW:Nat->Nat->Nat}
structure pg(AW:Nat->Nat->Nat)(ip:Nat->Nat->List (Nat×Nat))(d9:List (Nat×Nat)):Prop where
 low:∀q k,q<5->k<3->AW q k<10
 inj:∀q j k,q<5->j<3->k<3->AW q j=AW q k->j=k
 M3:∀q k,q<5->k<3->∀x∈ip q k,x.1<5/\∃j,j<3/\x.2=AW x.1 j
 root:∀x∈d9,x.1<5/\∃j,j<3/\x.2=AW x.1 j
 DT:∀q k,q<5->k<3->V.eA (ip q k)/\(ip q k).length<=5
 roots:V.eA d9/\d9.length<=5
theorem a'Q{p:Int}{l:List (Nat×Nat)}(h:O_ C p l)(hv:∀q k,q<5->k<3->C[q*3+k]?=Z (IS Po (AW q k:Int))):∀x∈l,x.1<5/\∃j,j<3/\x.2=AW x.1 j:=λx hx=>by obtain⟨b,_,_,k,h2,h3⟩:=h.1 x hx;refine⟨b,k,h2,?_⟩;rw[hv _ _ b h2]at h3;injection h3 with h3;injection h3 with _ h3;omega
theorem aM3{hW:Nat}(h:Oo w B hW C d9):∃AW ip,pg AW ip d9/\Nt AW ip d9 hW w:=by
 obtain⟨M,h2,h3,v,N,A,AQ⟩:=h;have hc:∀o,w.cell? ⟨hW,o,J⟩=C[o]?:=λo=>by rw[Ad M]
 have I:∀q k:Nat,∃n:Nat,q<5->k<3->C[q*3+k]?=Z (IS Po (n:Int))/\n<10:=λq k=>by
  by_cases AD:q<5/\k<3;·obtain⟨n,e,_,l⟩:=h2.AW q k AD.1 AD.2;exact⟨n,λ_ _=>⟨e,by omega⟩⟩
  ·exact⟨0,λa b=>absurd ⟨a,b⟩ AD⟩
 obtain⟨AW,s⟩:=Classical.skolem.1 λq=>Classical.skolem.1 (I q);have K:∀q k:Nat,∃l:List (Nat×Nat),q<5->k<3->O_ C (q:Int) l/\∃u,C[15+q*3+k]?=Z u/\w.ownsRow B 45 2 u l.length (Gl l):=λq k=>by
  by_cases AD:q<5/\k<3;·obtain⟨u,l,e,f,o⟩:=h3 q k AD.1 AD.2;exact⟨l,λ_ _=>⟨f,u,e,o.1⟩⟩
  ·exact⟨[],λa b=>absurd ⟨a,b⟩ AD⟩
 obtain⟨ip,z⟩:=Classical.skolem.1 λq=>Classical.skolem.1 (K q);have H:∀{u:A1}{n:Nat}{xs:List A1},w.ownsRow B 45 2 u n xs->∃a m c,u=As a m c:=λA7=>by
  rcases A7.2 with⟨e,_⟩|⟨g,r,t,e,_⟩;·exact⟨_,_,_,e⟩
  ·exact⟨_,_,_,e⟩
 have D:∀q j k,q<5->j<3->k<3->j<k->AW q j<AW q k:=by
  intro q j k AD y p E;have hs:∀i,i<2->AW q i<AW q (i+1):=λi hi=>by have:=h2.a5E q i _ _ AD hi (s q i AD (by omega)).1 (s q (i+1) AD (by omega)).1;omega
  have Q:=hs 0 (by omega);have U:=hs 1 (by omega);have e1:(0:Nat)+1=1:=rfl;have e2:(1:Nat)+1=2:=rfl;rw[e1]at Q;rw[e2]at U;have:j=0/\k=1∨j=0/\k=2∨j=1/\k=2:=by omega
  rcases this with⟨rfl,rfl⟩|⟨rfl,rfl⟩|⟨rfl,rfl⟩<;>omega
 have x:∀q j k,q<5->j<3->k<3->AW q j=AW q k->j=k:=λq j k AD y p e=>by
  rcases aBw j k with h|h|h;·have:=D q j k AD y p h;omega
  ·exact h
  ·have:=D q k j AD p y h;omega
 refine⟨AW,ip,⟨λq k AD p=>(s q k AD p).2,x,λq k AD p=>a'Q (z q k AD p).1 λq k a b=>(s q k a b).1,a'Q A λq k a b=>(s q k a b).1,λq k AD p=>qw (z q k AD p).1,qw A⟩,⟨λq k AD p=>⟨(hc _).trans (s q k AD p).1,(s q k AD p).2⟩,x,λq k AD p=>?_,?_⟩⟩;·obtain⟨_,u,e,o⟩:=z q k AD p;obtain⟨a,m,c,rfl⟩:=H o;exact⟨a,m,c,(hc _).trans e,tw o⟩
 ·obtain⟨a,m,c,rfl⟩:=H AQ.1;exact⟨a,m,c,(hc _).trans N,tw AQ.1⟩
structure RU(AW:Nat->Nat->Nat)(ip:Nat->Nat->List (Nat×Nat))(B:Nat)(v:A1)(w:A')(L:List Rel):Prop where
 len:L.length=15
 rel:∀j(h:j<L.length),ar AW ip B w (j/3) (j%3) L[j]
 own:w.ownsRow B 75 4 v 15 (KR L)
 spare:GJ Zb w 4 v 15
section
variable{AW:Nat->Nat->Nat}{ip:Nat->Nat->List (Nat×Nat)}{d9:List (Nat×Nat)}{B:Nat}{w w':A'}{v:A1}{L:List Rel}
theorem Lg.plain{w0:A'}(h:Lg AW ip w0 15 v w L):RU AW ip w0.heap.size v w L:=⟨h.len,h.rel,h.own,h.spare⟩
theorem RU.heap(h:RU AW ip B v w L)(e:w'.heap=w.heap):RU AW ip B v w' L:=by refine⟨h.len,λj m=>(h.rel j m).same λb c q _=>by rw[e],?_,h.spare.same λg f _=>by rw[e]⟩;have:=h.own;unfold aA3 at this⊢;rw[e];exact this
theorem Oo.heap{hW:Nat}{C:Array A1}(h:Oo w B hW C d9)(e:w'.heap=w.heap):Oo w' B hW C d9:=by unfold Oo YQ KA GJ aA3 at h⊢;rw[e];exact h
theorem Nt.same{hW:Nat}(h:Nt AW ip d9 hW w)(e:∀b,b<w.heap.size->w'.heap[b]?=w.heap[b]?):Nt AW ip d9 hW w':=by
 have hc:∀{b o:Nat}{u:A1},w.cell? ⟨b,o,J⟩=Z u->w'.cell? ⟨b,o,J⟩=Z u:=λ{b o u}hu=>(F4 (a:=⟨b,o,J⟩) (e b (Ff (h:=hu)))).trans hu;have hn:∀{u:A1}{l:List (Nat×Nat)},MO w u l->MO w' u l:=λ{u l}hu=>by
  rcases hu with hu|⟨g,c,f,h2⟩;·exact AA hu
  ·exact AF ⟨g,c,f,λj s=>⟨hc (h2 j s).1,hc (h2 j s).2⟩⟩
 refine⟨λq k p m=>⟨hc (h.Sb q k p m).1,(h.Sb q k p m).2⟩,h.inj,λq k p m=>?_,?_⟩;·obtain⟨a,n,c,f,h2⟩:=h.DT q k p m;exact⟨a,n,c,hc f,hn h2⟩
 ·obtain⟨a,n,c,f,h2⟩:=h.root;exact⟨a,n,c,hc f,hn h2⟩
theorem RU.law(h:RU AW ip B v w L)(b:pg AW ip d9):Kc AW ip d9 L:=⟨h.len,λj e=>⟨(h.rel j e).path,(h.rel j e).version,(h.rel j e).DT⟩,b.low,b.inj,b.M3,b.root⟩
theorem RU.of(h:RU AW ip B v w L){r:Rel}(e:r∈L):∃q k,q<5/\k<3/\ar AW ip B w q k r:=by obtain⟨j,b,rfl⟩:=List.mem_iff_getElem.1 e;have:=h.len;exact⟨j/3,j%3,by omega,by omega,h.rel j b⟩
end
def U8(w:A'):Prop:=∀b,b<D4->∃cs t,w.heap[b]?=Z (BE cs t (0,0))/\∀(j:Nat)(u:A1),cs[j]?=Z u->∃k n,u=IS k n
def a4u(e:Nat)(L:List Rel)(b:Nat):Prop:=b<D4∨b=e∨∃r∈L,∃a,r.Bj=Z a/\b=a.block
noncomputable def vA(r:Rel):ByteArray:=⟨(V.cV r.p r.v r.m Rh r.v).toArray⟩
theorem vL{F:Nat->Prop}{E:AN}{c:Array A1}(h:∀(j:Nat)(u:A1),c[j]?=Z u->AJ F E u u):Ab F E c.toList c.toList:=Ab.of rfl λi x y e b=>by rw[e]at b;obtain rfl:=D3 b;exact h i x (by simpa using e)
theorem aQB:V.path V.HX.data.toList=A0:=by decide
theorem a3I(q:Nat):V.mp q≠V.HX:=λh=>by have:=congrArg a6t h;rw[Tk]at this;cases this
theorem tp(b:ByteArray)(f:b.size<=60)(l:List (Nat×Nat))(e:l.length<=5):(FZ b l).size<=182:=by rw[<-a4I];exact a4J b f l _ e
theorem aMP(x:Nat×Nat):Fh (F2 x):=by have b:(F2 x).1.size=3:=Tk x.1;have h2:(F2 x).2.size<=9:=ZL _;exact⟨by unfold BK;omega,by unfold BK;omega⟩
theorem aL2{ip:Nat->Nat->List (Nat×Nat)}{L:List Rel}{bi cap:Nat}{Wb R:Nat->Prop}{m:Int}(Ai:pg AW ip d9)(h:RU AW ip B (As (Z ⟨bi,0,J⟩) 15 cap) w L)(AB:U8 w)(hm:w.cell? ⟨0,0,J⟩=Z (IS Po m))(NH:w.cell? ⟨5,15,J⟩=Z (IS aYL 4))(P:Holds Wb R w)(hv:AJ Cy (D6 R) (As (Z ⟨bi,0,J⟩) 15 cap) (As (Z ⟨bi,0,J⟩) 15 cap)):jO w R (a4u bi L) (FZ V.HX d9) V.HX (d9.map F2) bi L m vA:=by
 have A9:=h.len;have Q:=h.law Ai;have gB:=a3G aQB Ai.roots.1;obtain⟨g,K,I,e,Ae,E,Bu,EZ,IE,TO⟩:∃g K I,As (Z ⟨bi,0,J⟩) 15 cap=As (Z ⟨g,0,J⟩) 15 K/\B<=g/\w.heap[g]?=Z (BE I 75 (0,0))/\15<=K/\K<=BK/\I.size=K*4/\I.toList.take (15*4)=KR L:=by
  rcases h.own.2 with⟨e,_⟩|x;·cases e
  ·exact x
 injection e with e1 _ e2;injection e1 with e1;injection e1 with e1;subst e1 e2;have Dq:∀(j:Nat)(u:A1),(KR L)[j]?=Z u->I[j]?=Z u:=λj u hu=>by have M:j<(KR L).length:=(List.getElem?_eq_some_iff.1 hu).1;rw[<-TO]at hu M;rw[List.length_take]at M;rw[aBU (by omega)]at hu;simpa using hu
 have F':R bi:=AJ.ZG hv;have S:∀r∈L,∀a,r.Bj=Z a->R a.block:=λr f a D=>by obtain⟨j,M,rfl⟩:=List.mem_iff_getElem.1 f;obtain⟨o,A7,W⟩:=P.closed.heap bi F';rw[E]at A7;obtain rfl:=D3 A7;cases W with|cells _ Kv _=>have h3:=Dq (j*4+3) _ (Tt L j M 3 _ (by decide) rfl);have h4:=Ab.nth (j*4+3) Kv (by simpa using h3);rw[D]at h4;obtain⟨b,o,s⟩:=a;exact AJ.ZG h4
 have J2:∀b,a4u bi L b->R b:=λb C=>by
  rcases C with C|rfl|⟨r,f,a,D,rfl⟩;·exact P.closed.EF b C
  ·exact F'
  ·exact S r f a D
 refine⟨gB.1,gB.2,by have:=tp V.HX (by decide) d9 Ai.roots.2;omega,⟨Q.a5',λr f=>?_,λr f=>?_,by omega,λr f=>?_,λr f y hy=>?_,λy hy=>?_,by rw[Mz];have:=Ai.roots.2;omega⟩,λx hx=>?_,λr f=>?_,λr f=>?_,λi hi=>?_,J2,⟨λb C=>?_,λb C=>AA C,P.closed.low⟩,AF (AA rfl),λr f a D=>AF (AF ⟨r,f,a,D,rfl⟩),hm,NH,λr f=>?_,λr f=>?_,λa D b C e=>?_⟩
 ·obtain⟨q,k,z,A,f⟩:=h.of f;obtain⟨Qh,PU⟩:=Ai.DT q k z A;have hp:V.path (V.mp q).data.toList=A0:=by rw[V.PT];exact V.tr z
  obtain⟨g1,Ds⟩:=a3G hp Qh;refine⟨by rw[f.lk];exact g1,by rw[f.lk,f.path,f.DT];exact Ds,?_,λy hy=>?_,by rw[f.DT,Mz];omega⟩;·rw[f.lk];have:=tp (V.mp q) (by rw[Tk];omega) (ip q k) PU;omega
  ·rw[f.DT]at hy;obtain⟨x,_,rfl⟩:=List.mem_map.1 hy;exact⟨a3I x.1,aMP x⟩
 ·obtain⟨q,k,z,A,f⟩:=h.of f;rw[f.version];have:=ZL (AW q k);omega
 ·obtain⟨q,k,z,A,f⟩:=h.of f;rw[f.DT,Mz];have:=(Ai.DT q k z A).2;omega
 ·obtain⟨q,k,z,A,f⟩:=h.of f;rw[f.DT]at hy;obtain⟨x,hx,rfl⟩:=List.mem_map.1 hy;obtain⟨a,j,b,c⟩:=Ai.M3 q k z A x hx;obtain⟨r2,H,h2,_⟩:=Q.find x.1 j a b;exact⟨r2,H,by rw[h2,<-c]⟩
 ·obtain⟨x,hx,rfl⟩:=List.mem_map.1 hy;obtain⟨a,j,b,c⟩:=Ai.root x hx;obtain⟨r2,H,h2,_⟩:=Q.find x.1 j a b;exact⟨r2,H,by rw[h2,<-c]⟩
 ·obtain⟨y,hy,rfl⟩:=List.mem_map.1 hx;exact a3I y.1
 ·obtain⟨q,k,z,A,f⟩:=h.of f;rw[f.path,f.version];have:=Ai.low q k z A;unfold V.Jo V.Ll V.TI;rw[V.PT,V.XA,V.tr z,V.a3M (by omega)];rfl
 ·obtain⟨q,k,z,A,f⟩:=h.of f;rw[f.path,Tk];omega
 ·have hc:∀(j:Nat)(u:A1),(KR L)[j]?=Z u->w.cell? ⟨bi,j,J⟩=Z u:=λj u hu=>by rw[Ad E];exact Dq j u hu
  exact⟨hc _ _ (Tt L i hi 0 _ (by decide) rfl),hc _ _ (Tt L i hi 1 _ (by decide) rfl),hc _ _ (Tt L i hi 2 _ (by decide) rfl),hc _ _ (Tt L i hi 3 _ (by decide) rfl)⟩
 ·rcases C with C|rfl|⟨r,f,a,D,rfl⟩;·obtain⟨cs,t,H,h2⟩:=AB b C;refine⟨_,H,.cells t (vL λj u hu=>?_) (Mr.refl _),λc Bd p e=>by cases e;rfl⟩;obtain⟨k,n,rfl⟩:=h2 j u hu;exact .int k n
  ·refine⟨_,E,.cells 75 (vL λj u hu=>?_) (Mr.refl _),λc Bd p e=>by cases e;rfl⟩;by_cases M:j<60
   ·have F:(KR L)[j]?=Z u:=by rw[<-TO,aBU (by omega)];simpa using hu
    have N:j/4<L.length:=by omega
    have TV:j%4<4:=Nat.mod_lt _ (by decide);have U:j=j/4*4+j%4:=by omega
    have hx:j%4=0∨j%4=1∨j%4=2∨j%4=3:=by omega
    rcases hx with hx|hx|hx|hx;·have:=Tt L (j/4) N 0 _ (by decide) rfl;rw[<-hx,<-U,F]at this;obtain rfl:=D3 this;exact .string _
    ·have:=Tt L (j/4) N 1 _ (by decide) rfl;rw[<-hx,<-U,F]at this;obtain rfl:=D3 this;exact .string _
    ·have:=Tt L (j/4) N 2 _ (by decide) rfl;rw[<-hx,<-U,F]at this;obtain rfl:=D3 this;exact .string _
    ·have:=Tt L (j/4) N 3 _ (by decide) rfl;rw[<-hx,<-U,F]at this;obtain rfl:=D3 this;cases X:L[j/4].Bj with|none=>exact .Gt _ _|some a=>exact .slice _ _ ⟨⟨rfl,AF (AF ⟨_,EC N,a,X,rfl⟩)⟩,rfl,rfl⟩
   ·rcases h.spare _ _ I 75 (0,0) rfl E j u (by omega) hu with⟨s,rfl⟩|rfl;·exact .string s
    ·exact .Gt _ _
  ·obtain⟨q,k,z,A,f⟩:=h.of f;obtain⟨b,Gz,HE,Rg,f4⟩:=f.file;rw[Gz]at D;obtain rfl:=D3 D;refine⟨_,f4,.cells 77 (vL λj u hu=>?_) (Mr.refl _),λc Bd p e=>by cases e;rfl⟩;match j,hu with|0,hu=>cases hu;exact .string _|1,hu=>cases hu;exact .string _|j+2,hu=>simp at hu
 ·obtain⟨q,k,z,A,f⟩:=h.of f;obtain⟨b,Gz,HE,Rg,f4⟩:=f.file;refine⟨b,Rh,r.v,Gz,HE,by rw[Ad f4];rfl,by rw[Ad f4];rfl,⟨?_,?_,?_,by decide,?_⟩,by simp[vA]⟩;·rw[f.path,Tk];omega
  ·rw[f.version];have:=ZL (AW q k);omega
  ·rw[f.lk];have:=tp (V.mp q) (by rw[Tk];omega) (ip q k) (Ai.DT q k z A).2;omega
  ·rw[f.version];have:=ZL (AW q k);omega
 ·have:(vA r).size=(V.cV r.p r.v r.m Rh r.v).length:=by show(V.cV r.p r.v r.m Rh r.v).toArray.size=_;simp
  rw[this];unfold V.cV V.hG;rw[V.a0N];simp
 ·obtain⟨q,k,z,A,H,_⟩:=Q.of D;obtain⟨EA,k',LI,FV,h2,_⟩:=Q.of C;rw[H,h2]at e⊢;rw[aMN ⟨z,Ai.low q k z A⟩ ⟨LI,Ai.low EA k' LI FV⟩ e]
noncomputable def tK(t:A_):Bool:=A4.buildable t&&match A4.cellTypes A4.depth t with
 |Z ts=>ts.all λu=>match A4.underlying u with
  |Z (.int _)=>A0
  |_=>A5
 |J=>A5
noncomputable def WW(g:Nat):Bool:=match(begin A4 (λ_ _=>0) Ag).world.heap[g]?.bind a8A with|Z (_,t)=>tK t|J=>A5
theorem aFt:(WW 0&&WW 1&&WW 2&&WW 3&&WW 4&&WW 5)=A0:=by kernel_rfl
theorem aFu(g:Nat)(h:g<D4):WW g=A0:=by have:=aFt;simp only[IP]at this;obtain⟨⟨⟨⟨⟨b,e⟩,h2⟩,h3⟩,h4⟩,f⟩:=this;unfold D4 at h;match g,h with|0,_=>exact b|1,_=>exact e|2,_=>exact h2|3,_=>exact h3|4,_=>exact h4|5,_=>exact f
theorem aJl{d:Option TypeDesc}(h:(match d with|Z (.int _)=>A0|_=>A5)=A0):∃k,d=Z (.int k):=by
 split at h;·exact⟨_,rfl⟩
 ·cases h
theorem aDR{b:Nat}{u:A_}{v:A1}{k:IntKind}(hu:A4.underlying u=Z (.int k))(h:a7A A4 w aYz b u v):∃k n,v=IS k n:=by unfold a7A at h;rw[hu]at h;cases v<;>first|exact⟨_,_,rfl⟩|exact h.elim
theorem aFw(h:w.ShapedOpen A4):U8 w:=by
 intro g s;have b:=aFu g s;unfold WW at b;have y:A4.globals.size=6:=by kernel_rfl
 cases e:(begin A4 (λ_ _=>0) Ag).world.heap[g]?.bind a8A with|none=>rw[e]at b;cases b|some m=>obtain⟨f,t⟩:=m;rw[e]at b;have b:tK t=A0:=b;obtain⟨cs,x,_,h3⟩:=h.1 g f t (by rw[y];exact s) e;unfold tK at b;obtain⟨z,p⟩:=Bool.and_eq_true_iff.1 b;obtain⟨ts,C,_,hc⟩:=h3 z;rw[C]at p;refine⟨cs,t,x,λj u hu=>?_⟩;obtain⟨H,D,A⟩:=hc j u hu;have:=List.all_eq_true.1 p H (pc D);obtain⟨k,e2⟩:=aJl this;exact aDR e2 A
end
end Go.Proofs.YtcfhleenecfghaaGreatDoor
namespace Go.Proofs.YtcfhleenecfghaaGreatDoor.Twin
section
open Go.Proofs.YtcfhleenecfghaaGreatDoor
open Go.Conc Go.RowKit
open Go.ConcR(Payload)
variable{w w':A'}{v:A1}{g:AK}{Post:AK->A'->Prop}{C:Array A1}{ρ:C2->A1}{d9:List (Nat×Nat)}{B hW k:Nat}{R:Nat->Prop}
noncomputable def qT:Cv:=fstC RZ
noncomputable def ed:Cv:=fstC (sndC RZ)
noncomputable def TF:Cv:=fstC (sndC (sndC RZ))
noncomputable def Q9:Cv:=fstC (sndC (sndC (sndC RZ)))
noncomputable def L9:Cv:=fstC (sndC (sndC (sndC (sndC RZ))))
theorem aCh:RZ=aYB qT (aYB ed (aYB TF (aYB Q9 (aYB L9 Gc)))):=by kernel_rfl
noncomputable def Mi:Array Bf:=match L9 with|aYH _ ops _=>ops|_=>#[]
theorem aEY:L9=aYH 5 Mi A5:=by kernel_rfl
theorem a3s:Mi.size=11:=by kernel_rfl
noncomputable def IJ(i:Nat):Bf:=Mi.getD i Ag
theorem Ql(i:Nat)(h:i<11):Mi[i]?=Z (IJ i):=by unfold IJ;rw[JX,ET (by rw[a3s];exact h)];rfl
theorem aG2:∀i,i<11->(IJ i).guard=J|0,_=>by kernel_rfl|1,_=>by kernel_rfl|2,_=>by kernel_rfl|3,_=>by kernel_rfl|4,_=>by kernel_rfl|5,_=>by kernel_rfl|6,_=>by kernel_rfl|7,_=>by kernel_rfl|8,_=>by kernel_rfl|9,_=>by kernel_rfl|10,_=>by kernel_rfl
theorem Sc(i:Nat)(h:i<11)(y:_):EY (IJ i) y=A0:=by simp[EY,aG2 i h]
theorem aEq(x:A1):GR A4 7 #[x] a73=(AL 7).at ⟨#[x,Y,Y,Y,Y,Y,Y,Y,Y,Y,Y,Y,Y,Y,Y,Y,Y,Y,Y,Y,Y,Y,Y,Y,Y,Y,Y,Y,Y,Y,Y,Y,Y,Y,Y,Y,Y,Y,Y,Y,Y,Y,Y,Y,Y,Y,Y,Y,Y,Y,Y,Y,Y,Y,Y,Y,Y,Y,Y,Y,Y,Y,Y,Y,Y,Y,Y,Y,Y,Y,Y,Y,Y,Y,Y,Y,Y,Y,Y,Y,Y,Y,Y,Y,Y,Y,Y,Y,Y,Y],[]⟩ [aY9 RZ]:=by rw[jy aU (show Nk.body=Z RZ by kernel_rfl)];kernel_rfl
theorem aPb{n:Nat}(h:Nz w w.heap.size v n)(hs:w.heap.size<=w'.heap.size)(e:∀b,b<w.heap.size->w'.heap[b]?=w.heap[b]?):Nz w' w'.heap.size v n:=by
 obtain⟨A,c,rfl,h⟩:=h;refine⟨A,c,rfl,?_⟩;by_cases p:n=0;·exact AA p
 rcases h with h|⟨m,f,s,h2,h3⟩;·exact absurd h p
 ·have hlt:m<w.heap.size:=by obtain⟨x,hx,_⟩:=h3 0 (by omega);exact Ff (h:=hx)
  refine AF ⟨m,f,s,by omega,λj y=>?_⟩;obtain⟨x,hx,z⟩:=h3 j y;exact⟨x,(F4 (a:=⟨m,f+j,J⟩) (e m hlt)).trans hx,z⟩
theorem aMK{l:List Ax}(h:HO w v l)(e:∀b,b<w.heap.size->w'.heap[b]?=w.heap[b]?):HO w' v l:=by
 rcases h with h|⟨g,c,m,h2⟩;·exact AA h
 ·refine AF ⟨g,c,m,λj p=>?_⟩;obtain⟨a,b⟩:=h2 j p;have f:w'.heap[g]?=w.heap[g]?:=e g (Ff (h:=a));exact⟨(F4 (a:=⟨g,j*2,J⟩) f).trans a,(F4 (a:=⟨g,j*2+1,J⟩) f).trans b⟩
theorem Nt.aJe{AW:Nat->Nat->Nat}{ip:Nat->Nat->List (Nat×Nat)}{Wb:Nat->Prop}{t:Nat}(h:Nt AW ip d9 hW w)(A:Holds Wb R w)(p:R hW)(x:w.heap[hW]?=Z (BE C t (0,0)))(e:∀b,R b->w'.heap[b]?=w.heap[b]?):Nt AW ip d9 hW w':=by
 have hv:∀(o:Nat)(u:A1),w.cell? ⟨hW,o,J⟩=Z u->AJ Cy (D6 R) u u:=λo u hu=>by obtain⟨K,f,h2⟩:=A.closed.heap hW p;rw[x]at f;obtain rfl:=D3 f;rw[Ad x]at hu;cases h2 with|cells _ I _=>exact Ab.nth o I (by simpa using hu)
 have hc:∀{b o:Nat}{u:A1},R b->w.cell? ⟨b,o,J⟩=Z u->w'.cell? ⟨b,o,J⟩=Z u:=λ{b o u}D hu=>(F4 (a:=⟨b,o,J⟩) (e b D)).trans hu;have hn:∀{o:Nat}{u:A1}{l:List (Nat×Nat)},w.cell? ⟨hW,o,J⟩=Z u->MO w u l->MO w' u l:=λ{o u l}H hu=>by
  rcases hu with hu|⟨g,c,f,h2⟩;·exact AA hu
  ·have y:R g:=by have:=hv o u H;rw[f]at this;exact AJ.ZG this
   exact AF ⟨g,c,f,λj z=>⟨hc y (h2 j z).1,hc y (h2 j z).2⟩⟩
 refine⟨λq k s m=>⟨hc p (h.Sb q k s m).1,(h.Sb q k s m).2⟩,h.inj,λq k s m=>?_,?_⟩;·obtain⟨a,n,c,f,h2⟩:=h.DT q k s m;exact⟨a,n,c,hc p f,hn f h2⟩
 ·obtain⟨a,n,c,f,h2⟩:=h.root;exact⟨a,n,c,hc p f,hn f h2⟩
theorem aCQ(w:A'):(AU ρ (IJ 8)).run A4 w=aY6 (aYD (aY4 (Z ⟨w.heap.size,0,J⟩))) (w.alloc (BE #[As J 0 0,AI ⟨#[]⟩] 59)):=by
 have b:(IJ 8).op=.alloc 59:=by kernel_rfl
 have e:=Tryz.zeroValue59;unfold AU;rw[b];simp[go_sem,e]
theorem aRo{b:Nat}{c:Option Aa}{j n:Nat}{s:ByteArray}(f:ρ (oM 5)=Af b)(e:ρ (oM 23)=dd #[As c j n,AI s])(h:w.heap[b]?=Z (BE #[As J 0 0,AI ⟨#[]⟩] 59)):(AU ρ (IJ 9)).run A4 w=aY6 aYU ((w.setCell ⟨b,0,J⟩ (As c j n)).setCell ⟨b,1,J⟩ (AI s)):=by
 have m:(IJ 9).op=.store 59 (oM 5) (oM 23):=by kernel_rfl
 unfold AU;rw[m];simp only[f,e];have c0:w.cell? ⟨b,0,J⟩=Z (As J 0 0):=by simp[F3,h]
 have c1:w.cell? ⟨b,1,J⟩=Z (AI ⟨#[]⟩):=by simp[F3,h]
 have z0:=Dv h 0;have E2:=Dv h 1;simp[go_sem,c0,c1,z0,E2]
theorem aE8:F8 A4 Dw M8 [1000007] 8 Gc=A0:=by kernel_rfl
section
variable[Ck]
theorem aKV{U:Nat->Prop}(n c:Nat)(p:Option Aa)(m:Int)(M:A')(B h:Nat)(C:Array A1)(d9:List (Nat×Nat))(Wv:Oo M B h C d9)(AB:U8 M)(hm:M.cell? ⟨0,0,J⟩=Z (IS Po m))(NH:M.cell? ⟨5,15,J⟩=Z (IS aYL 4))(O6:Holds U R M)(P7:Ah R (E_ [0,15] #[As p n c,Y,aY5 A5,aY5 A0,aY4 (Z ⟨h,0,J⟩),Y,Y,Y,Y,Y,Y,Y,aY5 A0,aY5 A0,aY5 A5,As p n c,aY4 (Z ⟨h,0,J⟩),Y,Y,Y,Y,Y,Y,Y,Y,Y,Y,Y,Y,Y,Y,Y,Y,Y,Y,Y,Y,Y,Y,Y,Y,Y,Y,Y,Y,Y,Y,Y,Y,Y,Y,Y,Y,Y,Y,Y,Y,Y,Y,Y,Y,Y,Y,Y,Y,Y,Y,Y,Y,Y,Y,Y,Y,Y,Y,Y,Y,Y,Y,Y,Y,Y,Y,Y,Y,Y,Y,Y,Y,Y])):Goes U (G ((AL 7).at ⟨#[As p n c,Y,aY5 A5,aY5 A0,aY4 (Z ⟨h,0,J⟩),Y,Y,Y,Y,Y,Y,Y,aY5 A0,aY5 A0,aY5 A5,As p n c,aY4 (Z ⟨h,0,J⟩),Y,Y,Y,Y,Y,Y,Y,Y,Y,Y,Y,Y,Y,Y,Y,Y,Y,Y,Y,Y,Y,Y,Y,Y,Y,Y,Y,Y,Y,Y,Y,Y,Y,Y,Y,Y,Y,Y,Y,Y,Y,Y,Y,Y,Y,Y,Y,Y,Y,Y,Y,Y,Y,Y,Y,Y,Y,Y,Y,Y,Y,Y,Y,Y,Y,Y,Y,Y,Y,Y,Y,Y,Y],[]⟩ [aY9 (aYB L9 Gc)]) []) M λ_ g' w'=>v_ A4 (λv w'=>v=aY5 A0/\∀b,R b->w'.heap[b]?=M.heap[b]?) g' w':=by
 have LB:∀b,R b->b<M.heap.size:=λb K=>O6.closed.lt K;have k7:=O6.closed.EF 0 (by decide);have Fl:∀(u:A'),(∀b,b<M.heap.size->u.heap[b]?=M.heap[b]?)->U8 u/\u.cell? ⟨0,0,J⟩=Z (IS Po m)/\u.cell? ⟨5,15,J⟩=Z (IS aYL 4):=λu e=>by refine⟨λb K=>?_,(F4 (a:=⟨0,0,J⟩) (e 0 (LB 0 k7))).trans hm,(F4 (a:=⟨5,15,J⟩) (e 5 (LB 5 (O6.closed.EF 5 (by decide))))).trans NH⟩;obtain⟨cs,t,h1,h2⟩:=AB b K;exact⟨cs,t,(e b (LB b (O6.closed.EF b K))).trans h1,h2⟩
 obtain⟨AW,ip,Ai,ID⟩:=aM3 Wv;refine .ctl rfl (λ_=>GB) λd1=>?_;rw[aEY];refine .ctl rfl (λ_=>Hu) λd2=>?_;rw[a3s];show Goes _ (G ((AL 7).at ⟨#[As p n c,Y,aY5 A5,aY5 A0,aY4 (Z ⟨h,0,J⟩),Y,Y,Y,Y,Y,Y,Y,aY5 A0,aY5 A0,aY5 A5,As p n c,aY4 (Z ⟨h,0,J⟩),Y,Y,Y,Y,Y,Y,Y,Y,Y,Y,Y,Y,Y,Y,Y,Y,Y,Y,Y,Y,Y,Y,Y,Y,Y,Y,Y,Y,Y,Y,Y,Y,Y,Y,Y,Y,Y,Y,Y,Y,Y,Y,Y,Y,Y,Y,Y,Y,Y,Y,Y,Y,Y,Y,Y,Y,Y,Y,Y,Y,Y,Y,Y,Y,Y,Y,Y,Y,Y,Y,Y,Y,Y],[]⟩ (aY7 Mi [0,1,2,3,4,5,6,7,8,9,10]::[aY9 Gc])) []) _ _;refine Goes.WK (v:=aY4 (Z ⟨h,0,J⟩)) (Ql 0 (by decide)) (Sc 0 (by decide) _) (by kernel_rfl) (by kernel_rfl) (by kernel_rfl) (by kernel_rfl) (show(IJ 0).dst=Z 18 by kernel_rfl) (by kernel_rfl) (by decide) ((O6.at d1).at d2) P7 (λw=>?_) ?_
 ·have A7:(IJ 0).op=aYg (oM 4):=by kernel_rfl
  unfold AU;rw[A7];rfl
 intro T5 ES Iu Uu Us QC;have QC:Ah T5 (E_ [0,15] #[As p n c,Y,aY5 A5,aY5 A0,aY4 (Z ⟨h,0,J⟩),Y,Y,Y,Y,Y,Y,Y,aY5 A0,aY5 A0,aY5 A5,As p n c,aY4 (Z ⟨h,0,J⟩),Y,aY4 (Z ⟨h,0,J⟩),Y,Y,Y,Y,Y,Y,Y,Y,Y,Y,Y,Y,Y,Y,Y,Y,Y,Y,Y,Y,Y,Y,Y,Y,Y,Y,Y,Y,Y,Y,Y,Y,Y,Y,Y,Y,Y,Y,Y,Y,Y,Y,Y,Y,Y,Y,Y,Y,Y,Y,Y,Y,Y,Y,Y,Y,Y,Y,Y,Y,Y,Y,Y,Y,Y,Y,Y,Y,Y,Y,Y]):=Ah.Tx QC rfl;show Goes _ (G ((AL 7).at ⟨#[As p n c,Y,aY5 A5,aY5 A0,aY4 (Z ⟨h,0,J⟩),Y,Y,Y,Y,Y,Y,Y,aY5 A0,aY5 A0,aY5 A5,As p n c,aY4 (Z ⟨h,0,J⟩),Y,aY4 (Z ⟨h,0,J⟩),Y,Y,Y,Y,Y,Y,Y,Y,Y,Y,Y,Y,Y,Y,Y,Y,Y,Y,Y,Y,Y,Y,Y,Y,Y,Y,Y,Y,Y,Y,Y,Y,Y,Y,Y,Y,Y,Y,Y,Y,Y,Y,Y,Y,Y,Y,Y,Y,Y,Y,Y,Y,Y,Y,Y,Y,Y,Y,Y,Y,Y,Y,Y,Y,Y,Y,Y,Y,Y,Y,Y],[]⟩ (aY7 Mi [1,2,3,4,5,6,7,8,9,10]::[aY9 Gc])) []) _ _;have Iu:ES.heap=M.heap:=Iu;refine Goes.zU (f:=20) (fn:=Tryz.f20) (opd:=#[oM 18]) (ats:=#[34]) (args:=#[aY4 (Z ⟨h,0,J⟩)]) (Q:=λv w'=>∃u:A',w'.heap=u.heap/\v=AI (FZ V.HX d9)/\u.heap=ES.heap) (Ql 1 (by decide)) (Sc 1 (by decide) _) (by kernel_rfl) (show(IJ 1).dst=Z 19 by kernel_rfl) a8Y (by kernel_rfl) (by kernel_rfl) (by decide) (by kernel_rfl) Us QC (.cons (Ah.gj QC 18 (by decide) rfl) .nil) (λx=>CallsC.lone (Ra _ (by kernel_rfl)) a8Y (by kernel_rfl) λT0=>?_) ?_;·refine(aSG _ _ C d9 (on (ES.at x) T0) (Wv.heap Iu)).mono ?_;rintro e u⟨rfl,q,rfl⟩;exact⟨_,rfl,rfl,rfl⟩
 rintro aUZ W9 c_ DZ⟨aWL,aEZ,rfl,aE_⟩fD TL Ro;have Jm:DZ.heap=M.heap:=(aEZ.trans aE_).trans Iu;have Ro:Ah W9 (E_ [0,15] #[As p n c,Y,aY5 A5,aY5 A0,aY4 (Z ⟨h,0,J⟩),Y,Y,Y,Y,Y,Y,Y,aY5 A0,aY5 A0,aY5 A5,As p n c,aY4 (Z ⟨h,0,J⟩),Y,aY4 (Z ⟨h,0,J⟩),AI (FZ V.HX d9),Y,Y,Y,Y,Y,Y,Y,Y,Y,Y,Y,Y,Y,Y,Y,Y,Y,Y,Y,Y,Y,Y,Y,Y,Y,Y,Y,Y,Y,Y,Y,Y,Y,Y,Y,Y,Y,Y,Y,Y,Y,Y,Y,Y,Y,Y,Y,Y,Y,Y,Y,Y,Y,Y,Y,Y,Y,Y,Y,Y,Y,Y,Y,Y,Y,Y,Y,Y,Y,Y]):=Ah.Tx Ro rfl;show Goes _ (G ((AL 7).at ⟨#[As p n c,Y,aY5 A5,aY5 A0,aY4 (Z ⟨h,0,J⟩),Y,Y,Y,Y,Y,Y,Y,aY5 A0,aY5 A0,aY5 A5,As p n c,aY4 (Z ⟨h,0,J⟩),Y,aY4 (Z ⟨h,0,J⟩),AI (FZ V.HX d9),Y,Y,Y,Y,Y,Y,Y,Y,Y,Y,Y,Y,Y,Y,Y,Y,Y,Y,Y,Y,Y,Y,Y,Y,Y,Y,Y,Y,Y,Y,Y,Y,Y,Y,Y,Y,Y,Y,Y,Y,Y,Y,Y,Y,Y,Y,Y,Y,Y,Y,Y,Y,Y,Y,Y,Y,Y,Y,Y,Y,Y,Y,Y,Y,Y,Y,Y,Y,Y,Y],[]⟩ (aY7 Mi [2,3,4,5,6,7,8,9,10]::[aY9 Gc])) []) _ _;refine Goes.WK (v:=aY4 (Z ⟨h,0,J⟩)) (Ql 2 (by decide)) (Sc 2 (by decide) _) (by kernel_rfl) (by kernel_rfl) (by kernel_rfl) (by kernel_rfl) (show(IJ 2).dst=Z 20 by kernel_rfl) (by kernel_rfl) (by decide) TL Ro (λw=>?_) ?_
 ·have A7:(IJ 2).op=aYg (oM 4):=by kernel_rfl
  unfold AU;rw[A7];rfl
 intro T6 j Rc rS rN We;have We:Ah T6 (E_ [0,15] #[As p n c,Y,aY5 A5,aY5 A0,aY4 (Z ⟨h,0,J⟩),Y,Y,Y,Y,Y,Y,Y,aY5 A0,aY5 A0,aY5 A5,As p n c,aY4 (Z ⟨h,0,J⟩),Y,aY4 (Z ⟨h,0,J⟩),AI (FZ V.HX d9),aY4 (Z ⟨h,0,J⟩),Y,Y,Y,Y,Y,Y,Y,Y,Y,Y,Y,Y,Y,Y,Y,Y,Y,Y,Y,Y,Y,Y,Y,Y,Y,Y,Y,Y,Y,Y,Y,Y,Y,Y,Y,Y,Y,Y,Y,Y,Y,Y,Y,Y,Y,Y,Y,Y,Y,Y,Y,Y,Y,Y,Y,Y,Y,Y,Y,Y,Y,Y,Y,Y,Y,Y,Y,Y,Y]):=Ah.Tx We rfl;show Goes _ (G ((AL 7).at ⟨#[As p n c,Y,aY5 A5,aY5 A0,aY4 (Z ⟨h,0,J⟩),Y,Y,Y,Y,Y,Y,Y,aY5 A0,aY5 A0,aY5 A5,As p n c,aY4 (Z ⟨h,0,J⟩),Y,aY4 (Z ⟨h,0,J⟩),AI (FZ V.HX d9),aY4 (Z ⟨h,0,J⟩),Y,Y,Y,Y,Y,Y,Y,Y,Y,Y,Y,Y,Y,Y,Y,Y,Y,Y,Y,Y,Y,Y,Y,Y,Y,Y,Y,Y,Y,Y,Y,Y,Y,Y,Y,Y,Y,Y,Y,Y,Y,Y,Y,Y,Y,Y,Y,Y,Y,Y,Y,Y,Y,Y,Y,Y,Y,Y,Y,Y,Y,Y,Y,Y,Y,Y,Y,Y,Y],[]⟩ (aY7 Mi [3,4,5,6,7,8,9,10]::[aY9 Gc])) []) _ _;have Rc:j.heap=M.heap:=Rc.trans Jm;have aG_:Nt AW ip d9 (h) j:=ID.same λb _=>by rw[Rc]
 refine Goes.zU (f:=27) (fn:=Tryz.f27) (opd:=#[oM 20]) (ats:=#[34]) (args:=#[aY4 (Z ⟨h,0,J⟩)]) (Q:=λv w'=>∃u:A',w'.heap=u.heap/\∃L,RU AW ip j.heap.size v u L/\j.heap.size<=u.heap.size/\∀b,b<j.heap.size->u.heap[b]?=j.heap[b]?) (Ql 3 (by decide)) (Sc 3 (by decide) _) (by kernel_rfl) (show(IJ 3).dst=Z 21 by kernel_rfl) a8c (by kernel_rfl) (by kernel_rfl) (by decide) (by kernel_rfl) rN We (.cons (Ah.gj We 20 (by decide) rfl) .nil) (λx=>CallsC.lone (Ra _ (by kernel_rfl)) a8c (by kernel_rfl) λT0=>?_) ?_
 ·have NB:Nt AW ip d9 (h) (on (j.at x) T0):=aG_.same λb _=>rfl;refine(aPy AW ip (h) (on (j.at x) T0) (λq k AD hk=>⟨(NB.Sb q k AD hk).1,by have:=(NB.Sb q k AD hk).2;omega⟩) λq k AD hk=>?_).mono ?_;·obtain⟨a,M5,Eu,h1,h2⟩:=NB.DT q k AD hk;refine⟨a,M5,Eu,h1,h2,(Ai.DT q k AD hk).2,(Ai.DT q k AD hk).1.1⟩
  ·rintro e u⟨v,L,rfl,A2⟩;exact⟨v,rfl,L,A2.plain,A2.below.size,λb K=>A2.below.block b K⟩
 rintro aCA ao mr P⟨u8,jv,L,Jv,a5O,z8⟩bL Wd W;have Jv:RU AW ip j.heap.size mr P L:=Jv.heap jv;rw[<-jv]at a5O z8;obtain⟨I,cap,rfl⟩:∃I cap,mr=As (Z ⟨I,0,J⟩) 15 cap:=by
  rcases Jv.own.2 with⟨_,AV⟩|⟨g,cap,hw,h1,_⟩;·cases AV
  ·exact⟨g,cap,h1⟩
 have W:Ah ao (E_ [0,15] #[As p n c,Y,aY5 A5,aY5 A0,aY4 (Z ⟨h,0,J⟩),Y,Y,Y,Y,Y,Y,Y,aY5 A0,aY5 A0,aY5 A5,As p n c,aY4 (Z ⟨h,0,J⟩),Y,aY4 (Z ⟨h,0,J⟩),AI (FZ V.HX d9),aY4 (Z ⟨h,0,J⟩),As (Z ⟨I,0,J⟩) 15 cap,Y,Y,Y,Y,Y,Y,Y,Y,Y,Y,Y,Y,Y,Y,Y,Y,Y,Y,Y,Y,Y,Y,Y,Y,Y,Y,Y,Y,Y,Y,Y,Y,Y,Y,Y,Y,Y,Y,Y,Y,Y,Y,Y,Y,Y,Y,Y,Y,Y,Y,Y,Y,Y,Y,Y,Y,Y,Y,Y,Y,Y,Y,Y,Y,Y,Y,Y,Y]):=Ah.Tx W rfl;show Goes _ (G ((AL 7).at ⟨#[As p n c,Y,aY5 A5,aY5 A0,aY4 (Z ⟨h,0,J⟩),Y,Y,Y,Y,Y,Y,Y,aY5 A0,aY5 A0,aY5 A5,As p n c,aY4 (Z ⟨h,0,J⟩),Y,aY4 (Z ⟨h,0,J⟩),AI (FZ V.HX d9),aY4 (Z ⟨h,0,J⟩),As (Z ⟨I,0,J⟩) 15 cap,Y,Y,Y,Y,Y,Y,Y,Y,Y,Y,Y,Y,Y,Y,Y,Y,Y,Y,Y,Y,Y,Y,Y,Y,Y,Y,Y,Y,Y,Y,Y,Y,Y,Y,Y,Y,Y,Y,Y,Y,Y,Y,Y,Y,Y,Y,Y,Y,Y,Y,Y,Y,Y,Y,Y,Y,Y,Y,Y,Y,Y,Y,Y,Y,Y,Y,Y,Y],[]⟩ (aY7 Mi [4,5,6,7,8,9,10]::[aY9 Gc])) []) _ _;have tB:j.heap.size=M.heap.size:=by rw[Rc]
 have bQ:∀b,b<M.heap.size->P.heap[b]?=M.heap[b]?:=λb K=>(z8 b (by omega)).trans (by rw[Rc]);have aGa:Nt AW ip d9 (h) P:=ID.same bQ;have a'j:=Wv.1;have aGQ:P.heap[h]?=Z (BE C 43 (0,0)):=(bQ _ (O0 a'j)).trans a'j;have QB:∀b,R b->ao b:=λb K=>bL b (rS b (fD b (Uu b K)));have aI7:ao (h):=AJ.gP (Ah.gj W 4 (by decide) rfl);refine .ctl rfl (λ_=>Qz (f:=26) (fn:=dR) (c:=Uc) (az:=#[.tmp 19,.tmp 21]) (ats:=#[9,47]) (Ql 4 (by decide)) (Sc 4 (by decide) _) (by simp[AL]) (by kernel_rfl) oT (by kernel_rfl) (by kernel_rfl)) λd3=>?_;have JN:(#[.tmp 19,.tmp 21]:Array C2).map (Cu ⟨#[.slice p n c,Y,.bool A5,.bool A0,.pointer (Z ⟨h,0,J⟩),Y,Y,Y,Y,Y,Y,Y,.bool A0,.bool A0,.bool A5,.slice p n c,.pointer (Z ⟨h,0,J⟩),Y,.pointer (Z ⟨h,0,J⟩),.string (FZ V.HX d9),.pointer (Z ⟨h,0,J⟩),.slice (Z ⟨I,0,J⟩) 15 cap,Y,Y,Y,Y,Y,Y,Y,Y,Y,Y,Y,Y,Y,Y,Y,Y,Y,Y,Y,Y,Y,Y,Y,Y,Y,Y,Y,Y,Y,Y,Y,Y,Y,Y,Y,Y,Y,Y,Y,Y,Y,Y,Y,Y,Y,Y,Y,Y,Y,Y,Y,Y,Y,Y,Y,Y,Y,Y,Y,Y,Y,Y,Y,Y,Y,Y,Y,Y],[]⟩)=#[.string (FZ V.HX d9),.slice (Z ⟨I,0,J⟩) 15 cap]:=by kernel_rfl
 rw[JN];have s5:=Fl (P.at d3) bQ;have BI:=aL2 Ai (Jv.heap (w':=P.at d3) rfl) s5.1 s5.2.1 s5.2.2 (Wd.at d3) (Ah.gj W 21 (by decide) rfl);have Bz:=Jv.len;have lc:=λ(c':AY)(cs':List AY)=>aL8 (cap:=cap) (c':=c') (cs':=cs') BI (Wd.at d3) (.cons (.string _) (.cons (by rw[Bz];exact Ah.gj W 21 (by decide) rfl) .nil));rw[Bz]at lc;refine(lc _ _).bind ?_;clear lc;rintro aU_ r4 E⟨jS,y,D,z,s,A,rfl,aJ6,bM,bJ,a1F,Ls,KL,Ma,EH,V8⟩;rw[KX,Ql 4 (by decide),RR,show(IJ 4).dst=Z 22 by kernel_rfl];have rX:Ah jS (E_ [0,15] #[.slice p n c,Y,.bool A5,.bool A0,.pointer (Z ⟨h,0,J⟩),Y,Y,Y,Y,Y,Y,Y,.bool A0,.bool A0,.bool A5,.slice p n c,.pointer (Z ⟨h,0,J⟩),Y,.pointer (Z ⟨h,0,J⟩),.string (FZ V.HX d9),.pointer (Z ⟨h,0,J⟩),.slice (Z ⟨I,0,J⟩) 15 cap,.tuple #[.agg #[.slice y D z,.string s],.bool A0],Y,Y,Y,Y,Y,Y,Y,Y,Y,Y,Y,Y,Y,Y,Y,Y,Y,Y,Y,Y,Y,Y,Y,Y,Y,Y,Y,Y,Y,Y,Y,Y,Y,Y,Y,Y,Y,Y,Y,Y,Y,Y,Y,Y,Y,Y,Y,Y,Y,Y,Y,Y,Y,Y,Y,Y,Y,Y,Y,Y,Y,Y,Y,Y,Y,Y,Y]):=Ah.Tx (Ah.uq (d:=22) (Ah.mono W bM) aJ6 (by decide)) rfl;show Goes _ (G ((AL 7).at ⟨#[.slice p n c,Y,.bool A5,.bool A0,.pointer (Z ⟨h,0,J⟩),Y,Y,Y,Y,Y,Y,Y,.bool A0,.bool A0,.bool A5,.slice p n c,.pointer (Z ⟨h,0,J⟩),Y,.pointer (Z ⟨h,0,J⟩),.string (FZ V.HX d9),.pointer (Z ⟨h,0,J⟩),.slice (Z ⟨I,0,J⟩) 15 cap,.tuple #[.agg #[.slice y D z,.string s],.bool A0],Y,Y,Y,Y,Y,Y,Y,Y,Y,Y,Y,Y,Y,Y,Y,Y,Y,Y,Y,Y,Y,Y,Y,Y,Y,Y,Y,Y,Y,Y,Y,Y,Y,Y,Y,Y,Y,Y,Y,Y,Y,Y,Y,Y,Y,Y,Y,Y,Y,Y,Y,Y,Y,Y,Y,Y,Y,Y,Y,Y,Y,Y,Y,Y,Y,Y,Y],[]⟩ (.inRegion Mi [5,6,7,8,9,10]::[.code Gc])) []) _ _;have aGb:Nt AW ip d9 (h) E:=Twin.Nt.aJe aGa Wd aI7 aGQ a1F;have aJG:∀b,R b->E.heap[b]?=M.heap[b]?:=λb K=>(a1F b (QB b K)).trans (bQ b (LB b K));refine Goes.WK (v:=.tuple #[.agg #[.slice y D z,.string s],.bool A0]) (Ql 5 (by decide)) (Sc 5 (by decide) _) (by kernel_rfl) (by kernel_rfl) (by kernel_rfl) (by kernel_rfl) (show(IJ 5).dst=Z 17 by kernel_rfl) (by kernel_rfl) (by decide) bJ rX (λw=>?_) ?_
 ·have A7:(IJ 5).op=.move (.tmp 22):=by kernel_rfl
  unfold AU;rw[A7];rfl
 intro pw VY Q8 a'q rL Ys;have Ys:Ah pw (E_ [0,15] #[.slice p n c,Y,.bool A5,.bool A0,.pointer (Z ⟨h,0,J⟩),Y,Y,Y,Y,Y,Y,Y,.bool A0,.bool A0,.bool A5,.slice p n c,.pointer (Z ⟨h,0,J⟩),.tuple #[.agg #[.slice y D z,.string s],.bool A0],.pointer (Z ⟨h,0,J⟩),.string (FZ V.HX d9),.pointer (Z ⟨h,0,J⟩),.slice (Z ⟨I,0,J⟩) 15 cap,.tuple #[.agg #[.slice y D z,.string s],.bool A0],Y,Y,Y,Y,Y,Y,Y,Y,Y,Y,Y,Y,Y,Y,Y,Y,Y,Y,Y,Y,Y,Y,Y,Y,Y,Y,Y,Y,Y,Y,Y,Y,Y,Y,Y,Y,Y,Y,Y,Y,Y,Y,Y,Y,Y,Y,Y,Y,Y,Y,Y,Y,Y,Y,Y,Y,Y,Y,Y,Y,Y,Y,Y,Y,Y,Y,Y]):=Ah.Tx Ys rfl;show Goes _ (G ((AL 7).at ⟨#[.slice p n c,Y,.bool A5,.bool A0,.pointer (Z ⟨h,0,J⟩),Y,Y,Y,Y,Y,Y,Y,.bool A0,.bool A0,.bool A5,.slice p n c,.pointer (Z ⟨h,0,J⟩),.tuple #[.agg #[.slice y D z,.string s],.bool A0],.pointer (Z ⟨h,0,J⟩),.string (FZ V.HX d9),.pointer (Z ⟨h,0,J⟩),.slice (Z ⟨I,0,J⟩) 15 cap,.tuple #[.agg #[.slice y D z,.string s],.bool A0],Y,Y,Y,Y,Y,Y,Y,Y,Y,Y,Y,Y,Y,Y,Y,Y,Y,Y,Y,Y,Y,Y,Y,Y,Y,Y,Y,Y,Y,Y,Y,Y,Y,Y,Y,Y,Y,Y,Y,Y,Y,Y,Y,Y,Y,Y,Y,Y,Y,Y,Y,Y,Y,Y,Y,Y,Y,Y,Y,Y,Y,Y,Y,Y,Y,Y,Y],[]⟩ (.inRegion Mi [6,7,8,9,10]::[.code Gc])) []) _ _;refine Goes.WK (v:=.agg #[.slice y D z,.string s]) (Ql 6 (by decide)) (Sc 6 (by decide) _) (by kernel_rfl) (by kernel_rfl) (by kernel_rfl) (by kernel_rfl) (show(IJ 6).dst=Z 23 by kernel_rfl) (by kernel_rfl) (by decide) rL Ys (λw=>?_) ?_
 ·have A7:(IJ 6).op=.extract (.tmp 17) 0:=by kernel_rfl
  unfold AU;rw[A7];rfl
 intro jR aTG jo a'r rM rT;have rT:Ah jR (E_ [0,15] #[.slice p n c,Y,.bool A5,.bool A0,.pointer (Z ⟨h,0,J⟩),Y,Y,Y,Y,Y,Y,Y,.bool A0,.bool A0,.bool A5,.slice p n c,.pointer (Z ⟨h,0,J⟩),.tuple #[.agg #[.slice y D z,.string s],.bool A0],.pointer (Z ⟨h,0,J⟩),.string (FZ V.HX d9),.pointer (Z ⟨h,0,J⟩),.slice (Z ⟨I,0,J⟩) 15 cap,.tuple #[.agg #[.slice y D z,.string s],.bool A0],.agg #[.slice y D z,.string s],Y,Y,Y,Y,Y,Y,Y,Y,Y,Y,Y,Y,Y,Y,Y,Y,Y,Y,Y,Y,Y,Y,Y,Y,Y,Y,Y,Y,Y,Y,Y,Y,Y,Y,Y,Y,Y,Y,Y,Y,Y,Y,Y,Y,Y,Y,Y,Y,Y,Y,Y,Y,Y,Y,Y,Y,Y,Y,Y,Y,Y,Y,Y,Y,Y,Y]):=Ah.Tx rT rfl;show Goes _ (G ((AL 7).at ⟨#[.slice p n c,Y,.bool A5,.bool A0,.pointer (Z ⟨h,0,J⟩),Y,Y,Y,Y,Y,Y,Y,.bool A0,.bool A0,.bool A5,.slice p n c,.pointer (Z ⟨h,0,J⟩),.tuple #[.agg #[.slice y D z,.string s],.bool A0],.pointer (Z ⟨h,0,J⟩),.string (FZ V.HX d9),.pointer (Z ⟨h,0,J⟩),.slice (Z ⟨I,0,J⟩) 15 cap,.tuple #[.agg #[.slice y D z,.string s],.bool A0],.agg #[.slice y D z,.string s],Y,Y,Y,Y,Y,Y,Y,Y,Y,Y,Y,Y,Y,Y,Y,Y,Y,Y,Y,Y,Y,Y,Y,Y,Y,Y,Y,Y,Y,Y,Y,Y,Y,Y,Y,Y,Y,Y,Y,Y,Y,Y,Y,Y,Y,Y,Y,Y,Y,Y,Y,Y,Y,Y,Y,Y,Y,Y,Y,Y,Y,Y,Y,Y,Y,Y],[]⟩ (.inRegion Mi [7,8,9,10]::[.code Gc])) []) _ _;refine Goes.WK (v:=.bool A0) (Ql 7 (by decide)) (Sc 7 (by decide) _) (by kernel_rfl) (by kernel_rfl) (by kernel_rfl) (by kernel_rfl) (show(IJ 7).dst=Z 24 by kernel_rfl) (by kernel_rfl) (by decide) rM rT (λw=>?_) ?_
 ·have A7:(IJ 7).op=.extract (.tmp 17) 1:=by kernel_rfl
  unfold AU;rw[A7];rfl
 intro aC5 H Yf aV5 aGW rU;have rU:Ah aC5 (E_ [0,15] #[.slice p n c,Y,.bool A5,.bool A0,.pointer (Z ⟨h,0,J⟩),Y,Y,Y,Y,Y,Y,Y,.bool A0,.bool A0,.bool A5,.slice p n c,.pointer (Z ⟨h,0,J⟩),.tuple #[.agg #[.slice y D z,.string s],.bool A0],.pointer (Z ⟨h,0,J⟩),.string (FZ V.HX d9),.pointer (Z ⟨h,0,J⟩),.slice (Z ⟨I,0,J⟩) 15 cap,.tuple #[.agg #[.slice y D z,.string s],.bool A0],.agg #[.slice y D z,.string s],.bool A0,Y,Y,Y,Y,Y,Y,Y,Y,Y,Y,Y,Y,Y,Y,Y,Y,Y,Y,Y,Y,Y,Y,Y,Y,Y,Y,Y,Y,Y,Y,Y,Y,Y,Y,Y,Y,Y,Y,Y,Y,Y,Y,Y,Y,Y,Y,Y,Y,Y,Y,Y,Y,Y,Y,Y,Y,Y,Y,Y,Y,Y,Y,Y,Y,Y]):=Ah.Tx rU rfl;show Goes _ (G ((AL 7).at ⟨#[.slice p n c,Y,.bool A5,.bool A0,.pointer (Z ⟨h,0,J⟩),Y,Y,Y,Y,Y,Y,Y,.bool A0,.bool A0,.bool A5,.slice p n c,.pointer (Z ⟨h,0,J⟩),.tuple #[.agg #[.slice y D z,.string s],.bool A0],.pointer (Z ⟨h,0,J⟩),.string (FZ V.HX d9),.pointer (Z ⟨h,0,J⟩),.slice (Z ⟨I,0,J⟩) 15 cap,.tuple #[.agg #[.slice y D z,.string s],.bool A0],.agg #[.slice y D z,.string s],.bool A0,Y,Y,Y,Y,Y,Y,Y,Y,Y,Y,Y,Y,Y,Y,Y,Y,Y,Y,Y,Y,Y,Y,Y,Y,Y,Y,Y,Y,Y,Y,Y,Y,Y,Y,Y,Y,Y,Y,Y,Y,Y,Y,Y,Y,Y,Y,Y,Y,Y,Y,Y,Y,Y,Y,Y,Y,Y,Y,Y,Y,Y,Y,Y,Y,Y],[]⟩ (.inRegion Mi [8,9,10]::[.code Gc])) []) _ _;have Yf:H.heap=E.heap:=(Yf.trans jo).trans Q8;refine Goes.a3l (Q:=λv u=>v=.pointer (Z ⟨H.heap.size,0,J⟩)/\u.heap=H.heap.push (.cells #[.slice J 0 0,.string ⟨#[]⟩] 59)) (Ql 8 (by decide)) (Sc 8 (by decide) _) (by kernel_rfl) (by kernel_rfl) (by kernel_rfl) (by kernel_rfl) (show(IJ 8).dst=Z 5 by kernel_rfl) (by kernel_rfl) (by decide) aGW rU (λT0=>⟨_,_,aCQ _,rfl,rfl⟩) ?_;rintro aC6 aSw aWJ hJ⟨rfl,aEQ⟩jq aV6 aGX rV;have jq:=jq.trans aEQ;have rV:Ah aC6 (E_ [0,15] #[.slice p n c,Y,.bool A5,.bool A0,.pointer (Z ⟨h,0,J⟩),.pointer (Z ⟨H.heap.size,0,J⟩),Y,Y,Y,Y,Y,Y,.bool A0,.bool A0,.bool A5,.slice p n c,.pointer (Z ⟨h,0,J⟩),.tuple #[.agg #[.slice y D z,.string s],.bool A0],.pointer (Z ⟨h,0,J⟩),.string (FZ V.HX d9),.pointer (Z ⟨h,0,J⟩),.slice (Z ⟨I,0,J⟩) 15 cap,.tuple #[.agg #[.slice y D z,.string s],.bool A0],.agg #[.slice y D z,.string s],.bool A0,Y,Y,Y,Y,Y,Y,Y,Y,Y,Y,Y,Y,Y,Y,Y,Y,Y,Y,Y,Y,Y,Y,Y,Y,Y,Y,Y,Y,Y,Y,Y,Y,Y,Y,Y,Y,Y,Y,Y,Y,Y,Y,Y,Y,Y,Y,Y,Y,Y,Y,Y,Y,Y,Y,Y,Y,Y,Y,Y,Y,Y,Y,Y,Y,Y]):=Ah.Tx rV rfl;have a1Z:hJ.heap[H.heap.size]?=Z (.cells #[.slice J 0 0,.string ⟨#[]⟩] 59):=by rw[jq,OX,if_pos rfl]
 show Goes _ (G ((AL 7).at ⟨#[.slice p n c,Y,.bool A5,.bool A0,.pointer (Z ⟨h,0,J⟩),.pointer (Z ⟨H.heap.size,0,J⟩),Y,Y,Y,Y,Y,Y,.bool A0,.bool A0,.bool A5,.slice p n c,.pointer (Z ⟨h,0,J⟩),.tuple #[.agg #[.slice y D z,.string s],.bool A0],.pointer (Z ⟨h,0,J⟩),.string (FZ V.HX d9),.pointer (Z ⟨h,0,J⟩),.slice (Z ⟨I,0,J⟩) 15 cap,.tuple #[.agg #[.slice y D z,.string s],.bool A0],.agg #[.slice y D z,.string s],.bool A0,Y,Y,Y,Y,Y,Y,Y,Y,Y,Y,Y,Y,Y,Y,Y,Y,Y,Y,Y,Y,Y,Y,Y,Y,Y,Y,Y,Y,Y,Y,Y,Y,Y,Y,Y,Y,Y,Y,Y,Y,Y,Y,Y,Y,Y,Y,Y,Y,Y,Y,Y,Y,Y,Y,Y,Y,Y,Y,Y,Y,Y,Y,Y,Y,Y],[]⟩ (.inRegion Mi [9,10]::[.code Gc])) []) _ _;refine Goes.aNN (Q:=λu=>u.heap=((hJ.setCell ⟨H.heap.size,0,J⟩ (.slice y D z)).setCell ⟨H.heap.size,1,J⟩ (.string s)).heap) (Ql 9 (by decide)) (Sc 9 (by decide) _) (by kernel_rfl) (by kernel_rfl) (by kernel_rfl) (by kernel_rfl) (show(IJ 9).dst=J by kernel_rfl) (by kernel_rfl) (by decide) aGX rV (λT0=>?_) ?_;·exact⟨((on hJ T0).setCell ⟨H.heap.size,0,J⟩ (.slice y D z)).setCell ⟨H.heap.size,1,J⟩ (.string s),aRo (ρ:=Cu ⟨#[.slice p n c,Y,.bool A5,.bool A0,.pointer (Z ⟨h,0,J⟩),.pointer (Z ⟨H.heap.size,0,J⟩),Y,Y,Y,Y,Y,Y,.bool A0,.bool A0,.bool A5,.slice p n c,.pointer (Z ⟨h,0,J⟩),.tuple #[.agg #[.slice y D z,.string s],.bool A0],.pointer (Z ⟨h,0,J⟩),.string (FZ V.HX d9),.pointer (Z ⟨h,0,J⟩),.slice (Z ⟨I,0,J⟩) 15 cap,.tuple #[.agg #[.slice y D z,.string s],.bool A0],.agg #[.slice y D z,.string s],.bool A0,Y,Y,Y,Y,Y,Y,Y,Y,Y,Y,Y,Y,Y,Y,Y,Y,Y,Y,Y,Y,Y,Y,Y,Y,Y,Y,Y,Y,Y,Y,Y,Y,Y,Y,Y,Y,Y,Y,Y,Y,Y,Y,Y,Y,Y,Y,Y,Y,Y,Y,Y,Y,Y,Y,Y,Y,Y,Y,Y,Y,Y,Y,Y,Y,Y],[]⟩) (w:=on hJ T0) (b:=H.heap.size) rfl rfl a1Z,rfl⟩
 rintro aUW aWK a6I aER jr aV7 aGY aGl;have jr:=jr.trans aER;have aJL:a6I.heap[H.heap.size]?=Z (.cells #[.slice y D z,.string s] 59):=by rw[jr];exact EV _ _ 1 _ _ (.string s) (EV hJ _ 0 _ _ (.slice y D z) a1Z)
 have aGy:∀b,b<E.heap.size->a6I.heap[b]?=E.heap[b]?:=λb K=>by
  have AR:H.heap.size=E.heap.size:=by rw[Yf]
  rw[jr,F_ _ _ _ _ (show b≠H.heap.size by omega),F_ _ _ _ _ (show b≠H.heap.size by omega),jq,H4 (by omega),<-ET,Yf]
 show Goes _ (G ((AL 7).at ⟨#[.slice p n c,Y,.bool A5,.bool A0,.pointer (Z ⟨h,0,J⟩),.pointer (Z ⟨H.heap.size,0,J⟩),Y,Y,Y,Y,Y,Y,.bool A0,.bool A0,.bool A5,.slice p n c,.pointer (Z ⟨h,0,J⟩),.tuple #[.agg #[.slice y D z,.string s],.bool A0],.pointer (Z ⟨h,0,J⟩),.string (FZ V.HX d9),.pointer (Z ⟨h,0,J⟩),.slice (Z ⟨I,0,J⟩) 15 cap,.tuple #[.agg #[.slice y D z,.string s],.bool A0],.agg #[.slice y D z,.string s],.bool A0,Y,Y,Y,Y,Y,Y,Y,Y,Y,Y,Y,Y,Y,Y,Y,Y,Y,Y,Y,Y,Y,Y,Y,Y,Y,Y,Y,Y,Y,Y,Y,Y,Y,Y,Y,Y,Y,Y,Y,Y,Y,Y,Y,Y,Y,Y,Y,Y,Y,Y,Y,Y,Y,Y,Y,Y,Y,Y,Y,Y,Y,Y,Y,Y,Y],[]⟩ (.inRegion Mi [10]::[.code Gc])) []) _ _;refine Goes.WK (v:=.bool A0) (Ql 10 (by decide)) (Sc 10 (by decide) _) (by kernel_rfl) (by kernel_rfl) (by kernel_rfl) (by kernel_rfl) (show(IJ 10).dst=Z 6 by kernel_rfl) (by kernel_rfl) (by decide) aGY aGl (λw=>?_) ?_
 ·have A7:(IJ 10).op=.assign (.tmp 24):=by kernel_rfl
  unfold AU;rw[A7];rfl
 intro aC7 F a28 a's aGZ rW;have rW:Ah aC7 (E_ [0,15] #[.slice p n c,Y,.bool A5,.bool A0,.pointer (Z ⟨h,0,J⟩),.pointer (Z ⟨H.heap.size,0,J⟩),.bool A0,Y,Y,Y,Y,Y,.bool A0,.bool A0,.bool A5,.slice p n c,.pointer (Z ⟨h,0,J⟩),.tuple #[.agg #[.slice y D z,.string s],.bool A0],.pointer (Z ⟨h,0,J⟩),.string (FZ V.HX d9),.pointer (Z ⟨h,0,J⟩),.slice (Z ⟨I,0,J⟩) 15 cap,.tuple #[.agg #[.slice y D z,.string s],.bool A0],.agg #[.slice y D z,.string s],.bool A0,Y,Y,Y,Y,Y,Y,Y,Y,Y,Y,Y,Y,Y,Y,Y,Y,Y,Y,Y,Y,Y,Y,Y,Y,Y,Y,Y,Y,Y,Y,Y,Y,Y,Y,Y,Y,Y,Y,Y,Y,Y,Y,Y,Y,Y,Y,Y,Y,Y,Y,Y,Y,Y,Y,Y,Y,Y,Y,Y,Y,Y,Y,Y,Y,Y]):=Ah.Tx rW rfl;show Goes _ (G ((AL 7).at ⟨#[.slice p n c,Y,.bool A5,.bool A0,.pointer (Z ⟨h,0,J⟩),.pointer (Z ⟨H.heap.size,0,J⟩),.bool A0,Y,Y,Y,Y,Y,.bool A0,.bool A0,.bool A5,.slice p n c,.pointer (Z ⟨h,0,J⟩),.tuple #[.agg #[.slice y D z,.string s],.bool A0],.pointer (Z ⟨h,0,J⟩),.string (FZ V.HX d9),.pointer (Z ⟨h,0,J⟩),.slice (Z ⟨I,0,J⟩) 15 cap,.tuple #[.agg #[.slice y D z,.string s],.bool A0],.agg #[.slice y D z,.string s],.bool A0,Y,Y,Y,Y,Y,Y,Y,Y,Y,Y,Y,Y,Y,Y,Y,Y,Y,Y,Y,Y,Y,Y,Y,Y,Y,Y,Y,Y,Y,Y,Y,Y,Y,Y,Y,Y,Y,Y,Y,Y,Y,Y,Y,Y,Y,Y,Y,Y,Y,Y,Y,Y,Y,Y,Y,Y,Y,Y,Y,Y,Y,Y,Y,Y,Y],[]⟩ (.inRegion Mi []::[.code Gc])) []) _ _;refine .ctl rfl (λ_=>Hf) λd4=>?_;have rk:∀b,b<E.heap.size->(F.at d4).heap[b]?=E.heap[b]?:=λb K=>by show F.heap[b]?=_;rw[a28];exact aGy b K
 have a1_:(F.at d4).heap[H.heap.size]?=Z (.cells #[.slice y D z,.string s] 59):=by show F.heap[H.heap.size]?=_;rw[a28];exact aJL
 have TT:=Jv.law Ai;obtain⟨X,a'y,fF,kI⟩:=TT.aL5 A KL EH V8;have aIU:∀x∈N.IG N.MA X,x.1<5/\∃k,k<3/\x.2=AW x.1 k:=λx hx=>TT.ok ((fF x).1 (N.lY hx));refine Goes.last (r:=2) (Q:=λv u=>v=.bool A0/\(F.at d4).heap.size<=u.heap.size/\∀b,b<(F.at d4).heap.size->u.heap[b]?=(F.at d4).heap[b]?) aU aE8 rW (aGZ.at d4) (by kernel_rfl) (by decide) (by kernel_rfl) (λT0=>?_) ?_
 ·refine aKX AW ip d9 (N.IG N.MA X) (YtcfhleenecfghaaGreatDoor.O5 AW ip) (h) H.heap.size (.slice y D z) s _ _ _ _ _ _ _ _ _ _ _ _ _ _ _ _ _ _ _ _ _ _ _ _ _ _ _ _ _ _ _ _ _ _ _ _ _ _ _ _ _ _ _ _ _ _ _ _ _ _ _ _ _ _ _ _ _ _ _ _ _ _ _ _ _ _ _ _ _ _ _ _ _ _ _ _ _ _ _ _ _ _ _ _ _ _ _ (on (F.at d4) T0) (aGb.same rk) TT.O5 (λq k AD hk=>(Ai.DT q k AD hk).2) Ai.roots.2 (λx hx=>TT.ok hx) a1_ ?_ aIU (N.tW a'y) ?_;·rw[<-kI];exact aMK (w':=on (F.at d4) T0) Ls rk
  ·intro S B_;exact aNe a'y λx=>(fF x).trans (B_.done x).symm
 ·rintro v u w'⟨rfl,_,K⟩e;refine⟨rfl,λb Wf=>?_⟩;have Kk:b<E.heap.size:=bJ.closed.lt (bM b (QB b Wf));have et:b<(F.at d4).heap.size:=by
   have AR:H.heap.size=E.heap.size:=by rw[Yf]
   have:=O0 a1_;omega
  rw[e,K b et,rk b Kk];exact aJG b Wf
end
def Fg(g:AK)(w:A')(Post:AK->A'->Prop):Prop:=∀(t:Trace)(q:Nat->Nat),Dm A4 (λ_=>False) #[g] w t q g->∃(N:Nat)(b:AK)(w':A')(e:Trace),Eg A4 N (EB g w) t=(aYG (EB b w'),e)/\Dm A4 (λ_=>False) #[b] w' e q b/\Post b w'
theorem Fg.here(h:Post g w):Fg g w Post:=λt _ hc=>⟨0,g,w,t,rfl,hc,h⟩
theorem Fg.bind{c:AK->A'->Prop}(h:Fg g w Post)(k:∀b w',Post b w'->Fg b w' c):Fg g w c:=by intro t q hc;obtain⟨N,f,C,z,x,c1,p⟩:=h t q hc;obtain⟨e,m,D,A,y,c2,s⟩:=k f C p z q c1;exact⟨N+e,m,D,A,Z_ x y,c2,s⟩
theorem Fg.step{g':AK}{es:Array Event}(hs:g.status=.running)(h:Be A4 A0 g w=.go g' w' es)(f:EN w w' #[] es)(k:Fg g' w' Post):Fg g w Post:=by intro t q hc;obtain⟨e1,c1⟩:=hE hs h f hc;obtain⟨b,e,x,s,p,c2,m⟩:=k _ q c1;refine⟨b+1,e,x,s,?_,c2,m⟩;rw[Eg,e1];exact p
theorem Fg.ctl{g':AK}(hs:g.status=.running)(h:∀w,Be A4 A0 g w=.go g' w #[])(k:Fg g' w Post):Fg g w Post:=.step hs (h w) (EN.refl w #[]) k
theorem Fg.pure{b:AY}{a:Ja}{ops:Array Bf}{i:Nat}{rest:List Nat}{q:List Cw}{cs:List AY}{o:Bf}(v:A1)(e:ops[i]?=Z o)(s:EY o (Gu ops a.tmps)=A0)(p:b.kind≠.early)(h:∀w,(AU a.eval o).runT A4 w #[]=(aY6 (aYD v) w,#[]))(k:Fg (G (b.at (a.put o.dst v) (aY7 ops rest::q)) cs) w Post):Fg (G (b.at a (aY7 ops (i::rest)::q)) cs) w Post:=by
 have m:((b.at a (aY7 ops (i::rest)::q)).kind==.early)=A5:=by simpa[Frame.at]using p
 have f:(b.at a (aY7 ops (i::rest)::q)).finish v=b.at (a.put o.dst v) (aY7 ops rest::q):=by rw[KX,e];rfl
 refine .step (es:=seen A4 b.fn #[]) rfl ?_ ((EN.refl w #[]).seen _) k;rw[stepG_oper e s,It m (h w) rfl,f];rfl
theorem Ct.solo{Stop:AK->A'->Prop}{a:AK}(h:Ct A4 (λ_=>False) Stop a w):Fg a w Stop:=by
 induction h with
 |stop h=>rename_i g w;exact .here (h w.drawn)
 |go b hs h _ x=>
  rename_i g w _;intro t q hc;obtain⟨f,h2⟩:=h w.drawn;have f:Be A4 A0 g w=.go (b w.drawn).g (b w.drawn).w (b w.drawn).es:=f;have m:=(Dm.own hc (a':=(b w.drawn).g) (w':=(b w.drawn).w) (AF trivial) h2 g.frame.fn g.frame.place).2;have e:(#[g].map (woken A4 g (b w.drawn).g (b w.drawn).w)).setIfInBounds 0 (b w.drawn).g=#[(b w.drawn).g]:=by simp
  rw[e]at m;obtain⟨p,s,C,A,z,c2,y⟩:=x w.drawn _ q m;refine⟨p+1,s,C,A,?_,c2,y⟩;rw[Eg,(stepT_solo hs).trans (runT_solo_go f)];exact z
def vD(f:Nat):Bool:=f==19||f==50||f==49||f==15
theorem a2G:jE A4 vD:=by
 intro f b;unfold vD at b;simp only[Bool.or_eq_true,beq_iff_eq]at b;rcases b with((rfl|rfl)|rfl)|rfl;·exact⟨iS,(iS.body).getD aYT,a8V,by kernel_rfl,by kernel_rfl,by kernel_rfl⟩
 ·exact⟨a8S,(a8S.body).getD aYT,Tryz.func50,by kernel_rfl,by kernel_rfl,by kernel_rfl⟩
 ·exact⟨a8R,(a8R.body).getD aYT,Tryz.func49,by kernel_rfl,by kernel_rfl,by kernel_rfl⟩
 ·exact⟨a8O,(a8O.body).getD aYT,Tryz.func15,by kernel_rfl,by kernel_rfl,by kernel_rfl⟩
theorem aPo:(A4.funcs.all λf=>(f.body.map readies).all (·.isEmpty))=A0:=by kernel_rfl
theorem aRb(g:Nat):A4.stepOf g=J:=by unfold aU9;rw[Array.findIdx?_eq_none_iff];intro f e;have h:=Array.all_eq_true'.1 aPo f e;cases b:f.body with|none=>rfl|some c=>rw[b]at h;have h:(readies c).isEmpty=A0:=h;simp[List.isEmpty_iff.1 h]
theorem Fg.small{f:Nat}{args:Array A1}{c':AY}{cs':List AY}{Q:A1->A'->Prop}(I:vD f=A0)(h:AZ A4 f args w λe b=>∃v,e=hq v/\Q v b):Fg (G (GR A4 f args a73) (c'::cs')) w λC w'=>∃v,C=G (c'.finish v) cs'/\Q v w':=by
 intro t q hc;obtain⟨e,b,m,⟨v,rfl,U⟩,⟨N,D⟩,n,x,H,M,s,K,j⟩:=h [bot];obtain⟨t1,r1,c1⟩:=aSC aRb a2G N (l:=[]) (base:=c'::cs') (MT.enter a2G I args) (AA rfl) (λc hc=>by cases hc) D x hc;have p:=(a2o (P:=A4) s m.tmps).runs b #[];have y:=PZ (P:=A4) (De s m.tmps) b #[];rw[j]at y;cases A:(De s m.tmps).runT A4 b #[]with
 |mk r z=>
  rw[A]at y p;cases y;have p:EN b b #[] z:=p;have Bp:Be A4 A0 (G m (c'::cs')) b=.go (G (c'.finish v) cs') b (seen A4 m.fn z):=by rw[Qy rfl x];exact R0 H x M K A
  obtain⟨e1,c2⟩:=hE rfl Bp (p.seen _) c1;refine⟨N+1,_,b,_,Z_ r1 (N2:=1) (r:=(aYG (EB (G (c'.finish v) cs') b),_)) ?_,c2,v,rfl,U⟩;rw[Eg,e1];rfl
noncomputable def cG:Array Bf:=match qT with|aYH _ ops _=>ops|_=>#[]
theorem aNV:qT=aYH 0 cG A5:=by kernel_rfl
theorem a3t:cG.size=1:=by kernel_rfl
noncomputable def cE(i:Nat):Bf:=cG.getD i Ag
theorem aN9(i:Nat)(h:i<1):cG[i]?=Z (cE i):=by unfold cE;rw[JX,ET (by rw[a3t];exact h)];rfl
theorem aTL:∀(i:Nat)(_:i<1)(y:Nat->Option Bool),EY (cE i) y=A0|0,_,y=>by simp[EY,show(cE 0).guard=J by kernel_rfl]
noncomputable def XF:Array Bf:=match ed with|aYH _ ops _=>ops|_=>#[]
theorem aNW:ed=aYH 1 XF A5:=by kernel_rfl
theorem a3u:XF.size=2:=by kernel_rfl
noncomputable def XC(i:Nat):Bf:=XF.getD i Ag
theorem u6(i:Nat)(h:i<2):XF[i]?=Z (XC i):=by unfold XC;rw[JX,ET (by rw[a3u];exact h)];rfl
theorem a6L:∀(i:Nat)(_:i<2)(y:Nat->Option Bool),EY (XC i) y=A0|0,_,y=>by simp[EY,show(XC 0).guard=J by kernel_rfl]|1,_,y=>by simp[EY,show(XC 1).guard=J by kernel_rfl]
noncomputable def qW:Cv:=fstC TF
noncomputable def js:Cv:=match TF with|aYB _ (.cond _ a _)=>a|_=>.skip
theorem aEU:TF=aYB qW (.cond (oM 14) js .skip):=by kernel_rfl
noncomputable def ZP:Array Bf:=match qW with|aYH _ ops _=>ops|_=>#[]
theorem aNX:qW=aYH 2 ZP A5:=by kernel_rfl
theorem a3v:ZP.size=2:=by kernel_rfl
noncomputable def VO(i:Nat):Bf:=ZP.getD i Ag
theorem a3h(i:Nat)(h:i<2):ZP[i]?=Z (VO i):=by unfold VO;rw[JX,ET (by rw[a3v];exact h)];rfl
theorem a6M:∀(i:Nat)(_:i<2)(y:Nat->Option Bool),EY (VO i) y=A0|0,_,y=>by simp[EY,show(VO 0).guard=J by kernel_rfl]|1,_,y=>by simp[EY,show(VO 1).guard=J by kernel_rfl]
noncomputable def XG:Array Bf:=match Q9 with|aYH _ ops _=>ops|_=>#[]
theorem aNY:Q9=aYH 4 XG A5:=by kernel_rfl
theorem a3w:XG.size=3:=by kernel_rfl
noncomputable def SP(i:Nat):Bf:=XG.getD i Ag
theorem m'(i:Nat)(h:i<3):XG[i]?=Z (SP i):=by unfold SP;rw[JX,ET (by rw[a3w];exact h)];rfl
theorem vN:∀(i:Nat)(_:i<3)(y:Nat->Option Bool),EY (SP i) y=A0|0,_,y=>by simp[EY,show(SP 0).guard=J by kernel_rfl]|1,_,y=>by simp[EY,show(SP 1).guard=J by kernel_rfl]|2,_,y=>by simp[EY,show(SP 2).guard=J by kernel_rfl]
theorem aFv(h:U8 w):Closed Cy (λb=>D4<=b/\b<w.heap.size) (λb=>b<D4) w:=by refine⟨λb e=>?_,λb e x=>Nat.lt_irrefl _ (K9 e x.1),λb e=>e⟩;obtain⟨cs,t,f,h2⟩:=h b e;refine⟨_,f,.cells t (Ab.XD λv hv=>?_) (Mr.refl _)⟩;obtain⟨j,m⟩:=List.mem_iff_getElem?.1 hv;obtain⟨k,n,rfl⟩:=h2 j v (by simpa using m);exact .int k n
theorem aKS(n c:Nat)(h:Option Aa)(m:Int)(w:A')(hn:n<=4611686018427387904)(r:Nz w w.heap.size (As h n c) n)(AB:U8 w)(hm:w.cell? ⟨0,0,J⟩=Z (IS Po m)):Fg (G (GR A4 7 #[As h n c] a73) []) w λg' z=>∃(y:A')(C:Array A1)(d9:List (Nat×Nat)),g'=G ((AL 7).at ⟨#[As h n c,Y,aY5 A5,aY5 A0,aY4 (Z ⟨y.heap.size+1,0,J⟩),Y,Y,Y,Y,Y,Y,Y,aY5 A0,aY5 A0,aY5 A5,As h n c,aY4 (Z ⟨y.heap.size+1,0,J⟩),Y,Y,Y,Y,Y,Y,Y,Y,Y,Y,Y,Y,Y,Y,Y,Y,Y,Y,Y,Y,Y,Y,Y,Y,Y,Y,Y,Y,Y,Y,Y,Y,Y,Y,Y,Y,Y,Y,Y,Y,Y,Y,Y,Y,Y,Y,Y,Y,Y,Y,Y,Y,Y,Y,Y,Y,Y,Y,Y,Y,Y,Y,Y,Y,Y,Y,Y,Y,Y,Y,Y,Y,Y],[]⟩ [aY9 (aYB L9 Gc)]) []/\Oo z (y.heap.size+2) (y.heap.size+1) C d9/\w.heap.size<=y.heap.size/\z.os=w.os/\z.output=w.output/\y.heap.size<=z.heap.size/\∀b,b<w.heap.size->z.heap[b]?=w.heap[b]?:=by
 rw[aEq,aCh];refine .ctl rfl (λ_=>GB) ?_;rw[aNV];refine .ctl rfl (λ_=>Hu) ?_;rw[a3t];show Fg (G ((AL 7).at ⟨#[As h n c,Y,Y,Y,Y,Y,Y,Y,Y,Y,Y,Y,Y,Y,Y,Y,Y,Y,Y,Y,Y,Y,Y,Y,Y,Y,Y,Y,Y,Y,Y,Y,Y,Y,Y,Y,Y,Y,Y,Y,Y,Y,Y,Y,Y,Y,Y,Y,Y,Y,Y,Y,Y,Y,Y,Y,Y,Y,Y,Y,Y,Y,Y,Y,Y,Y,Y,Y,Y,Y,Y,Y,Y,Y,Y,Y,Y,Y,Y,Y,Y,Y,Y,Y,Y,Y,Y,Y,Y,Y],[]⟩ (aY7 cG [0]::[aY9 (aYB ed (aYB TF (aYB Q9 (aYB L9 Gc))))])) []) _ _;refine Fg.pure (aY5 A5) (aN9 0 (by decide)) (aTL 0 (by decide) _) (by simp[AL]) (λw=>?_) ?_
 ·have p:(cE 0).op=.assign (.const (aY5 A5)):=by kernel_rfl
  unfold AU;rw[p];rfl
 rw[show(cE 0).dst=Z 2 by kernel_rfl];show Fg (G ((AL 7).at ⟨#[As h n c,Y,aY5 A5,Y,Y,Y,Y,Y,Y,Y,Y,Y,Y,Y,Y,Y,Y,Y,Y,Y,Y,Y,Y,Y,Y,Y,Y,Y,Y,Y,Y,Y,Y,Y,Y,Y,Y,Y,Y,Y,Y,Y,Y,Y,Y,Y,Y,Y,Y,Y,Y,Y,Y,Y,Y,Y,Y,Y,Y,Y,Y,Y,Y,Y,Y,Y,Y,Y,Y,Y,Y,Y,Y,Y,Y,Y,Y,Y,Y,Y,Y,Y,Y,Y,Y,Y,Y,Y,Y,Y],[]⟩ (aY7 cG []::[aY9 (aYB ed (aYB TF (aYB Q9 (aYB L9 Gc))))])) []) _ _;refine .ctl rfl (λ_=>Hf) ?_;refine .ctl rfl (λ_=>GB) ?_;rw[aNW];refine .ctl rfl (λ_=>Hu) ?_;rw[a3u];show Fg (G ((AL 7).at ⟨#[As h n c,Y,aY5 A5,Y,Y,Y,Y,Y,Y,Y,Y,Y,Y,Y,Y,Y,Y,Y,Y,Y,Y,Y,Y,Y,Y,Y,Y,Y,Y,Y,Y,Y,Y,Y,Y,Y,Y,Y,Y,Y,Y,Y,Y,Y,Y,Y,Y,Y,Y,Y,Y,Y,Y,Y,Y,Y,Y,Y,Y,Y,Y,Y,Y,Y,Y,Y,Y,Y,Y,Y,Y,Y,Y,Y,Y,Y,Y,Y,Y,Y,Y,Y,Y,Y,Y,Y,Y,Y,Y,Y],[]⟩ (aY7 XF [0,1]::[aY9 (aYB TF (aYB Q9 (aYB L9 Gc)))])) []) _ _;obtain⟨K,A⟩:∃c,wu.body=Z c:=⟨(wu.body).getD aYT,by kernel_rfl⟩;refine .ctl rfl (λ_=>Qz (f:=13) (fn:=wu) (c:=K) (az:=#[]) (ats:=#[]) (u6 0 (by decide)) (a6L 0 (by decide) _) (by simp[AL]) (by kernel_rfl) oR (by kernel_rfl) A) ?_;rw[show(#[]:Array C2).map (Cu ⟨#[.slice h n c,Y,.bool A5,Y,Y,Y,Y,Y,Y,Y,Y,Y,Y,Y,Y,Y,Y,Y,Y,Y,Y,Y,Y,Y,Y,Y,Y,Y,Y,Y,Y,Y,Y,Y,Y,Y,Y,Y,Y,Y,Y,Y,Y,Y,Y,Y,Y,Y,Y,Y,Y,Y,Y,Y,Y,Y,Y,Y,Y,Y,Y,Y,Y,Y,Y,Y,Y,Y,Y,Y,Y,Y,Y,Y,Y,Y,Y,Y,Y,Y,Y,Y,Y,Y,Y,Y,Y,Y,Y,Y],[]⟩)=#[]from by kernel_rfl];have N:Cy 13:=Ra _ (by kernel_rfl);have hb:=qC Pa (λ_=>trivial) (Wb:=λb=>D4<=b/\b<w.heap.size) (R:=λb=>b<D4) (c':=(AL 7).at ⟨#[.slice h n c,Y,.bool A5,Y,Y,Y,Y,Y,Y,Y,Y,Y,Y,Y,Y,Y,Y,Y,Y,Y,Y,Y,Y,Y,Y,Y,Y,Y,Y,Y,Y,Y,Y,Y,Y,Y,Y,Y,Y,Y,Y,Y,Y,Y,Y,Y,Y,Y,Y,Y,Y,Y,Y,Y,Y,Y,Y,Y,Y,Y,Y,Y,Y,Y,Y,Y,Y,Y,Y,Y,Y,Y,Y,Y,Y,Y,Y,Y,Y,Y,Y,Y,Y,Y,Y,Y,Y,Y,Y,Y],[]⟩ (.inRegion XF [0,1]::[.code (.seq TF (.seq Q9 (.seq L9 Gc)))])) (cs':=[]) (w:=w) (args:=#[]) (Q:=λv w1=>v=.bool A0/\w.heap.size<=w1.heap.size/\∀b,b<w.heap.size->w1.heap[b]?=w.heap[b]?) oR A (ZH 13 _ _ (AA N) oR A).1 (ZH 13 _ _ (AA N) oR A).2 (λt H=>?_) .nil (aFv AB) (λb hb=>hb.2) λT0=>?_;rotate_left;·have H:t∈Dc 13:=H;rw[gr N]at H;cases H
 ·refine(aCn m (on w T0) hm).mono ?_;rintro e u⟨rfl,hb⟩;exact⟨_,rfl,rfl,hb.size,λb E=>hb.block b E⟩
 refine((hb.Aw).wide (Wc:=λ_=>False) λ_ x=>x.elim).solo.bind ?_;rintro P s⟨⟨S,v,w1,rfl,_,⟨rfl,j,I⟩,_,e2,_,_,_⟩,hk⟩;rw[<-e2]at j I;rw[KX,u6 0 (by decide),RR,show(XC 0).dst=Z 12 by kernel_rfl];show Fg (G ((AL 7).at ⟨#[.slice h n c,Y,.bool A5,Y,Y,Y,Y,Y,Y,Y,Y,Y,.bool A0,Y,Y,Y,Y,Y,Y,Y,Y,Y,Y,Y,Y,Y,Y,Y,Y,Y,Y,Y,Y,Y,Y,Y,Y,Y,Y,Y,Y,Y,Y,Y,Y,Y,Y,Y,Y,Y,Y,Y,Y,Y,Y,Y,Y,Y,Y,Y,Y,Y,Y,Y,Y,Y,Y,Y,Y,Y,Y,Y,Y,Y,Y,Y,Y,Y,Y,Y,Y,Y,Y,Y,Y,Y,Y,Y,Y,Y],[]⟩ (.inRegion XF [1]::[.code (.seq TF (.seq Q9 (.seq L9 Gc)))])) []) _ _;refine Fg.pure (.bool A0) (u6 1 (by decide)) (a6L 1 (by decide) _) (by simp[AL]) (λw=>?_) ?_
 ·have p:(XC 1).op=.assign (.tmp 12):=by kernel_rfl
  unfold AU;rw[p];rfl
 rw[show(XC 1).dst=Z 3 by kernel_rfl];show Fg (G ((AL 7).at ⟨#[.slice h n c,Y,.bool A5,.bool A0,Y,Y,Y,Y,Y,Y,Y,Y,.bool A0,Y,Y,Y,Y,Y,Y,Y,Y,Y,Y,Y,Y,Y,Y,Y,Y,Y,Y,Y,Y,Y,Y,Y,Y,Y,Y,Y,Y,Y,Y,Y,Y,Y,Y,Y,Y,Y,Y,Y,Y,Y,Y,Y,Y,Y,Y,Y,Y,Y,Y,Y,Y,Y,Y,Y,Y,Y,Y,Y,Y,Y,Y,Y,Y,Y,Y,Y,Y,Y,Y,Y,Y,Y,Y,Y,Y,Y],[]⟩ (.inRegion XF []::[.code (.seq TF (.seq Q9 (.seq L9 Gc)))])) []) _ _;refine .ctl rfl (λ_=>Hf) ?_;refine .ctl rfl (λ_=>GB) ?_;rw[aEU];refine .ctl rfl (λ_=>GB) ?_;rw[aNX];refine .ctl rfl (λ_=>Hu) ?_;rw[a3v];show Fg (G ((AL 7).at ⟨#[.slice h n c,Y,.bool A5,.bool A0,Y,Y,Y,Y,Y,Y,Y,Y,.bool A0,Y,Y,Y,Y,Y,Y,Y,Y,Y,Y,Y,Y,Y,Y,Y,Y,Y,Y,Y,Y,Y,Y,Y,Y,Y,Y,Y,Y,Y,Y,Y,Y,Y,Y,Y,Y,Y,Y,Y,Y,Y,Y,Y,Y,Y,Y,Y,Y,Y,Y,Y,Y,Y,Y,Y,Y,Y,Y,Y,Y,Y,Y,Y,Y,Y,Y,Y,Y,Y,Y,Y,Y,Y,Y,Y,Y,Y],[]⟩ (.inRegion ZP [0,1]::[.code (.cond (.tmp 14) js .skip),.code (.seq Q9 (.seq L9 Gc))])) []) _ _;refine Fg.pure (.bool A0) (a3h 0 (by decide)) (a6M 0 (by decide) _) (by simp[AL]) (λw=>?_) ?_
 ·have p:(VO 0).op=.move (.tmp 3):=by kernel_rfl
  unfold AU;rw[p];rfl
 rw[show(VO 0).dst=Z 13 by kernel_rfl];show Fg (G ((AL 7).at ⟨#[.slice h n c,Y,.bool A5,.bool A0,Y,Y,Y,Y,Y,Y,Y,Y,.bool A0,.bool A0,Y,Y,Y,Y,Y,Y,Y,Y,Y,Y,Y,Y,Y,Y,Y,Y,Y,Y,Y,Y,Y,Y,Y,Y,Y,Y,Y,Y,Y,Y,Y,Y,Y,Y,Y,Y,Y,Y,Y,Y,Y,Y,Y,Y,Y,Y,Y,Y,Y,Y,Y,Y,Y,Y,Y,Y,Y,Y,Y,Y,Y,Y,Y,Y,Y,Y,Y,Y,Y,Y,Y,Y,Y,Y,Y,Y],[]⟩ (.inRegion ZP [1]::[.code (.cond (.tmp 14) js .skip),.code (.seq Q9 (.seq L9 Gc))])) []) _ _;refine Fg.pure (.bool A5) (a3h 1 (by decide)) (a6M 1 (by decide) _) (by simp[AL]) (λw=>?_) ?_
 ·have p:(VO 1).op=.unOp .not 4 (.tmp 13):=by kernel_rfl
  unfold AU;rw[p];rfl
 rw[show(VO 1).dst=Z 14 by kernel_rfl];show Fg (G ((AL 7).at ⟨#[.slice h n c,Y,.bool A5,.bool A0,Y,Y,Y,Y,Y,Y,Y,Y,.bool A0,.bool A0,.bool A5,Y,Y,Y,Y,Y,Y,Y,Y,Y,Y,Y,Y,Y,Y,Y,Y,Y,Y,Y,Y,Y,Y,Y,Y,Y,Y,Y,Y,Y,Y,Y,Y,Y,Y,Y,Y,Y,Y,Y,Y,Y,Y,Y,Y,Y,Y,Y,Y,Y,Y,Y,Y,Y,Y,Y,Y,Y,Y,Y,Y,Y,Y,Y,Y,Y,Y,Y,Y,Y,Y,Y,Y,Y,Y,Y],[]⟩ (.inRegion ZP []::[.code (.cond (.tmp 14) js .skip),.code (.seq Q9 (.seq L9 Gc))])) []) _ _;refine .ctl rfl (λ_=>Hf) ?_;refine .ctl rfl (λ_=>stepG_cond (t:=A5) rfl) ?_;refine .ctl rfl (λ_=>stepG_skip) ?_;refine .ctl rfl (λ_=>GB) ?_;rw[aNY];refine .ctl rfl (λ_=>Hu) ?_;rw[a3w];show Fg (G ((AL 7).at ⟨#[.slice h n c,Y,.bool A5,.bool A0,Y,Y,Y,Y,Y,Y,Y,Y,.bool A0,.bool A0,.bool A5,Y,Y,Y,Y,Y,Y,Y,Y,Y,Y,Y,Y,Y,Y,Y,Y,Y,Y,Y,Y,Y,Y,Y,Y,Y,Y,Y,Y,Y,Y,Y,Y,Y,Y,Y,Y,Y,Y,Y,Y,Y,Y,Y,Y,Y,Y,Y,Y,Y,Y,Y,Y,Y,Y,Y,Y,Y,Y,Y,Y,Y,Y,Y,Y,Y,Y,Y,Y,Y,Y,Y,Y,Y,Y,Y],[]⟩ (.inRegion XG [0,1,2]::[.code (.seq L9 Gc)])) []) _ _;refine Fg.pure (.slice h n c) (m' 0 (by decide)) (vN 0 (by decide) _) (by simp[AL]) (λw=>?_) ?_
 ·have p:(SP 0).op=.move (.tmp 0):=by kernel_rfl
  unfold AU;rw[p];rfl
 rw[show(SP 0).dst=Z 15 by kernel_rfl];show Fg (G ((AL 7).at ⟨#[.slice h n c,Y,.bool A5,.bool A0,Y,Y,Y,Y,Y,Y,Y,Y,.bool A0,.bool A0,.bool A5,.slice h n c,Y,Y,Y,Y,Y,Y,Y,Y,Y,Y,Y,Y,Y,Y,Y,Y,Y,Y,Y,Y,Y,Y,Y,Y,Y,Y,Y,Y,Y,Y,Y,Y,Y,Y,Y,Y,Y,Y,Y,Y,Y,Y,Y,Y,Y,Y,Y,Y,Y,Y,Y,Y,Y,Y,Y,Y,Y,Y,Y,Y,Y,Y,Y,Y,Y,Y,Y,Y,Y,Y,Y,Y,Y,Y],[]⟩ (.inRegion XG [1,2]::[.code (.seq L9 Gc)])) []) _ _;obtain⟨M,U⟩:∃c,iS.body=Z c:=⟨(iS.body).getD .ret,by kernel_rfl⟩;refine .ctl rfl (λ_=>Qz (f:=19) (fn:=iS) (c:=M) (az:=#[.tmp 15]) (ats:=#[33]) (m' 1 (by decide)) (vN 1 (by decide) _) (by simp[AL]) (by kernel_rfl) a8V (by kernel_rfl) U) ?_;have F:(#[.tmp 15]:Array C2).map (Cu ⟨#[.slice h n c,Y,.bool A5,.bool A0,Y,Y,Y,Y,Y,Y,Y,Y,.bool A0,.bool A0,.bool A5,.slice h n c,Y,Y,Y,Y,Y,Y,Y,Y,Y,Y,Y,Y,Y,Y,Y,Y,Y,Y,Y,Y,Y,Y,Y,Y,Y,Y,Y,Y,Y,Y,Y,Y,Y,Y,Y,Y,Y,Y,Y,Y,Y,Y,Y,Y,Y,Y,Y,Y,Y,Y,Y,Y,Y,Y,Y,Y,Y,Y,Y,Y,Y,Y,Y,Y,Y,Y,Y,Y,Y,Y,Y,Y,Y,Y],[]⟩)=#[.slice h n c]:=by kernel_rfl
 rw[F];refine(Fg.small (Q:=λv w'=>∃C d9,v=.pointer (Z ⟨s.heap.size+1,0,J⟩)/\Oo w' (s.heap.size+2) (s.heap.size+1) C d9/\AS s.heap.size s w') (by kernel_rfl) ?_).bind ?_;·refine(aM1 n c h s hn (aPb r j I)).mono ?_;rintro e u⟨C,d9,rfl,h1,h2⟩;exact⟨_,rfl,C,d9,rfl,h1,h2⟩
 rintro g4 z⟨v,rfl,C,d9,rfl,Wv,D⟩;rw[KX,m' 1 (by decide),RR,show(SP 1).dst=Z 16 by kernel_rfl];show Fg (G ((AL 7).at ⟨#[.slice h n c,Y,.bool A5,.bool A0,Y,Y,Y,Y,Y,Y,Y,Y,.bool A0,.bool A0,.bool A5,.slice h n c,.pointer (Z ⟨s.heap.size+1,0,J⟩),Y,Y,Y,Y,Y,Y,Y,Y,Y,Y,Y,Y,Y,Y,Y,Y,Y,Y,Y,Y,Y,Y,Y,Y,Y,Y,Y,Y,Y,Y,Y,Y,Y,Y,Y,Y,Y,Y,Y,Y,Y,Y,Y,Y,Y,Y,Y,Y,Y,Y,Y,Y,Y,Y,Y,Y,Y,Y,Y,Y,Y,Y,Y,Y,Y,Y,Y,Y,Y,Y,Y,Y,Y],[]⟩ (.inRegion XG [2]::[.code (.seq L9 Gc)])) []) _ _;refine Fg.pure (.pointer (Z ⟨s.heap.size+1,0,J⟩)) (m' 2 (by decide)) (vN 2 (by decide) _) (by simp[AL]) (λw=>?_) ?_
 ·have p:(SP 2).op=.assign (.tmp 16):=by kernel_rfl
  unfold AU;rw[p];rfl
 rw[show(SP 2).dst=Z 4 by kernel_rfl];show Fg (G ((AL 7).at ⟨#[.slice h n c,Y,.bool A5,.bool A0,.pointer (Z ⟨s.heap.size+1,0,J⟩),Y,Y,Y,Y,Y,Y,Y,.bool A0,.bool A0,.bool A5,.slice h n c,.pointer (Z ⟨s.heap.size+1,0,J⟩),Y,Y,Y,Y,Y,Y,Y,Y,Y,Y,Y,Y,Y,Y,Y,Y,Y,Y,Y,Y,Y,Y,Y,Y,Y,Y,Y,Y,Y,Y,Y,Y,Y,Y,Y,Y,Y,Y,Y,Y,Y,Y,Y,Y,Y,Y,Y,Y,Y,Y,Y,Y,Y,Y,Y,Y,Y,Y,Y,Y,Y,Y,Y,Y,Y,Y,Y,Y,Y,Y,Y,Y,Y],[]⟩ (.inRegion XG []::[.code (.seq L9 Gc)])) []) _ _;refine .ctl rfl (λ_=>Hf) ?_;exact .here ⟨s,C,d9,rfl,Wv,j,D.os.trans hk.os,D.output.trans hk.output,D.size,λb hb=>(D.block b (by omega)).trans (I b hb)⟩
def T6(e:Nat)(C:Array A1)(b:Nat):Prop:=b<D4∨b=e∨∃(i m c:Nat),C[i]?=Z (As (Z ⟨b,0,J⟩) m c)
theorem a1p{cs:Array A1}{t:A_}(h:∀(j:Nat)(u:A1),cs[j]?=Z u->∃k n,u=IS k n):GI Cy (D6 R) (BE cs t (0,0)) (BE cs t (0,0)):=by refine .cells t (Ab.XD λv hv=>?_) (Mr.refl _);obtain⟨j,b⟩:=List.mem_iff_getElem?.1 hv;obtain⟨k,n,rfl⟩:=h j v (by simpa using b);exact .int k n
theorem aNg{l:List (Nat×Nat)}(h:KA w B v l):v=As J 0 0∨∃g b e,v=As (Z ⟨g,0,J⟩) l.length b/\w.heap[g]?=Z (BE e 45 (0,0))/\∀(j:Nat)(u:A1),e[j]?=Z u->∃k n,u=IS k n:=by
 rcases h.1.2 with⟨f,_⟩|⟨g,b,e,f,h2,h3,_,_,h4,p⟩;·exact AA f
 ·refine AF ⟨g,b,e,f,h3,λj u hu=>?_⟩;by_cases y:j<l.length*2
  ·have s:(Gl l)[j]?=Z u:=by rw[<-p,List.getElem?_take,if_pos y];simpa using hu
   have m:=pc s;unfold Gl at m;obtain⟨x,_,hx⟩:=List.mem_flatMap.1 m;simp only[List.mem_cons,List.not_mem_nil,or_false]at hx;rcases hx with rfl|rfl;·exact⟨_,_,rfl⟩
   ·exact⟨_,_,rfl⟩
  ·exact h.2 g b e 45 (0,0) f h3 j u (by omega) hu
theorem aM2(h:Oo w B hW C d9)(Q:U8 w):Closed Cy (λb=>b<w.heap.size/\¬T6 hW C b) (T6 hW C) w:=by
 obtain⟨K,h2,h3,v,h4,_,M⟩:=h;have I:∀(i:Nat)(u:A1),C[i]?=Z u->(∃k n,u=IS k n)∨u=As J 0 0∨∃g m f y,u=As (Z ⟨g,0,J⟩) m f/\w.heap[g]?=Z (BE y 45 (0,0))/\∀(j:Nat)(u:A1),y[j]?=Z u->∃k n,u=IS k n:=by
  intro i u hu;have hi:i<31:=by have:=(Array.getElem?_eq_some_iff.1 hu).1;rw[h2.size]at this;exact this
  by_cases U:i<15;·obtain⟨x,hx,_⟩:=h2.AW (i/3) (i%3) (by omega) (by omega);rw[show i/3*3+i%3=i by omega,hu]at hx;exact AA ⟨_,_,D3 hx⟩
  ·have H:∃l,KA w B u l:=by
    by_cases A:i=30;·subst A;rw[hu]at h4;obtain rfl:=D3 h4;exact⟨_,M⟩
    ·obtain⟨r,l,e,_,D⟩:=h3 ((i-15)/3) ((i-15)%3) (by omega) (by omega);rw[show 15+(i-15)/3*3+(i-15)%3=i by omega,hu]at e;obtain rfl:=D3 e;exact⟨l,D⟩
   obtain⟨l,D⟩:=H;rcases aNg D with p|⟨g,f,y,p,z,N⟩;·exact AF (AA p)
   ·exact AF (AF ⟨g,_,f,y,p,z,N⟩)
 refine⟨λb s=>?_,λb s x=>x.2 s,λb s=>AA s⟩;rcases s with s|rfl|⟨i,m,c,hi⟩;·obtain⟨cs,t,p,z⟩:=Q b s;exact⟨_,p,a1p z⟩
 ·refine⟨_,K,.cells 43 (Ab.XD λu hu=>?_) (Mr.refl _)⟩;obtain⟨i,hi⟩:=List.mem_iff_getElem?.1 hu;have hi:C[i]?=Z u:=by simpa using hi
  rcases I i u hi with⟨k,n,rfl⟩|rfl|⟨g,m,f,y,rfl,_⟩;·exact .int k n
  ·exact .Gt 0 0
  ·exact .slice m f ⟨⟨rfl,AF (AF ⟨i,m,f,hi⟩)⟩,rfl,rfl⟩
 ·rcases I i _ hi with⟨k,n,e⟩|e|⟨g,E,f,y,e,p,z⟩;·cases e
  ·cases e
  ·injection e with e _ _;injection e with e;injection e with e _ _;subst e;exact⟨_,p,a1p z⟩
theorem aSM(b:R (k+1)):Ah R #[Y,Y,aY5 A5,aY5 A0,aY4 (Z ⟨k+1,0,J⟩),Y,Y,Y,Y,Y,Y,Y,aY5 A0,aY5 A0,aY5 A5,Y,aY4 (Z ⟨k+1,0,J⟩),Y,Y,Y,Y,Y,Y,Y,Y,Y,Y,Y,Y,Y,Y,Y,Y,Y,Y,Y,Y,Y,Y,Y,Y,Y,Y,Y,Y,Y,Y,Y,Y,Y,Y,Y,Y,Y,Y,Y,Y,Y,Y,Y,Y,Y,Y,Y,Y,Y,Y,Y,Y,Y,Y,Y,Y,Y,Y,Y,Y,Y,Y,Y,Y,Y,Y,Y,Y,Y,Y,Y,Y,Y]:=by show Ab Cy (D6 R) _ _;repeat first|exact Ab.nil|refine Ab.cons (AJ.tuple Ab.nil) ?_|refine Ab.cons (AJ.bool _) ?_|refine Ab.cons (AJ.ptr ⟨⟨rfl,b⟩,rfl,rfl⟩) ?_
theorem aSO(x:A1)(k:Nat):#[x,Y,aY5 A5,aY5 A0,aY4 (Z ⟨k+1,0,J⟩),Y,Y,Y,Y,Y,Y,Y,aY5 A0,aY5 A0,aY5 A5,x,aY4 (Z ⟨k+1,0,J⟩),Y,Y,Y,Y,Y,Y,Y,Y,Y,Y,Y,Y,Y,Y,Y,Y,Y,Y,Y,Y,Y,Y,Y,Y,Y,Y,Y,Y,Y,Y,Y,Y,Y,Y,Y,Y,Y,Y,Y,Y,Y,Y,Y,Y,Y,Y,Y,Y,Y,Y,Y,Y,Y,Y,Y,Y,Y,Y,Y,Y,Y,Y,Y,Y,Y,Y,Y,Y,Y,Y,Y,Y,Y]=(#[Y,Y,aY5 A5,aY5 A0,aY4 (Z ⟨k+1,0,J⟩),Y,Y,Y,Y,Y,Y,Y,aY5 A0,aY5 A0,aY5 A5,Y,aY4 (Z ⟨k+1,0,J⟩),Y,Y,Y,Y,Y,Y,Y,Y,Y,Y,Y,Y,Y,Y,Y,Y,Y,Y,Y,Y,Y,Y,Y,Y,Y,Y,Y,Y,Y,Y,Y,Y,Y,Y,Y,Y,Y,Y,Y,Y,Y,Y,Y,Y,Y,Y,Y,Y,Y,Y,Y,Y,Y,Y,Y,Y,Y,Y,Y,Y,Y,Y,Y,Y,Y,Y,Y,Y,Y,Y,Y,Y,Y].setIfInBounds 0 x).setIfInBounds 15 x:=rfl
theorem aSN(x:A1)(b:R (k+1)):Ah R (E_ [0,15] #[x,Y,aY5 A5,aY5 A0,aY4 (Z ⟨k+1,0,J⟩),Y,Y,Y,Y,Y,Y,Y,aY5 A0,aY5 A0,aY5 A5,x,aY4 (Z ⟨k+1,0,J⟩),Y,Y,Y,Y,Y,Y,Y,Y,Y,Y,Y,Y,Y,Y,Y,Y,Y,Y,Y,Y,Y,Y,Y,Y,Y,Y,Y,Y,Y,Y,Y,Y,Y,Y,Y,Y,Y,Y,Y,Y,Y,Y,Y,Y,Y,Y,Y,Y,Y,Y,Y,Y,Y,Y,Y,Y,Y,Y,Y,Y,Y,Y,Y,Y,Y,Y,Y,Y,Y,Y,Y,Y,Y]):=by rw[aSO,a1N (by decide),a1N (by decide)];exact Ab.bp (aSM b) _
theorem aKZ(n c:Nat)(s:Option Aa)(m:Int)(w:A')(hn:n<=4611686018427387904)(X:Nz w w.heap.size (As s n c) n)(H:U8 w)(hm:w.cell? ⟨0,0,J⟩=Z (IS Po m))(NH:w.cell? ⟨5,15,J⟩=Z (IS aYL 4)):∃N f o w' j,Eg A4 (N+1) (EB (G (GR A4 7 #[As s n c] a73) []) w) #[]=(aZP o w',j)/\runN A4 N (EB (G (GR A4 7 #[As s n c] a73) []) w)=aYG f/\step A4 f=aZP o w'/\a7C A4 (λv p=>v=aY5 A0/\p.os=w.os/\p.output=w.output/\w.heap.size<=p.heap.size/\∀b,b<w.heap.size->p.heap[b]?=w.heap[b]?) f o w' j:=by
 letI:Ck:=⟨3⟩;obtain⟨N0,g4,z,t4,r,c4,w3,C,d9,rfl,Wv,KN,S7,NJ,LK,A⟩:=aKS n c s m w hn X H hm #[] (λ_=>0) (aDF _ _ w);generalize w3.heap.size=k at*;have AV:0<w.heap.size:=(Array.getElem?_eq_some_iff.1 (H 0 (by decide)).choose_spec.choose_spec.1).1;have u:∀b,b<D4->b<w.heap.size:=λb hb=>by obtain⟨cs,t,h,_⟩:=H b hb;exact(Array.getElem?_eq_some_iff.1 h).1
 have E:U8 z:=λb hb=>by obtain⟨cs,t,M,h2⟩:=H b hb;exact⟨cs,t,(A b (u b hb)).trans M,h2⟩
 have Hj:=aM2 Wv E;have lc:=aKV (R:=T6 (k+1) C) (U:=λb=>b<z.heap.size/\¬T6 (k+1) C b) n c s m z (k+2) (k+1) C d9 Wv E ((F4 (a:=⟨0,0,J⟩) (A 0 AV)).trans hm) ((F4 (a:=⟨5,15,J⟩) (A 5 (u 5 (by decide)))).trans NH) ⟨Hj,λb hb=>hb.1⟩ (aSN (As s n c) (AF (AA rfl)));obtain⟨Q,gs,g',ES,sl,t5,J9,Wb,F,c5,_,Wt,PK,fc⟩:=lc (λ_=>False) (λb=>b<z.heap.size/\¬T6 (k+1) C b) (by funext b;simp) (λb hb=>⟨λx=>x,hb.1⟩) #[_] J t4 (λ_=>0) c4;obtain⟨B,Cr⟩:=c5.past;obtain⟨K,f,o,w2,t2,e1,e2,DF,EX⟩:=beside_ends (P:=A4) (Post:=λv p=>v=aY5 A0/\p.os=w.os/\p.output=w.output/\w.heap.size<=p.heap.size/\∀b,b<w.heap.size->p.heap[b]?=w.heap[b]?) (sl:=sl) (D:=λ_ _ es=>∀e∈es,EvL (λl=>∃b,Wb b/\Fu l b) B e) (n:=0) (λ_ _ _ x=>x) c5.zero c5.leave Cr λf3 S=>by
  obtain⟨v,M,h2,h3⟩:=fc f3 S;obtain⟨d,rfl⟩:=S;have I:=Wt.at d;refine⟨PK,v,#[],M,λe he=>by simp at he,h2,I.os.trans S7,I.output.trans NJ,by have:=I.size;omega,λb hb=>?_⟩;have y:b<z.heap.size:=by omega
  refine Eq.trans ?_ (A b hb);by_cases W:T6 (k+1) C b;·exact h3 b W
  ·exact I.same b ⟨y,W⟩ y
 refine⟨N0+(Q+K),f,o,w2,t2,?_,?_,DF,EX⟩;·rw[pk,pk];exact Z_ r (Z_ F e1)
 ·rw[runN_add,<-runNT_fst A4 _ _ #[],r];show runN A4 (Q+K) _=_;rw[solo_eq_crowd,runN_add,<-runNT_fst A4 _ _ t4,F];exact e2
end
end Go.Proofs.YtcfhleenecfghaaGreatDoor.Twin
namespace Go.Proofs.YtcfhleenecfghaaGreatDoor
section
open Go.ChangeShapes Go.WideShapes Go.ChangeAt Go.WideMaps Go.WideElems Go.RowKit
variable{H:Type}
theorem laidOut:laidOutB A4=A0:=by kernel_rfl
theorem aDT:A4.cellsOf 3=1:=by kernel_rfl
theorem own:ownKnob A4.godebug=J:=by kernel_rfl
theorem aTd{enc:A_×A1->H}{C:Checked}{os:Os}{f:FuncId}{fn:Func}{s:ChangeSpec}{apart fresh c again:Bool}{X:A'->Array A1->Prop}(own:ownKnob C.prog.godebug=J)(n:os.Started)(U:C.prog.funcs[f]?=Z fn)(D:∃(w:A')(b:Tape)(i:Input),w.os=os/\(w.forCall b i).Shaped C.prog/\i.vars=[]/\Input.okWide C.prog (w.forCall b i) aYz w.heap.size f i/\((s.pre enc C.prog fn [] apart (w.forCall b i).memory i.args/\X (w.forCall b i).memory i.args)/\xn enc C.prog fn (wj s) apart (w.forCall b i).memory i.args)/\({}:Assume).holds C.prog (lone (GR C.prog f i.args a73) [] (w.forCall b i)))(p:∀(W:A')(base:Nat)(args:Array A1)(x gs:List (DataW H))(h:List MemPlace),(∀(j:Nat)t v,fn.params[j]?=Z t->args[j]?=Z v->aA' C.prog W aYz base t v)->DataW.Whole enc C.prog fn.params.toList s.vars apart W args.toList x gs h->(a7q C.prog (fn.params.toList++s.plain.varTypes C.prog) (x++gs)).all (·<=aAA)=A0->W.ShapedOpen C.prog->X W.memory args->∃N m o w' y,Eg C.prog (N+1) (EB (Go.Conc.G (GR C.prog f args a73) []) W) #[]=(aZP o w',y)/\runN C.prog N (EB (Go.Conc.G (GR C.prog f args a73) []) W)=aYG m/\step C.prog m=aZP o w'/\a7C C.prog (λv K=>s.post enc C.prog fn apart fresh c again W args v K) m o w' y):a9r {} C os f aYz (λw args=>(s.pre enc C.prog fn [] apart w args/\X w args)/\xn enc C.prog fn (wj s) apart w args) (s.post enc C.prog fn apart fresh c again):=by refine returnsInLeavingWide_of_good own n D ?_;intro w b i _ r _ u ko _;obtain⟨_,_,_,z,A,_,_,_,_,E⟩:=u;have e:z=fn:=D3 (A.symm.trans U);subst e;obtain⟨⟨⟨x,gs,h,I,_⟩,Q⟩,AR⟩:=ko;have F:=aU2 (w':=w.forCall b i) (by rfl) I;obtain⟨N,m,o,w',y,M,h2,h3,h4⟩:=p (w.forCall b i) w.heap.size i.args x gs h E F (AR.weights I) r Q;exact⟨N,m,o,w',y,M,h2,h3,a7D h4 λv hp=>aTq hp⟩
theorem aSJ(e:Looks){p:Pinned}{s:OpenSpec}{c:OpenClaim}(kinds:List LaidKind)(x:Bool)(LD:Bool×String)(b:Bool)(hc:c.holds p s)(N:c.wfByText s=A0)(m:c.laidByTextAt e p kinds x)(M:c.start=.entering)(K:c.noBlocks=A5/\c.again=A5)(I:p.checked.prog.mainIs=Z (LD.1,LD.2.toList))(hn:(!LD.1&&LD.2.isEmpty&&!b)=A5)(H:∀f y,p.checked.prog.funcNamed c.func=Z f->p.checked.prog.funcs[f]?=Z y->b=p.checked.prog.looks []/\∀(j:Nat)t,y.params[j]?=Z t->p.checked.prog.wantsStandIn t=A5)(C:A0=c.goesBy p.checked.prog):Claim7.holds p (.plain s) {stood:={row:=c,standIns:=[],harness:=LD,looks:=b},kinds:=[],alts:=[],goes:=A0,laidByText:=A0,laidKinds:=kinds,laidTests:=x,laidLooks:=e}:=by
 have z:∀r:OpenClaim,a7B {stood:={row:=r,standIns:=[],harness:=LD,looks:=b},kinds:=[]}=A5:=λr=>by simpa[a7B]using hn
 exact⟨Claim7.tied_new_at e kinds x (Claim7.new_of_sixth hc LD b M K I (z c) H) N,(λD A=>by cases A),m,(λh=>by cases h),C⟩
theorem aPc{enc:A_×A1->H}{W:A'}{a0:Option Aa}{n c fuel:Nat}{x:DataW H×List MemPlace}(K:DataW.trod enc A4 W 0 (λ_=>A0) A0 fuel 33 (As a0 n c).cells.toList=Z x)(N:∀D e,x.1=.slice D e->D.length<=4611686018427387904):Nz W W.heap.size (As a0 n c) n/\n<=4611686018427387904:=by
 rcases open_ints xH Tryz.underlying3 aDT K with⟨f,_⟩|⟨a,U,r,C,f,_,A9,M,Q,hx,p,z⟩;·simp[de]at f;obtain⟨rfl,rfl,rfl⟩:=f;exact⟨⟨J,0,rfl,AA rfl⟩,by omega⟩
 ·simp[de]at f;obtain⟨rfl,rfl,rfl⟩:=f;simp only[if_true]at Q;have I:n<=4611686018427387904:=by
   have t:=N _ _ (by rw[hx]);have u:(lits (H:=H) Po (C.take n)).length=n:=by simp[lits];omega
   omega
  refine⟨⟨Z a,c,rfl,?_⟩,I⟩;by_cases hn:n=0;·exact AA hn
  ·obtain⟨b,A,m⟩:=a;have y:m=J:=by simpa[Addr.add]using World.cell?_spot (p 0 (by omega))
   subst y;refine AF ⟨b,A,rfl,?_,λj E=>?_⟩;·have h4:b<W.heap.size:=Ff (h:=p 0 (by omega));omega
   ·have s:j<C.length:=by omega
    have hc:=p j s;rw[add_plain]at hc;have hb:=bounds_i64 (z (C.getD j 0) (by rw[List.getD_eq_getElem?_getD,List.getElem?_eq_getElem s];exact EC s));exact⟨_,hc,hb.1,hb.2⟩
theorem aKR(os:Os)(hF:os.Started)(H:Type)(enc:A_×A1->H):a9r {} wq os 7 aYz (λw f=>(iZ.pre enc A4 Nk [] A5 w f/\xa A4 RG.laid w)/\xn enc A4 Nk (wj iZ) A5 w f) (iZ.post enc A4 Nk A5 A0 A5 A5):=by
 refine aTd (C:=wq) (X:=λw _=>xa A4 RG.laid w) own hF aU (aTr (enc:=enc) (C:=wq) (os:=os) (X:=λw _=>xa A4 RG.laid w) A5 (World.laidAll A4 os RG.laid) #[As J 0 0] 8 (World.laidAll_os _ _ _) (World.shaped_of_ZipB (by kernel_rfl) (by kernel_rfl)) (by kernel_rfl) (by kernel_rfl) (by kernel_rfl) (by rw[a86 _ _ _ (by kernel_rfl)];exact laidMet_laidAll _ (by kernel_rfl) (by kernel_rfl))) ?_;intro W y f r gs D c u I E LC;have F:∀(j:Nat)t v,Nk.params[j]?=Z t->f[j]?=Z v->aA' A4 W aYz y t v:=c;have Q:=u;obtain⟨p,q,P,HQ,rfl,_,_⟩:=u;have S:DataW.TrodAll enc A4 W 0 (λ_=>A0) A0 Nk.params.toList f.toList r p:=P;have I:(a7q A4 (Nk.params.toList++iZ.plain.varTypes A4) (r++gs)).all (·<=aAA)=A0:=I;rw[a92]at S F I;obtain⟨aUi⟩:=f;obtain⟨v0,aXA,BU,aUp,K,J8,JN,rfl,rfl,AV,r0⟩:=trodAll_cons S;obtain⟨rfl,rfl,rfl⟩:=trodAll_nil r0;simp only at JN;subst JN;obtain⟨rfl,rfl⟩:=trodVars_none HQ;obtain⟨a0,Ho,c0,rfl⟩:=okWide_slice xH (F 0 33 v0 rfl rfl);have M:=AV;obtain⟨aUt,NC⟩:=AV;clear P;obtain⟨m,hm⟩:=Tryz.aKL.s1_3 W E;simp only[pU]at Q;have z:∀x∈K,x.block<W.heap.size:=λx hx=>Q.lt x (by simp[hx]);have QR:=aPc NC λjx s e=>by
  have e:BU=.slice jx s:=e;have bQ:A4.bytesOf 3=8:=by kernel_rfl
  have:=sized_slice (j:=0) (e:=3) I rfl (by rw[e];rfl) xH;rw[bQ]at this;have aUx:=reachBytes_lt;omega
 have n:laidMet A4 RG.laid W.memory:=by rw[<-a86 _ _ _ (by kernel_rfl)];exact LC
 obtain⟨N,A,o,w',Bd,e1,e2,DF,EX⟩:=Twin.aKZ Ho c0 a0 m W QR.2 QR.1 (aFw E) hm (show W.cell? ⟨5,15,J⟩=Z (IS aYL 4)from aS0 (W:=W.memory) n);refine⟨N,A,o,w',Bd,e1,e2,DF,a7D EX λv hv=>?_⟩;obtain⟨rfl,S7,NJ,hs,U⟩:=hv;have F0:∀x∈K,W.sameAt w' x:=λx hx=>by have hx:=z x hx;cases x with|cell b o=>exact F4 (w:=W) (U b hx)|map b=>exact U b hx
 have Jt:DataW.Trod enc A4 w' 0 (λb=>Bn (b<W.heap.size)) A0 33 (As a0 Ho c0) BU K:=aUR laidOut (by kernel_rfl) (of_decide_eq_true (by kernel_rfl)) M F0 (λx hx=>by simpa using z x hx);refine⟨_,_,_,[],K++[],[],Q,trodAll_mk1 (shut_bool Tryz.underlying4 _),trodAll_cons_mk Jt trodAll_mk0,rfl,?_,λh=>by cases h⟩;refine⟨S7,NJ,λi hi=>?_⟩;rw[U i hi];split<;>simp_all
theorem aKW:Rows.LeastSaid:=aU6 7 Nk rfl rfl rfl rfl rfl rfl rfl ⟨rfl,rfl,rfl,rfl,rfl⟩ rfl rfl rfl rfl rfl (by kernel_rfl) aU aKP (of_decide_eq_true (by kernel_rfl)) (by unfold Func.isWrapper;first|(rw[if_pos (by decide+kernel)];kernel_rfl)|(rw[if_neg (by decide+kernel)];exact⟨rfl,rfl⟩)) λe f H b _=>aKR e f H b
theorem least_card:Rows.LeastCardSaid:=aSJ .later _ _ _ _ aKW (by as_aux_lemma=>kernel_rfl) least_row_tie rfl ⟨rfl,rfl⟩ (by as_aux_lemma=>kernel_rfl) rfl (λf e m p=>by
 obtain rfl:f=7:=D3 ((show A4.funcNamed Nk.name=Z 7 from by as_aux_lemma=>kernel_rfl).symm.trans m)|>.symm;obtain rfl:e=Nk:=(D3 (aU.symm.trans p)).symm;exact⟨by as_aux_lemma=>kernel_rfl,λj t b=>by
  rw[a92]at b;have s:t∈[33]:=by simpa using Array.mem_of_getElem? b
  have h:([33].all λu=>!A4.wantsStandIn u)=A0:=(by as_aux_lemma=>kernel_rfl);exact show A4.wantsStandIn t=A5 by simpa using List.all_eq_true.1 h t s⟩) (by as_aux_lemma=>kernel_rfl)
end
end Go.Proofs.YtcfhleenecfghaaGreatDoor
