import Derived.Laws.IdiomRangeMap
import Derived.Laws.Rows
import Derived.Lib.Split
import Derived.Lib.Bytealg
import Derived.Lib.IndexBytes
import Derived.Lib.Strings
import Derived.Lib.FieldsP
import Derived.Lib.TrimUEq
import Derived.Lib.Small
import Derived.Laws.AppendOwn
import Derived.Test.YtcfhleenecfghaaGreatDoorProg
import Derived.WalkKit
import Derived.WalkSpells
import Derived.WalkLawsBesides
import Derived.Deep.QuietTactic
import Derived.BigQuiet
set_option linter.all false
set_option maxHeartbeats 4000000
set_option maxRecDepth 100000
open Array renaming size_append->hY
open Bool renaming and_eq_false_iff->a6q,and_eq_true->IP,and_true->nK,eq_iff_iff->U3,false->A5,false_eq_true->EU,false_or->a6s,not_eq_true'->aC,not_true->Sg,true->A0
open ByteArray renaming empty->BS
open Decidable renaming decide->Bn
open Go renaming Calls->AZ,TypeId->A_,Value->A1,World->A',grownCap->aX,heap_alloc_new->No,maxLen->BK,setRow_heap->aAE
open Go.Builtin renaming append_->U9,zeroCells->UA
open Go.ByteArray renaming toList_eq->Vg
open Go.Ending renaming returned->hq
open Go.Lib renaming closeSpans->wb,compareBytes->Hg,compareInt->UG,count->a8',count_hit->a81,cut->Ge,decodeN->Sp,decode_N->a83,goFieldsP->Sq,hasPrefix->Vm,index->Ni,indexByte_none->o9,indexByte_some->oA,index_one->Xm,index_spec->iH,spansFromP->Sr,splitK->wi,toList_data->Xo,trimPrefix->RA
open Go.Obj renaming cells->BE
open Go.Proofs.Tryz renaming prog->A4
open Go.RowKit renaming Hid->AP,intOf->L_
open Go.Utf8 renaming decode->Su
open Go.Value renaming bool->aY5,int->IS,ownBlock->Sv,slice->As,string->AI
open LawfulBEq renaming eq_of_beq->jG
open List renaming all_append->jH,all_eq_false->jI,all_eq_true->YI,append_assoc->YJ,cons_append->ML,drop_drop->aBN,drop_eq_getElem_cons->pV,drop_eq_nil_of_le->pW,drop_length->yN,flatMap_cons->pX,getD_eq_getElem?_getD->jK,getElem?_eq_getElem->Ld,getElem_drop->aBW,getElem_mem->EC,isEmpty_eq_false_iff->aBY,isPrefixOf->p_,length_append->HN,length_cons->Jg,length_drop->aj,length_pos_iff->aBZ,length_take->W1,map_append->YK,map_cons->GU,map_map->W2,map_nil->K8,mem_cons->Hw,mem_cons_of_mem->I8,mem_cons_self->N',mem_of_mem_tail->aBb,nil_append->YL,nodup_cons->aBf,not_mem_nil->H8,size_toArray->Kd,tail_cons->aBj,take_append_drop->aBk,take_left->aBl,take_of_length_le->e6,take_succ_eq_append_getElem->UU,toList_toArray->al
open Nat renaming add_mul->yV,le_refl->AX,zero_add->Oq,zero_le->JJ
open Option renaming none->J,some->Z
open Or renaming inl->AA,inr->AF
open UInt8 renaming ofNat->Ub
namespace Go.Proofs.YtcfhleenecfghaaGreatDoor
variable{s v:ByteArray}{kw:Int}{fs ws:List ByteArray}{l p x:List UInt8}{M n pos q t:Nat}{d8:Type}{b c:UInt8}
namespace V
def Tc(b:UInt8):Bool:=Bn (48<=b.toNat)&&Bn (b.toNat<=57)
def isLet(b:UInt8):Bool:=Bn (97<=b.toNat)&&Bn (b.toNat<=122)||Bn (65<=b.toNat)&&Bn (b.toNat<=90)
def digits(l:List UInt8):Bool:=l.all Tc&&!l.isEmpty
def number(l:List UInt8):Bool:=digits l&&(l==[48]||l.head? !=Z 48)
def M0(b:UInt8):Bool:=Tc b||isLet b||b==45
def mark(l:List UInt8):Bool:=if digits l then number l else l.all M0&&!l.isEmpty
def pieces(c:UInt8):List UInt8->List (List UInt8)|[]=>[[]]|b::r=>if b==c then[]::pieces c r else(b::(pieces c r).headD [])::(pieces c r).tail
def parts(s:List UInt8):List (List UInt8)×List (List UInt8):=(pieces 46 (Ge (RA s [118]) [45]).1,if(Ge (RA s [118]) [45]).2.2 then pieces 46 (Ge (RA s [118]) [45]).2.1 else[])
def AW(s:List UInt8):Bool:=Bn (s.length<=40)&&(Vm s [118]&&((parts s).1.length==3&&(parts s).1.all number&&(parts s).2.all mark))
def G'(a b:Nat):Int:=if a<b then-1 else if b<a then 1 else 0
def KD(a b:List UInt8):Int:=if G' a.length b.length !=0 then G' a.length b.length else Hg a b
def N8(a b:List UInt8):Int:=if digits a then if digits b then KD a b else-1 else if digits b then 1 else Hg a b
def lex(f:List UInt8->List UInt8->Int):List (List UInt8)->List (List UInt8)->Int|[],[]=>0|[],_::_=>-1|_::_,[]=>1|a::az,b::AL=>if f a b !=0 then f a b else lex f az AL
def order(a b:List UInt8):Int:=if lex KD (parts a).1 (parts b).1 !=0 then lex KD (parts a).1 (parts b).1 else if(parts a).2.isEmpty||(parts b).2.isEmpty then G' (parts b).2.length (parts a).2.length else lex N8 (parts a).2 (parts b).2
theorem cH(c:UInt8)(l:List UInt8):pieces c l≠[]:=by cases l with|nil=>simp[pieces]|cons b r=>unfold pieces;split<;>simp
theorem uG(c:UInt8):∀(l:List UInt8),(∀k:Nat,l[k]?≠Z c)->pieces c l=[l]|[],_=>rfl|b::r,h=>by have f:¬(b==c)=A0:=λe=>h 0 (by simp[jG e]);have m:pieces c r=[r]:=uG c r (λk=>by have:=h (k+1);simpa using this);rw[pieces,if_neg f,m];rfl
theorem uH(c:UInt8):∀(l:List UInt8)(o:Nat),l[o]?=Z c->(∀k:Nat,k<o->l[k]?≠Z c)->pieces c l=l.take o::pieces c (l.drop (o+1))
 |[],o,h,_=>by simp at h
 |b::r,0,h,_=>by
  have f:(b==c)=A0:=by simpa using h
  rw[pieces,if_pos f];simp
 |b::r,o+1,h,hk=>by have f:¬(b==c)=A0:=λe=>hk 0 (by omega) (by simp[jG e]);have m:=uH c r o (by simpa using h) (λk hlt=>by have:=hk (k+1) (by omega);simpa using this);rw[pieces,if_neg f,m];simp
theorem a5k(c:UInt8):∀(n:Nat)(l:List UInt8),a8' l [c]<=n->wi [c] 0 n l=pieces c l
 |0,l,h=>by
  have hi:Ni l [c]=-1:=by
   rcases iH l [c]with⟨b,_⟩|⟨i,b,_⟩;·exact b
   ·have:=a81 (sub:=[c]) (by simp) b;omega
  rw[Xm]at hi;rw[uG c l (o9 hi)];rfl
 |n+1,l,h=>by
  rcases iH l [c]with⟨b,_⟩|⟨i,b,_⟩;·have hi:=b;rw[Xm]at hi;rw[uG c l (o9 hi)];unfold wi;rw[if_pos (beq_iff_eq.2 b)]
  ·have hi:=b;rw[Xm]at hi;obtain⟨s,f⟩:=oA hi;have hc:=a81 (sub:=[c]) (by simp) b;have p:¬(Ni l [c]==-1)=A0:=λe=>by have:=beq_iff_eq.1 e;omega
   have e:(Ni l [c]).toNat=i:=by omega
   rw[uH c l i s f];unfold wi;rw[if_neg p,e];have m:([c]:List UInt8).length=1:=rfl;rw[m]at hc⊢;rw[a5k c n _ (by omega)];simp
theorem uz(s b:ByteArray)(c:UInt8)(h:b.data.toList=[c]):(Lib.splitB b 0 (Lib.countB s b) s).map (·.data.toList)=pieces c s.data.toList:=by rw[Lib.splitB_data,h];exact a5k c _ _ (by show a8' _ b.data.toList≥_;rw[h];exact AX _)
theorem aEO(l:List UInt8)(k:Nat)(h:k<l.length)(b:Tc l[k]=A5):digits l=A5:=by
 unfold digits;have:l.all Tc=A5:=by rw[jI];exact⟨l[k],EC h,by simp[b]⟩
 rw[this];rfl
theorem aEN(h:digits l=A0):l≠[]:=by intro e;subst e;simp[digits]at h
def has(l:List UInt8)(c:UInt8):Bool:=l.contains c
def only(l e:List UInt8):Bool:=l.all (λb=>has e b)&&!l.isEmpty
def marks:List UInt8:=[48,49,50,51,52,53,54,55,56,57,97,98,99,100,101,102,103,104,105,106,107,108,109,110,111,112,113,114,115,116,117,118,119,120,121,122,65,66,67,68,69,70,71,72,73,74,75,76,77,78,79,80,81,82,83,84,85,86,87,88,89,90,45]
theorem zJ{p q:UInt8->Bool}(h:∀n:Fin 256,p (Ub n.val)=q (Ub n.val))(b:UInt8):p b=q b:=by have:=h ⟨b.toNat,b.toNat_lt⟩;simpa using this
theorem getD_at(l:List d8)(d:d8){k:Nat}(h:k<l.length):l.getD k d=l[k]:=by rw[jK,Ld h];rfl
def N6(p:List UInt8->Bool)(b:List ByteArray):Bool:=b.all λx=>p x.data.toList
theorem yr(p:List UInt8->Bool)(b:List ByteArray)(k:Nat)(h:k<b.length)(e:N6 p (b.take k)=A0)(h2:p (b.getD k BS).data.toList=A0):N6 p (b.take (k+1))=A0:=by unfold N6 at*;rw[UU h,jH,e];rw[getD_at _ _ h]at h2;simp[h2]
theorem yq(p:List UInt8->Bool)(b:List ByteArray)(k:Nat)(h:k<b.length)(h2:p (b.getD k BS).data.toList=A5):N6 p b=A5:=by unfold N6;rw[getD_at _ _ h]at h2;rw[jI];exact⟨b[k],EC h,by rw[h2];simp⟩
theorem yp(p:List UInt8->Bool)(b:List ByteArray):N6 p b=(b.map (·.data.toList)).all p:=by unfold N6;rw[List.all_map];rfl
def lexB(f:List UInt8->List UInt8->Int)(b e:List ByteArray):Int:=lex f (b.map (·.data.toList)) (e.map (·.data.toList))
theorem drop_at(l:List d8)(k:Nat)(h:k<l.length):l.drop k=l[k]::l.drop (k+1):=pV h
theorem a2P(f:List UInt8->List UInt8->Int)(b e:List ByteArray)(k:Nat)(m:k<b.length)(h2:k<e.length)(h:(f (b.getD k BS).data.toList (e.getD k BS).data.toList !=0)=A5):lexB f (b.drop k) (e.drop k)=lexB f (b.drop (k+1)) (e.drop (k+1)):=by rw[getD_at _ _ m,getD_at _ _ h2]at h;unfold lexB;rw[drop_at b k m,drop_at e k h2,GU,GU,lex,if_neg (by rw[h];simp)]
theorem a2L(f:List UInt8->List UInt8->Int)(b e:List ByteArray)(k:Nat)(m:k<b.length)(h2:k<e.length)(h:(f (b.getD k BS).data.toList (e.getD k BS).data.toList !=0)=A0):lexB f (b.drop k) (e.drop k)=f (b.getD k BS).data.toList (e.getD k BS).data.toList:=by rw[getD_at _ _ m,getD_at _ _ h2]at h;rw[getD_at _ _ m,getD_at _ _ h2];unfold lexB;rw[drop_at b k m,drop_at e k h2,GU,GU,lex,if_pos h]
theorem a2N(f:List UInt8->List UInt8->Int)(b e:List ByteArray)(k:Nat)(h:k<b.length)(h2:e.length<=k):lexB f (b.drop k) (e.drop k)=1:=by unfold lexB;rw[drop_at b k h,pW h2];rfl
theorem a2M(f:List UInt8->List UInt8->Int)(e b:List ByteArray)(k:Nat)(h:e.length<=k)(h2:k<b.length):lexB f (e.drop k) (b.drop k)=-1:=by unfold lexB;rw[drop_at b k h2,pW h];rfl
theorem a2O(f:List UInt8->List UInt8->Int)(b e:List ByteArray)(k:Nat)(h:b.length<=k)(h2:e.length<=k):lexB f (b.drop k) (e.drop k)=0:=by unfold lexB;rw[pW h,pW h2];rfl
theorem gu(c:UInt8):∀(l:List UInt8),∀q∈pieces c l,q.length<=l.length
 |[],q,h=>by simp[pieces]at h;subst h;simp
 |b::r,q,h=>by
  have e:=gu c r;rw[pieces]at h;split at h
  ·rcases List.mem_cons.1 h with h|h;·subst h;simp
   ·have:=e q h;simp;omega
  ·rcases List.mem_cons.1 h with h|h;·subst h;have m:=cH c r;cases f:pieces c r with|nil=>exact absurd f m|cons x p=>have:=e x (by rw[f];simp);simp;omega
   ·have:=e q (aBb h);simp;omega
theorem aSn{t:ByteArray}(h:t.data.toList=RA s.data.toList p)(hs:s.size<=n):t.size<=n:=by
 have e1:t.data.toList.length=t.size:=by simp
 have e2:s.data.toList.length=s.size:=by simp
 rw[<-e1,h];unfold RA;split;·rw[aj];omega
 ·omega
theorem qL{t x y:ByteArray}(hx:x.data.toList=(Ge t.data.toList p).1)(hy:y.data.toList=(Ge t.data.toList p).2.1)(hs:t.size<=n):x.size<=n/\y.size<=n:=by
 have e1:x.data.toList.length=x.size:=by simp
 have e2:y.data.toList.length=y.size:=by simp
 have b:t.data.toList.length=t.size:=by simp
 rw[<-e1,<-e2,hx,hy];unfold Ge;split
 ·constructor;·have:=List.length_take_le (Ni t.data.toList p).toNat t.data.toList;simp only[W1];omega
  ·simp only[aj];omega
 ·simp only[List.length_nil];omega
theorem aED(h:∀j:Nat,l[j]?≠Z c):Ge l [c]=(l,[],A5):=by
 rcases iH l [c]with⟨b,_⟩|⟨i,b,_⟩;·unfold Ge;rw[b,if_neg (by omega)]
 ·rw[Xm]at b;exact absurd (oA b).1 (h i)
theorem aEE{o:Nat}(h:l[o]?=Z c)(s:∀j:Nat,j<o->l[j]?≠Z c):Ge l [c]=(l.take o,l.drop (o+1),A0):=by
 rcases iH l [c]with⟨b,_⟩|⟨i,b,_⟩;·rw[Xm]at b;exact absurd h (o9 b o)
 ·have h2:=b;rw[Xm]at h2;obtain⟨f,m⟩:=oA h2;have e:i=o:=by
   rcases Nat.lt_trichotomy i o with hlt|he|p;·exact absurd f (s i hlt)
   ·exact he
   ·exact absurd h (m o p)
  subst e;unfold Ge;rw[b,if_pos (by omega)];simp
theorem aSo(h:l.head?=Z 118):RA l [118]=l.drop 1:=by
 cases l with
 |nil=>cases h
 |cons a r=>
  have e:a=118:=by simpa using h
  subst e;simp[RA,Vm]
theorem aOP:Vm l [118]=(l.head?==Z 118):=by cases l with|nil=>rfl|cons a r=>rw[U3];simp[Vm];exact eq_comm
theorem aT3(h:(l.head?==Z 118)=A5):AW l=A5:=by unfold AW;rw[aOP,h];simp
theorem vK(h:40<l.length):AW l=A5:=by unfold AW;rw[decide_eq_false (by omega)];rfl
def Hx{d8:Type}(f:d8->d8->Int):Prop:=(∀x y,f x y=-1∨f x y=0∨f x y=1)/\(∀x y,f y x=-f x y)/\∀x y z,f x y<=0->f y z<=0->f x z<=0
def Good{d8:Type}(f:d8->d8->Int):Prop:=Hx f/\∀x y,f x y=0->x=y
def JV{d8:Type}(f g:d8->d8->Int)(x y:d8):Int:=if f x y !=0 then f x y else g x y
theorem Hx.refl{f:d8->d8->Int}(h:Hx f)(x:d8):f x x=0:=by have:=h.2.1 x x;omega
theorem Hx.back{a:Type}{f:d8->d8->Int}(h:Hx f)(p:a->d8):Hx λx y=>f (p x) (p y):=⟨λ_ _=>h.1 _ _,λ_ _=>h.2.1 _ _,λ_ _ _=>h.2.2 _ _ _⟩
theorem Sa(f g:d8->d8->Int)(x y:d8):f x y≠0/\JV f g x y=f x y∨f x y=0/\JV f g x y=g x y:=by
 unfold JV;by_cases h:f x y=0;·exact AF ⟨h,by rw[h];rfl⟩
 ·exact AA ⟨h,by rw[if_pos (bne_iff_ne.2 h)]⟩
theorem Hx.then{f g:d8->d8->Int}(AE:Hx f)(AB:Hx g):Hx (JV f g):=by
 refine⟨λx y=>?_,λx y=>?_,λx y z H h2=>?_⟩
 ·rcases Sa f g x y with⟨_,e⟩|⟨_,e⟩<;>rw[e];·exact AE.1 x y
  ·exact AB.1 x y
 ·have a:=AE.2.1 x y;rcases Sa f g x y with⟨h,e⟩|⟨h,e⟩<;>rcases Sa f g y x with⟨b,m⟩|⟨b,m⟩<;>rw[e,m];·exact a
  ·omega
  ·omega
  ·exact AB.2.1 x y
 ·have p:f x y<=0:=by rcases Sa f g x y with⟨h,e⟩|⟨h,e⟩<;>omega
  have s:f y z<=0:=by rcases Sa f g y z with⟨h,e⟩|⟨h,e⟩<;>omega
  have D:=AE.2.2 x y z p s;rcases Sa f g x z with⟨h,e⟩|⟨h,e⟩;·omega
  ·have I:=AE.2.1 x z;have K:=AE.2.2 z x y (by omega) p;have M:=AE.2.1 z y;have C:f y z=0:=by omega
   have N:=AE.2.2 y z x s (by omega);have Q:=AE.2.1 y x;have A:f x y=0:=by omega
   rcases Sa f g x y with⟨b,_⟩|⟨_,e1⟩;·exact absurd A b
   rcases Sa f g y z with⟨b,_⟩|⟨_,e2⟩;·exact absurd C b
   rw[e];exact AB.2.2 x y z (by omega) (by omega)
theorem Good.then{d8:Type}{f g:d8->d8->Int}(b:Hx f)(AB:Good g):Good (JV f g):=⟨b.then AB.1,λx y h=>by
 rcases Sa f g x y with⟨m,e⟩|⟨_,e⟩;·omega
 ·exact AB.2 x y (by omega)⟩
theorem Ye:Hx G':=by
 refine⟨λx y=>?_,λx y=>?_,λx y z=>?_⟩
 ·unfold G';split;·exact AA rfl
  ·split;·exact AF (AF rfl)
   ·exact AF (AA rfl)
 ·unfold G';by_cases e:x<y;·rw[if_neg (by omega),if_pos e,if_pos e];rfl
  ·by_cases h2:y<x;·rw[if_pos h2,if_neg e,if_pos h2]
   ·rw[if_neg h2,if_neg e,if_neg e,if_neg h2];rfl
 ·unfold G';intro e h2;have a:x<=y:=by
   by_cases h:y<x;·rw[if_neg (by omega),if_pos h]at e;omega
   ·omega
  have b:y<=z:=by
   by_cases h:z<y;·rw[if_neg (by omega),if_pos h]at h2;omega
   ·omega
  by_cases h:x<z;·rw[if_pos h];omega
  ·rw[if_neg h,if_neg (by omega)];omega
theorem aDq:Good G':=⟨Ye,λx y h=>by
 unfold G' at h;by_cases b:x<y;·rw[if_pos b]at h;omega
 ·by_cases h2:y<x;·rw[if_neg b,if_pos h2]at h;omega
  ·omega⟩
def HG{d8:Type}(f:d8->d8->Int):List d8->List d8->Int|[],[]=>0|[],_::_=>-1|_::_,[]=>1|a::az,b::AL=>if f a b !=0 then f a b else HG f az AL
theorem VG(f:d8->d8->Int)(a b:d8)(az e:List d8):f a b≠0/\HG f (a::az) (b::e)=f a b∨f a b=0/\HG f (a::az) (b::e)=HG f az e:=by
 by_cases h:f a b=0;·exact AF ⟨h,by rw[HG,h];rfl⟩
 ·exact AA ⟨h,by rw[HG,if_pos (bne_iff_ne.2 h)]⟩
theorem a2Q{f:d8->d8->Int}(AE:Good f):Good (HG f):=by
 have r:∀x:List d8,∀y,HG f x y=-1∨HG f x y=0∨HG f x y=1:=by
  intro x;induction x with
  |nil=>intro y;cases y<;>simp[HG]
  |cons a p C=>
   intro y;cases y with
   |nil=>simp[HG]
   |cons b m=>
    rcases VG f a b p m with⟨_,e⟩|⟨_,e⟩<;>rw[e];·exact AE.1.1 a b
    ·exact C m
 have s:∀x:List d8,∀y,HG f y x=-HG f x y:=by
  intro x;induction x with
  |nil=>intro y;cases y<;>simp[HG]
  |cons a p C=>
   intro y;cases y with
   |nil=>simp[HG]
   |cons b m=>
    have q:=AE.1.2.1 a b;rcases VG f a b p m with⟨h,e⟩|⟨h,e⟩<;>rcases VG f b a m p with⟨A,D⟩|⟨A,D⟩<;>rw[e,D];·exact q
    ·omega
    ·omega
    ·exact C m
 have t:∀x:List d8,∀y z,HG f x y<=0->HG f y z<=0->HG f x z<=0:=by
  intro x;induction x with
  |nil=>intro y z _ _;cases z<;>simp[HG]
  |cons a p C=>
   intro y z K h2;cases y with
   |nil=>simp[HG]at K
   |cons b m=>
    cases z with
    |nil=>simp[HG]at h2
    |cons c cs=>
     have H:f a b<=0:=by rcases VG f a b p m with⟨h,e⟩|⟨h,e⟩<;>omega
     have I:f b c<=0:=by rcases VG f b c m cs with⟨h,e⟩|⟨h,e⟩<;>omega
     have Q:=AE.1.2.2 a b c H I;rcases VG f a c p cs with⟨h,e⟩|⟨h,e⟩;·omega
     ·have U:=AE.1.2.1 a c;have r2:=AE.1.2.2 c a b (by omega) H;have d:=AE.1.2.1 c b;have N:f b c=0:=by omega
      have g:=AE.1.2.2 b c a I (by omega);have i:=AE.1.2.1 b a;have M:f a b=0:=by omega
      rcases VG f a b p m with⟨A,_⟩|⟨_,e1⟩;·exact absurd M A
      rcases VG f b c m cs with⟨A,_⟩|⟨_,e2⟩;·exact absurd N A
      rw[e];exact C m cs (by omega) (by omega)
 refine⟨⟨r,s,t⟩,?_⟩;intro x;induction x with
 |nil=>intro y h;cases y<;>simp[HG]at h⊢
 |cons a p C=>
  intro y h;cases y with
  |nil=>simp[HG]at h
  |cons b m=>
   rcases VG f a b p m with⟨A,e⟩|⟨A,e⟩;·omega
   ·rw[AE.2 a b A,C m (by omega)]
def jh(a b:UInt8):Int:=G' a.toNat b.toNat
theorem aDp:Good jh:=⟨Ye.back _,λ_ _ h=>UInt8.toNat_inj.1 (aDq.2 _ _ h)⟩
theorem zm:∀(x y:List UInt8),Hg x y=HG jh x y
 |[],[]=>rfl
 |[],_::_=>rfl
 |_::_,[]=>rfl
 |a::az,b::AL=>by
  have p:=zm az AL;rw[Hg,HG,p];unfold jh G';by_cases e:a<b;·have f:a.toNat<b.toNat:=UInt8.lt_iff_toNat_lt.1 e;rw[if_pos e,if_pos f];rfl
  ·have f:¬a.toNat<b.toNat:=λh=>e (UInt8.lt_iff_toNat_lt.2 h);by_cases h2:b<a;·have m:b.toNat<a.toNat:=UInt8.lt_iff_toNat_lt.1 h2;rw[if_neg e,if_pos h2,if_neg f,if_pos m];rfl
   ·have m:¬b.toNat<a.toNat:=λh=>h2 (UInt8.lt_iff_toNat_lt.2 h);rw[if_neg e,if_neg h2,if_neg f,if_neg m];rfl
theorem ji:Good Hg:=by rw[show Hg=HG jh from funext λx=>funext λy=>zm x y];exact a2Q aDp
theorem zi:Good KD:=Good.then (Ye.back List.length) ji
theorem aDs(a b:List UInt8):N8 a b=JV (λx y=>G' (if digits x then 0 else 1) (if digits y then 0 else 1)) (JV (λx y=>G' (if digits x then x.length else 0) (if digits y then y.length else 0)) Hg) a b:=by unfold N8 JV;cases e:digits a<;>cases h2:digits b<;>simp[G',KD,e,h2]
theorem zh:Good N8:=by rw[show N8=JV _ (JV _ Hg)from funext λx=>funext λy=>aDs x y];exact Good.then (Ye.back λx:List UInt8=>if digits x then 0 else 1) (Good.then (Ye.back λx:List UInt8=>if digits x then x.length else 0) ji)
theorem a2R(f:List UInt8->List UInt8->Int):∀(x y:List (List UInt8)),lex f x y=HG f x y|[],[]=>rfl|[],_::_=>rfl|_::_,[]=>rfl|a::az,b::AL=>by rw[lex,HG,a2R f az AL]
theorem lZ{f:List UInt8->List UInt8->Int}(h:Good f):Good (lex f):=by rw[show lex f=HG f from funext λx=>funext λy=>a2R f x y];exact a2Q h
def mK(x y:List (List UInt8)×List (List UInt8)):Int:=JV (λx y=>lex KD x.1 y.1) (JV (λx y=>G' (if x.2.isEmpty then 1 else 0) (if y.2.isEmpty then 1 else 0)) λx y=>lex N8 x.2 y.2) x y
theorem gq(a b:List UInt8):order a b=mK (parts a) (parts b):=by
 unfold order mK JV;generalize parts a=x;generalize parts b=y;obtain⟨m,f⟩:=x;obtain⟨p,e⟩:=y;cases f with
 |nil=>
  cases e with
  |nil=>simp[G',lex]
  |cons c cs=>simp[G']
 |cons d h=>
  cases e with
  |nil=>simp[G']
  |cons c cs=>simp[G']
theorem mL:Good mK:=by
 refine⟨Hx.then ((lZ zi).1.back λx:List (List UInt8)×List (List UInt8)=>x.1) (Hx.then (Ye.back λx:List (List UInt8)×List (List UInt8)=>if x.2.isEmpty then 1 else 0) ((lZ zh).1.back λx:List (List UInt8)×List (List UInt8)=>x.2)),?_⟩;intro x y b;unfold mK at b;rcases Sa (λx y:List (List UInt8)×List (List UInt8)=>lex KD x.1 y.1) (JV (λx y=>G' (if x.2.isEmpty then 1 else 0) (if y.2.isEmpty then 1 else 0)) λx y=>lex N8 x.2 y.2) x y with⟨f,e⟩|⟨f,e⟩;·exact absurd (e.symm.trans b) f
 ·have e1:=(lZ zi).2 _ _ f;rw[e]at b;rcases Sa (λx y:List (List UInt8)×List (List UInt8)=>G' (if x.2.isEmpty then 1 else 0) (if y.2.isEmpty then 1 else 0)) (λx y=>lex N8 x.2 y.2) x y with⟨h2,e2⟩|⟨_,e2⟩;·exact absurd (e2.symm.trans b) h2
  ·have h:=(lZ zh).2 _ _ (e2.symm.trans b);exact Prod.ext e1 h
def join(c:UInt8):List (List UInt8)->List UInt8|[]=>[]|[a]=>a|a::b::r=>a++c::join c (b::r)
theorem lE(c:UInt8):∀(l:List UInt8),join c (pieces c l)=l
 |[]=>rfl
 |b::r=>by
  have e:=lE c r;have p:=cH c r;rw[pieces];cases m:pieces c r with
  |nil=>exact absurd m p
  |cons q f=>
   rw[m]at e;by_cases h:b=c;·subst h;rw[if_pos (beq_self_eq_true b)];show join b ([]::q::f)=b::r;rw[join,e];rfl
   ·rw[if_neg (by simpa using h)];show join c ((b::q)::f)=b::r;cases f with|nil=>rw[join]at e⊢;rw[e]|cons s f=>rw[join]at e⊢;rw[<-e];rfl
theorem aEC(l:List UInt8)(c:UInt8):l=(Ge l [c]).1++if(Ge l [c]).2.2 then c::(Ge l [c]).2.1 else[]:=by
 rcases iH l [c]with⟨b,_⟩|⟨i,b,_⟩;·rw[Xm]at b;rw[aED (o9 b)];simp
 ·rw[Xm]at b;obtain⟨e,f⟩:=oA b;rw[aEE e f];have hi:i<l.length:=(List.getElem?_eq_some_iff.1 e).1;have he:l[i]=c:=(List.getElem?_eq_some_iff.1 e).2;show l=l.take i++c::l.drop (i+1);rw[<-he,<-pV hi,aBk]
theorem a6H(h:AW l=A0):l.head?=Z 118:=by
 cases b:l.head?==Z 118;·rw[aT3 b]at h;cases h
 ·exact jG b
theorem aT2(h:AW l=A0):l=118::(join 46 (parts l).1++if(parts l).2=[]then[]else 45::join 46 (parts l).2):=by
 have f:=a6H h;cases l with
 |nil=>cases f
 |cons a r=>
  have e:a=118:=by simpa using f
  subst e;congr 1;unfold parts;rw[aSo f];show r=_;have m:(118::r:List UInt8).drop 1=r:=rfl;rw[m];have b:=aEC r 45;generalize Ge r [45]=t at b⊢;obtain⟨s,x,p⟩:=t;cases p;·simp[lE]at b⊢;exact b
  ·simp[lE,cH]at b⊢;exact b
theorem a4'(a b:List UInt8):order b a=-order a b:=by rw[gq,gq];exact mL.1.2.1 _ _
theorem a3y(a b c:List UInt8)(e:order a b<=0)(h2:order b c<=0):order a c<=0:=by rw[gq]at*;exact mL.1.2.2 _ _ _ e h2
theorem a3z(a b:List UInt8):order a b=-1∨order a b=0∨order a b=1:=by rw[gq];exact mL.1.1 _ _
def Jl(n:Nat):UInt8:=Ub (48+n)
def Uj:Nat->Nat->List UInt8|0,n=>[Jl n]|f+1,n=>if n<10 then[Jl n]else Uj f (n/10)++[Jl (n%10)]
theorem zx:∀(f n:Nat),1<=(Uj f n).length/\(Uj f n).length<=f+1
 |0,n=>by simp[Uj]
 |f+1,n=>by
  rw[Uj];by_cases b:n<10;·rw[if_pos b];simp
  ·rw[if_neg b];have e:=zx f (n/10);simp;omega
theorem aOD(c:UInt8)(l r:List UInt8)(h:∀k:Nat,l[k]?≠Z c):pieces c (l++c::r)=l::pieces c r:=by have b:=uH c (l++c::r) l.length (by simp) (λk e=>by rw[List.getElem?_append_left e];exact h k);rw[b];simp
def blank(b:UInt8):Bool:=b==32||b==9
def Oy(x:Nat):Bool:=x==32||x==9
def JE:List UInt8->List UInt8->List (List UInt8)|a,[]=>if a.isEmpty then[]else[a]|a,b::r=>if blank b then if a.isEmpty then JE [] r else a::JE [] r else JE (a++[b]) r
def words(l:List UInt8):List (List UInt8):=JE [] l
theorem hL:∀(x r e:List UInt8),(∀b∈x,blank b=A5)->JE e (x++r)=JE (e++x) r|[],r,e,_=>by simp|b::x,r,e,h=>by have f:=h b (by simp);rw[ML,JE,f];simp only[EU,if_false];rw[hL x r (e++[b]) λy hy=>h y (by simp[hy]),YJ];rfl
theorem aHh(h:128<=b.toNat):blank b=A5:=by
 unfold blank;have f:b≠32:=λe=>by subst e;revert h;decide
 have h2:b≠9:=λe=>by subst e;revert h;decide
 simp[f,h2]
theorem aHi{x:Nat}(h:128<=x):Oy x=A5:=by unfold Oy;simp;omega
theorem aCx(b:UInt8):Oy b.toNat=blank b:=by
 unfold Oy blank;rw[U3];simp only[Bool.or_eq_true,beq_iff_eq];constructor
 ·rintro(h|h);·exact AA (UInt8.toNat_inj.1 h)
  ·exact AF (UInt8.toNat_inj.1 h)
 ·rintro(h|h);·exact AA (by rw[h];rfl)
  ·exact AF (by rw[h];rfl)
theorem aEI(n b0 b b2 e:Nat)(h:b0<128):Sp n b0 b b2 e=(b0,1):=by unfold Sp;rw[if_pos h]
theorem aEH(n b0 b b2 e:Nat)(f:128<=b0)(hn:1<=n):128<=(Sp n b0 b b2 e).1/\1<=(Sp n b0 b b2 e).2/\(Sp n b0 b b2 e).2<=n/\(1<(Sp n b0 b b2 e).2->128<=b)/\(2<(Sp n b0 b b2 e).2->128<=b2)/\(3<(Sp n b0 b b2 e).2->128<=e)/\(Sp n b0 b b2 e).2<=4:=by
 unfold Sp;rw[if_neg (by omega)];split;·split<;>simp<;>omega
 ·split;·split<;>simp<;>omega
  ·split;·split<;>simp<;>omega
   ·simp;omega
theorem aEK(f:s.data.toList[pos]?=Z b)(h:b.toNat<128):Su s pos=(b.toNat,1):=by
 rw[a83];have e:s.data.toList.getD pos 0=b:=by rw[jK,f];rfl
 rw[e];exact aEI _ _ _ _ _ h
theorem aEJ(D:s.data.toList[pos]?=Z b)(h:128<=b.toNat):128<=(Su s pos).1/\1<=(Su s pos).2/\pos+(Su s pos).2<=s.data.toList.length/\∀y∈(s.data.toList.drop pos).take (Su s pos).2,blank y=A5:=by
 have hlt:pos<s.data.toList.length:=(List.getElem?_eq_some_iff.1 D).1;have e:s.data.toList.getD pos 0=b:=by rw[jK,D];rfl
 have H:=aEH (s.data.toList.length-pos) b.toNat (s.data.toList.getD (pos+1) 0).toNat (s.data.toList.getD (pos+2) 0).toNat (s.data.toList.getD (pos+3) 0).toNat h (by omega);rw[a83,e];generalize Sp (s.data.toList.length-pos) b.toNat (s.data.toList.getD (pos+1) 0).toNat (s.data.toList.getD (pos+2) 0).toNat (s.data.toList.getD (pos+3) 0).toNat=d at H⊢;obtain⟨M,N⟩:=d;obtain⟨p,x,I,z,A,C,m⟩:=H;simp only at p x I z A C m⊢;refine⟨p,x,by omega,λy hy=>?_⟩;obtain⟨j,f,hy⟩:=List.mem_iff_getElem.1 hy;rw[W1,aj]at f;rw[List.getElem_take,aBW]at hy;have K:s.data.toList.getD (pos+j) 0=y:=by rw[jK,Ld (by omega),hy];rfl
 rw[<-K];apply aHh;match j,f with|0,_=>rw[Nat.add_zero,e];exact h|1,f=>exact z (by omega)|2,f=>exact A (by omega)|3,f=>exact C (by omega)|j+4,f=>omega
def rest(l:List UInt8)(pos:Nat):Option Nat->List (List UInt8)|J=>JE [] (l.drop pos)|Z a=>JE ((l.drop a).take (pos-a)) (l.drop pos)
def piece(s:ByteArray)(x:Nat×Nat):List UInt8:=(s.data.toList.drop x.1).take (x.2-x.1)
theorem XP(s:ByteArray):∀(f pos:Nat)(st:Option Nat)(b:List (Nat×Nat)),s.data.toList.length<=pos+f->pos<=s.data.toList.length->(∀a,st=Z a->a<pos)->(wb s (Sr Oy s f pos st b)).map (piece s)=b.map (piece s)++rest s.data.toList pos st
 |0,pos,st,b,h1,h2,h3=>by
  have A:pos=s.data.toList.length:=by omega
  have hs:s.size=s.data.toList.length:=by simp
  cases st with
  |none=>simp only[Sr,wb,rest];rw[A,yN];simp[JE]
  |some a=>
   have H:=h3 a rfl;have I:((s.data.toList.drop a).take (pos-a)).isEmpty=A5:=by rw[aBY,<-aBZ,W1,aj];omega
   simp only[Sr,wb,YK,GU,K8,rest];rw[show s.data.toList.drop pos=[]by rw[A,yN],JE,I];simp only[EU,if_false];show b.map (piece s)++[(s.data.toList.drop a).take (s.size-a)]=_;rw[hs,<-A]
 |f+1,pos,st,b,h1,h2,h3=>by
  have hs:s.size=s.data.toList.length:=by simp
  by_cases hlt:pos<s.size
  ·have C:Sr Oy s (f+1) pos st b=if Oy (Su s pos).1 then match st with|Z a=>Sr Oy s f (pos+(Su s pos).2) J (b++[(a,pos)])|J=>Sr Oy s f (pos+(Su s pos).2) J b else match st with|Z a=>Sr Oy s f (pos+(Su s pos).2) (Z a) b|J=>Sr Oy s f (pos+(Su s pos).2) (Z pos) b:=by
    conv=>lhs;unfold Sr
    rw[if_pos hlt];cases st<;>rfl
   rw[C];clear C;have m:pos<s.data.toList.length:=by omega
   have M:s.data.toList[pos]?=Z s.data.toList[pos]:=Ld m;have z:s.data.toList.drop pos=s.data.toList[pos]::s.data.toList.drop (pos+1):=pV m;by_cases g:s.data.toList[pos].toNat<128
   ·rw[aEK M g];simp only;rw[aCx];cases y:blank s.data.toList[pos];·simp only[EU,if_false];cases st with|none=>simp only;rw[XP s f (pos+1) (Z pos) b (by omega) (by omega) λa e=>by injection e;omega];simp only[rest];rw[z,JE,y];simp|some a=>have H:=h3 a rfl;simp only;rw[XP s f (pos+1) (Z a) b (by omega) (by omega) λQ e=>by injection e;omega];simp only[rest];rw[z,JE,y];simp only[EU,if_false];congr 2;rw[show pos+1-a=pos-a+1 by omega,UU (by rw[aj];omega),aBW];congr 3;omega
    ·simp only[if_true];cases st with
     |none=>simp only;rw[XP s f (pos+1) J b (by omega) (by omega) λa e=>by cases e];simp only[rest];rw[z,JE,y];simp
     |some a=>
      have H:=h3 a rfl;have I:((s.data.toList.drop a).take (pos-a)).isEmpty=A5:=by rw[aBY,<-aBZ,W1,aj];omega
      simp only;rw[XP s f (pos+1) J (b++[(a,pos)]) (by omega) (by omega) λa e=>by cases e];simp only[rest,YK,GU,K8];rw[z,JE,y,I];simp[piece]
   ·obtain⟨D,K,p,x⟩:=aEJ M (by omega);generalize Su s pos=d at D K p x⊢;obtain⟨d1,h⟩:=d;simp only at D K p x⊢;rw[aHi D];simp only[EU,if_false];have N:s.data.toList.drop pos=(s.data.toList.drop pos).take h++s.data.toList.drop (pos+h):=by rw[<-aBN,aBk]
    cases st with
    |none=>
     simp only;rw[XP s f (pos+h) (Z pos) b (by omega) p λa e=>by injection e;omega];simp only[rest];conv=>rhs;rw[N]
     rw[hL _ _ _ x];simp
    |some a=>
     have H:=h3 a rfl;simp only;rw[XP s f (pos+h) (Z a) b (by omega) p λQ e=>by injection e;omega];simp only[rest];conv=>rhs;rw[N]
     rw[hL _ _ _ x];congr 2;rw[show pos+h-a=pos-a+h by omega,List.take_add,aBN,show a+(pos-a)=pos by omega]
  ·have C:Sr Oy s (f+1) pos st b=(b,st):=Lib.spansFromP_end _ _ _ _ _ _ hlt;rw[C];have A:pos=s.data.toList.length:=by omega
   have U:=XP s 0 pos st b (by omega) h2 h3;simpa[Sr]using U
theorem aFR(s:ByteArray):(Sq Oy s).map (·.data.toList)=words s.data.toList:=by
 have hs:s.size=s.data.toList.length:=by simp
 have h:=XP s s.size 0 J [] (by omega) (by omega) (λa e=>by cases e);unfold Sq Lib.spansOfP;rw[W2];have he:((λx:ByteArray=>x.data.toList)∘λx:Nat×Nat=>s.extract x.1 x.2)=piece s:=by funext x;show(s.extract x.1 x.2).data.toList=_;rw[Lib.extract_data];rfl
 rw[he,h];simp[rest,words]
end V
def V.kind(l:List UInt8):Int:=if l==[40]then 1 else if l==[41]then 2 else if l==[61,62]then 3 else 0
def V.H3(l:List UInt8):Int:=if l==[109,111,100,117,108,101]then 1 else if l==[114,101,113,117,105,114,101]then 2 else if l==[101,120,99,108,117,100,101]then 3 else if l==[114,101,112,108,97,99,101]then 4 else 0
def V.said(l:List UInt8):List UInt8:=(Ge l [47,47]).1
def V.fit(ws:List ByteArray)(ks:List Int):Bool:=ws.map (λs=>V.kind s.data.toList)==ks
def V.FY(kw:Int)(ws:List ByteArray):Option (Nat×List ByteArray):=if kw==1&&V.fit ws [0]then Z (123,[ws.getD 0 BS])else if kw==2&&V.fit ws [0,0]then Z (221,[ws.getD 0 BS,ws.getD 1 BS])else if kw==3&&V.fit ws [0,0]then Z (222,[ws.getD 0 BS,ws.getD 1 BS])else if kw==4&&V.fit ws [0,3,0,0]then Z (224,[ws.getD 0 BS,⟨#[]⟩,ws.getD 2 BS,ws.getD 3 BS])else if kw==4&&V.fit ws [0,0,3,0,0]then Z (224,[ws.getD 0 BS,ws.getD 1 BS,ws.getD 3 BS,ws.getD 4 BS])else J
def V.added(n:Nat)(kw:Int)(ws:List ByteArray)(l:List (Nat×Nat×List ByteArray)):Bool×List (Nat×Nat×List ByteArray):=match V.FY kw ws with|Z x=>(A0,l++[(n,x)])|J=>(A5,l)
def V.opens(kw:Int)(ws:List ByteArray):Bool:=(kw==2||kw==3||kw==4)&&V.fit ws [1]
def V.Mp(n:Nat)(ws:List ByteArray)(b:Int)(l:List (Nat×Nat×List ByteArray)):Bool×Int×Int×List (Nat×Nat×List ByteArray):=if V.fit ws [2]then(A0,1,b,l)else((V.added n b ws l).1,2,b,(V.added n b ws l).2)
def V.EK(n:Nat)(ws:List ByteArray)(st b:Int)(l:List (Nat×Nat×List ByteArray)):Bool×Int×Int×List (Nat×Nat×List ByteArray):=match ws with|[]=>(A0,st,b,l)|x::rest=>if st==2 then V.Mp n (x::rest) b l else if V.H3 x.data.toList==1&&st !=0 then(A5,st,b,l)else if V.opens (V.H3 x.data.toList) rest then(A0,2,V.H3 x.data.toList,l)else((V.added n (V.H3 x.data.toList) rest l).1,1,b,(V.added n (V.H3 x.data.toList) rest l).2)
def V.Q2(x:Nat×Nat×List ByteArray):Prop:=(x.2.1=123/\∃a,x.2.2=[a])∨(x.2.1=221/\∃a b,x.2.2=[a,b])∨(x.2.1=222/\∃a b,x.2.2=[a,b])∨x.2.1=224/\∃a b c d,x.2.2=[a,b,c,d]
def V.eJ(st b:Int):Prop:=(st=0∨st=1∨st=2)/\(b=0∨b=1∨b=2∨b=3∨b=4)
def V.may(st:Int)(l:List (Nat×Nat×List ByteArray)):Bool:=match l with|[]=>A5|x::_=>!st==2&&x.2.1==123
def V.texts(b:List (List UInt8)):List ByteArray:=b.map λl=>⟨l.toArray⟩
def V.lines(s:ByteArray):List ByteArray:=V.texts (V.pieces 10 s.data.toList)
def V.IL(s:ByteArray):List ByteArray:=V.texts (V.words (V.said s.data.toList))
def V.Hd:Nat->List ByteArray->Int->Int->List (Nat×Nat×List ByteArray)->List (Nat×Nat×List ByteArray)×Nat|n,[],st,_,l=>(l,if V.may st l then 0 else n)|n,x::xs,st,blk,l=>if(V.EK (n+1) (V.IL x) st blk l).1 then V.Hd (n+1) xs (V.EK (n+1) (V.IL x) st blk l).2.1 (V.EK (n+1) (V.IL x) st blk l).2.2.1 (V.EK (n+1) (V.IL x) st blk l).2.2.2 else((V.EK (n+1) (V.IL x) st blk l).2.2.2,n+1)
def V.parse(s:ByteArray):List (Nat×Nat×List ByteArray)×Nat:=V.Hd 0 (V.lines s) 0 0 []
def V.NU(b:UInt8):Bool:=b.toNat==46||b.toNat==45||b.toNat==95||Bn (97<=b.toNat)&&Bn (b.toNat<=122)||Bn (48<=b.toNat)&&Bn (b.toNat<=57)
def V.Qv(l:List UInt8):Bool:=l.all V.NU&&(l !=[]&&(l !=[46]&&l !=[46,46]))
def V.path(l:List UInt8):Bool:=Bn (l.length<=60)&&(V.pieces 47 l).all V.Qv
def V.Ll(p:ByteArray):Option (Int×Int×ByteArray×ByteArray):=if V.path p.data.toList then J else Z (3,0,p,⟨#[]⟩)
def V.TI(v:ByteArray):Option (Int×Int×ByteArray×ByteArray):=if V.AW v.data.toList then J else Z (2,0,⟨#[]⟩,v)
def V.Jo(p v:ByteArray):Option (Int×Int×ByteArray×ByteArray):=match V.Ll p with|Z f=>Z f|J=>V.TI v
def V.TH(p v:ByteArray):Option (Int×Int×ByteArray×ByteArray):=if v.toList==[]then V.Ll p else V.Jo p v
def V.WO(a b c d:ByteArray):Option (Int×Int×ByteArray×ByteArray):=match V.TH a b with|Z f=>Z f|J=>V.Jo c d
def V.bD(t:Nat)(fs:List ByteArray):Option (Int×Int×ByteArray×ByteArray):=if t==123 then V.Ll (fs.getD 0 BS)else if t==224 then V.WO (fs.getD 0 BS) (fs.getD 1 BS) (fs.getD 2 BS) (fs.getD 3 BS)else V.Jo (fs.getD 0 BS) (fs.getD 1 BS)
def V.place(t:Nat)(fs:List ByteArray):Int×ByteArray×ByteArray:=if t==123 then(0,fs.getD 0 BS,⟨#[]⟩)else if t==221 then(1,fs.getD 0 BS,⟨#[]⟩)else if t==222 then(2,fs.getD 0 BS,fs.getD 1 BS)else(3,fs.getD 0 BS,fs.getD 1 BS)
def V.Jk:List (Nat×Nat×List ByteArray)->List ((Int×ByteArray×ByteArray)×Nat)->Option (Int×Int×ByteArray×ByteArray)|[],_=>J|x::xs,seen=>match V.bD x.2.1 x.2.2 with|Z f=>Z (f.1,(x.1:Int),f.2.2.1,f.2.2.2)|J=>if seen.any λy=>Bn (y.1=V.place x.2.1 x.2.2)then Z (4,(x.1:Int),⟨#[]⟩,⟨#[]⟩)else V.Jk xs (seen++[(V.place x.2.1 x.2.2,x.1)])
def V.LY(l:List (Nat×Nat×List ByteArray))(n:Nat):List (Nat×Nat×List ByteArray):=match l.getLast? with|Z x=>if x.1=n then l.dropLast else l|J=>l
namespace V
theorem aQq(b:UInt8)(l:List UInt8):said (b::l)=if[47,47].isPrefixOf (b::l)then[]else b::said l:=by
 unfold said Ge;by_cases e:[47,47].isPrefixOf (b::l)=A0
 ·rw[if_pos e];have:Ni (b::l) [47,47]=0:=by rw[Ni,if_pos e]
  rw[this];rfl
 ·rw[if_neg e];have hi:Ni (b::l) [47,47]=if Ni l [47,47]==-1 then-1 else Ni l [47,47]+1:=by rw[Ni,if_neg e]
  have h:=Lib.index_ge l [47,47];by_cases f:Ni l [47,47]=-1;·rw[hi,f];rfl
  ·rw[if_neg (by simpa using f)]at hi;rw[hi,if_pos (by omega),if_pos (by omega)];show(b::l).take (Ni l [47,47]+1).toNat=b::l.take (Ni l [47,47]).toNat;rw[show(Ni l [47,47]+1).toNat=(Ni l [47,47]).toNat+1 by omega,List.take_succ_cons]
def clean:List UInt8->Bool|[]=>A0|b::l=>![47,47].isPrefixOf (b::l)&&clean l
theorem a5P:∀(l:List UInt8),clean l=A0->said l=l|[],_=>rfl|b::l,h=>by unfold clean at h;rw[IP,aC]at h;rw[aQq,h.1,a5P l h.2];rfl
theorem e_:∀(a r:List UInt8)(c:UInt8),c≠47->clean a=A0->clean r=A0->clean (a++c::r)=A0|[],r,c,hc,_,A2=>by show clean (c::r)=A0;unfold clean;rw[A2,nK,aC];simp only[p_,a6q];left;rw[beq_eq_false_iff_ne];exact hc.symm|[b],r,c,hc,_,A2=>by have e:=e_ [] r c hc rfl A2;show clean (b::([]++c::r))=A0;unfold clean;rw[e,nK,aC];simp only[p_,YL,a6q];right;left;rw[beq_eq_false_iff_ne];exact hc.symm|b::d::a,r,c,hc,A6,A2=>by unfold clean at A6;rw[IP]at A6;have e:=e_ (d::a) r c hc A6.2 A2;show clean (b::(d::a++c::r))=A0;unfold clean;rw[e,nK];have:=A6.1;simp only[p_,ML]at this⊢;exact this
theorem ze:∀(l:List UInt8),(∀b∈l,b≠47)->clean l=A0|[],_=>rfl|b::l,h=>by have:=e_ [] l b (h b (N' ..)) rfl (ze l λx hx=>h x (I8 _ hx));simpa using this
theorem aTb(hn:x≠[])(h:∀b∈x,blank b=A5):words x=[x]:=by have:=hL x [] [] h;rw[List.append_nil,YL]at this;unfold words;rw[this,JE];cases x with|nil=>exact absurd rfl hn|cons a r=>rfl
theorem aTa(r:List UInt8)(hn:x≠[])(h:∀b∈x,blank b=A5)(hc:blank c=A0):words (x++c::r)=x::words r:=by have:=hL x (c::r) [] h;rw[YL]at this;unfold words;rw[this,JE,hc];cases x with|nil=>exact absurd rfl hn|cons a s=>rfl
def eN(x:List UInt8):Prop:=x≠[]/\(∀b∈x,blank b=A5/\b≠10)/\clean x=A0
theorem a6U:∀(ws:List (List UInt8)),(∀x∈ws,eN x)->words (join 32 ws)=ws|[],_=>rfl|[a],h=>by have:=h a (by simp);exact aTb this.1 λb e=>(this.2.1 b e).1|a::b::r,h=>by have A6:=h a (by simp);rw[join,aTa _ A6.1 (λc hc=>(A6.2.1 c hc).1) (by decide),a6U (b::r) λx hx=>h x (I8 _ hx)]
theorem zd:∀(ws:List (List UInt8)),(∀x∈ws,eN x)->clean (join 32 ws)=A0|[],_=>rfl|[a],h=>(h a (by simp)).2.2|a::b::r,h=>by rw[join];exact e_ a _ 32 (by decide) (h a (by simp)).2.2 (zd (b::r) λx hx=>h x (I8 _ hx))
theorem gR(c:UInt8):∀(ws:List (List UInt8))(b:UInt8),b∈join c ws->b=c∨∃x∈ws,b∈x
 |[],b,h=>by simp[join]at h
 |[a],b,h=>AF ⟨a,by simp,h⟩
 |a::d::r,b,h=>by
  rw[join]at h;rcases List.mem_append.1 h with h|h;·exact AF ⟨a,by simp,h⟩
  ·rcases List.mem_cons.1 h with h|h;·exact AA h
   ·rcases gR c (d::r) b h with h|⟨x,hx,e⟩;·exact AA h
    ·exact AF ⟨x,I8 _ hx,e⟩
theorem uI:∀(l:List UInt8),(pieces 47 l).tail.all (·!=[])=A0->clean l=A0/\l.getLast?≠Z 47
 |[],_=>⟨rfl,by simp⟩
 |b::r,h=>by
  have x:=cH 47 r;rw[pieces]at h;cases f:pieces 47 r with
  |nil=>exact absurd f x
  |cons q y=>
   rw[f]at h;by_cases m:b=47
   ·subst m;rw[if_pos (by decide)]at h;simp only[aBj,List.all_cons,IP]at h;have ih:=uI r (by rw[f];exact h.2);cases r with
    |nil=>rw[pieces]at f;cases f;simp at h
    |cons d s=>
     have p:d≠47:=by intro e;subst e;rw[pieces,if_pos (by decide)]at f;cases f;simp at h
     refine⟨?_,by simpa using ih.2⟩;unfold clean;rw[ih.1,nK,aC];simp[p_];intro e;exact absurd e.symm p
   ·rw[if_neg (by simpa using m)]at h;have ih:=uI r (by rw[f];exact h);refine⟨?_,?_⟩;·have:=e_ [] r b m rfl ih.1;simpa using this
    ·cases r with|nil=>simpa using m|cons d s=>simpa using ih.2
theorem aOE(c:UInt8):∀(l:List UInt8)(b:UInt8),b∈l->b=c∨∃q∈pieces c l,b∈q:=by intro l b e;have:=gR c (pieces c l) b;rw[lE]at this;exact this e
theorem aNv(b:UInt8)(h:NU b=A0):blank b=A5/\b≠10/\b≠40/\b≠41/\b≠61/\b≠47:=by have:=zJ (p:=λb=>!NU b||!blank b&&b !=10&&b !=40&&b !=41&&b !=61&&b !=47) (q:=λ_=>A0) (by decide+kernel) b;simp only[h,Sg,a6s,IP,aC,bne_iff_ne]at this;obtain⟨⟨⟨⟨⟨e,h2⟩,h3⟩,h4⟩,f⟩,m⟩:=this;exact⟨e,h2,h3,h4,f,m⟩
theorem aMD(b:UInt8)(h:M0 b=A0):blank b=A5/\b≠10/\b≠40/\b≠41/\b≠61/\b≠47:=by have:=zJ (p:=λb=>!M0 b||!blank b&&b !=10&&b !=40&&b !=41&&b !=61&&b !=47) (q:=λ_=>A0) (by decide+kernel) b;simp only[h,Sg,a6s,IP,aC,bne_iff_ne]at this;obtain⟨⟨⟨⟨⟨e,h2⟩,h3⟩,h4⟩,f⟩,m⟩:=this;exact⟨e,h2,h3,h4,f,m⟩
structure yU(x:List UInt8):Prop where
 V_:eN x
 kind:kind x=0
 last:x.getLast?≠Z 47
 short:x.length<=60
theorem a2B(hn:x≠[])(h:∀b∈x,b≠40/\b≠41/\b≠61):kind x=0:=by unfold kind;cases x with|nil=>exact absurd rfl hn|cons a r=>have A6:=h a (by simp);rw[if_neg (by simp;intro e;exact absurd e A6.1),if_neg (by simp;intro e;exact absurd e A6.2.1),if_neg (by simp;intro e;exact absurd e A6.2.2)]
theorem Tr(h:path p=A0):yU p:=by
 unfold path at h;rw[IP,decide_eq_true_eq,YI]at h;have y:∀q∈pieces 47 p,q≠[]/\∀b∈q,NU b=A0:=by intro q m;have:=h.2 q m;unfold Qv at this;simp only[IP,YI,bne_iff_ne]at this;exact⟨this.2.1,this.1⟩
 have z:p≠[]:=by intro e;subst e;exact(y [] (by simp[pieces])).1 rfl
 have f:∀b∈p,blank b=A5/\b≠10/\b≠40/\b≠41/\b≠61:=by
  intro b f;rcases aOE 47 p b f with rfl|⟨q,m,x⟩;·decide
  ·have:=aNv b ((y q m).2 b x);exact⟨this.1,this.2.1,this.2.2.1,this.2.2.2.1,this.2.2.2.2.1⟩
 have AH:=uI p (by rw[YI];intro q m;have:=(y q (aBb m)).1;simpa using this);exact⟨⟨z,λb s=>⟨(f b s).1,(f b s).2.1⟩,AH.1⟩,a2B z λb s=>(f b s).2.2,AH.2,h.1⟩
theorem aME(h:mark l=A0):∀b∈l,M0 b=A0:=by
 unfold mark at h;split at h;·rename_i AT;unfold digits at AT;simp only[IP,YI]at AT;intro b e;unfold M0;rw[AT.1 b e];rfl
 ·simp only[IP,YI]at h;exact h.1
theorem aN7(h:number l=A0):∀b∈l,M0 b=A0:=by unfold number digits at h;simp only[IP,YI]at h;intro b e;unfold M0;rw[h.1.1 b e];rfl
theorem aT1(h:AW l=A0):∀b∈l,b=118∨b=45∨b=46∨M0 b=A0:=by
 intro b e;rw[aT2 h]at e;have hv:=h;unfold AW at hv;simp only[IP,YI]at hv;rcases List.mem_cons.1 e with e|e;·exact AA e
 rcases List.mem_append.1 e with e|e
 ·rcases gR 46 _ b e with e|⟨q,f,e⟩;·exact AF (AF (AA e))
  ·exact AF (AF (AF (aN7 (hv.2.2.1.2 q f) b e)))
 ·split at e;·simp at e
  ·rcases List.mem_cons.1 e with e|e;·exact AF (AA e)
   ·rcases gR 46 _ b e with e|⟨q,f,e⟩;·exact AF (AF (AA e))
    ·exact AF (AF (AF (aME (hv.2.2.2 q f) b e)))
theorem XS{v:List UInt8}(h:AW v=A0):yU v:=by
 have f:∀b∈v,blank b=A5/\b≠10/\b≠40/\b≠41/\b≠61/\b≠47:=by
  intro b f;rcases aT1 h b f with rfl|rfl|rfl|f;·decide
  ·decide
  ·decide
  ·exact aMD b f
 have p:v≠[]:=by intro e;subst e;exact absurd (a6H h) (by simp)
 have s:v.length<=40:=by unfold AW at h;simp only[IP,decide_eq_true_eq]at h;exact h.1
 refine⟨⟨p,λb m=>⟨(f b m).1,(f b m).2.1⟩,ze v λb m=>(f b m).2.2.2.2.2⟩,a2B p λb m=>⟨(f b m).2.2.1,(f b m).2.2.2.1,(f b m).2.2.2.2.1⟩,?_,by omega⟩;intro e;exact(f 47 (List.mem_of_getLast? e)).2.2.2.2.2 rfl
def wd(fs:List ByteArray)(i:Nat):List UInt8:=(fs.getD i BS).data.toList
def N_(t:Nat)(fs:List ByteArray):List (List UInt8):=if t==123 then[[109,111,100,117,108,101],wd fs 0]else if t==221 then[[114,101,113,117,105,114,101],wd fs 0,wd fs 1]else if t==222 then[[101,120,99,108,117,100,101],wd fs 0,wd fs 1]else if wd fs 1==[]then[[114,101,112,108,97,99,101],wd fs 0,[61,62],wd fs 2,wd fs 3]else[[114,101,112,108,97,99,101],wd fs 0,wd fs 1,[61,62],wd fs 2,wd fs 3]
def QW(t:Nat)(fs:List ByteArray):List UInt8:=join 32 (N_ t fs)
def MD(l:List (Nat×List ByteArray)):List UInt8:=l.flatMap λx=>QW x.1 x.2++[10]
def Valid(t:Nat)(fs:List ByteArray):Prop:=Q2 (0,t,fs)/\bD t fs=J
theorem qk{p:ByteArray}(h:Ll p=J):path p.data.toList=A0:=by
 unfold Ll at h;split at h;·assumption
 ·cases h
theorem aFA{p:ByteArray}(h:TI p=J):AW p.data.toList=A0:=by
 unfold TI at h;split at h;·assumption
 ·cases h
theorem eh{p:ByteArray}(h:Jo p v=J):path p.data.toList=A0/\AW v.data.toList=A0:=by unfold Jo at h;cases b:Ll p with|some f=>rw[b]at h;cases h|none=>rw[b]at h;exact⟨qk b,aFA h⟩
theorem toList_nil(h:v.toList=[]):v.data.toList=[]:=by rwa[Vg]at h
theorem aF9{p:ByteArray}(h:TH p v=J):path p.data.toList=A0/\(v.data.toList=[]∨AW v.data.toList=A0):=by
 unfold TH at h;split at h;·rename_i hv;exact⟨qk h,AA (toList_nil (jG hv))⟩
 ·exact⟨(eh h).1,AF (eh h).2⟩
theorem vJ(h:Valid t fs):(t=123/\∃a,fs=[a]/\path a.data.toList=A0)∨(t=221/\∃a b,fs=[a,b]/\path a.data.toList=A0/\AW b.data.toList=A0)∨(t=222/\∃a b,fs=[a,b]/\path a.data.toList=A0/\AW b.data.toList=A0)∨t=224/\∃a b c d,fs=[a,b,c,d]/\path a.data.toList=A0/\(b.data.toList=[]∨AW b.data.toList=A0)/\path c.data.toList=A0/\AW d.data.toList=A0:=by
 obtain⟨hs,m⟩:=h;rcases hs with⟨h1,a,h2⟩|⟨h1,a,b,h2⟩|⟨h1,a,b,h2⟩|⟨h1,a,b,c,d,h2⟩;all_goals simp only at h1 h2;subst h1 h2
 ·exact AA ⟨rfl,a,rfl,qk m⟩
 ·exact AF (AA ⟨rfl,a,b,rfl,eh m⟩)
 ·exact AF (AF (AA ⟨rfl,a,b,rfl,eh m⟩))
 ·have e:WO a b c d=J:=m;unfold WO at e;cases p:TH a b with|some f=>rw[p]at e;cases e|none=>rw[p]at e;have h1:=aF9 p;have h2:=eh e;exact AF (AF (AF ⟨rfl,a,b,c,d,rfl,h1.1,h1.2,h2.1,h2.2⟩))
theorem hM(h:(x !=[]&&x.all (λb=>!blank b&&b !=10)&&clean x)=A0):eN x:=by simp only[IP,YI,bne_iff_ne,aC]at h;exact⟨h.1.1,h.1.2,h.2⟩
theorem a6E(h:Valid t fs):∀x∈N_ t fs,eN x:=by
 rcases vJ h with⟨rfl,a,rfl,f⟩|⟨rfl,a,b,rfl,f,h2⟩|⟨rfl,a,b,rfl,f,h2⟩|⟨rfl,a,b,c,d,rfl,f,h2,h3,h4⟩
 ·intro x hx;have m:x=[109,111,100,117,108,101]∨x=a.data.toList:=by simpa[N_,wd]using hx
  rcases m with rfl|rfl;·exact hM (by decide)
  ·exact(Tr f).V_
 ·intro x hx;have m:x=[114,101,113,117,105,114,101]∨x=a.data.toList∨x=b.data.toList:=by simpa[N_,wd]using hx
  rcases m with rfl|rfl|rfl;·exact hM (by decide)
  ·exact(Tr f).V_
  ·exact(XS h2).V_
 ·intro x hx;have m:x=[101,120,99,108,117,100,101]∨x=a.data.toList∨x=b.data.toList:=by simpa[N_,wd]using hx
  rcases m with rfl|rfl|rfl;·exact hM (by decide)
  ·exact(Tr f).V_
  ·exact(XS h2).V_
 ·intro x hx;have m:x=[114,101,112,108,97,99,101]∨x=a.data.toList∨x=b.data.toList/\b.data.toList≠[]∨x=[61,62]∨x=c.data.toList∨x=d.data.toList:=by
   unfold N_ at hx;simp only[show(224==123)=A5 from rfl,show(224==221)=A5 from rfl,show(224==222)=A5 from rfl,EU,if_false]at hx;split at hx
   ·simp only[wd,Hw,H8,or_false]at hx;rcases hx with h|h|h|h|h;·exact AA h
    ·exact AF (AA h)
    ·exact AF (AF (AF (AA h)))
    ·exact AF (AF (AF (AF (AA h))))
    ·exact AF (AF (AF (AF (AF h))))
   ·rename_i p;simp only[wd,Hw,H8,or_false]at hx;rcases hx with h|h|h|h|h|h;·exact AA h
    ·exact AF (AA h)
    ·exact AF (AF (AA ⟨h,λe=>p (by rw[beq_iff_eq];exact e)⟩))
    ·exact AF (AF (AF (AA h)))
    ·exact AF (AF (AF (AF (AA h))))
    ·exact AF (AF (AF (AF (AF h))))
  rcases m with rfl|rfl|⟨rfl,p⟩|rfl|rfl|rfl;·exact hM (by decide)
  ·exact(Tr f).V_
  ·rcases h2 with h2|h2;·exact absurd h2 p
   ·exact(XS h2).V_
  ·exact hM (by decide)
  ·exact(Tr h3).V_
  ·exact(XS h4).V_
theorem back(a:ByteArray):(⟨a.data.toList.toArray⟩:ByteArray)=a:=by cases a;simp
theorem aEc{b:ByteArray}(h:b.data.toList=[]):b=⟨#[]⟩:=by rw[<-back b,h]
theorem cX(n:Nat)(x:ByteArray)(rest:List ByteArray)(st b:Int)(l:List (Nat×Nat×List ByteArray)):EK n (x::rest) st b l=if st==2 then Mp n (x::rest) b l else if H3 x.data.toList==1&&st !=0 then(A5,st,b,l)else if opens (H3 x.data.toList) rest then(A0,2,H3 x.data.toList,l)else((added n (H3 x.data.toList) rest l).1,1,b,(added n (H3 x.data.toList) rest l).2):=rfl
theorem a6A(n t:Nat)(fs:List ByteArray)(st x:Int)(l:List (Nat×Nat×List ByteArray))(h:Valid t fs)(N:st=0∨st=1)(M:t=123->st=0):EK n (texts (N_ t fs)) st x l=(A0,1,x,l++[(n,t,fs)]):=by
 have z:(st==2)=A5:=by rcases N with rfl|rfl<;>rfl
 rcases vJ h with⟨rfl,a,rfl,s⟩|⟨rfl,a,b,rfl,s,h2⟩|⟨rfl,a,b,rfl,s,h2⟩|⟨rfl,a,b,c,d,rfl,s,h2,h3,h4⟩
 ·have p:=(Tr s).kind;have:=M rfl;subst this;have e:texts (N_ 123 [a])=[⟨#[109,111,100,117,108,101]⟩,a]:=by show[_,(⟨a.data.toList.toArray⟩:ByteArray)]=_;rw[back]
  rw[e];rw[cX,show H3 (⟨#[109,111,100,117,108,101]⟩:ByteArray).data.toList=1 from by decide];have f:fit [a] [0]=A0:=by unfold fit;simp[p]
  have m:FY 1 [a]=Z (123,[a]):=by unfold FY;rw[f];rfl
  simp[added,m,opens]
 ·have p:=(Tr s).kind;have y:=(XS h2).kind;have e:texts (N_ 221 [a,b])=[⟨#[114,101,113,117,105,114,101]⟩,a,b]:=by show[_,(⟨a.data.toList.toArray⟩:ByteArray),(⟨b.data.toList.toArray⟩:ByteArray)]=_;rw[back,back]
  rw[e];rw[cX,show H3 (⟨#[114,101,113,117,105,114,101]⟩:ByteArray).data.toList=2 from by decide];have f:fit [a,b] [0,0]=A0:=by unfold fit;simp[p,y]
  have g:fit [a,b] [1]=A5:=by unfold fit;simp
  have m:FY 2 [a,b]=Z (221,[a,b]):=by unfold FY;rw[f];rfl
  simp[added,m,opens,g,z]
 ·have p:=(Tr s).kind;have y:=(XS h2).kind;have e:texts (N_ 222 [a,b])=[⟨#[101,120,99,108,117,100,101]⟩,a,b]:=by show[_,(⟨a.data.toList.toArray⟩:ByteArray),(⟨b.data.toList.toArray⟩:ByteArray)]=_;rw[back,back]
  rw[e];rw[cX,show H3 (⟨#[101,120,99,108,117,100,101]⟩:ByteArray).data.toList=3 from by decide];have f:fit [a,b] [0,0]=A0:=by unfold fit;simp[p,y]
  have g:fit [a,b] [1]=A5:=by unfold fit;simp
  have m:FY 3 [a,b]=Z (222,[a,b]):=by unfold FY;rw[f];rfl
  simp[added,m,opens,g,z]
 ·have p:=(Tr s).kind;have C:=(Tr h3).kind;have D:=(XS h4).kind;have H:kind [61,62]=3:=by decide
  by_cases A:b.data.toList=[]
  ·have K:=aEc A;subst K;have e:texts (N_ 224 [a,⟨#[]⟩,c,d])=[⟨#[114,101,112,108,97,99,101]⟩,a,⟨#[61,62]⟩,c,d]:=by show[_,(⟨a.data.toList.toArray⟩:ByteArray),_,(⟨c.data.toList.toArray⟩:ByteArray),(⟨d.data.toList.toArray⟩:ByteArray)]=_;rw[back,back,back]
   rw[e];rw[cX,show H3 (⟨#[114,101,112,108,97,99,101]⟩:ByteArray).data.toList=4 from by decide];have f:fit [a,⟨#[61,62]⟩,c,d] [0,3,0,0]=A0:=by unfold fit;simp[p,C,D,H]
   have g:fit [a,⟨#[61,62]⟩,c,d] [1]=A5:=by unfold fit;simp
   have m:FY 4 [a,⟨#[61,62]⟩,c,d]=Z (224,[a,⟨#[]⟩,c,d]):=by unfold FY;rw[f];rfl
   simp[added,m,opens,g,z]
  ·have y:kind b.data.toList=0:=by
    rcases h2 with h2|h2;·exact absurd h2 A
    ·exact(XS h2).kind
   have e:texts (N_ 224 [a,b,c,d])=[⟨#[114,101,112,108,97,99,101]⟩,a,b,⟨#[61,62]⟩,c,d]:=by
    have:N_ 224 [a,b,c,d]=[[114,101,112,108,97,99,101],a.data.toList,b.data.toList,[61,62],c.data.toList,d.data.toList]:=by
     unfold N_;have:(wd [a,b,c,d] 1==[])=A5:=by rw[beq_eq_false_iff_ne];exact A
     rw[this];rfl
    rw[this];show[_,(⟨a.data.toList.toArray⟩:ByteArray),(⟨b.data.toList.toArray⟩:ByteArray),_,(⟨c.data.toList.toArray⟩:ByteArray),(⟨d.data.toList.toArray⟩:ByteArray)]=_;rw[back,back,back,back]
   rw[e];rw[cX,show H3 (⟨#[114,101,112,108,97,99,101]⟩:ByteArray).data.toList=4 from by decide];have f:fit [a,b,⟨#[61,62]⟩,c,d] [0,0,3,0,0]=A0:=by unfold fit;simp[p,y,C,D,H]
   have I:fit [a,b,⟨#[61,62]⟩,c,d] [0,3,0,0]=A5:=by unfold fit;simp
   have g:fit [a,b,⟨#[61,62]⟩,c,d] [1]=A5:=by unfold fit;simp
   have m:FY 4 [a,b,⟨#[61,62]⟩,c,d]=Z (224,[a,b,c,d]):=by unfold FY;rw[f,I];rfl
   simp[added,m,opens,g,z]
theorem a69(h:Valid t fs):IL ⟨(QW t fs).toArray⟩=texts (N_ t fs):=by have b:=a6E h;unfold IL;show texts (words (said (QW t fs).toArray.toList))=_;rw[al,QW,a5P _ (zd _ b),a6U _ b]
theorem aKf(h:Valid t fs)(k:Nat):(QW t fs)[k]?≠Z 10:=by
 intro e;have m:=List.mem_of_getElem? e;rcases gR 32 _ _ m with b|⟨x,hx,f⟩;·cases b
 ·exact((a6E h x hx).2.1 10 f).2 rfl
theorem a65:∀(l:List (Nat×List ByteArray)),(∀x∈l,Valid x.1 x.2)->pieces 10 (MD l)=l.map (λx=>QW x.1 x.2)++[[]]
 |[],_=>rfl
 |x::xs,h=>by
  have b:=a65 xs λy hy=>h y (I8 _ hy);have e:MD (x::xs)=QW x.1 x.2++10::MD xs:=by unfold MD;rw[pX,YJ];rfl
  rw[e,aOD 10 _ _ (aKf (h x (N' ..))),b];rfl
def num:Nat->List (Nat×List ByteArray)->List (Nat×Nat×List ByteArray)|_,[]=>[]|n,x::xs=>(n,x)::num (n+1) xs
theorem a3g:∀(n:Nat)(l:List (Nat×List ByteArray)),(num n l).map (·.2)=l|_,[]=>rfl|n,x::xs=>by rw[num,GU,a3g]
theorem a4H:∀(l:List (Nat×List ByteArray))(n:Nat)(b:Int)(f:List (Nat×Nat×List ByteArray)),(∀x∈l,Valid x.1 x.2/\x.1≠123)->may 1 f=A0->Hd n (texts (l.map (λx=>QW x.1 x.2)++[[]])) 1 b f=(f++num (n+1) l,0)
 |[],n,b,f,_,hm=>by
  show Hd n [⟨#[]⟩] 1 b f=(f++[],0);rw[Hd,Hd];have e:IL ⟨#[]⟩=[]:=by rfl
  rw[e,EK];simp[hm]
 |x::xs,n,b,f,h,hm=>by
  have hx:=h x (N' ..);show Hd n (⟨(QW x.1 x.2).toArray⟩::texts (xs.map (λx=>QW x.1 x.2)++[[]])) 1 b f=_;rw[Hd,a69 hx.1,a6A (n+1) x.1 x.2 1 b f hx.1 (AF rfl) λe=>absurd e hx.2];simp only[if_true];rw[a4H xs (n+1) b (f++[(n+1,x.1,x.2)]) λy hy=>h y (I8 _ hy)];·rw[YJ];rfl
  ·cases f with|nil=>cases hm|cons y m=>exact hm
theorem aNp(p:ByteArray)(l:List (Nat×List ByteArray))(b:Valid 123 [p])(h:∀x∈l,Valid x.1 x.2/\x.1≠123):parse ⟨(MD ((123,[p])::l)).toArray⟩=(num 1 ((123,[p])::l),0):=by
 unfold parse lines;show Hd 0 (texts (pieces 10 (MD ((123,[p])::l)).toArray.toList)) 0 0 []=_;rw[al,a65 _ (by
  intro x hx;rcases List.mem_cons.1 hx with rfl|hx;·exact b
  ·exact(h x hx).1)];show Hd 0 (⟨(QW 123 [p]).toArray⟩::texts (l.map (λx=>QW x.1 x.2)++[[]])) 0 0 []=_;rw[Hd,a69 b,a6A 1 123 [p] 0 0 [] b (AA rfl) λ_=>rfl];simp only[if_true];rw[a4H l 1 0 _ h rfl];rfl
theorem aDy:Hx UG:=by
 refine⟨λx y=>?_,λx y=>?_,λx y z=>?_⟩
 ·unfold UG;split;·exact AA rfl
  ·split;·exact AF (AF rfl)
   ·exact AF (AA rfl)
 ·unfold UG;repeat' split
  all_goals first|omega|rfl
 ·unfold UG;repeat' split
  all_goals omega
def hI(a b:List UInt8):Int:=if a==[]||b==[]then G' a.length b.length else order a b
theorem aTB(a b:List UInt8):hI a b=JV (λx y=>G' (if x==[]then 0 else 1) (if y==[]then 0 else 1)) order a b:=by
 unfold hI JV;cases a with
 |nil=>
  cases b with
  |nil=>
   have:order [] []=0:=by rw[gq];exact mL.1.refl _
   simp[G',this]
  |cons c cs=>simp[G']
 |cons d e=>cases b with|nil=>simp[G']|cons c cs=>simp[G']
theorem aNb:Hx order:=⟨a3z,a4',a3y⟩
theorem aTC:Hx hI:=by rw[show hI=JV (λx y:List UInt8=>G' (if x==[]then 0 else 1) (if y==[]then 0 else 1)) order from funext λa=>funext λb=>aTB a b];exact Hx.then (Ye.back λx:List UInt8=>if x==[]then 0 else 1) aNb
def ord(p q:Int×ByteArray×ByteArray):Int:=JV (λx y=>UG x.1 y.1) (JV (λx y=>Hg x.2.1.data.toList y.2.1.data.toList) λx y=>hI x.2.2.data.toList y.2.2.data.toList) p q
theorem aNZ:Hx ord:=Hx.then (aDy.back λx:Int×ByteArray×ByteArray=>x.1) (Hx.then (ji.1.back λx:Int×ByteArray×ByteArray=>x.2.1.data.toList) (aTC.back λx:Int×ByteArray×ByteArray=>x.2.2.data.toList))
theorem bytes_inj{a b:ByteArray}(h:a.data.toList=b.data.toList):a=b:=by rw[<-back a,<-back b,h]
theorem qD:∀(l:List (Nat×Nat×List ByteArray))(seen:List ((Int×ByteArray×ByteArray)×Nat)),Jk l seen=J↔(∀x∈l,bD x.2.1 x.2.2=J)/\(l.map λx=>place x.2.1 x.2.2).Nodup/\∀x∈l,∀y∈seen,y.1≠place x.2.1 x.2.2
 |[],seen=>by simp[Jk]
 |x::xs,seen=>by
  rw[Jk];cases s:bD x.2.1 x.2.2 with
  |some f=>
   constructor;·intro h;cases h
   ·intro h;have:=h.1 x (N' ..);rw[s]at this;cases this
  |none=>
   by_cases m:seen.any (λy=>Bn (y.1=place x.2.1 x.2.2))=A0
   ·simp only[m,if_true];constructor;·intro h;cases h
    ·intro h;obtain⟨y,hy,he⟩:=List.any_eq_true.1 m;exact absurd (of_decide_eq_true he) (h.2.2 x (N' ..) y hy)
   ·simp only[m,EU,if_false];rw[qD xs];have A:∀y∈seen,y.1≠place x.2.1 x.2.2:=by intro y hy e;exact m (List.any_eq_true.2 ⟨y,hy,decide_eq_true e⟩)
    constructor
    ·rintro⟨p,h2,h3⟩;refine⟨?_,?_,?_⟩
     ·intro z b;rcases List.mem_cons.1 b with rfl|b;·exact s
      ·exact p z b
     ·rw[GU,aBf];refine⟨?_,h2⟩;intro C;obtain⟨z,b,he⟩:=List.mem_map.1 C;exact h3 z b (place x.2.1 x.2.2,x.1) (by simp) he.symm
     ·intro z b y hy;rcases List.mem_cons.1 b with rfl|b;·exact A y hy
      ·exact h3 z b y (List.mem_append_left _ hy)
    ·rintro⟨p,h2,h3⟩;rw[GU,aBf]at h2;refine⟨λz b=>p z (I8 _ b),h2.2,?_⟩;intro z b y hy;rcases List.mem_append.1 hy with hy|hy;·exact h3 z (I8 _ b) y hy
     ·rw[List.mem_singleton.1 hy];intro e;exact h2.1 (List.mem_map.2 ⟨z,b,e.symm⟩)
structure Whole(l:List (Nat×List ByteArray)):Prop where
 valid:∀x∈l,Valid x.1 x.2
 nodup:(l.map λx=>place x.1 x.2).Nodup
 first:∃p r,l=(123,[p])::r/\∀x∈r,x.1≠123
theorem aTP{l:List (Nat×List ByteArray)}(h:Whole l):(parse ⟨(MD l).toArray⟩).2=0/\Jk (parse ⟨(MD l).toArray⟩).1 []=J/\(parse ⟨(MD l).toArray⟩).1.map (·.2)=l:=by
 obtain⟨p,s,rfl,hs⟩:=h.first;have e:=aNp p s (h.valid _ (N' ..)) λx hx=>⟨h.valid x (I8 _ hx),hs x hx⟩;have b:=a3g 1 ((123,[p])::s);rw[e];refine⟨rfl,?_,b⟩;rw[qD];refine⟨?_,?_,λ_ _ _ hy=>absurd hy (H8)⟩
 ·intro x hx;have:x.2∈((123,[p])::s:List (Nat×List ByteArray)):=by rw[<-b];exact List.mem_map.2 ⟨x,hx,rfl⟩
  exact(h.valid _ this).2
 ·have:((num 1 ((123,[p])::s)).map λx=>place x.2.1 x.2.2)=((123,[p])::s:List (Nat×List ByteArray)).map λx=>place x.1 x.2:=by
   conv=>rhs;rw[<-b]
   rw[W2];rfl
  rw[this];exact h.nodup
theorem n'(M:Nat):∀(l f:List UInt8),f.length+l.length<=M->∀w∈JE f l,w.length<=M
 |[],f,h,w,e=>by
  rw[JE]at e;split at e;·simp at e
  ·rw[List.mem_singleton.1 e];simpa using h
 |b::r,f,h,w,e=>by
  rw[Jg]at h;rw[JE]at e;split at e
  ·split at e;·exact n' M r [] (by simp;omega) w e
   ·rcases List.mem_cons.1 e with rfl|e;·omega
    ·exact n' M r [] (by simp;omega) w e
  ·exact n' M r (f++[b]) (by simp;omega) w e
theorem aQs(l:List UInt8):(said l).length<=l.length:=by
 unfold said Ge;split;·simp only[W1];omega
 ·exact AX _
theorem aSa(h:s.size<=M):∀w∈IL s,w.size<=M:=by
 intro w b;unfold IL texts at b;obtain⟨x,hx,rfl⟩:=List.mem_map.1 b;have e:s.data.toList.length=s.size:=by simp
 have f:=aQs s.data.toList;have:=n' M (said s.data.toList) [] (by simp;omega) x hx;show x.toArray.size<=M;rw[Kd];exact this
theorem aFs(h:∀w∈ws,w.size<=M)(i:Nat):(ws.getD i BS).size<=M:=by
 by_cases hi:i<ws.length;·rw[getD_at _ _ hi];exact h _ (EC hi)
 ·rw[jK,List.getElem?_eq_none (by omega)];exact JJ _
def YE(M:Nat)(x:Nat×Nat×List ByteArray):Prop:=Q2 x/\x.1≠0/\∀a∈x.2.2,a.size<=M
theorem aMR(hn:n≠0)(f:∀w∈ws,w.size<=M)(h:FY kw ws=Z (t,fs)):YE M (n,t,fs)/\(kw≠1->t≠123):=by
 have g:=aFs f;unfold FY at h;split at h
 ·rename_i hk;cases h;refine⟨⟨AA ⟨rfl,_,rfl⟩,hn,?_⟩,?_⟩;·intro a b;rw[List.mem_singleton.1 b];exact g 0
  ·intro e;exfalso;apply e;simp only[IP,beq_iff_eq]at hk;exact hk.1
 split at h
 ·cases h;refine⟨⟨AF (AA ⟨rfl,_,_,rfl⟩),hn,?_⟩,λ_=>by decide⟩;intro a b;simp only[Hw,H8,or_false]at b;rcases b with rfl|rfl;·exact g 0
  ·exact g 1
 split at h
 ·cases h;refine⟨⟨AF (AF (AA ⟨rfl,_,_,rfl⟩)),hn,?_⟩,λ_=>by decide⟩;intro a b;simp only[Hw,H8,or_false]at b;rcases b with rfl|rfl;·exact g 0
  ·exact g 1
 split at h
 ·cases h;refine⟨⟨AF (AF (AF ⟨rfl,_,_,_,_,rfl⟩)),hn,?_⟩,λ_=>by decide⟩;intro a b;simp only[Hw,H8,or_false]at b;rcases b with rfl|rfl|rfl|rfl;·exact g 0
  ·exact JJ _
  ·exact g 2
  ·exact g 3
 split at h
 ·cases h;refine⟨⟨AF (AF (AF ⟨rfl,_,_,_,_,rfl⟩)),hn,?_⟩,λ_=>by decide⟩;intro a b;simp only[Hw,H8,or_false]at b;rcases b with rfl|rfl|rfl|rfl;·exact g 0
  ·exact g 1
  ·exact g 3
  ·exact g 4
 ·cases h
theorem a3a:¬(1:Int)=0:=by decide
theorem a3b:¬(1:Int)=2:=by decide
theorem a3c:¬(2:Int)=0:=by decide
def Stood(M:Nat)(st b:Int)(l:List (Nat×Nat×List ByteArray)):Prop:=(st=0->l=[])/\(st=2->b≠1)/\(∀x∈l.tail,x.2.1≠123)/\∀x∈l,YE M x
theorem aS3{l:List d8}{x y:d8}(h:y∈(l++[x]).tail):y∈l.tail∨y=x/\l≠[]:=by
 cases l with
 |nil=>simp at h
 |cons a r=>
  simp only[ML,aBj,List.mem_append,List.mem_singleton]at h;rcases h with h|h;·exact AA h
  ·exact AF ⟨h,by simp⟩
theorem yn{l:List (Nat×Nat×List ByteArray)}(hn:n≠0)(m:∀w∈ws,w.size<=M)(f:kw=1->l=[])(b:∀x∈l.tail,x.2.1≠123)(h2:∀x∈l,YE M x):(∀x∈(added n kw ws l).2.tail,x.2.1≠123)/\∀x∈(added n kw ws l).2,YE M x:=by
 unfold added;split
 ·rename_i y hy;have hm:=aMR (t:=y.1) (fs:=y.2) hn m hy;refine⟨λx hx=>?_,λx hx=>?_⟩
  ·rcases aS3 hx with hx|⟨rfl,h⟩;·exact b x hx
   ·exact hm.2 λe=>h (f e)
  ·rcases List.mem_append.1 hx with hx|hx;·exact h2 x hx
   ·rw[List.mem_singleton.1 hx];exact hm.1
 ·exact⟨b,h2⟩
theorem aSf{st blk:Int}{l:List (Nat×Nat×List ByteArray)}(hn:n≠0)(y:∀w∈ws,w.size<=M)(h:Stood M st blk l):Stood M (EK n ws st blk l).2.1 (EK n ws st blk l).2.2.1 (EK n ws st blk l).2.2.2:=by
 obtain⟨m,f,b,h2⟩:=h;cases ws with
 |nil=>exact⟨m,f,b,h2⟩
 |cons x rest=>
  have z:∀w∈rest,w.size<=M:=λw A=>y w (I8 _ A);rw[cX];split
  ·rename_i hs;unfold Mp;split;·exact⟨λe=>absurd e a3a,λe=>absurd e a3b,b,h2⟩
   ·have:=yn (kw:=blk) hn y (λe=>absurd e (f (by simpa using hs))) b h2;exact⟨λe=>absurd e a3c,λ_=>f (by simpa using hs),this.1,this.2⟩
  ·split;·exact⟨m,f,b,h2⟩
   ·rename_i s;split;·rename_i p;refine⟨λe=>absurd e a3c,λ_ e=>?_,b,h2⟩;unfold opens at p;simp only at e;rw[e]at p;simp at p
    ·have:=yn (kw:=H3 x.data.toList) hn z (λe=>by apply m;rw[e]at s;simpa using s) b h2;exact⟨λe=>absurd e a3a,λe=>absurd e a3b,this.1,this.2⟩
theorem uE{M:Nat}:∀(f:List ByteArray)(n:Nat)(st b:Int)(l:List (Nat×Nat×List ByteArray)),(∀x∈f,x.size<=M)->Stood M st b l->(∀x∈(Hd n f st b l).1.tail,x.2.1≠123)/\(∀x∈(Hd n f st b l).1,YE M x)/\((Hd n f st b l).2=0->n≠0∨f≠[]->∃y p,(Hd n f st b l).1=y::p/\y.2.1=123)
 |[],n,st,b,l,_,h=>by
  refine⟨h.2.2.1,h.2.2.2,λe m=>?_⟩;rw[Hd]at e⊢;simp only at e⊢;cases hm:may st l
  ·rw[hm]at e;simp at e;rcases m with m|m;·exact absurd e m
   ·exact absurd rfl m
  ·cases l with|nil=>cases hm|cons y p=>unfold may at hm;simp only[IP,beq_iff_eq]at hm;exact⟨y,p,rfl,hm.2⟩
 |x::xs,n,st,b,l,hs,h=>by
  have s:=aSa (hs x (N' ..));have AH:=aSf (n:=n+1) (ws:=IL x) (by omega) s h;rw[Hd];split;·have ih:=uE xs (n+1) _ _ _ (λy hy=>hs y (I8 _ hy)) AH;exact⟨ih.1,ih.2.1,λe _=>ih.2.2 e (AA (by omega))⟩
  ·exact⟨AH.2.2.1,AH.2.2.2,λe _=>absurd e (by simp)⟩
theorem a4M(c:UInt8):∀(l:List UInt8),(pieces c l).length<=l.length+1
 |[]=>by simp[pieces]
 |b::r=>by
  have e:=a4M c r;rw[pieces];split;·simp;omega
  ·simp;have:=cH c r;have:=List.length_pos_iff.2 this;omega
theorem a2S(s:ByteArray):∀x∈lines s,x.size<=s.size:=by
 intro x hx;unfold lines texts at hx;obtain⟨q,b,rfl⟩:=List.mem_map.1 hx;have:=gu 10 _ _ b;have e:s.data.toList.length=s.size:=by simp
 show q.toArray.size<=s.size;rw[Kd];omega
theorem aKi(s:ByteArray):(lines s).length<=s.size+1:=by
 unfold lines texts;rw[List.length_map];have:=a4M 10 s.data.toList;have e:s.data.toList.length=s.size:=by simp
 omega
theorem aSb(n:Nat)(ws:List ByteArray)(st e:Int)(l:List (Nat×Nat×List ByteArray)):(EK n ws st e l).2.2.2.length<=l.length+1:=by
 have h:∀f b,(added n f b l).2.length<=l.length+1:=by intro f b;unfold added;split<;>simp
 unfold EK Mp;repeat' split
 all_goals first|exact Nat.le_succ _|exact h _ _
theorem a4G:∀(e:List ByteArray)(n:Nat)(st b:Int)(l:List (Nat×Nat×List ByteArray)),(Hd n e st b l).1.length<=l.length+e.length
 |[],n,st,b,l=>by rw[Hd];simp
 |x::xs,n,st,b,l=>by
  have:=aSb (n+1) (IL x) st b l;rw[Hd,Jg];split;·have:=a4G xs (n+1) (EK (n+1) (IL x) st b l).2.1 (EK (n+1) (IL x) st b l).2.2.1 (EK (n+1) (IL x) st b l).2.2.2;omega
  ·show(EK (n+1) (IL x) st b l).2.2.2.length<=_;omega
theorem aNn(s:ByteArray):∀x∈(parse s).1,YE s.size x:=(uE (lines s) 0 0 0 [] (a2S s) ⟨λ_=>rfl,λe=>absurd e (by decide),λx hx=>absurd hx (by simp),λx hx=>absurd hx (by simp)⟩).2.1
theorem aNm(s:ByteArray):(parse s).1.length<=s.size+1:=by have:=a4G (lines s) 0 0 0 [];have:=aKi s;unfold parse;simp at*;omega
theorem aKj(s:ByteArray):lines s≠[]:=by unfold lines texts;intro e;exact cH 10 _ (List.map_eq_nil_iff.1 e)
theorem aNq(C:(parse s).2=0)(D:Jk (parse s).1 []=J):Whole ((parse s).1.map (·.2)):=by
 have hp:=uE (M:=s.size) (lines s) 0 0 0 [] (a2S s) ⟨λ_=>rfl,λe=>absurd e (by decide),λx hx=>absurd hx (by simp),λx hx=>absurd hx (by simp)⟩;obtain⟨H,hn,_⟩:=(qD _ _).1 D;obtain⟨y,A,hy,m⟩:=hp.2.2 C (AF (aKj s));have hv:∀x∈(parse s).1.map (·.2),Valid x.1 x.2:=by intro x hx;obtain⟨z,b,rfl⟩:=List.mem_map.1 hx;have hs:=(hp.2.1 z b).1;exact⟨hs,H z b⟩
 refine⟨hv,?_,?_⟩;·rw[W2];exact hn
 ·have f:(parse s).1=y::A:=hy;rw[f,GU];have p:Valid y.2.1 y.2.2:=hv y.2 (by rw[f];simp);obtain⟨K,N,I⟩:=y;simp only at m p;subst m;rcases vJ p with⟨_,a,rfl,_⟩|⟨h,_⟩|⟨h,_⟩|⟨h,_⟩;·refine⟨a,A.map (·.2),rfl,λx hx=>?_⟩;obtain⟨z,b,rfl⟩:=List.mem_map.1 hx;exact hp.1 z (by show z∈(parse s).1.tail;rw[f];exact b)
  ·exact absurd h (by decide)
  ·exact absurd h (by decide)
  ·exact absurd h (by decide)
def Hn(q:Nat):List UInt8:=[109,47,Ub (97+q)]
def Jy(n:Nat):List UInt8:=if n%3==0 then[118,49,46,Jl (n/3),46,48,45,114,99]else[118,49,46,Jl (n/3),46,Jl (n%3-1)]
def mp(q:Nat):ByteArray:=⟨(Hn q).toArray⟩
def Df(n:Nat):ByteArray:=⟨(Jy n).toArray⟩
def M3(x:Nat×Nat):Nat×List ByteArray:=(221,[mp x.1,Df x.2])
def HX:ByteArray:=⟨#[114,111,111,116]⟩
def m_(l:List (Nat×Nat)):List (Nat×List ByteArray):=(123,[HX])::l.map M3
def eA(l:List (Nat×Nat)):Prop:=(∀x∈l,x.1<5/\x.2<30)/\l.Pairwise λx y=>x.1<y.1
theorem tr(h:q<5):path (Hn q)=A0:=by
 have:∀n:Fin 5,path (Hn n.val)=A0:=by decide
 exact this ⟨q,h⟩
theorem a3M(h:n<30):AW (Jy n)=A0:=by
 have:∀n:Fin 30,AW (Jy n.val)=A0:=by decide+kernel
 exact this ⟨n,h⟩
theorem PT(q:Nat):(mp q).data.toList=Hn q:=by show(Hn q).toArray.toList=_;rw[al]
theorem XA(q:Nat):(Df q).data.toList=Jy q:=by show(Jy q).toArray.toList=_;rw[al]
theorem aMy{x:Nat×Nat}(h:x.1<5/\x.2<30):Valid (M3 x).1 (M3 x).2:=by refine⟨AF (AA ⟨rfl,_,_,rfl⟩),?_⟩;show Jo (mp x.1) (Df x.2)=J;unfold Jo Ll TI;rw[PT,XA,tr h.1,a3M h.2];rfl
theorem aMl{r:Nat}(e:q<5)(f:r<5)(h:q<r):Hg (Hn q) (Hn r)=-1:=by
 have:∀a b:Fin 5,a.val<b.val->Hg (Hn a.val) (Hn b.val)=-1:=by decide
 exact this ⟨q,e⟩ ⟨r,f⟩ h
theorem aMx{x y:Nat×Nat}(hx:x.1<5)(hy:y.1<5)(h:x.1<y.1):ord (place (M3 x).1 (M3 x).2) (place (M3 y).1 (M3 y).2)=-1:=by
 have:Hg (mp x.1).data.toList (mp y.1).data.toList=-1:=by rw[PT,PT];exact aMl hx hy h
 unfold ord JV;show(if UG 1 1 !=0 then UG 1 1 else if Hg (mp x.1).data.toList (mp y.1).data.toList !=0 then Hg (mp x.1).data.toList (mp y.1).data.toList else _)=-1;rw[this];rfl
theorem aQA(l:List (Nat×Nat)):MD (m_ l)=[109,111,100,117,108,101,32,114,111,111,116,10]++l.flatMap λx=>[114,101,113,117,105,114,101,32]++Hn x.1++[32]++Jy x.2++[10]:=by unfold MD m_;rw[pX,List.flatMap_map];congr 1
def aSq(x:Nat×Nat):List UInt8:=[9]++Hn x.1++[32,32]++Jy x.2++[47,47,122,10,10]
def aWI(l:List (Nat×Nat)):List UInt8:=[47,47,32,120,10,109,111,100,117,108,101,32,9,32,114,111,111,116,32,47,47,32,121,10,114,101,113,117,105,114,101,32,40,10]++l.flatMap aSq++[32,41,32]
end V
def GJ(h:A1->Prop)(w:A')(s:Nat)(v:A1)(n:Nat):Prop:=∀g b f e p,v=As (Z ⟨g,0,J⟩) n b->w.heap[g]?=Z (BE f e p)->∀j u,n*s<=j->f[j]?=Z u->h u
theorem GJ.nil(b:A1->Prop)(w:A')(s:Nat):GJ b w s (As J 0 0) 0:=λg f m e p h=>by cases h
theorem GJ.same{a:A1->Prop}{w w':A'}{s:Nat}{v:A1}(h:GJ a w s v n)(m:∀g b,v=As (Z ⟨g,0,J⟩) n b->w'.heap[g]?=w.heap[g]?):GJ a w' s v n:=λg b f e p hv hc=>h g b f e p hv (by rw[<-m g b hv];exact hc)
section
variable{P:Program}(w:A')
theorem a5K(H:A1->Prop)(base:Nat)(t ty e:A_)(i:TypeInfo)(z:A1)(size bytes:Nat)(AH:P.underlying t=Z (.slice e))(hi:P.info? e=Z i)(AR:i.zero=Z z)(R:i.size=size)(S:i.bytes=bytes)(B:z.cells.size=size)(T:0<size)(W:∀u∈z.cells.toList,H u)(v:A1)(n:Nat)(xs:List A1)(AQ:w.ownsRow base e size v n xs)(X:GJ H w size v n)(a:Addr)(m c:Nat)(f:List A1)(A:f.length=m*size)(d:∀j u,f[j]?=Z u->w.cell? (a.add j)=Z u)(h1:∀u∈f,u.oneCell'=A0)(QK:0<m)(E:n+m<=BK)(F:(n+m)*bytes<=140737488355328)(Jq:base<=w.heap.size):∃v' w',(U9 #[t,t] ty #[v,As (Z a) m c]).run P w=.ok v' w'/\w'.ownsRow base e size v' (n+m) (xs++f)/\w.grownBy w' v.ownBlock/\GJ H w' size v' (n+m):=by
 subst R;subst S;have gD:n+m<=9223372036854775807:=by simp only[BK]at E;omega
 have C:(xs++f).length=(n+m)*i.size:=by rw[HN,AQ.1,A,yV]
 have h:∀(old:Nat),old<n+m->∀(row:Option Nat),(w.drew.alloc (BE (xs.toArray++f.toArray++UA z.cells (aX w (n+m) old e-(n+m))) e)).ownsRow base e i.size (As (Z ⟨w.heap.size,0,J⟩) (n+m) (aX w (n+m) old e)) (n+m) (xs++f)/\w.grownBy (w.drew.alloc (BE (xs.toArray++f.toArray++UA z.cells (aX w (n+m) old e-(n+m))) e)) row/\GJ H (w.drew.alloc (BE (xs.toArray++f.toArray++UA z.cells (aX w (n+m) old e-(n+m))) e)) i.size (As (Z ⟨w.heap.size,0,J⟩) (n+m) (aX w (n+m) old e)) (n+m):=by
  intro old A7 row;have MZ:=grownCap_ge w (n+m) old e;have M:aX w (n+m) old e<=BK:=grownCap_le_maxLen w (n+m) old e E;refine⟨⟨C,AF ⟨w.heap.size,_,_,rfl,Jq,No w.drew _,MZ,M,?_,?_⟩⟩,⟨rfl,rfl,rfl,by simp,λk U _=>heap_alloc_old w.drew _ k U⟩,?_⟩;·simp only[hY,Kd,size_zeroCells,B,AQ.1,A,<-yV];congr 1;omega
  ·simp only[Array.toList_append,YJ];rw[<-YJ,<-C];exact aBl
  ·intro g b y e' p hv hc j u Q hu;injection hv with h2 _ _;injection h2 with h2;injection h2 with h2;subst h2;have h3:=No w.drew (BE (xs.toArray++f.toArray++UA z.cells (aX w (n+m) old e-(n+m))) e);have h4:w.drew.heap.size=w.heap.size:=rfl;rw[h4,hc]at h3;injection h3 with h3;injection h3 with h3 _ _;subst h3;rw[Array.getElem?_append_right (by simp only[hY,Kd,<-HN,C];exact Q)]at hu;have o:=Array.mem_of_getElem? hu;simp only[UA]at o;rw[Array.mem_iff_getElem]at o;obtain⟨x,hx,rfl⟩:=o;refine W _ ?_;simp at hx⊢;have hlt:x%z.cells.size<z.cells.size:=Nat.mod_lt _ (by rw[B];exact T);rw[getElem!_pos z.cells (x%z.cells.size) hlt];exact Array.getElem_mem hlt
 rcases AQ.2 with⟨rfl,rfl⟩|⟨g,b,y,rfl,K,I,sM,M,Ew,L⟩;·have hx:xs=[]:=List.eq_nil_of_length_eq_zero (by simpa using AQ.1);subst hx;have D:=run_append_nil (P:=P) w t ty e i z AH hi AR a m c f A d (by omega) (by omega) (by have hb:=F;simp only[Oq]at hb;omega);have KJ:=h 0 (by omega) (Sv (As J 0 0));simp only[Oq,YL,Array.empty_append]at KJ⊢;exact⟨_,_,D,KJ.1,KJ.2⟩
 ·by_cases r:n+m<=b
  ·have N:n*i.size+f.length<=y.size:=by rw[A,Ew,<-yV];exact Nat.mul_le_mul_right _ r
   have D:=run_append_room (P:=P) w t ty e i AH hi g n b y I a m c f A d h1 r N;refine⟨_,_,D,⟨C,AF ⟨g,b,_,rfl,K,aAE w g y _ e _ I,r,M,?_,?_⟩⟩,⟨rfl,rfl,rfl,by simp,λk _ U=>setRow_other w g k _ λe=>U (by simp[Sv,e])⟩,?_⟩;·simp only[Kd,HN,W1,aj,Array.length_toList];omega
   ·rw[L,<-C];exact aBl
   ·intro g' Yc aUk e' p hv hc j u Q hu;injection hv with h2 _ _;injection h2 with h2;injection h2 with h2;subst h2;rw[aAE w g y _ e _ I]at hc;injection hc with hc;injection hc with hc _ _;subst hc;rw[L,List.getElem?_toArray,List.getElem?_append_right (by rw[C];exact Q),List.getElem?_drop]at hu;refine X g b y e (0,0) rfl I (n*i.size+f.length+(j-(xs++f).length)) u (by omega) ?_;rw[<-Array.getElem?_toList];exact hu
  ·have s:∀j u,xs[j]?=Z u->w.cell? ((⟨g,0,J⟩:Addr).add j)=Z u:=AQ.cells (g:=g) rfl;have D:=run_append_grow (P:=P) w t ty e i z AH hi AR ⟨g,0,J⟩ n b xs AQ.1 s a m c f A d (by omega) (by omega) (growslice_fits (by omega) F);have KJ:=h b (by omega) (Sv (As (Z ⟨g,0,J⟩) n b));exact⟨_,_,D,KJ.1,KJ.2⟩
theorem a6W{ops:Array Oper}{rest:List Oper}{o:Oper}{a:Act}{Q:Exit->Act->A'->Prop}(p:A1->Prop)(N:o.guard=J)(s x:Operand)(t:A_)(A7:o.op=.call {callee:=.builtin .append,args:=#[s,x],argTypes:=#[t,t]})(base:Nat)(e:A_)(i:TypeInfo)(z:A1)(size bytes:Nat)(AH:P.underlying t=Z (.slice e))(hi:P.info? e=Z i)(AR:i.zero=Z z)(d:i.size=size)(I:i.bytes=bytes)(g:z.cells.size=size)(k:0<size)(D:∀u∈z.cells.toList,p u)(v:A1)(n:Nat)(xs:List A1)(hs:a.eval s=v)(AQ:w.ownsRow base e size v n xs)(r:GJ p w size v n)(ad:Addr)(m c:Nat)(b:List A1)(hx:a.eval x=As (Z ad) m c)(U:b.length=m*size)(B:∀j u,b[j]?=Z u->w.cell? (ad.add j)=Z u)(y:∀u∈b,u.oneCell'=A0)(E:0<m)(A:n+m<=BK)(M:(n+m)*bytes<=140737488355328)(H:base<=w.heap.size)(h:∀f w',w'.ownsRow base e size f (n+m) (xs++b)->w.grownBy w' v.ownBlock->GJ p w' size f (n+m)->wpList P ops Q rest (a.put o.dst f) w'):wpList P ops Q (o::rest) a w:=by refine wpList_plain N λK C=>?_;obtain⟨f,w',A2,h2,h3,h4⟩:=a5K (P:=P) w p base t o.type e i z size bytes AH hi AR d I g k D v n xs AQ r ad m c b U B y E A M H;unfold Oper.wp execOp;simp only[A7,resolve,invoke,builtin,Sem.run_bind,Sem.run_pure,Result.andThen_ok,List.map_toArray,GU,K8,hs,hx,A2];exact C _ _ (h f w' h2 h3 h4)
end
section
open Go.RowKit
theorem A3{p:Prop}(h:p):AP p:=h
theorem Ez{a b:Bool}(h:a=b):hq (aY5 a)=hq (aY5 b):=by rw[h]
theorem K0{k:IntKind}{a b:Int}(h:a=b):hq (IS k a)=hq (IS k b):=by rw[h]
theorem bu(b:UInt8)(w:A'):AZ A4 243 #[IS .u8 (b.toNat:Int)] w λe w'=>e=hq (aY5 (V.Tc b))/\w'=w:=by by_cases f:48<=(b.toNat:Int)<;>by_cases h2:(b.toNat:Int)<=57;all_goals go_enter Tryz.func243,Tryz.ntmps243;go_wp2;go_ret;exact⟨Ez (by simp[V.Tc];omega),rfl⟩
theorem lC(b:UInt8)(w:A'):AZ A4 244 #[IS .u8 (b.toNat:Int)] w λe w'=>e=hq (aY5 (V.isLet b))/\w'=w:=by by_cases f:97<=(b.toNat:Int)<;>by_cases h2:(b.toNat:Int)<=122<;>by_cases h3:65<=(b.toNat:Int)<;>by_cases h4:(b.toNat:Int)<=90;all_goals first|omega|(go_enter Tryz.func244,Tryz.ntmps244;go_wp2;go_ret;exact⟨Ez (by simp[V.isLet];omega),rfl⟩)
theorem mj(s:ByteArray)(k:Nat)(h:k<s.size):s.data.toList.take (k+1)=s.data.toList.take k++[s[k]]:=by rw[UU (by simpa using h)];rfl
theorem bw(s:ByteArray)(w:A')(hs:s.size<=BK):AZ A4 176 #[AI s] w λe w'=>e=hq (aY5 (V.digits s.data.toList))/\w'=w:=by
 unfold BK at hs;go_enter Tryz.func176,Tryz.ntmps176;go_wp2;go_loop[6]λi=>∃k:Nat,k<=s.size/\i=IS .i64 k/\AP ((s.data.toList.take k).all V.Tc=A0)(λi=>s.size-(L_ i).toNat);case atStart=>exact⟨0,JJ _,rfl,A3 (by simp)⟩
 case round=>
  obtain⟨k,f,rfl,H⟩:=hrel;by_cases hlt:k<s.size
  ·cases b:V.Tc s[k];·go_wp2_with(go_at_call 243;refine(bu _ _).mono ?_;rintro e w'⟨rfl,rfl⟩);go_ret;exact⟨Ez (V.aEO s.data.toList k (by simpa using hlt) b).symm,rfl⟩
   ·go_wp2_with(go_at_call 243;refine(bu _ _).mono ?_;rintro e w'⟨rfl,rfl⟩);go_round;case rel=>exact⟨k+1,by omega,by go_num,A3 (by rw[mj s k hlt,jH,H.out];simp[b])⟩
    case measure=>simp[L_];omega
  ·go_wp2;go_ret;exact⟨Ez (by rw[V.digits,Xo,<-e6 (l:=s.data.toList) (i:=k) (by simp;omega),H.out];simp),rfl⟩
theorem aHK(s:ByteArray)(h:0<s.size):s.data.toList.head?=Z s[0]:=by have:=Lib.data_getElem? s 0 h;rw[<-this,List.head?_eq_getElem?]
theorem a3R(b:UInt8)(n:Nat)(c:UInt8)(h:c.toNat=n):((b.toNat:Int)!=(n:Int))=(b !=c):=by
 subst h;rw[U3];simp only[bne_iff_ne,ne_eq];constructor;·intro h e;subst e;exact h rfl
 ·intro h e;exact h (UInt8.toNat_inj.1 (by omega))
theorem tL(s:ByteArray)(w:A')(hs:s.size<=BK):AZ A4 170 #[AI s] w λe w'=>e=hq (aY5 (V.number s.data.toList))/\w'=w:=by
 cases b:V.digits s.data.toList;·go_enter Tryz.func170,Tryz.ntmps170;go_wp2_with(go_at_call 176;refine(bw _ _ hs).mono ?_;rintro e w'⟨rfl,rfl⟩;rw[b]);go_ret;exact⟨Ez (by simp[V.number,b]),rfl⟩
 ·have p:0<s.size:=by have:=V.aEN b;have:=List.length_pos_iff.2 this;simpa using this
  have f:=aHK s p;have h:AP (V.number s.data.toList=(s.toList==[48]||(s[0].toNat:Int)!=48)):=by refine A3 ?_;unfold V.number;rw[b,f,Xo,show(48:Int)=((48:Nat):Int)from rfl,a3R s[0] 48 48 rfl];simp[bne]
  clear f;cases m:s.toList==[48];all_goals go_enter Tryz.func170,Tryz.ntmps170;go_wp2_with(go_at_call 176;refine(bw _ _ hs).mono ?_;rintro e w'⟨rfl,rfl⟩;rw[b]);go_ret;exact⟨Ez (by rw[h.out,m];simp),rfl⟩
theorem a1q(s:ByteArray)(w:A')(hs:s.size<=BK):AZ A4 171 #[AI s] w λe w'=>e=hq (aY5 (V.mark s.data.toList))/\w'=w:=by
 have A:=hs;unfold BK at A;cases m:V.digits s.data.toList
 ·have f:AP (V.mark s.data.toList=(s.data.toList.all V.M0&&!s.data.toList.isEmpty)):=by unfold V.mark;rw[m];rfl
  go_enter Tryz.func171,Tryz.ntmps171;go_wp2_with(go_at_call 176;refine(bw _ _ hs).mono ?_;rintro e w'⟨rfl,rfl⟩;rw[m]);go_loop[10]λi=>∃k:Nat,k<=s.size/\i=IS .i64 k/\AP ((s.data.toList.take k).all V.M0=A0)(λi=>s.size-(L_ i).toNat);case atStart=>exact⟨0,JJ _,rfl,A3 (by simp)⟩
  case round=>
   obtain⟨k,D,rfl,H⟩:=hrel;by_cases hlt:k<s.size
   ·have b:AP (V.M0 s[k]=(V.Tc s[k]||V.isLet s[k]||!(s[k].toNat:Int)!=45)):=by refine A3 ?_;unfold V.M0;rw[show(45:Int)=((45:Nat):Int)from rfl,a3R s[k] 45 45 rfl];simp[bne]
    have x:AP (V.M0 s[k]=A5->s.data.toList.all V.M0=A5):=by intro z;rw[jI];exact⟨s[k],by rw[show s[k]=s.data.toList[k]'(by simpa using hlt)from rfl];exact EC _,by simp[z]⟩
    have p:AP (V.M0 s[k]=A0->(s.data.toList.take (k+1)).all V.M0=A0):=by intro C;rw[mj s k hlt,jH,H.out];simp[C]
    cases h:V.Tc s[k]
    ·cases h2:V.isLet s[k]
     ·cases h3:(s[k].toNat:Int)!=45
      ·go_wp2_with(first|(go_at_call 243;refine(bu _ _).mono ?_;rintro e w'⟨rfl,rfl⟩)|(go_at_call 244;refine(lC _ _).mono ?_;rintro e w'⟨rfl,rfl⟩));go_round;case rel=>exact⟨k+1,by omega,by go_num,A3 (p.out (by rw[b.out,h,h2,h3];rfl))⟩
       case measure=>simp[L_];omega
      ·go_wp2_with(first|(go_at_call 243;refine(bu _ _).mono ?_;rintro e w'⟨rfl,rfl⟩)|(go_at_call 244;refine(lC _ _).mono ?_;rintro e w'⟨rfl,rfl⟩));go_ret;exact⟨Ez (by rw[f.out,x.out (by rw[b.out,h,h2,h3];rfl)];rfl),rfl⟩
     ·go_wp2_with(first|(go_at_call 243;refine(bu _ _).mono ?_;rintro e w'⟨rfl,rfl⟩)|(go_at_call 244;refine(lC _ _).mono ?_;rintro e w'⟨rfl,rfl⟩));go_round;case rel=>exact⟨k+1,by omega,by go_num,A3 (p.out (by rw[b.out,h,h2];rfl))⟩
      case measure=>simp[L_];omega
    ·go_wp2_with(first|(go_at_call 243;refine(bu _ _).mono ?_;rintro e w'⟨rfl,rfl⟩)|(go_at_call 244;refine(lC _ _).mono ?_;rintro e w'⟨rfl,rfl⟩));go_round;case rel=>exact⟨k+1,by omega,by go_num,A3 (p.out (by rw[b.out,h];rfl))⟩
     case measure=>simp[L_];omega
   ·have y:AP (s.data.toList.all V.M0=A0):=by rw[<-e6 (l:=s.data.toList) (i:=k) (by simp;omega)];exact H.out
    go_wp2;go_ret;exact⟨Ez (by rw[f.out,y.out,Xo];simp),rfl⟩
 ·have f:AP (V.mark s.data.toList=V.number s.data.toList):=by unfold V.mark;rw[m];rfl
  go_enter Tryz.func171,Tryz.ntmps171;go_wp2_with(first|(go_at_call 176;refine(bw _ _ hs).mono ?_;rintro e w'⟨rfl,rfl⟩;rw[m])|(go_at_call 170;refine(tL _ _ hs).mono ?_;rintro e w'⟨rfl,rfl⟩));go_ret;exact⟨Ez f.out.symm,rfl⟩
end
end Go.Proofs.YtcfhleenecfghaaGreatDoor
