import Derived.Test.YtmhafipgbfaapaaGreatDoorAbb0
import Derived.ArgAppend
import Derived.Laws.IdiomCopy
import Derived.ProofKit
import Derived.OpenShut
import Derived.Deep.Slices
import Derived.SizedLaws
import Derived.Test.YtmhafipgbfaapaaGreatDoorPck00
set_option maxRecDepth 100000
set_option maxHeartbeats 8000000
set_option linter.unusedVariables false
set_option linter.unusedSimpArgs false
set_option linter.unusedSectionVars false
namespace Go.Proofs.YtmhafipgbfaapaaGreatDoor
section
open Go.Proofs.Tryz
open aK Go.RowKit Go.ChangeShapes Go.WideShapes Go.Deep
variable {A LB R X Y : Nat -> Nat} {D num : Nat -> Nat -> Nat} {H B F : Type} {L LF LT : Nat -> aA} {M MF MT : Nat -> aN} {Mk : au -> aA -> aN -> Prop} {N b base c ct E g gw i j k n p : Nat} {P : Program} {SF ST T : aD} {W w w' y wr : au} {a : Option Addr} {C : List aA} {e el t : bf} {fs : Array Field} {held : Bool} {s : aN} {f : Nat -> Bool} {u v v0 v1 v2 v3 v4 v5 : aA} {x z : Int}
section
variable {d : DataW H} {x : DataW H × List MemPlace} {l h : List (DataW H)} {o : bf × aA -> H}
theorem Kv(w:Nat)(p:Nat×Nat)(Y:Nat->Nat)(r i:Nat)(c:i<w):add1 w p Y (r*w+i)=if p.2=r then Y (r*w+i)^^^Y (p.1*w+i)else Y (r*w+i):=by
 unfold add1;by_cases e:p.2=r
 .rw[aI e,e,aI ⟨Q0,Q0⟩,show r*w+i-r*w=i by omega]
 .rw[av e,av];rintro⟨a,b⟩;obtain h|h:=Nat.lt_or_gt_of_ne e
  .have:=iR w h;rw[jk]at this;omega
  .have:=iR w h;rw[jk]at this;omega
theorem Pm(w:Nat)(L:List (Nat×Nat)):∀(Y:Nat->Nat)(r i:Nat),(∀p∈L,∀q∈L,p.1≠q.2)->i<w->iD w L Y (r*w+i)=Y (r*w+i)^^^xs ((L.filter λp=>p.2=r).map λp=>Y (p.1*w+i)):=by
 induction L with
 |nil=>intro Y r i _ _;simp[iD,xs]
 |cons p L j=>
  intro Y r i h d;show iD w L (add1 w p Y) (r*w+i)=_;rw[j (add1 w p Y) r i (λa f b hb=>h a (by simp[f]) b J7) d,Kv w p Y r i d];have e:xs ((L.filter λp=>p.2=r).map λq=>add1 w p Y (q.1*w+i))=xs ((L.filter λp=>p.2=r).map λq=>Y (q.1*w+i)):=by apply mH;intro q g;rw[Kv w p Y q.1 i d,av (λe=>h q (by simp[(List.mem_filter.1 g).1]) p X0 e.symm)]
  rw[e];by_cases c:p.2=r
  .simp[c,xs,jV]
  .simp[c]
theorem Ua(l:List B)(f:B->List F)(g:F->Nat):xs ((l.flatMap f).map g)=xs (l.map λa=>xs ((f a).map g)):=by
 induction l with
 |nil=>rfl
 |cons a l i=>simp only[List.flatMap_cons,List.map_append,xk,kM,xs,i]
theorem Fq(l:List B)(f:B->List F)(c:F->Bool):(l.flatMap f).filter c=l.flatMap λa=>(f a).filter c:=by
 induction l with
 |nil=>rfl
 |cons a l i=>simp only[List.flatMap_cons,List.filter_append,i]
theorem Ub(U:List Nat)(f:U.Nodup)(a b:Nat)(g:a<8*U.length)(i:b<8*U.length)(h:pkt U a=pkt U b):a=b:=by
 unfold pkt at h;have c:U.getD (a/8) 0=U.getD (b/8) 0:=by omega
 have l:a/8<U.length:=by omega
 have lb:b/8<U.length:=by omega
 have e:U.getD (a/8) 0=U[a/8]:=by simp[List.getD,l]
 have d:U.getD (b/8) 0=U[b/8]:=by simp[List.getD,lb]
 rw[e,d]at c;have:=(List.getElem_inj f).1 c;omega
theorem Pn(k m:Nat)(t:Nat->Bool)(P:Nat->Nat->Nat)(R:Nat)(g:R<8*(aV (λi=> !t i) (k+m)).length)(f:Nat->Nat):
 xs (((dD k m t P).filter λp=>p.2=pkt (aV (λi=> !t i) (k+m)) R).map λp=>f p.1)=sm (8*k) (λq=>if cZ P R q then f (pkt (aV t (k+m)) q)else 0):=by
 unfold dD iA;rw[Fq,Ua];have e:xs ((List.range (8*(aV (λi=> !t i) (k+m)).length)).map λr=>xs (((dH (cZ P) (pkt (aV t (k+m))) (pkt (aV (λi=> !t i) (k+m))) r (8*k)).filter λp=>p.2=pkt (aV (λi=> !t i) (k+m)) R).map λp=>f p.1))
  =sm (8*(aV (λi=> !t i) (k+m)).length) (λr=>if r=R then xs ((dH (cZ P) (pkt (aV t (k+m))) (pkt (aV (λi=> !t i) (k+m))) r (8*k)).map λp=>f p.1)else 0):=by
  apply mH;intro r n;have d:=gY.1 n;by_cases c:r=R
  .subst c;rw[aI rfl,List.filter_eq_self.2];intro p b;unfold dH at b;obtain⟨q,_,rfl⟩:=gQ.1 b;simp
  .rw[av c,List.filter_eq_nil_iff.2]
   .rfl
   .intro p b;unfold dH at b;obtain⟨q,_,rfl⟩:=gQ.1 b;simp only[decide_eq_true_eq];exactλh=>c (Ub _ (uz _ _) r R d g h)
 rw[e,kP _ g];unfold dH;rw[List.map_map];have:=Cg (l:=List.range (8*k)) (f:=λq=>if cZ P R q then f (pkt (aV t (k+m)) q)else 0) (cZ P R) (λa _ h=>by simp[h]);unfold sm;rw[this];apply mH;intro q j;have:=(List.mem_filter.1 j).2;simp[this]
theorem Po(k:Nat)(f:Nat->Nat):sm (8*k) f=sm k (λl=>sm 8 (λs=>f (8*l+s))):=by
 induction k with
 |zero=>rfl
 |succ k i=>rw[pU,<-i,show 8*(k+1)=8*k+8 by omega];simp only[sm,List.range_succ,List.map_append,kM,List.map_nil,xk,xs];simp[jV,xs,List.range,List.range.loop]
def numOf(B:Nat->Nat)(t:Nat):Nat:=sm 8 (λs=>if(B s).testBit t then 2^s else 0)
theorem zR(B:Nat->Nat)(t:Nat):numOf B t<256:=Kt (λs h=>by split;exact Dz s h;decide)
theorem uD(n:Nat)(f:Nat->Nat)(p:Nat):(sm n f).testBit p=(List.range n).foldr (λs c=>(f s).testBit p^^c) false:=by
 unfold sm
 induction List.range n with
 |nil=>simp[xs]
 |cons a l i=>simp[xs,i]
theorem oH(B:Nat->Nat)(t s:Nat)(a:s<8):(numOf B t).testBit s=(B s).testBit t:=by
 have e:∀x,x<8->(if(B x).testBit t then 2^x else 0)=(if(B x).testBit t then 2^x else 0):=λ_ _=>rfl;unfold numOf;rw[uD];have h:∀x,((if(B x).testBit t then 2^x else 0:Nat)).testBit s=(decide (x=s)&&(B x).testBit t):=λx=>by
  by_cases c:(B x).testBit t=true
  .rw[aI c,c,Bool.and_true,Nat.testBit_two_pow]
  .rw[av c];simp[c]
 simp only[h,List.range,List.range.loop,List.foldr]
 match s,a with
 |0,_=>simp
 |1,_=>simp
 |2,_=>simp
 |3,_=>simp
 |4,_=>simp
 |5,_=>simp
 |6,_=>simp
 |7,_=>simp
theorem uG{a:Nat}(c:a<256)(d:b<256)(h:∀t,t<8->a.testBit t=b.testBit t):a=b:=by
 apply Nat.eq_of_testBit_eq;intro t;by_cases e:t<8
 .exact h t e
 .rw[Nat.testBit_lt_two_pow (bG c (tH U0 Q0:2^8<=2^t)),Nat.testBit_lt_two_pow (bG d (tH U0 Q0:2^8<=2^t))]
theorem Ck{B C:Nat->Nat}(b:∀s,s<8->B s<256)(c:∀s,s<8->C s<256)(h:∀t,t<8->numOf B t=numOf C t)(s:Nat)(a:s<8):B s=C s:=by apply uG (b s a) (c s a);intro t d;rw[<-oH B t s a,<-oH C t s a,h t d]
theorem MO(B C:Nat->Nat)(t:Nat):numOf (λs=>B s^^^C s) t=numOf B t^^^numOf C t:=by unfold numOf;rw[<-Dw];apply bH;intro s _;rw[Nat.testBit_xor];cases(B s).testBit t<;>cases(C s).testBit t<;>simp
theorem II(t:Nat):numOf (λ_=>0) t=0:=Kq (λs _=>X0)
def Cn(a:Nat)(B:Nat->Nat)(p:Nat):Nat:=sm 8 (λs=>if Ci a p s then B s else 0)
theorem Pp(a:Nat)(c:a<256)(B:Nat->Nat)(t:Nat):numOf (Cn a B) t=fm a (numOf B t):=by
 apply uG (zR _ _) (tF _ _);intro p d;rw[oH _ _ _ d];have e:fm a (numOf B t)=sm 8 (λs=>if(B s).testBit t then mul a (2^s)else 0):=by
  unfold numOf;rw[zM];apply bH;intro s f
  split
  .exact EY c (Dz s f)
  .exact kI _
 rw[e];unfold Cn;rw[uD,uD]
 congr 1
 funext s acc
 congr 1
 unfold Ci;cases h:(mul a (2^s)).testBit p<;>cases b:(B s).testBit t<;>simp[h,b]
theorem Pq(k:Nat)(F:Nat->Nat->Nat)(t:Nat):numOf (λs=>sm k (λl=>F l s)) t=sm k (λl=>numOf (F l) t):=by
 induction k with
 |zero=>exact II t
 |succ k i=>rw[pU,<-i,<-MO];unfold numOf;apply bH;intro s _;simp only[pU]
def jI(w:Nat)(b:aN)(i t:Nat):Nat:=numOf (λp=>fF b (p*w+i)) t
def Pt(k n w:Nat)(C:Nat->aN):Prop:=∀a i t,a<n->i<w->t<8->jI w (C a) i t=sm k (λj=>fm (entry k a j) (jI w (C j) i t))
theorem Kw(Z:Nat->Nat)(o n x:Nat)(a:x<n)(h:Z (o+x)<256):fF (jo Z o n) x=Z (o+x):=by unfold fF jo;simp[a,eP h]
theorem xu(Z:Nat->Nat)(o n:Nat):(jo Z o n).size=n:=by simp[jo,ByteArray.size]
theorem Co{a b:aN}(s:a.size=b.size)(h:∀x,x<a.size->fF a x=fF b x):a=b:=by
 apply ByteArray.ext;apply Array.toList_inj.1;apply List.ext_getElem?;intro x;have l:a.data.toList.length=a.size:=by simp
 have lb:b.data.toList.length=b.size:=by simp
 by_cases c:x<a.size
 .have:=h x c;unfold fF at this;rw[List.getElem?_eq_getElem Q0,List.getElem?_eq_getElem Q0]at this ⊢;simp only[fq]at this;rw[UInt8.toNat_inj.1 this]
 .rw[vH Q0,vH Q0]
theorem Uc(w:Nat)(L:List (Nat×Nat)):∀(Y:Nat->Nat),(∀x,Y x<256)->∀x,iD w L Y x<256:=by
 induction L with
 |nil=>intro Y h x;exact h x
 |cons p L i=>intro Y h x;exact i (add1 w p Y) (λx=>by unfold add1;split;exact fD (h _) (h _);exact h _) x
theorem zS(k m:Nat)(t:Nat->Bool)(P:Nat->Nat->Nat)(h:(aV t (k+m)).length=k):∀p∈dD k m t P,∀q∈dD k m t P,p.1≠q.2:=by
 intro p g q i e;obtain⟨a,b,x,y,_,_,s,u,d,_,o,_⟩:=rZ k m t P h p g;obtain⟨n,f,v,w,_,_,j,l,_,c,_,r⟩:=rZ k m t P h q i;have:a=f:=by omega
 rw[this,c]at d;cases d
theorem IJ(k m w:Nat)(t:Nat->Bool)(P:Nat->Nat->Nat)(X:Nat->Nat)(h:(aV t (k+m)).length=k)(n p i:Nat)(f:t n=true)(l:p<8)(d:i<w):
 iD w (dD k m t P) X ((8*n+p)*w+i)=X ((8*n+p)*w+i):=by
 rw[Pm w _ X _ i (zS k m t P h) d,List.filter_eq_nil_iff.2]
 .simp[xs]
 .intro q g;obtain⟨a,b,x,y,_,_,o,r,_,c,_,j⟩:=rZ k m t P h q g;simp only[decide_eq_true_eq];intro e;have:b=n:=by omega
  rw[this,f]at c;cases c
theorem DJ(k m w:Nat)(t:Nat->Bool)(P:Nat->Nat->Nat)(X:Nat->Nat)(h:(aV t (k+m)).length=k)(a p i:Nat)(c:a<(aV (λi=> !t i) (k+m)).length)(d:p<8)(b:i<w):
 iD w (dD k m t P) X ((8*(aV (λi=> !t i) (k+m)).getD a 0+p)*w+i)=
  X ((8*(aV (λi=> !t i) (k+m)).getD a 0+p)*w+i)^^^sm k (λl=>Cn (P a l) (λs=>X ((8*(aV t (k+m)).getD l 0+s)*w+i)) p):=by
 rw[Pm w _ X _ i (zS k m t P h) b]
 congr 1
 have e:8*(aV (λi=> !t i) (k+m)).getD a 0+p=pkt (aV (λi=> !t i) (k+m)) (8*a+p):=by unfold pkt;rw[show(8*a+p)/8=a by omega,show(8*a+p)%8=p by omega]
 rw[e,Pn k m t P (8*a+p) Q0 (λq=>X (q*w+i)),Po];apply bH;intro l _;unfold Cn;apply bH;intro s f;unfold cZ pkt;rw[show(8*a+p)/8=a by omega,show(8*a+p)%8=p by omega,show(8*l+s)/8=l by omega,show(8*l+s)%8=s by omega]
theorem xw(H:Nat->Nat)(D:Nat->aN)(s:Nat):∀k,(∀i j,i<k->j<k->H i=H j->i=j)->∀i x,i<k->x<s->tK H D s k (H i*s+x)=fF (D i) x
 |0,_,i,_,c,_=>by omega
 |k+1,J,i,x,c,d=>by
  unfold tK
  by_cases e:i=k
  .subst e
   rw[aI ⟨Q0,Q0⟩,show H i*s+x-H i*s=x by omega]
  .rw[av,xw H D s k (λa b l m=>J a b Q0 Q0) i x Q0 d]
   rintro⟨f,g⟩
   obtain h|h|h:=Nat.lt_trichotomy (H i) (H k)
   .have:=iR s h;rw[jk]at this;omega
   .exact e (J i k Q0 Q0 h)
   .have:=iR s h;rw[jk]at this;omega
theorem yt(H:Nat->Nat)(D:Nat->aN)(s n x:Nat)(b:x<s):∀k,(∀i,i<k->H i≠n)->tK H D s k (n*s+x)=0
 |0,_=>rfl
 |k+1,h=>by
  unfold tK
  rw[av,yt H D s n x b k (λi e=>h i Q0)]
  rintro⟨c,d⟩
  obtain a|a:=Nat.lt_or_gt_of_ne (h k Q0)
  .have:=iR s a;rw[jk]at this;omega
  .have:=iR s a;rw[jk]at this;omega
theorem place(n p w i:Nat):(8*n+p)*w+i=n*(8*w)+(p*w+i):=by rw[Nat.add_mul,Nat.mul_assoc,Nat.mul_left_comm,lN 8 w,Nat.add_assoc]
theorem qR{w x:Nat}(hw:0<w)(h:x<8*w):x/w<8/\x%w<w/\x/w*w+x%w=x:=by refine⟨Nat.div_lt_of_lt_mul (by rw[lN];exact h),Nat.mod_lt _ hw,?_⟩;rw[lN];exact Nat.div_add_mod x w
theorem in_lt{w:Nat}(a:p<8)(h:i<w):p*w+i<8*w:=by have:=iR w (show p+1<=8 by omega);rw[jk]at this;omega
theorem MP(t:Nat->Bool)(N n:Nat)(a:n<N)(b:t n=true):∃i,i<(aV t N).length/\(aV t N).getD i 0=n:=by
 have m:n∈aV t N:=by unfold aV;rw[List.mem_filter,gY];exact⟨a,b⟩
 obtain⟨i,h,e⟩:=List.getElem_of_mem m;exact⟨i,h,by rw[<-e];simp[List.getD,h]⟩
theorem Pv(k m w:Nat)(H:Nat->Nat)(D:Nat->aN)(P:Nat->Nat->Nat)(C:Nat->aN)(v:gT k m (gZ H k) P)(N:∀i,i<k->H i<k+m)(J:∀i j,i<k->j<k->H i=H j->i=j)(u:∀i,i<k->D i=C (H i))
 (a:Nat)(c:a<(aV (λi=> !gZ H k i) (k+m)).length)(i t:Nat)(f:i<w):
 numOf (λp=>iD w (dD k m (gZ H k) P) (tK H D (8*w) k) ((8*(aV (λi=> !gZ H k i) (k+m)).getD a 0+p)*w+i)) t=sm k (λl=>fm (P a l) (jI w (C ((aV (gZ H k) (k+m)).getD l 0)) i t)):=by
 have b:=DF H k (k+m) N J;have q:numOf (λp=>iD w (dD k m (gZ H k) P) (tK H D (8*w) k) ((8*(aV (λi=> !gZ H k i) (k+m)).getD a 0+p)*w+i)) t=numOf (λp=>sm k (λl=>Cn (P a l) (λs=>fF (C ((aV (gZ H k) (k+m)).getD l 0)) (s*w+i)) p)) t:=by
  unfold numOf;apply bH;intro p o
  congr 2
  show(iD w (dD k m (gZ H k) P) (tK H D (8*w) k) ((8*(aV (λi=> !gZ H k i) (k+m)).getD a 0+p)*w+i)).testBit t=_;rw[DJ k m w (gZ H k) P _ b a p i c o f]
  congr 1
  have h:=DI (λi=> !gZ H k i) (k+m) a c;rw[place,yt H D (8*w) _ _ (in_lt o f) k (λj d e=>by have:gZ H k ((aV (λi=> !gZ H k i) (k+m)).getD a 0)=true:=(zh H k _).2 ⟨j,d,e⟩;rw[this]at h;cases h),Nat.zero_xor]
  apply bH;intro l g;unfold Cn;apply bH;intro s x;have n:=DI (gZ H k) (k+m) l (by rw[b];exact g);obtain⟨j,d,r⟩:=(zh H k _).1 n;show(if Ci (P a l) p s=true then tK H D (8*w) k ((8*(aV (gZ H k) (k+m)).getD l 0+s)*w+i)else 0)=if Ci (P a l) p s=true then fF (C ((aV (gZ H k) (k+m)).getD l 0)) (s*w+i)else 0
  rw[place,<-r,xw H D (8*w) k J j _ d (in_lt x f),u j d]
 rw[q,Pq];apply bH;intro l g;exact Pp _ (v.lt a l c g) _ t
theorem MQ(k m w:Nat)(H:Nat->Nat)(D:Nat->aN)(P:Nat->Nat->Nat)(C:Nat->aN)(hw:0<w)(v:gT k m (gZ H k) P)(N:∀i,i<k->H i<k+m)(J:∀i j,i<k->j<k->H i=H j->i=j)(u:∀i,i<k->D i=C (H i))
 (s:Pt k (k+m) w C)(S:∀n,n<k+m->(C n).size=8*w)(n:Nat)(q:n<k+m):told k m w H D P n=C n:=by
 have h:=DF H k (k+m) N J;have Z:∀x,iD w (dD k m (gZ H k) P) (tK H D (8*w) k) x<256:=Uc w _ _ (IG H D (8*w) k);apply Co
 .rw[S n q];exact xu _ _ _
 .intro x y;have f:x<8*w:=by rw[show(told k m w H D P n).size=8*w from xu _ _ _]at y;exact y
  obtain⟨o,b,E⟩:=qR hw f;show fF (jo _ (n*(8*w)) (8*w)) x=_;rw[Kw _ _ _ _ f (Z _)];rw[<-E,<-place];cases r:gZ H k n with
  |true=>rw[IJ k m w _ P _ h n _ _ r o b,place];obtain⟨j,g,A⟩:=(zh H k n).1 r;rw[<-A,xw H D (8*w) k J j _ g (in_lt o b),u j g]
  |false=>
   obtain⟨a,c,e⟩:=MP (λi=> !gZ H k i) (k+m) n q (by simp[r]);rw[<-e];refine Ck (B:=λp=>iD w (dD k m (gZ H k) P) (tK H D (8*w) k) ((8*(aV (λi=> !gZ H k i) (k+m)).getD a 0+p)*w+x%w)) (C:=λp=>fF (C ((aV (λi=> !gZ H k i) (k+m)).getD a 0)) (p*w+x%w)) (λ_ _=>Z _) (λ_ _=>rY _ _) (λt d=>?_) (x/w) o;rw[Pv k m w H D P C v N J u a c (x%w) t b];show _=jI w (C _) (x%w) t;rw[s _ (x%w) t (by rw[e];exact q) b d];have z:sm k (λl=>fm (P a l) (jI w (C ((aV (gZ H k) (k+m)).getD l 0)) (x%w) t))=sm k (λl=>sm k (λj=>fm (fm (P a l) (entry k ((aV (gZ H k) (k+m)).getD l 0) j)) (jI w (C j) (x%w) t))):=by apply bH;intro l F;rw[s _ (x%w) t (vG _ _ _ (by rw[h];exact F)) b d,zM];apply bH;intro j _;rw[eD]
   rw[z,Kr];apply bH;intro j g;rw[<-WY,v.eq a j c g]
theorem nV(a b:Nat)(o:a<256)(A:b<256)(w:au):
 Calls prog 140 #[ah a,ah b] w λe w'=>e=.returned (ah (aK.mul a b:Nat))/\w'=w:=by
 go_enter func140,ntmps140
 go_wp2
 go_loop [5,6] (λv i=>∃n u:Nat,u<256/\n<=8/\Hid (aK.oF a b n u=aK.mul a b)/\v=ah u/\i=ah ((n:Int)-1)) (λ_ i=>(intOf i+1).toNat)
 case atStart=>exact⟨8,0,U0,U0,aK.OP a b o A,X0,X0⟩
 case round=>
  obtain⟨n,u,C,s,M,rfl,rfl⟩:=hrel
  match n,s,M with
  |0,_,M=>
   have D:aK.oF a b 0 u=u:=rfl;have F:Hid (u=aK.mul a b):=M.out;go_wp2
   go_ret
   exact⟨by rw[<-F.out];rfl,rfl⟩
  |n+1,s,M=>
   have t:((n+1:Nat):Int)-1=(n:Int):=by omega
   rw[t];have g:=aK.qP u C;have X:Hid (aK.xt u=if 255<2*u then(2*u)^^^285 else 2*u):=rfl;have j:Hid (bits .xor .i64 ((u:Int)*2) 285=(((2*u)^^^285:Nat):Int)):=by have:=iY (2*u) 285 Q0 U0;show bits .xor .i64 ((u:Int)*2) 285=(((2*u)^^^285:Nat):Int);rw[<-this];congr 1;omega
   have l:Hid (bits .xor .i64 ((aK.xt u:Nat):Int) (a:Int)=((aK.xt u^^^a:Nat):Int)):=iY _ a Q0 Q0;have x:=aK.fD g o;have p:((b:Int)/2^n).tmod 2=((b/2^n%2:Nat):Int):=by
    have e:((b:Int)/2^n)=((b/2^n:Nat):Int):=by push_cast;rfl
    rw[e];generalize b/2^n=q;rw[Int.tmod_eq_emod_of_nonneg Q0];omega
   have f:Hid (aK.oF a b n (if b/2^n%2=1 then aK.xt u^^^a else aK.xt u)=aK.mul a b):=M.out;obtain c|d:=zK (b/2^n)
   .have y:(((b:Int)/2^n).tmod 2==1)=false:=by rw[p,c];rfl
    have m:Hid (aK.oF a b n (aK.xt u)=aK.mul a b):=by have:=f.out;rw[c]at this;exact this
    clear p f;by_cases B:255<(u:Int)*2
    .go_wp2;refine⟨⟨n,aK.xt u,g,Q0,m.out,?_,rfl⟩,by simp[intOf]⟩;rw[j.out,X.out,aI Q0]
    .go_wp2;refine⟨⟨n,aK.xt u,g,Q0,m.out,?_,rfl⟩,by simp[intOf]⟩;rw[X.out,av Q0];congr 1;omega
   .have y:(((b:Int)/2^n).tmod 2==1)=true:=by rw[p,d];rfl
    have m:Hid (aK.oF a b n (aK.xt u^^^a)=aK.mul a b):=by have:=f.out;rw[d]at this;exact this
    clear p f;by_cases B:255<(u:Int)*2
    .go_wp2;refine⟨⟨n,aK.xt u^^^a,x,Q0,m.out,?_,rfl⟩,by simp[intOf]⟩;rw[<-l.out,j.out,X.out,aI Q0]
    .go_wp2;refine⟨⟨n,aK.xt u^^^a,x,Q0,m.out,?_,rfl⟩,by simp[intOf]⟩;rw[<-l.out,X.out,av Q0];congr 2;omega
theorem DK(a:Nat)(m:a<256)(w:au):
 Calls prog 142 #[ah a] w λe w'=>e=.returned (ah (aK.inv a:Nat))/\w'=w:=by
 go_enter func142,ntmps142
 go_wp2
 go_loop [3,4,5] (λv p i=>∃n c d:Nat,c<256/\d<256/\n<=7/\Hid (aK.TF n c (aK.mul d d)=aK.inv a)/\v=ah c/\p=ah d/\i=ah (7-(n:Int))) (λ_ _ i=>(7-intOf i).toNat)
 case atStart=>exact⟨7,1,a,U0,m,U0,rfl,X0,X0,X0⟩
 case round=>
  obtain⟨n,c,d,g,f,j,M,rfl,rfl,rfl⟩:=hrel
  match n,j,M with
  |0,_,M=>
   go_wp2_with fail
   go_ret
   exact⟨by rw[<-M.out];rfl,rfl⟩
  |n+1,j,M=>
   have hdd:=aK.mul_lt d f;have b:=aK.mul_lt (aK.mul d d) g;have l:7-((n+1:Nat):Int)=6-(n:Int):=by omega
   have hlt:(6:Int)-n<7:=by omega
   rw[l]
   go_wp2_with fail
   refine(nV d d f f _).mono ?_;rintro e o ⟨rfl,rfl⟩
   go_wp2_with fail
   refine(nV c _ g hdd _).mono ?_;rintro e o ⟨rfl,rfl⟩
   go_wp2_with fail
   refine⟨⟨n,aK.mul c (aK.mul d d),aK.mul d d,b,hdd,Q0,M.out,rfl,rfl,by congr 1;omega⟩,by simp[intOf];omega⟩
def lG(w:au)(b n:Nat)(X:Nat->Nat):Prop:=w.rowIs b 3 n (λj=>ah (X j:Nat))
theorem lG.cell(h:lG w b n X)(a:i<n):w.cell? (aB b i)=some (ah (X i:Nat)):=World.rowIs.cell h a
theorem lG.frozen(h:lG w b n X)(i:Nat):w.frozen? (aB b i)=false:=World.rowIs.frozen h i
theorem lG.lt(h:lG w b n X):b<w.heap.size:=World.rowIs.lt h
theorem lG.congr(h:lG w b n X)(e:∀i,i<n->X i=Y i):lG w b n Y:=World.rowIs.congr h (λi a=>by rw[e i a])
theorem lG.set(h:lG w b n X)(i v:Nat):lG (w.setCell (aB b i) (ah (v:Nat))) b n (λj=>if j=i then v else X j):=World.rowIs.congr (World.rowIs.set h i _) (λj _=>by by_cases e:j=i<;>simp[e])
theorem lG.keep{S:aD}(h:lG w b n X)(k:Keep S w w')(a:¬S b):lG w' b n X:=k.row h a
theorem lG.step{w:au}{t n k:Nat}{A B:Nat->Nat}{v:Int}(h:lG w t n (λj=>if j<k then B j else A j))(b:v=((B k:Nat):Int)):lG (w.setCell (aB t k) (ah v)) t n (λj=>if j<k+1 then B j else A j):=by
 subst b;refine(h.set k (B k)).congr (λi _=>?_);by_cases e:i=k
 .subst e;simp
 .by_cases a:i<k
  .simp[e,a,oq a]
  .simp[e,a,show¬i<k+1 by omega]
theorem lG.drew{t:Nat}(h:lG w t n A):lG w.drew t n A:=h
theorem zT:(prog.info? 3).map (λi=>(i.zero,i.size,i.bytes))=some (some (ah 0),1,8):=by kernel_rfl
def sj(b:Nat->Nat):Nat->Nat
 |0=>0
 |n+1=>sj b n+b n*2^n
theorem DL(b:Nat->Nat)(n:Nat)(h:∀i,i<n->b i<2):sj b n<2^n:=by
 induction n with
 |zero=>show 0<1;decide
 |succ n a=>have c:=a (λi e=>h i Q0);have d:=iR (2^n) (show b n<=1 by have:=h n Q0;omega);rw[sj,Nat.pow_succ];omega
theorem Ud{a:Nat}(h:a<2^n):a+2^n=a^^^2^n:=by
 apply Nat.eq_of_testBit_eq;intro i;rw[Nat.testBit_xor,Nat.testBit_two_pow,Nat.add_comm];obtain b|b|b:=Nat.lt_trichotomy i n
 .rw[Nat.testBit_two_pow_add_gt b,iI Q0,Bool.xor_false]
 .subst b;rw[Nat.testBit_two_pow_add_eq,nG rfl,Bool.xor_true]
 .rw[iI Q0,Bool.xor_false,Nat.testBit_lt_two_pow (bG h (tH U0 Q0))];refine Nat.testBit_lt_two_pow ?_;have:2^n+a<2^(n+1):=by rw[Nat.pow_succ];omega
  exact bG this (tH U0 Q0)
theorem Pw(b:Nat->Nat)(n:Nat)(h:∀i,i<n->b i<2):sj b n=sm n (λs=>if b s=1 then 2^s else 0):=by
 induction n with
 |zero=>rfl
 |succ n d=>
  have a:=DL b n (λi c=>h i Q0);rw[pU,<-d (λi c=>h i Q0),sj];have:=h n Q0;by_cases e:b n=1
  .rw[aI e,e,Nat.one_mul,Ud a]
  .rw[av e,show b n=0 by omega,Nat.zero_mul,nM,oI]
theorem Fu(a t:Nat):(a/2^t%2=1)↔a.testBit t=true:=by rw[Nat.testBit_eq_decide_div_mod_eq];simp
def lJ(s:aN)(w q p:Nat):Nat:=fF s (p*w+q/8)/2^(q%8)%2
theorem DN(s:aN)(w q p:Nat):lJ s w q p<2:=Nat.mod_lt _ U0
theorem Ue(s:aN)(w q:Nat):sj (lJ s w q) 8=jI w s (q/8) (q%8):=by
 rw[Pw _ _ (λi _=>DN _ _ _ _)];unfold jI numOf;apply bH;intro p _;show(if lJ s w q p=1 then 2^p else 0)=if(fF s (p*w+q/8)).testBit (q%8)=true then 2^p else 0
 unfold lJ;by_cases h:(fF s (p*w+q/8)).testBit (q%8)=true
 .rw[aI h,aI ((Fu _ _).2 h)]
 .rw[av h,av (λe=>h ((Fu _ _).1 e))]
theorem Fv(s:aN)(i:Nat)(h:i<s.size):fF s i=s[i].toNat:=by unfold fF;rw[List.getElem?_eq_getElem X5];rfl
theorem Kz(h:p<8):2^p<=128:=tH (n:=2) U0 (show p<=7 by omega)
theorem xA(s:aN)(a:Nat)(w:au)(J:s.size=8*a)(hw:a<=8):
 Calls prog 104 #[aW s] w λe w'=>e=.returned (aU w.heap.size (8*a) (8*a))/\lG w' w.heap.size (8*a) (λq=>jI a s (q/8) (q%8))/\Keep bD w w':=by
 obtain⟨N,t⟩:∃N,N=8*a:=⟨_,rfl⟩;rw[<-t]at J ⊢;have Z:=run_make_row' (P:=prog) 25 3 (ah 0) 8 underlying25 zT rfl .i64 .i64 N Q0 Q0;have hd:(N:Int)/8=(a:Int):=by rw[t];omega
 have HN:Hid (N=8*a):=t;have E:N<=64:=by omega
 clear t
 go_enter func104,ntmps104
 go_wp2
 go_loopw [5,6,7] (λi _ _ wr=>∃p:Nat,p<=8/\i=ah p/\lG wr w.heap.size N (λq=>sj (lJ s a q) p)/\Keep bD w wr) (λi _ _ _=>8-(intOf i).toNat)
 case atStart=>exact⟨0,bU _,X0,World.rowIs.congr (World.rowIs_made w _ N _) (λi _=>by simp[sj]),(Keep.refl bD w).alloc _⟩
 case round=>
  obtain⟨p,hp,rfl,g,hK⟩:=hrel;by_cases hlt:p<8
  .have i1:(p:Int)<8:=by omega
   have R:Hid (lG wr w.heap.size N (λq=>sj (lJ s a q) p)):=g;have u:Hid (Keep bD w wr):=hK;clear g hK;go_wp2
   go_loopw [6,7] (λi _ L=>∃q:Nat,q<=N/\i=ah q/\lG L w.heap.size N (λj=>if j<q then sj (lJ s a j) (p+1)else sj (lJ s a j) p)/\Keep bD w L) (λi _ _=>N-(intOf i).toNat)
   case atStart=>exact⟨0,bU _,X0,R.out.congr (λi _=>X0),u.out⟩
   case round=>
    obtain⟨q,hq,rfl,g,hK⟩:=hrel;by_cases v:q<N
    .have j1:(q:Int)<(N:Int):=by omega
     have ct:wr.cell? (aB w.heap.size q)=some (ah (sj (lJ s a q) p:Nat)):=by have:=g.cell v;simpa using this
     have zt:=g.frozen q;obtain⟨W,f⟩:∃W,W=p*a:=⟨_,rfl⟩;have ep:(p:Int)*(a:Int)=(W:Int):=by rw[f];push_cast;rfl
     obtain⟨Q,m⟩:∃Q,Q=q/8:=⟨_,rfl⟩;have U:(q:Int)/8=(Q:Int):=by omega
     obtain⟨M,o⟩:∃M,M=q%8:=⟨_,rfl⟩;have T:(q:Int)%8=(M:Int):=by omega
     have b:W+Q<s.size:=by rw[f,m,J,HN.out];exact in_lt hlt M7
     have I:=Fv s (W+Q) b;have y:Hid (lJ s a q p=(s[W+Q]'b).toNat/2^M%2):=by show lJ s a q p=_;rw[<-I,f,m,o];rfl
     have hg:sj (lJ s a q) p<256:=bG (DL _ p (λi _=>DN _ _ _ _)) (tH (n:=2) U0 (show p<=8 by omega));have C:Hid (sj (lJ s a q) (p+1)=sj (lJ s a q) p+lJ s a q p*2^p):=rfl;have R:Hid (lG wr w.heap.size N (λj=>if j<q then sj (lJ s a j) (p+1)else sj (lJ s a j) p)):=g;have u:Hid (Keep bD w wr):=hK;have F:M<8:=by omega
     have X:(wrap64 ((s[W+Q]'b).toNat:Int)/2^M).tmod 2=((lJ s a q p:Nat):Int):=by
      have h8:=(s[W+Q]'b).toNat_lt;have x:wrap64 ((s[W+Q]'b).toNat:Int)=((s[W+Q]'b).toNat:Int):=by unfold wrap64;omega
      rw[x,y.out];generalize(s[W+Q]'b).toNat=c;have e:((c:Int)/2^M)=((c/2^M:Nat):Int):=by push_cast;rfl
      rw[e];generalize c/2^M=d;rw[Int.tmod_eq_emod_of_nonneg Q0];omega
     have V:=DN s a q p;obtain⟨S,l⟩:∃S,S=lJ s a q p*2^p:=⟨_,rfl⟩;have D:S<=128:=by have:=iJ (show lJ s a q p<=1 by omega) (Kz hlt);omega
     have O:((lJ s a q p:Nat):Int)*2^p=(S:Int):=by rw[l];push_cast;rfl
     rw[<-l]at C;clear g hK f m o I y l;generalize sj (lJ s a q) p=G at*;generalize lJ s a q p=BV at*;go_wp2
     go_region
     go_wp2;refine⟨⟨q+1,Q0,by go_num,(lG.step (A:=λj=>sj (lJ s a j) p) (B:=λj=>sj (lJ s a j) (p+1)) R.out ?_).drew,(u.out.setCell (λh=>aF h (iQ _)) _).drew⟩,by simp[intOf];omega⟩;rw[C.out];push_cast;rfl
    .have:q=N:=by omega
     subst this;go_wp2;exact⟨⟨p+1,Q0,by go_num,g.congr (λi Y=>by simp[Y]),hK⟩,by simp[intOf];omega⟩
  .have:p=8:=by omega
   subst this;go_wp2
   go_ret
   exact⟨rfl,g.congr (λi _=>Ue s a i),hK⟩
def iE(L:Nat->Nat)(w x t:Nat):Nat:=L (8*(x%w)+t)/2^(x/w)%2
theorem oJ(L:Nat->Nat)(w x t:Nat):iE L w x t<2:=Nat.mod_lt _ U0
def nW(L:Nat->Nat)(w:Nat):aN:=jo (λx=>sj (iE L w x) 8) 0 (8*w)
def gG(L:Nat->Nat)(w p q x:Nat):Nat:=if x/w<p then sj (iE L w x) 8 else if x/w=p then sj (iE L w x) (min 8 (q-8*(x%w)))else 0
theorem KC(b:Nat->Nat)(h:∀i,b i<2):sj b 8<256:=DL b 8 (λi _=>h i)
theorem IK(L:Nat->Nat)(w p q x:Nat)(hw:0<w)(i:q<8*w)(d:p<8):gG L w p (q+1) x=if x=p*w+q/8 then gG L w p q x+iE L w x (q%8)*2^(q%8)else gG L w p q x:=by
 have b:q/8<w:=by omega
 unfold gG;by_cases e:x=p*w+q/8
 .have a:x/w=p:=by rw[e,lN,Nat.mul_add_div hw,Nat.div_eq_of_lt b,oI]
  have f:x%w=q/8:=by rw[e,lN,Nat.mul_add_mod,eP b]
  rw[aI e,a,f,av (iQ _),aI rfl,aI rfl];rw[show min 8 (q+1-8*(q/8))=q%8+1 by omega,show min 8 (q-8*(q/8))=q%8 by omega,sj];simp
 .rw[av e];by_cases c:x/w<p
  .rw[aI c,aI c]
  .rw[av c,av c];by_cases a:x/w=p
   .rw[aI a,aI a];have g:x=p*w+x%w:=by rw[<-a,lN];exact(Nat.div_add_mod x w).symm
    have n:x%w≠q/8:=λh=>e (by rw[<-h];exact g);rw[show min 8 (q+1-8*(x%w))=min 8 (q-8*(x%w))by omega]
   .rw[av a,av a]
theorem MR(L:Nat->Nat)(w p x:Nat)(hw:0<w):gG L w p (8*w) x=gG L w (p+1) 0 x:=by
 unfold gG;have m:=Nat.mod_lt x hw;by_cases h:x/w<p
 .rw[aI h,aI Q0]
 .rw[av h];by_cases a:x/w=p
  .rw[aI a,aI Q0,show min 8 (8*w-8*(x%w))=8 by omega]
  .rw[av a,av Q0]
   split
   .rw[show min 8 (0-8*(x%w))=0 by omega];rfl
   .rfl
theorem Fw(L:Nat->Nat)(w x:Nat):gG L w 0 0 x=0:=by
 unfold gG;rw[av (dO _)]
 split
 .rw[show min 8 (0-8*(x%w))=0 by omega];rfl
 .rfl
theorem Px(L:Nat->Nat)(w p q x:Nat):gG L w p q x<256:=by
 unfold gG
 split
 .exact KC _ (λ_=>oJ _ _ _ _)
 .split
  .exact bG (DL _ _ (λi _=>oJ _ _ _ _)) (tH (n:=2) U0 (show min 8 (q-8*(x%w))<=8 by omega))
  .decide
theorem IL(L:Nat->Nat)(w x:Nat)(h:x<8*w)(hw:0<w):gG L w 8 0 x=sj (iE L w x) 8:=by unfold gG;rw[aI ((qR hw h).1)]
theorem Uf(b:Nat->Nat)(h:∀i,b i<2)(t:Nat)(a:t<8):(sj b 8).testBit t=decide (b t=1):=by
 have e:sj b 8=numOf b 0:=by
  rw[Pw b 8 (λi _=>h i)];unfold numOf;apply bH;intro s _;have:(b s).testBit 0=decide (b s=1):=by rw[Nat.testBit_zero];have:=h s;rcases(show b s=0\/b s=1 by omega)with h|h<;>rw[h]<;>rfl
  rw[this];simp
 rw[e,oH b 0 t a,Nat.testBit_zero];have:=h t;rcases(show b t=0\/b t=1 by omega)with h|h<;>rw[h]<;>rfl
theorem MS(L:Nat->Nat)(w:Nat):(nW L w).size=8*w:=xu _ _ _
theorem Ug(L:Nat->Nat)(w x:Nat)(h:x<8*w):fF (nW L w) x=sj (iE L w x) 8:=by unfold nW;rw[Kw _ _ _ _ h (KC _ (λ_=>oJ _ _ _ _)),eu]
theorem Py(L:Nat->Nat)(w i t:Nat)(h:i<w)(e:t<8)(d:L (8*i+t)<256):jI w (nW L w) i t=L (8*i+t):=by
 refine uG (zR _ _) d (λs a=>?_);unfold jI;rw[oH _ _ _ a];show(fF (nW L w) (s*w+i)).testBit t=_;rw[Ug L w _ (in_lt a h),Uf _ (λ_=>oJ _ _ _ _) t e];have hw:0<w:=by omega
 have b:(s*w+i)/w=s:=by rw[lN,Nat.mul_add_div hw,Nat.div_eq_of_lt h,oI]
 have c:(s*w+i)%w=i:=by rw[lN,Nat.mul_add_mod,eP h]
 unfold iE;rw[b,c,Nat.testBit_eq_decide_div_mod_eq]
theorem yu{Z:Nat->Nat}{o:Nat}(h:∀j,j<n->Z (o+j)=Y (o+j)):jo Z o n=jo Y o n:=by unfold jo;congr 2;apply List.map_congr_left;intro j a;rw[h j (gY.1 a)]
theorem yw(b a:Nat)(L:Nat->Nat)(w:au)(m:0<a)(hw:a<=8)(F:lG w b (8*a) L)(Z:∀q,q<8*a->L q<256):
 Calls prog 158 #[aU b (8*a) (8*a)] w λe w'=>e=.returned (aW (nW L a))/\Keep bD w w':=by
 obtain⟨N,I⟩:∃N,N=8*a:=⟨_,rfl⟩;rw[<-I]at F ⊢;have hmk:=run_make_row' (P:=prog) 95 5 (.int .u8 0) 1 underlying95 infoByte rfl .i64 .i64 N Q0 Q0;have hd:(N:Int)/8=(a:Int):=by rw[I];omega
 have HN:Hid (N=8*a):=I;have Y:N<=64:=by omega
 have HL:Hid (lG w b N L):=F;have S:=F.lt;have Hb:Hid (∀q,q<N->L q<256):=by rw[HN.out];exact Z
 clear I F Z
 go_enter func158,ntmps158
 go_wp2
 go_loopw [5,6,7] (λi _ _ wr=>∃p:Nat,p<=8/\i=ah p/\isRow wr w.heap.size N (λx=>gG L a p 0 x)/\Keep bD w wr) (λi _ _ _=>8-(intOf i).toNat)
 case atStart=>exact⟨0,bU _,X0,World.rowIs.congr (World.rowIs_made w _ N _) (λi _=>by show _=Value.int .u8 ((gG L a 0 0 i:Nat):Int);rw[Fw];rfl),(Keep.refl bD w).alloc _⟩
 case round=>
  obtain⟨p,hp,rfl,l,hK⟩:=hrel;by_cases hlt:p<8
  .have i1:(p:Int)<8:=by omega
   have R:Hid (isRow wr w.heap.size N (λx=>gG L a p 0 x)):=l;have J:Hid (Keep bD w wr):=hK;clear l hK;go_wp2
   go_loopw [6,7] (λi _ wx=>∃q:Nat,q<=N/\i=ah q/\isRow wx w.heap.size N (λx=>gG L a p q x)/\Keep bD w wx) (λi _ _=>N-(intOf i).toNat)
   case atStart=>exact⟨0,bU _,X0,R.out,J.out⟩
   case round=>
    obtain⟨q,hq,rfl,l,hK⟩:=hrel;by_cases y:q<N
    .have j1:(q:Int)<(N:Int):=by omega
     have cl:wr.cell? (aB b q)=some (ah (L q:Nat)):=(hK.cell (p:=⟨b,q,none⟩) S (λh=>h)).trans (HL.out.cell y);have hLq:=Hb.out q y;obtain⟨W,f⟩:∃W,W=p*a:=⟨_,rfl⟩;have ep:(p:Int)*(a:Int)=(W:Int):=by rw[f];push_cast;rfl
     obtain⟨Q,g⟩:∃Q,Q=q/8:=⟨_,rfl⟩;have eq8:(q:Int)/8=(Q:Int):=by omega
     obtain⟨M,t⟩:∃M,M=q%8:=⟨_,rfl⟩;have em8:(q:Int)%8=(M:Int):=by omega
     have T:W+Q<N:=by rw[f,g,HN.out];exact in_lt hlt M7
     have ct:=l.cell T;have zt:=l.frozen (W+Q);have hst:=λx=>IK L a p q x m M7 hlt;have U:Hid (∀x,gG L a p (q+1) x=if x=W+Q then gG L a p q x+iE L a x M*2^M else gG L a p q x):=by rw[f,g,t];exact hst
     have o:iE L a (W+Q) M=L q/2^p%2:=by
      unfold iE;have C:q/8<a:=by have:=HN.out;omega
      rw[f,g,t,lN p a,Nat.mul_add_div m,Nat.div_eq_of_lt C,oI,Nat.mul_add_mod,eP C,Nat.div_add_mod]
     have hbv:(((L q:Nat):Int)/2^p).tmod 2=((iE L a (W+Q) M:Nat):Int):=by
      rw[o];generalize L q=c;have e:((c:Int)/2^p)=((c/2^p:Nat):Int):=by push_cast;rfl
      rw[e];generalize c/2^p=d;rw[Int.tmod_eq_emod_of_nonneg Q0];omega
     have hbl:=oJ L a (W+Q) M;have v:M<8:=by omega
     obtain⟨B,s⟩:∃B,B=iE L a (W+Q) M*2^M:=⟨_,rfl⟩;have X:B<=128:=by have:=iJ (show iE L a (W+Q) M<=1 by omega) (Kz v);omega
     have ebs:((iE L a (W+Q) M:Nat):Int)*2^M=(B:Int):=by rw[s];push_cast;rfl
     have n:=U.out (W+Q);rw[aI rfl,<-s]at n;have A:=Px L a p (q+1) (W+Q);have u:Hid (gG L a p (q+1) (W+Q)=gG L a p q (W+Q)+B):=n;have E:gG L a p q (W+Q)+B<256:=by omega
     have R:Hid (isRow wr w.heap.size N (λx=>gG L a p q x)):=l;have J:Hid (Keep bD w wr):=hK;have aiq:(W:Int)+(Q:Int)<(N:Int):=by omega
     clear l hK f g t s hst o n A;obtain⟨G,O⟩:∃G,G=gG L a p q (W+Q):=⟨_,rfl⟩;rw[<-O]at ct E u;have HG:Hid (G=gG L a p q (W+Q)):=O;clear O;generalize iE L a (W+Q) M=BV at*;generalize L q=lq at*;go_wp2
     go_region
     go_wp2;have D:isRow (wr.setCell (aB w.heap.size (W+Q)) (.int .u8 ((G:Int)+(B:Int)))) w.heap.size N (λx=>gG L a p (q+1) x):=by
      have V:=R.out.set (W+Q) (G+B);rw[show(((G+B:Nat)):Int)=(G:Int)+(B:Int)by omega]at V;refine V.congr (λx _=>?_);by_cases e:x=W+Q
      .subst e;rw[aI rfl,u.out]
      .rw[av e,U.out x,av e]
     exact⟨⟨q+1,Q0,by go_num,D.drew,(J.out.setCell (λh=>aF h (iQ _)) _).drew⟩,by simp[intOf];omega⟩
    .have:q=N:=by omega
     subst this;go_wp2;refine⟨⟨p+1,Q0,by go_num,l.congr (λi hi=>?_),hK⟩,by simp[intOf];omega⟩;rw[HN.out];exact MR L a p i m
  .have:p=8:=by omega
   subst this;have hcv:=Dg wr w.heap.size N 0 N N _ l Q0;go_wp2
   go_ret
   refine⟨?_,hK⟩;have e:jo (λx=>gG L a 8 0 x) 0 N=nW L a:=by unfold nW;rw[HN.out];exact yu (λj hj=>by rw[eu];exact IL L a j hj m)
   rw[<-e];rfl
theorem Fy(b c F N:Nat)(X Y:Nat->Nat)(w:au)(hF:F<256)(Q:N<=64)(g:lG w b N X)(l:lG w c N Y)(u:∀q,q<N->X q<256)(y:∀q,q<N->Y q<256):
 Calls prog 198 #[aU b N N,ah F,aU c N N] w λe w'=>e=.returned (aU w.heap.size N N)/\lG w' w.heap.size N (λq=>X q^^^mul F (Y q))/\Keep bD w w':=by
 have I:=run_make_row' (P:=prog) 25 3 (ah 0) 8 underlying25 zT rfl .i64 .i64 N Q0 Q0;have s:Hid (lG w b N X):=g;have t:Hid (lG w c N Y):=l;have m:=g.lt;have n:=l.lt;clear g l
 go_enter func198,ntmps198
 go_wp2
 go_loopw [8] (λi wr=>∃q:Nat,q<=N/\i=ah q/\lG wr w.heap.size N (λj=>if j<q then X j^^^mul F (Y j)else 0)/\Keep bD w wr) (λi _=>N-(intOf i).toNat)
 case atStart=>exact⟨0,bU _,X0,World.rowIs.congr (World.rowIs_made w _ N _) (λi _=>X0),(Keep.refl bD w).alloc _⟩
 case round=>
  obtain⟨q,S,rfl,d,hK⟩:=hrel;by_cases hlt:q<N
  .have T:(q:Int)<(N:Int):=by omega
   have C:wr.cell? (aB b q)=some (ah (X q:Nat)):=(hK.cell (p:=⟨b,q,none⟩) m (λh=>h)).trans (s.out.cell hlt);have D:wr.cell? (aB c q)=some (ah (Y q:Nat)):=(hK.cell (p:=⟨c,q,none⟩) n (λh=>h)).trans (t.out.cell hlt);have ct:=d.cell hlt;have U:=d.frozen q;have x:=u q hlt;have f:=y q hlt;have hm:=mul_lt (Y q) hF;have E:Hid (bits .xor .i64 ((X q:Nat):Int) ((mul F (Y q):Nat):Int)=((X q^^^mul F (Y q):Nat):Int)):=iY _ _ Q0 Q0;have R:Hid (lG wr w.heap.size N (λj=>if j<q then X j^^^mul F (Y j)else 0)):=d;have o:Hid (Keep bD w wr):=hK;clear d hK;go_wp2;have J:b≠w.heap.size:=by omega
   have L:c≠w.heap.size:=by omega
   have M:∀v,(wr.setCell (aB w.heap.size q) v).drew.cell? (aB b q)=some (ah (X q:Nat)):=λv=>(World.cell?_of_block (w:=wr) (a:=⟨b,q,none⟩) (Below.heap_setCell _ _ _ _ J)).trans C;have O:∀v,(wr.setCell (aB w.heap.size q) v).drew.cell? (aB c q)=some (ah (Y q:Nat)):=λv=>(World.cell?_of_block (w:=wr) (a:=⟨c,q,none⟩) (Below.heap_setCell _ _ _ _ L)).trans D
   go_region_held3 (λw'=>w'.cell? (aB b q)=some (ah (X q:Nat))/\w'.cell? (aB c q)=some (ah (Y q:Nat))) (first|assumption|exact M _|exact O _|go_keep)
    ((go_at_call 140;refine(nV F (Y q) hF f _).mono ?_;rintro e w' ⟨rfl,rfl⟩))
   all_goals
    go_wp2;exact⟨⟨q+1,Q0,by go_num,(lG.step (A:=λ_=>0) (B:=λj=>X j^^^mul F (Y j)) R.out E.out).drew,(o.out.setCell (λh=>aF h (iQ _)) _).drew⟩,by simp[intOf];omega⟩
  .have:q=N:=by omega
   subst this;go_wp2
   go_ret
   exact⟨rfl,d.congr (λi G=>by simp[G]),hK⟩
structure pV(w:au)(g k N:Nat)(R:Nat->Nat)(D:Nat->Nat->Nat):Prop where
 outer:∀j,j<k->w.cell? (aB g j)=some (aU (R j) N N)
 lt:g<w.heap.size
 rows:∀j,j<k->lG w (R j) N (D j)
 small:∀j q,j<k->q<N->D j q<256
theorem pV.keep(h:pV w g k N R D)(b:Keep bD w w'):pV w' g k N R D:=⟨λj a=>(b.cell (p:=⟨g,j,none⟩) h.lt (λh=>h)).trans (h.outer j a),bG h.lt b.size,λj a=>(h.rows j a).keep b (λh=>h),h.small⟩
def oK(k n:Nat)(D:Nat->Nat->Nat)(q:Nat):Nat:=sm k (λj=>fm (inv (n^^^j)) (D j q))
theorem MU(k n j:Nat)(D:Nat->Nat->Nat)(q:Nat)(b:n<256)(a:j<256)(h:D j q<256):oK (j+1) n D q=oK j n D q^^^mul (inv (n^^^j)) (D j q):=by unfold oK;rw[pU,EY (uq _ (fD b a)) h]
theorem KD(k n:Nat)(D:Nat->Nat->Nat)(q:Nat):oK k n D q<256:=Kt (λ_ _=>tF _ _)
theorem BA(k i g N m:Nat)(R:Nat->Nat)(D:Nat->Nat->Nat)(w:au)(Q:0<k)(U:k+i<12)(L:N<=64)(M:pV w g k N R D):
 Calls prog 159 #[ah k,ah i,aU g k m] w λe w'=>∃b,e=.returned (aU b N N)/\lG w' b N (oK k (k+i) D)/\Keep bD w w':=by
 have V:=run_make_row' (P:=prog) 25 3 (ah 0) 8 underlying25 zT rfl .i64 .i64 N Q0 Q0;have E:Hid (pV w g k N R D):=M;have Y:=M.outer 0 Q;have k0:(0:Int)<(k:Int):=by omega
 clear M
 go_enter func159,ntmps159
 go_wp2
 go_loopw [7,8] (λv W wr=>∃j b:Nat,j<=k/\W=ah j/\v=aU b N N/\lG wr b N (oK j (k+i) D)/\Keep bD w wr) (λ_ i _=>k-(intOf i).toNat)
 case atStart=>exact⟨0,w.heap.size,bU _,X0,rfl,World.rowIs.congr (World.rowIs_made w _ N _) (λi _=>by simp[oK];rfl),(Keep.refl bD w).alloc _⟩
 case round=>
  obtain⟨j,b,Z,rfl,rfl,s,hK⟩:=hrel;by_cases hlt:j<k
  .have i1:(j:Int)<(k:Int):=by omega
   have M:=E.out.keep hK;have F:=M.outer j hlt;have y:k+i^^^j<256:=fD Q0 Q0;have X:Hid (bits .xor .i64 ((k:Int)+(i:Int)) (j:Int)=(((k+i)^^^j:Nat):Int)):=by have:=iY (k+i) j Q0 Q0;show bits .xor .i64 ((k:Int)+(i:Int)) (j:Int)=_;rw[<-this];congr 1
   have t:=X.out;have T:Hid (∀w:au,Calls prog 142 #[ah (bits .xor .i64 (IntKind.i64.wrap ((k:Int)+(i:Int))) (j:Int))] w λe w'=>e=.returned (ah (inv ((k+i)^^^j):Nat))/\w'=w):=λw=>by have G:IntKind.i64.wrap ((k:Int)+(i:Int))=(k:Int)+(i:Int):=IntWalk.i64_in _ Q0;rw[G,t];exact DK _ y w
   have u:Hid (∀c:au,c.heap=wr.heap->Calls prog 198 #[aU b N N,ah (inv ((k+i)^^^j):Nat),aU (R j) N N] c λe w'=>e=.returned (aU wr.heap.size N N)/\lG w' wr.heap.size N (λq=>oK j (k+i) D q^^^mul (inv ((k+i)^^^j)) (D j q))/\Keep bD c w'):=λc n=>by
    have I:lG c b N (oK j (k+i) D):=by unfold lG World.rowIs at*;rw[n];exact s
    have J:lG c (R j) N (D j):=by have:=M.rows j hlt;unfold lG World.rowIs at*;rw[n];exact this
    rw[<-n];exact Fy b (R j) _ N (oK j (k+i) D) (D j) c (uq _ y) L I J (λq _=>KD _ _ _ _) (λq o=>M.small j q hlt o)
   have C:Hid (Calls prog 198 #[aU b N N,ah (inv ((k+i)^^^j):Nat),aU (R j) N N] wr.drew λe w'=>e=.returned (aU wr.heap.size N N)/\lG w' wr.heap.size N (λq=>oK j (k+i) D q^^^mul (inv ((k+i)^^^j)) (D j q))/\Keep bD wr.drew w'):=u.out wr.drew rfl;clear u;have S:Hid (∀q,q<N->oK j (k+i) D q^^^mul (inv ((k+i)^^^j)) (D j q)=oK (j+1) (k+i) D q):=λq o=>(MU k (k+i) j D q Q0 Q0 (M.small j q hlt o)).symm;have B:Hid (Keep bD w wr):=hK;have lg:g<wr.heap.size:=M.lt;clear s hK M X;generalize inv ((k+i)^^^j)=iv at*;generalize x:(k+i)^^^j=xn at*;clear x;go_wp2
   go_region_held3 (λw'=>w'.cell? (aB g j)=some (aU (R j) N N)) (first|assumption|go_keep)
    (first
      |(go_at_call 142;(with_reducible refine Calls.mono (T.out _) ?_);rintro e A ⟨rfl,rfl⟩)
      |(go_at_call 198;(with_reducible refine Calls.mono C.out ?_);rintro e A ⟨rfl,d,a⟩;have l:Hid (lG A wr.heap.size N (λq=>oK j (k+i) D q^^^mul iv (D j q))):=d;have O:A.cell? (aB g j)=some (aU (R j) N N):=(a.cell (p:=⟨g,j,none⟩) lg (λh=>h)).trans F;have f:Hid (Keep bD w A):=B.out.drew.trans a (λ_ _ h=>h);clear d a))
   go_wp2;exact⟨⟨j+1,wr.heap.size,Q0,by go_num,rfl,l.out.congr S.out,f.out⟩,by simp[intOf];omega⟩
  .have:j=k:=by omega
   subst this;go_wp2
   go_ret
   exact⟨b,rfl,s,hK⟩
theorem uI{L M:Nat->Nat}{w:Nat}(h:∀q,q<8*w->L q=M q):nW L w=nW M w:=by
 unfold nW;refine yu (λx b=>?_);rw[eu];have hw:0<w:=by omega
 unfold sj;have:∀n,n<=8->sj (iE L w x) n=sj (iE M w x) n:=by
  intro n
  induction n with
  |zero=>intro _;rfl
  |succ n i=>intro a;rw[sj,sj,i Q0];unfold iE;rw[h _ (by have:=Nat.mod_lt x hw;omega)]
 exact this 8 (aS _)
def iO(k width:Nat)(D:Nat->Nat->Nat)(n:Nat):aN:=nW (λq=>sm k (λj=>fm (entry k n j) (D j q))) width
theorem MV(k w:Nat)(D:Nat->Nat->Nat)(n:Nat)(a:n<k)(b:∀q,q<8*w->D n q<256):nW (D n) w=iO k w D n:=by
 refine uI (λq c=>?_);have e:∀j,j<k->fm (entry k n j) (D j q)=if j=n then D j q else 0:=by
  intro j _;unfold entry;rw[aI a];by_cases h:j=n
  .subst h;rw[aI rfl,aI rfl,uy,eP (b q c)]
  .rw[av h,av h,pO]
 rw[bH e,kP (λj=>D j q) a]
theorem Pz(k w:Nat)(D:Nat->Nat->Nat)(n:Nat)(h:¬n<k):nW (oK k n D) w=iO k w D n:=by refine uI (λq _=>?_);unfold oK;refine bH (λj _=>?_);unfold entry;rw[av h]
theorem MW(k m g a f:Nat)(R:Nat->Nat)(D:Nat->Nat->Nat)(w:au)(Y:0<k)(Z:k+m<=12)(C:0<a)(hw:a<=8)(M:pV w g k (8*a) R D):
 Calls prog 105 #[ah k,ah m,aU g k f] w λe w'=>∃v,e=.returned v/\w'.ownsRow w.heap.size 9 1 v (k+m) (upTo (λi=>aW (iO k a D i)) (k+m))/\Keep bD w w':=by
 have T:Hid (pV w g k (8*a) R D):=M;clear M
 go_enter func105,ntmps105
 go_wp2
 go_loopw [7,8] (λv i wr=>∃j:Nat,j<=k/\i=ah j/\wr.ownsRow w.heap.size 9 1 v j (upTo (λi=>aW (iO k a D i)) j)/\Keep bD w wr) (λ_ i _=>k-(intOf i).toNat)
 case atStart=>exact⟨0,bU _,X0,⟨rfl,.inl ⟨rfl,rfl⟩⟩,Keep.refl bD w⟩
 case round=>
  obtain⟨j,hj,rfl,o,hK⟩:=hrel;by_cases hlt:j<k
  .have i1:(j:Int)<(k:Int):=by omega
   have M:=T.out.keep hK;have cj:=M.outer j hlt;have O:Hid (wr.ownsRow w.heap.size 9 1 u7 j (upTo (λi=>aW (iO k a D i)) j)):=o;have n:Hid (Keep bD w wr):=hK;have G:Hid (Calls prog 158 #[aU (R j) (8*a) (8*a)] wr λe w'=>e=.returned (aW (nW (D j) a))/\Keep bD wr w'):=yw (R j) a (D j) wr C hw (M.rows j hlt) (λq B=>M.small j q hlt B);have E:Hid (nW (D j) a=iO k a D j):=MV k a D j hlt (λq B=>M.small j q hlt B);clear o hK M
   go_wp2_with fail
   refine Calls.mono G.out ?_;rintro e F ⟨rfl,c⟩;obtain⟨v2,w2,l,y,u,_⟩:=Dq (t:=34) underlying34 ze rfl U0 (dP O.out c (λ_ _ h=>h)) (aW (nW (D j) a)) rfl Q0 (bY n.out.size c.size);have Q:Hid (w2.ownsRow w.heap.size 9 1 v2 (j+1) (upTo (λi=>aW (iO k a D i)) (j+1))):=by show World.ownsRow _ _ _ _ _ _ _;rw[gM,<-E.out];exact y
   have L:Hid (Keep bD w w2):=(n.out.trans c (λ_ _ h=>h)).trans u (λi X e=>by have:=(mF O.out e).1;omega);clear y u c E
   go_wp2_with (at_builtin;(refine uh l rfl rfl rfl rfl ?_))
   exact⟨⟨j+1,Q0,by go_num,Q.out,L.out⟩,by simp[intOf];omega⟩
  .have:j=k:=by omega
   subst this;have p:Hid (wr.ownsRow w.heap.size 9 1 u7 j (upTo (λi=>aW (iO j a D i)) j)):=o;have I:Hid (Keep bD w wr):=hK;clear o hK;go_wp2
   go_loopw [7,9] (λv i V=>∃q:Nat,q<=m/\i=ah q/\V.ownsRow w.heap.size 9 1 v (j+q) (upTo (λi=>aW (iO j a D i)) (j+q))/\Keep bD w V) (λ_ i _=>m-(intOf i).toNat)
   case atStart=>exact⟨0,bU _,X0,p.out,I.out⟩
   case round=>
    obtain⟨q,B,rfl,o,hK⟩:=hrel;by_cases hlt:q<m
    .have i1:(q:Int)<(m:Int):=by omega
     have M:=T.out.keep hK;have O:Hid (wr.ownsRow w.heap.size 9 1 u7 (j+q) (upTo (λi=>aW (iO j a D i)) (j+q))):=o;have n:Hid (Keep bD w wr):=hK;have W:Hid (Calls prog 159 #[ah j,ah q,aU g j f] wr λe w'=>∃b,e=.returned (aU b (8*a) (8*a))/\lG w' b (8*a) (oK j (j+q) D)/\Keep bD wr w'):=BA j q g (8*a) f R D wr Y Q0 Q0 M;have E:Hid (nW (oK j (j+q) D) a=iO j a D (j+q)):=Pz j a D (j+q) Q0;clear o hK M
     go_wp2_with fail
     refine Calls.mono W.out ?_;rintro e F ⟨b,rfl,U,c⟩;have G:Hid (Calls prog 158 #[aU b (8*a) (8*a)] F λe w'=>e=.returned (aW (nW (oK j (j+q) D) a))/\Keep bD F w'):=yw b a _ F C hw U (λq B=>KD _ _ _ _);have J:Hid (Keep bD wr F):=c;clear U c
     go_wp2_with fail
     refine Calls.mono G.out ?_;rintro e w2 ⟨rfl,s⟩;have d:=J.out.trans s (λ_ _ h=>h);obtain⟨v3,w3,l,A,x,_⟩:=Dq (t:=34) underlying34 ze rfl U0 (dP O.out d (λ_ _ h=>h)) (aW (nW (oK j (j+q) D) a)) rfl Q0 (bY n.out.size d.size);have S:Hid (w3.ownsRow w.heap.size 9 1 v3 (j+(q+1)) (upTo (λi=>aW (iO j a D i)) (j+(q+1)))):=by show World.ownsRow _ _ _ _ _ _ _;rw[<-Nat.add_assoc,gM,<-E.out];exact A
     have N:Hid (Keep bD w w3):=(n.out.trans d (λ_ _ h=>h)).trans x (λi X e=>by have:=(mF O.out e).1;omega);clear A x d s E
     go_wp2_with (at_builtin;(refine uh l rfl rfl rfl rfl ?_))
     exact⟨⟨q+1,Q0,by go_num,S.out,N.out⟩,by simp[intOf];omega⟩
    .have:q=m:=by omega
     subst this;go_wp2
     go_ret
     exact⟨_,rfl,o,hK⟩
def pr:Nat->(Nat->Nat)->Nat
 |0,_=>1
 |n+1,f=>fm (pr n f) (f n)
def cf(x y:Nat->Nat)(s j:Nat):Nat:=fm (pr s (λl=>y j^^^x l)) (pr (s+1) (λl=>if l=j then 1 else fi (y j^^^y l)))
def wl(x y:Nat->Nat)(i j:Nat):Nat->Nat
 |0=>fi (x i^^^y j)
 |l+1=>
  let v:=fm (wl x y i j l) (fm (x i^^^y l) (x l^^^y j))
  let u:=if l=i then v else fm v (fi (x i^^^x l))
  if l=j then u else fm u (fi (y j^^^y l))
def pick(p:Nat->Bool)(n:Nat):List Nat:=(List.range n).filter p
theorem PD:(prog.info? 25).map (λi=>(i.zero,i.size,i.bytes))=some (some (.slice none 0 0),1,24):=by kernel_rfl
def kQ(width:Nat)(HD:Nat->aN)(i q:Nat):Nat:=jI width (HD i) (q/8) (q%8)
theorem DR(w:Nat)(H:Nat->aN)(i q:Nat):kQ w H i q<256:=by unfold kQ jI;exact zR _ _
def upd(LB:Nat->Nat)(q v i:Nat):Nat:=if i=q then v else LB i
theorem upd_same(LB:Nat->Nat)(q v:Nat):upd LB q v q=v:=aI rfl
theorem zU{q v:Nat}(h:i≠q):upd LB q v i=LB i:=av h
structure Ij(w wr:au)(N j:Nat)(num:Nat->Nat->Nat)(LB:Nat->Nat)(v:aA):Prop where
 own:wr.ownsRow w.heap.size 25 1 v j (upTo (λi=>aU (LB i) N N) j)
 rows:∀i,i<j->lG wr (LB i) N (num i)
 ap:∀b,v.ownBlock=some b->∀i,i<j->LB i≠b
 keep:Keep bD w wr
theorem Ij.step{w wr w1:au}{N j:Nat}{num:Nat->Nat->Nat}{LB:Nat->Nat}{v:aA}(h:Ij w wr N j num LB v)(q:j<1000)(I:lG w1 wr.heap.size N (num j))(K:Keep bD wr w1):
 ∃v2 w2,(Builtin.append_ #[159,159] 159 #[v,aU w1.heap.size 1 1]).run prog (w1.alloc (.cells #[aU wr.heap.size N N] 25))=.ok v2 w2/\Ij w w2 N (j+1) num (upd LB j wr.heap.size) v2:=by
 have s:=K.size;obtain⟨v2,w2,f,p,l,c⟩:=Dq (t:=159) underlying159 PD rfl U0 (dP h.own K (λ_ _ h=>h)) (aU wr.heap.size N N) rfl Q0 (bY h.keep.size K.size);have n:∀b,v2.ownBlock=some b->v.ownBlock=some b\/b=w1.heap.size+1:=λb a=>by
  obtain e|e:=c
  .exact .inl (e▸a)
  .rw[e]at a;cases a;exact .inr rfl
 have m:∀b,v.ownBlock=some b->b<wr.heap.size:=λb c=>(mF h.own c).2;refine⟨v2,w2,f,?_,λi k=>?_,λb c i k=>?_,(h.keep.trans K (λ_ _ h=>h)).trans l (λi k e=>by have:=(mF h.own e).1;omega)⟩
 .rw[gM,upd_same,uo (g:=λi=>aU (LB i) N N) (λi k=>by rw[zU Q0])];exact p
 .by_cases e:i=j
  .subst e;rw[upd_same];exact I.keep l (λe=>by have:=m _ e;omega)
  .rw[zU e];exact((h.rows i Q0).keep K (λh=>h)).keep l (λo=>h.ap _ o i Q0 rfl)
 .by_cases e:i=j
  .subst e;rw[upd_same];obtain d|d:=n b c
   .have:=m b d;omega
   .omega
  .rw[zU e];obtain d|d:=n b c
   .exact h.ap b d i Q0
   .have:=(h.rows i Q0).lt;omega
theorem Ij.mat(h:Ij w wr N k num LB v)(d:0<k)(n:∀i q,num i q<256):∃g c,v=aU g k c/\pV wr g k N LB num:=by obtain⟨g,c,rfl,e,b,f⟩:=jJ h.own d;exact⟨g,c,rfl,λj a=>by rw[zf h.own j a,nJ _ _ _ a],b,h.rows,λj q _ _=>n j q⟩
theorem PE(w:Nat)(a b:aN)(hw:0<w)(g:a.size=8*w)(j:b.size=8*w)(h:∀i t,i<w->t<8->jI w a i t=jI w b i t):a=b:=by apply Co Q0;intro x k;obtain⟨c,d,e⟩:=qR hw (show x<8*w by omega);rw[<-e];exact Ck (B:=λp=>fF a (p*w+x%w)) (C:=λp=>fF b (p*w+x%w)) (λ_ _=>rY _ _) (λ_ _=>rY _ _) (λt f=>h _ t d f) _ c
theorem Cq(k w:Nat)(d:Nat->Nat->Nat)(n:Nat):(iO k w d n).size=8*w:=MS _ _
theorem FB(k w:Nat)(d:Nat->Nat->Nat)(n i t:Nat)(h:i<w)(a:t<8):jI w (iO k w d n) i t=sm k (λj=>fm (entry k n j) (d j (8*i+t))):=by unfold iO;rw[Py _ w i t h a (Kt (λ_ _=>tF _ _))]
theorem FE(k w:Nat)(d:Nat->Nat->Nat)(n i t:Nat)(a:n<k)(c:i<w)(f:t<8)(b:d n (8*i+t)<256):jI w (iO k w d n) i t=d n (8*i+t):=by
 rw[FB k w d n i t c f];have e:∀j,j<k->fm (entry k n j) (d j (8*i+t))=if j=n then d j (8*i+t)else 0:=by
  intro j _;unfold entry;rw[aI a];by_cases h:j=n
  .subst h;rw[aI rfl,aI rfl,uy,eP b]
  .rw[av h,av h,pO]
 rw[bH e,kP (λj=>d j (8*i+t)) a]
theorem IQ(k n w:Nat)(d:Nat->Nat->Nat)(e:∀j q,j<k->d j q<256):Pt k n w (iO k w d):=λa i t _ h c=>by
 rw[FB k w d a i t h c]
 exact bH (λj b=>by rw[FE k w d j i t b h c (e j _ b)])
theorem Uh(w:Nat)(H:Nat->aN)(j i t:Nat)(h:t<8):kQ w H j (8*i+t)=jI w (H j) i t:=by unfold kQ;rw[show(8*i+t)/8=i by omega,show(8*i+t)%8=t by omega]
theorem PG(k m w:Nat)(D:Nat->aN)(P:Nat->Nat->Nat)(hw:0<w)(d:gT k m (gZ (λi=>i) k) P)(S:∀i,i<k->(D i).size=8*w)(n:Nat)(f:n<k+m):
 told k m w (λi=>i) D P n=iO k w (kQ w D) n:=by
 refine MQ k m w (λi=>i) D P _ hw d (λi b=>show i<k+m by omega) (λi j _ _ h=>h) (λi b=>?_) (IQ k (k+m) w _ (λj q _=>DR _ _ _ _)) (λn _=>Cq _ _ _ _) n f;refine PE w _ _ hw (S i b) (Cq _ _ _ _) (λa t e c=>?_);show _=jI w (iO k w (kQ w D) i) a t;rw[FE k w _ i a t b e c (DR _ _ _ _),Uh _ _ _ _ _ c]
theorem Cr(a:Int)(w:au):Calls prog 46 #[ah a] w λe w'=>e=.returned (ah a)/\w'=w:=by
 go_enter func46,ntmps46
 go_wp2
 go_ret
 exact⟨rfl,rfl⟩
def xB:Array aA:=#[.slice none 0 0,.slice none 0 0,.slice none 0 0,.slice none 0 0,.slice none 0 0,.slice none 0 0,ah 0]
def opAt(w:au)(b off i:Nat)(k at_ x y z:Int)(n s:aN)(vl vb vf:aA):Prop:=
 w.cell? (aB b (off+i*10))=some (ah k)/\w.cell? (aB b (off+i*10+1))=some (ah at_)/\w.cell? (aB b (off+i*10+2))=some (ah x)/\
 w.cell? (aB b (off+i*10+3))=some (ah y)/\w.cell? (aB b (off+i*10+4))=some (ah z)/\w.cell? (aB b (off+i*10+5))=some (aW n)/\
 w.cell? (aB b (off+i*10+6))=some (aW s)/\w.cell? (aB b (off+i*10+7))=some vl/\w.cell? (aB b (off+i*10+8))=some vb/\w.cell? (aB b (off+i*10+9))=some vf
def bookG(v0 v1 v2 v3 v4 v5:aA)(x:Int):Nat->aA
 |0=>v0
 |1=>v1
 |2=>v2
 |3=>v3
 |4=>v4
 |5=>v5
 |_=>ah x
theorem xC(v0 v1 v2 v3 v4 v5:aA)(x:Int)(u:aA)(j:Nat)(h:j<7):(if j=2 then u else bookG v0 v1 v2 v3 v4 v5 x j)=bookG v0 v1 u v3 v4 v5 x j/\(if j=3 then u else bookG v0 v1 v2 v3 v4 v5 x j)=bookG v0 v1 v2 u v4 v5 x j/\(if j=4 then u else bookG v0 v1 v2 v3 v4 v5 x j)=bookG v0 v1 v2 v3 u v5 x j/\(if j=5 then u else bookG v0 v1 v2 v3 v4 v5 x j)=bookG v0 v1 v2 v3 v4 u x j/\(∀y,u=ah y->(if j=6 then u else bookG v0 v1 v2 v3 v4 v5 x j)=bookG v0 v1 v2 v3 v4 v5 y j):=by
 match j,h with
 |0,_=>exact⟨rfl,rfl,rfl,rfl,λ_ _=>rfl⟩
 |1,_=>exact⟨rfl,rfl,rfl,rfl,λ_ _=>rfl⟩
 |2,_=>exact⟨rfl,rfl,rfl,rfl,λ_ _=>rfl⟩
 |3,_=>exact⟨rfl,rfl,rfl,rfl,λ_ _=>rfl⟩
 |4,_=>exact⟨rfl,rfl,rfl,rfl,λ_ _=>rfl⟩
 |5,_=>exact⟨rfl,rfl,rfl,rfl,λ_ _=>rfl⟩
 |6,_=>exact⟨rfl,rfl,rfl,rfl,λ_ e=>e⟩
def KE(Mk:au->aA->aN->Prop):Prop:=∀(T:aD)(w w':au)(v:aA)(s:aN),Mk w v s->Keep T w w'->(∀b,v.ownBlock=some b->¬T b)->Mk w' v s
structure Half(Mk:au->aA->aN->Prop)(el:bf)(wr:au)(base:Nat)(S:aD)(c:Nat)(v2 v3:aA)(L:Nat->aA)(M:Nat->aN):Prop where
 BD:wr.ownsRow base el 1 v2 c (upTo L c)
 BF:wr.ownsRow base 9 1 v3 c (upTo (λi=>aW (M i)) c)
 ap:∀b,v2.ownBlock=some b->v3.ownBlock≠some b
 lists:∀i,i<c->Mk wr (L i) (M i)
 lie:∀i,i<c->∀b,(L i).ownBlock=some b->S b/\v2.ownBlock≠some b/\v3.ownBlock≠some b
 s2:∀b,v2.ownBlock=some b->S b
 s3:∀b,v3.ownBlock=some b->S b
 sz:∀b,S b->base<=b/\b<wr.heap.size
theorem Half.keep{S:aD}(d:KE Mk)(h:Half Mk el w base S c v2 v3 L M)(k:Keep T w w')(e:∀b,S b->¬T b):Half Mk el w' base S c v2 v3 L M:=⟨dP h.BD k (λb a=>e b (h.s2 b a)),dP h.BF k (λb a=>e b (h.s3 b a)),h.ap,λi f=>d T w w' _ _ (h.lists i f) k (λb a=>e b (h.lie i f b a).1),h.lie,h.s2,h.s3,λb a=>⟨(h.sz b a).1,bG (h.sz b a).2 k.size⟩⟩
theorem Half.start(Mk:au->aA->aN->Prop)(el:bf)(w:au)(base:Nat):Half Mk el w base (λ_=>False) 0 (.slice none 0 0) (.slice none 0 0) (λ_=>.slice none 0 0) (λ_=>ByteArray.empty):=⟨World.ownsRow_nil _ _ _ _,World.ownsRow_nil _ _ _ _,λb h=>(by cases h),λi a=>aF a (dO _),λi a=>aF a (dO _),λb h=>(by cases h),λb h=>(by cases h),λb h=>h.elim⟩
def ext(L:Nat->aA)(c:Nat)(l v6 v7 v8:aA)(i:Nat):aA:=if i<c then L i else if i=c then l else if i=c+1 then v6 else if i=c+2 then v7 else v8
theorem PI(L:Nat->aA)(c:Nat)(l v a b:aA):upTo (ext L c l v a b) (c+4)=upTo L c++[l,v,a,b]:=by rw[gM,gM,gM,gM,uo (g:=L) (λi d=>by unfold ext;rw[aI d])];simp[ext];exact⟨λh=>Q0,λh=>Q0,λh=>Q0⟩
def MX(M:Nat->aN)(c:Nat)(s:aN)(i:Nat):aN:=if i<c then M i else s
theorem MZ(M:Nat->aN)(c:Nat)(s:aN):upTo (λi=>aW (MX M c s i)) (c+4)=upTo (λi=>aW (M i)) c++[aW s,aW s,aW s,aW s]:=by rw[gM,gM,gM,gM,uo (g:=λi=>aW (M i)) (λi a=>by unfold MX;rw[aI a])];simp[MX];exact⟨λh=>Q0,λh=>Q0,λh=>Q0⟩
theorem qU(w:au)(c:Array aA)(t:bf)(j:Nat)(v:aA)(h:c[j]? =some v):(w.alloc (.cells c t)).cell? ((⟨w.heap.size,0,none⟩:Addr).add j)=some v:=by rw[iX,eu,cell_of_row _ _ j _ _ (0,0) (Go.Deep.blk_alloc_new _ _)];exact h
theorem Half.grow{tl:bf}(hMk:KE Mk)(hu:prog.underlying tl=some (.slice el))(H:(prog.info? el).map (λi=>(i.zero,i.size,i.bytes))=some (some (.slice none 0 0),1,24)){S:aD}(h:Half Mk el y base S c v2 v3 L M)(R:Nat->aA)(n g:Nat)(hr:y.rowIs gw 48 7 R)(h2:R n=v2)(h3:R g=v3)(P:n<7)(Q:g<7)(U:g≠n)(bs:gw<base)(hN:base<=N)(hN8:N<=y.heap.size)(hc:c<=4000000000000)
 (l B C D:aA)(s:aN)(V:∀u∈[l,B,C,D],u.oneCell'=true)(hm:∀u∈[l,B,C,D],Mk y u s)
 (d:∀u∈[l,B,C,D],∀b,u.ownBlock=some b->base<=b/\b<y.heap.size/\v2.ownBlock≠some b/\v3.ownBlock≠some b/\(N<=b\/l.ownBlock=some b)):
 ∃k m f w,
  (Builtin.append_ #[tl,tl] tl #[v2,aU y.heap.size 4 4]).run prog (y.alloc (.cells #[l,B,C,D] el))=.ok k m/\
  (Builtin.append_ #[34,34] 34 #[v3,aU m.heap.size 4 4]).run prog ((m.setCell (aB gw n) k).alloc (.cells #[aW s,aW s,aW s,aW s] 9))=.ok f w/\
  (y.cell? (aB gw n)=some v2/\m.cell? (aB gw n)=some v2/\m.frozen? (aB gw n)=false/\(m.setCell (aB gw n) k).cell? (aB gw g)=some v3/\w.cell? (aB gw g)=some v3/\w.frozen? (aB gw g)=false)/\
  (w.setCell (aB gw g) f).rowIs gw 48 7 (λj=>if j=g then f else if j=n then k else R j)/\
  Half Mk el (w.setCell (aB gw g) f) base (λb=>S b\/(N<=b/\b<(w.setCell (aB gw g) f).heap.size)\/l.ownBlock=some b) (c+4) k f (ext L c l B C D) (MX M c s)/\
  Keep (λb=>b=gw\/v2.ownBlock=some b\/v3.ownBlock=some b) y (w.setCell (aB gw g) f):=by
 have m2:∀b,v2.ownBlock=some b->base<=b/\b<y.heap.size:=λb d=>mF h.BD d;have m3:∀b,v3.ownBlock=some b->base<=b/\b<y.heap.size:=λb d=>mF h.BF d;obtain⟨k,m,r9,o9,g9,b9⟩:=appG (t:=tl) hu H rfl U0 (h.BD.alloc (.cells #[l,B,C,D] el)) ⟨y.heap.size,0,none⟩ 4 4 [l,B,C,D] rfl (λj u hj=>by refine qU _ _ _ j u ?_;rw[<-hj];simp) V Q0 M4
 have K9:Keep (λb=>v2.ownBlock=some b) y m:=((Keep.refl _ y).alloc _).grown g9 (λb e _=>e);have s9:=g9.size;simp at s9;have KW:Keep (λb=>b=gw) m (m.setCell (aB gw n) k):=Keep.setCell (S:=λb=>b=gw) (Keep.refl _ m) (p:=⟨gw,n,none⟩) (λ_=>rfl) _;have hW:(m.setCell (aB gw n) k).heap.size=m.heap.size:=by simp
 have o3W:=dP (dP h.BF K9 (λb d e=>h.ap b e d)) KW (λb d e=>by have:=(m3 b d).1;omega);obtain⟨f,w,r10,W,O,b10⟩:=appG (t:=34) underlying34 ze rfl U0 (o3W.alloc (.cells #[aW s,aW s,aW s,aW s] 9)) ⟨(m.setCell (aB gw n) k).heap.size,0,none⟩ 4 4 [aW s,aW s,aW s,aW s] rfl (λj u hj=>by refine qU _ _ _ j u ?_;rw[<-hj];simp) (λu hu=>by simp at hu;subst hu;rfl) Q0 M4
 have K:Keep (λb=>v3.ownBlock=some b) (m.setCell (aB gw n) k) w:=((Keep.refl _ _).alloc _).grown O (λb e _=>e);have KF:Keep (λb=>b=gw) w (w.setCell (aB gw g) f):=Keep.setCell (S:=λb=>b=gw) (Keep.refl _ w) (p:=⟨gw,g,none⟩) (λ_=>rfl) _;have s10:=O.size;simp[hW]at s10;have sF:(w.setCell (aB gw g) f).heap.size=w.heap.size:=by simp
 have KA:Keep (λb=>b=gw\/v2.ownBlock=some b\/v3.ownBlock=some b) y (w.setCell (aB gw g) f):=(((K9.mono (T:=λb=>b=gw\/v2.ownBlock=some b\/v3.ownBlock=some b) (λ_ _ h=>.inr (.inl h))).trans KW (λ_ _ h=>.inl h)).trans K (λ_ _ h=>.inr (.inr h))).trans KF (λ_ _ h=>.inl h)
 have n2:∀b,k.ownBlock=some b->v2.ownBlock=some b\/b=y.heap.size+1:=λb a=>by
  obtain e|e:=b9
  .exact .inl (e▸a)
  .rw[e]at a;simp at a;exact .inr a.symm
 have n3:∀b,f.ownBlock=some b->v3.ownBlock=some b\/b=m.heap.size+1:=λb a=>by
  obtain e|e:=b10
  .exact .inl (e▸a)
  .rw[e]at a;simp at a;exact .inr a.symm
 have x:=λb(d:k.ownBlock=some b)=>mF o9 d;have z:=λb(d:f.ownBlock=some b)=>mF W d;have fin:∀v s',(∀b,v.ownBlock=some b->base<=b/\b<y.heap.size/\v2.ownBlock≠some b/\v3.ownBlock≠some b)->Mk y v s'->Mk (w.setCell (aB gw g) f) v s'/\(∀b,v.ownBlock=some b->k.ownBlock≠some b/\f.ownBlock≠some b):=λv s' hv hm=>by
  refine⟨hMk _ _ _ _ _ hm KA (λb d e=>?_),λb d=>?_⟩
  .obtain⟨E,x,z,Y⟩:=hv b d;obtain e|e|e:=e
   .omega
   .exact z e
   .exact Y e
  .obtain⟨E,x,z,Y⟩:=hv b d;refine⟨λe=>?_,λe=>?_⟩
   .obtain e|e:=n2 b e
    .exact z e
    .omega
   .obtain e|e:=n3 b e
    .exact Y e
    .omega
 have FN:∀u∈[l,B,C,D],Mk (w.setCell (aB gw g) f) u s/\∀b,u.ownBlock=some b->(S b\/(N<=b/\b<(w.setCell (aB gw g) f).heap.size)\/l.ownBlock=some b)/\k.ownBlock≠some b/\f.ownBlock≠some b:=λu I=>by
  obtain⟨a1,a2⟩:=fin u s (λb a=>by obtain⟨E,x,z,Y,_⟩:=d u I b a;exact⟨E,x,z,Y⟩) (hm u I);refine⟨a1,λb a=>⟨?_,a2 b a⟩⟩;obtain⟨E,x,_,_,Z⟩:=d u I b a;obtain Z|Z:=Z
  .exact .inr (.inl ⟨Z,Q0⟩)
  .exact .inr (.inr Z)
 have FO:∀i,i<c->Mk (w.setCell (aB gw g) f) (L i) (M i)/\∀b,(L i).ownBlock=some b->(S b\/(N<=b/\b<(w.setCell (aB gw g) f).heap.size)\/l.ownBlock=some b)/\k.ownBlock≠some b/\f.ownBlock≠some b:=λi F=>by obtain⟨a1,a2⟩:=fin (L i) (M i) (λb a=>by obtain⟨E,x,z⟩:=h.lie i F b a;exact⟨(h.sz b E).1,(h.sz b E).2,x,z⟩) (h.lists i F);exact⟨a1,λb a=>⟨.inl (h.lie i F b a).1,a2 b a⟩⟩
 have FA:∀i,i<c+4->Mk (w.setCell (aB gw g) f) (ext L c l B C D i) (MX M c s i)/\∀b,(ext L c l B C D i).ownBlock=some b->(S b\/(N<=b/\b<(w.setCell (aB gw g) f).heap.size)\/l.ownBlock=some b)/\k.ownBlock≠some b/\f.ownBlock≠some b:=λi F=>by
  unfold ext MX;by_cases X:i<c
  .rw[aI X,aI X];exact FO i X
  .rw[av X,av X];by_cases E:i=c
   .rw[aI E];exact FN l X0
   .rw[av E];by_cases x:i=c+1
    .rw[aI x];exact FN B X0
    .rw[av x];by_cases z:i=c+2
     .rw[aI z];exact FN C X0
     .rw[av z];exact FN D X0
 have A:=K9.row hr (λe=>by have:=(m2 gw e).1;omega);have G:=A.set n k;have o:=K.row G (λe=>by have:=(m3 gw e).1;omega);refine⟨k,m,f,w,r9,?_,⟨?_,?_,A.frozen n,?_,?_,o.frozen g⟩,o.set g f,⟨?_,?_,λb e1 J=>?_,λi F=>(FA i F).1,λi F b a=>(FA i F).2 b a,λb a=>?_,λb a=>?_,λb a=>?_⟩,KA⟩
 .rw[hW]at r10;exact r10
 .rw[hr.cell P,h2]
 .rw[A.cell P,h2]
 .rw[G.cell Q,av U,h3]
 .rw[o.cell Q,av U,h3]
 .rw[PI];refine dP (dP (dP o9 KW (λb d e=>?_)) K (λb d e=>?_)) KF (λb d e=>?_)
  .have:=(x b d).1;omega
  .obtain J|J:=n2 b d
   .exact h.ap b J e
   .have:=(m3 b e).2;omega
  .have:=(x b d).1;omega
 .rw[MZ];exact dP W KF (λb d e=>by have:=(z b d).1;omega)
 .obtain q|q:=n2 b e1
  .obtain r|r:=n3 b J
   .exact h.ap b q r
   .have:=(m2 b q).2;omega
  .obtain r|r:=n3 b J
   .have:=(m3 b r).2;omega
   .have:=(x b e1).2;omega
 .obtain q|q:=n2 b a
  .exact .inl (h.s2 b q)
  .exact .inr (.inl ⟨Q0,by have:=(x b a).2;omega⟩)
 .obtain q|q:=n3 b a
  .exact .inl (h.s3 b q)
  .exact .inr (.inl ⟨Q0,by have:=(z b a).2;omega⟩)
 .obtain q|q|q:=a
  .have:=h.sz b q;omega
  .exact⟨Q0,q.2⟩
  .have:=d l X0 b q;omega
structure KG(MkT MkF:au->aA->aN->Prop)(wr:au)(base gw:Nat)(x:Int)(v0 v1 v2 v3 v4 v5:aA)(ST SF:aD)(ct cf:Nat)(LT LF:Nat->aA)(MT MF:Nat->aN):Prop where
 row:wr.rowIs gw 48 7 (bookG v0 v1 v2 v3 v4 v5 x)
 texts:Half MkT 34 wr base ST ct v2 v3 LT MT
 files:Half MkF 30 wr base SF cf v4 v5 LF MF
 apart:∀b,ST b->¬SF b
 bs:gw<base
 bz:base<=wr.heap.size
def vI(w:au)(v:aA)(s:aN):Prop:=∃a n cap,v=.slice a n cap/\n<=9000000000000000000/\∀q,q<n->∃g o,a=some ⟨g,o,none⟩/\g<w.heap.size/\w.cell? (aB g (o+q))=some (aW s)
def kJ(w:au)(v:aA)(s:aN):Prop:=∃a n cap,v=.slice a n cap/\n<=9000000000000000000/\∀q,q<n->∃g o,a=some ⟨g,o,none⟩/\g<w.heap.size/\w.cell? (aB g (o+q*2))=some (aW s)/\w.cell? (aB g (o+q*2+1))=some (aW s)
theorem IU:KE vI:=by rintro T w w' v s ⟨a,n,c,rfl,f,h⟩ k e;refine⟨a,n,c,rfl,f,λq i=>?_⟩;obtain⟨g,o,rfl,b,d⟩:=h q i;exact⟨g,o,rfl,bG b k.size,(k.cell (p:=⟨g,o+q,none⟩) b (e g rfl)).trans d⟩
theorem xD:KE kJ:=by rintro T w w' v s ⟨a,n,c,rfl,i,h⟩ k d;refine⟨a,n,c,rfl,i,λq j=>?_⟩;obtain⟨g,o,rfl,b,e,f⟩:=h q j;exact⟨g,o,rfl,bG b k.size,(k.cell (p:=⟨g,o+q*2,none⟩) b (d g rfl)).trans e,(k.cell (p:=⟨g,o+q*2+1,none⟩) b (d g rfl)).trans f⟩
abbrev mM:=KG vI kJ
def IV(s:aN)(n:Nat):List aA:=upTo (λ_=>aW s) (n*2)
theorem KI(s:aN)(n m:Nat):IV s n++IV s m=IV s (n+m):=by unfold IV;rw[show(n+m)*2=n*2+m*2 by omega,OE]
theorem zi(s:aN)(n:Nat):(IV s n).length=n*2:=vB _ _
theorem Ui(s:aN)(n:Nat):∀u∈IV s n,u.oneCell'=true:=λu h=>by simp[IV,upTo]at h;obtain⟨_,rfl⟩:=h;rfl
theorem PK(h:(IV s n)[j]? =some u):j<n*2/\u=aW s:=by
 have a:j<n*2:=by have:=(List.getElem?_eq_some_iff.1 h).1;rwa[zi]at this
 unfold IV at h;rw[nJ _ _ _ a]at h;cases h;exact⟨a,rfl⟩
theorem zV(w:au)(a:Option Addr)(n m:Nat)(s:aN)(d:Addr)(y:a=none->n=0)(C:n<=1000)(B:0<m)(A:m<=3)(z:∀q,q<n->∃g o,a=some ⟨g,o,none⟩/\g<w.heap.size/\w.cell? (aB g (o+q*2))=some (aW s)/\w.cell? (aB g (o+q*2+1))=some (aW s))(k:∀j,j<m*2->w.cell? (d.add j)=some (aW s)):
 ∃v w',(Builtin.append_ #[30,30] 30 #[.slice a n n,.slice (some d) m m]).run prog w=.ok v w'/\w'.ownsRow w.heap.size 38 2 v (n+m) (IV s (n+m))/\Keep bD w w':=by
 obtain⟨x,t,h⟩:=gL.1 EP;simp only[Prod.mk.injEq]at h;have c:∀j u,(IV s m)[j]? =some u->w.cell? (d.add j)=some u:=λj u l=>by obtain⟨p,rfl⟩:=PK l;exact k j p
 cases a with
 |none=>have:n=0:=y rfl;subst this;obtain⟨v,w',r,f,i,_⟩:=run_append_own_at (P:=prog) w w.heap.size 30 30 38 x _ 2 32 underlying30 t h.1 h.2.1 h.2.2 rfl U0 (.slice none 0 0) 0 [] (World.ownsRow_nil _ _ _ _) d m m (IV s m) (zi _ _) c (Ui s m) U4 Q0 (aS _);refine⟨v,w',r,?_,(Keep.refl bD w).grown i (λb e _=>by cases e)⟩;rw[<-KI];exact f
 |some b=>
  obtain⟨v,w',r,f,i⟩:=run_append_arg_grows (P:=prog) w 30 30 38 x _ 2 32 underlying30 t h.1 h.2.1 h.2.2 rfl U0 b n n (IV s n) (zi _ _)
   (λj u l=>by
     obtain⟨p,rfl⟩:=PK l;obtain⟨g,o,e,_,f,i⟩:=z (j/2) Q0;cases e;rw[iX];by_cases e:j%2=0
     .rw[<-f,show o+j/2*2=o+j by omega]
     .rw[<-i,show o+j/2*2+1=o+j by omega]) d m m (IV s m) (zi _ _) c Q0 U4 Q0
  refine⟨v,w',r,?_,(Keep.refl bD w).grown i (λb e _=>by cases e)⟩;rw[<-KI];exact f
theorem qV(h:w.ownsRow base 38 2 v n (IV s n))(f:n<=9000000000000000000):kJ w v s:=by
 obtain⟨rfl,e⟩|⟨g,c,cur,rfl,l,a,i,j,k,b⟩:=h.2
 .subst e;exact⟨none,0,0,rfl,Q0,λq d=>aF d (dO _)⟩
 .refine⟨_,n,c,rfl,f,λq d=>⟨g,0,rfl,(bJ.1 a).1,?_,?_⟩⟩
  .rw[eu,cell_of_row w g _ cur _ (0,0) a,<-jE,<-vw (show q*2<n*2 by omega),b];exact nJ _ _ _ Q0
  .rw[eu,cell_of_row w g _ cur _ (0,0) a,<-jE,<-vw (show q*2+1<n*2 by omega),b];exact nJ _ _ _ Q0
theorem FH(gw c:Nat)(R:Nat->aA)(w:au)(o:c<=1000000000000)(b:w.rowIs gw 48 7 R)(f:R 6=ah c):
 Calls prog 107 #[aJ gw 0] w λe w'=>∃s,e=.returned (aW s)/\w'=w.setCell (aB gw 6) (ah (c+1:Nat)):=by
 have m:w.cell? (aB gw 6)=some (ah c):=by rw[b.cell (i:=6) U0,f]
 have t:=b.frozen 6;have a:=b.set 6 (ah (c+1:Nat));have d:(w.setCell (aB gw 6) (ah (c+1:Nat))).cell? (aB gw 6)=some (ah (c+1:Nat)):=a.cell (i:=6) U0;have j:((c+1:Nat):Int)=(c:Int)+1:=by omega
 rw[j]at d ⊢;clear b a f
 go_enter func107,ntmps107
 go_wp2;generalize n:w.setCell (aB gw 6) (ah ((c:Int)+1))=W at*
 go_loop [3,4] (λv i=>∃(q:Nat)(s:aN),q<=c+1/\i=ah q/\v=aW s/\s.size=q+1) (λ_ i=>c+1-(intOf i).toNat)
 case atStart=>exact⟨0,_,bU _,X0,rfl,rfl⟩
 case round=>
  obtain⟨q,s,p,rfl,rfl,g⟩:=hrel;by_cases hlt:q<c+1
  .have l:(q:Int)<(c:Int)+1:=by omega
   have hsz:s.size<=1000000000002:=by omega
   have S:Hid (s.size=q+1):=g;clear g;go_wp2;refine⟨⟨q+1,_,Q0,by go_num,rfl,?_⟩,by simp[intOf];omega⟩;have:=S.out;rw[eB];show s.size+1=_;omega
  .have l:¬(q:Int)<(c:Int)+1:=by omega
   go_wp2
   go_ret
   exact⟨⟨s,rfl⟩,rfl⟩
def KJ(w:au)(a:Option Addr)(n:Nat):Prop:=(a=none->n=0)/\(0<n->∃g o K f,a=some ⟨g,o,none⟩/\w.rowIs g 38 K f/\o+n*2<=K)
theorem M8:(prog.info? 30).map (λi=>(i.zero,i.size,i.bytes))=some (some (.slice none 0 0),1,24):=by kernel_rfl
theorem WZ{e s:Nat}{xs:List aA}(h:w.ownsRow base e s v n xs):∃a c,v=.slice a n c:=by
 obtain⟨rfl,b⟩|⟨g,c,cur,rfl,_⟩:=h.2
 .subst b;exact⟨none,0,rfl⟩
 .exact⟨_,c,rfl⟩
theorem KG.keep{x:Int}{cf:Nat}(h:mM w base gw x v0 v1 v2 v3 v4 v5 ST SF ct cf LT LF MT MF)(k:Keep T w w')(a:∀b,b=gw\/ST b\/SF b->¬T b):mM w' base gw x v0 v1 v2 v3 v4 v5 ST SF ct cf LT LF MT MF:=⟨k.row h.row (a gw (.inl rfl)),h.texts.keep IU k (λb c=>a b (.inr (.inl c))),h.files.keep xD k (λb c=>a b (.inr (.inr c))),h.apart,h.bs,bY h.bz k.size⟩
theorem KG.ad8{x:Int}{cf:Nat}(h:mM wr base gw x v0 v1 v2 v3 v4 v5 ST SF ct cf LT LF MT MF)(a:Option Addr)(n:Nat)(s:aN)(ha:a=none->n=0)(hn:n<=1000)(hc:cf<=4000000000000)
 (hl:∀q,q<n->∃g o,a=some ⟨g,o,none⟩/\g<wr.heap.size/\wr.cell? (aB g (o+q*2))=some (aW s)/\wr.cell? (aB g (o+q*2+1))=some (aW s))(C:∀b,(Value.slice a n n).ownBlock=some b->base<=b/\b<wr.heap.size/\¬ST b/\¬SF b):
 ∃O J i P L f Q M y A v t B z w X F Y q5,v4=.slice X cf F/\v5=.slice Y cf q5/\
  (Builtin.append_ #[30,30] 30 #[.slice a n n,aU wr.heap.size 1 1]).run prog (wr.alloc (.cells #[aW s,aW s] 38))=.ok (aU O (n+1) J) i/\
  (Builtin.append_ #[30,30] 30 #[.slice a n n,aU i.heap.size 2 2]).run prog (i.alloc (.cells #[aW s,aW s,aW s,aW s] 38))=.ok (aU P (n+2) L) f/\
  (Builtin.append_ #[30,30] 30 #[.slice a n n,aU f.heap.size 3 3]).run prog (f.alloc (.cells #[aW s,aW s,aW s,aW s,aW s,aW s] 38))=.ok (aU Q (n+3) M) y/\
  (Builtin.append_ #[46,46] 46 #[v4,aU y.heap.size 4 4]).run prog (y.alloc (.cells #[.slice a n n,aU O (n+1) J,aU P (n+2) L,aU Q (n+3) M] 30))=.ok (aU A (cf+4) v) t/\
  (Builtin.append_ #[34,34] 34 #[v5,aU t.heap.size 4 4]).run prog ((t.setCell (aB gw 4) (aU A (cf+4) v)).alloc (.cells #[aW s,aW s,aW s,aW s] 9))=.ok (aU B (cf+4) z) w/\
  (Keep bD wr i/\Keep bD wr f/\Keep bD wr y)/\
  (y.cell? (aB gw 4)=some v4/\t.cell? (aB gw 4)=some v4/\t.frozen? (aB gw 4)=false/\(t.setCell (aB gw 4) (aU A (cf+4) v)).cell? (aB gw 5)=some v5/\w.cell? (aB gw 5)=some v5/\w.frozen? (aB gw 5)=false)/\
  (∃W U V,mM (w.setCell (aB gw 5) (aU B (cf+4) z)) base gw x v0 v1 v2 v3 (aU A (cf+4) v) (aU B (cf+4) z) ST W ct (cf+4) LT U MT V)/\Keep (λb=>b=gw\/v4.ownBlock=some b\/v5.ownBlock=some b) wr (w.setCell (aB gw 5) (aU B (cf+4) z)):=by
 have K1:Keep bD wr (wr.alloc (.cells #[aW s,aW s] 38)):=(Keep.refl bD wr).alloc _;have m:∀{w':au},Keep bD wr w'->∀q,q<n->∃g o,a=some ⟨g,o,none⟩/\g<w'.heap.size/\w'.cell? (aB g (o+q*2))=some (aW s)/\w'.cell? (aB g (o+q*2+1))=some (aW s):=λk q hq=>by obtain⟨g,o,e,h1,h2,h3⟩:=hl q hq;exact⟨g,o,e,bG h1 k.size,(k.cell (p:=⟨g,o+q*2,none⟩) h1 (λh=>h)).trans h2,(k.cell (p:=⟨g,o+q*2+1,none⟩) h1 (λh=>h)).trans h3⟩
 obtain⟨v6,i,r6,o6,k6⟩:=zV _ a n 1 s ⟨wr.heap.size,0,none⟩ ha hn U0 U0 (m K1) (λj l=>by
  apply qU
  match j,l with
  |0,_=>rfl
  |1,_=>rfl)
 have I:Keep bD wr i:=K1.trans k6 (λ_ _ h=>h);obtain⟨v7,f,r7,o7,k7⟩:=zV _ a n 2 s ⟨i.heap.size,0,none⟩ ha hn U0 U0 (m (I.alloc (.cells #[aW s,aW s,aW s,aW s] 38))) (λj l=>by
  apply qU
  match j,l with
  |0,_=>rfl
  |1,_=>rfl
  |2,_=>rfl
  |3,_=>rfl)
 have S:Keep bD wr f:=(I.alloc _).trans k7 (λ_ _ h=>h);obtain⟨v8,y,r8,o8,k8⟩:=zV _ a n 3 s ⟨f.heap.size,0,none⟩ ha hn U0 U0 (m (S.alloc (.cells #[aW s,aW s,aW s,aW s,aW s,aW s] 38))) (λj l=>by
  apply qU
  match j,l with
  |0,_=>rfl
  |1,_=>rfl
  |2,_=>rfl
  |3,_=>rfl
  |4,_=>rfl
  |5,_=>rfl)
 have K:Keep bD wr y:=(S.alloc _).trans k8 (λ_ _ h=>h);have H:Keep bD i f:=((Keep.refl bD i).alloc _).trans k7 (λ_ _ h=>h);have D:Keep bD f y:=((Keep.refl bD f).alloc _).trans k8 (λ_ _ h=>h);have s6:=I.size;have s67:=H.size;have s78:=D.size;obtain⟨O,J,Z,a6,b6,_⟩:=jJ o6 Q0;obtain⟨P,L,e7,a7,b7,_⟩:=jJ o7 Q0;obtain⟨Q,M,e8,a8,b8,_⟩:=jJ o8 Q0;simp at a6 a7 a8;have m6:kJ y v6 s:=xD _ _ _ _ _ (xD _ _ _ _ _ (qV o6 Q0) H (λ_ _ h=>h)) D (λ_ _ h=>h);have m7:kJ y v7 s:=xD _ _ _ _ _ (qV o7 Q0) D (λ_ _ h=>h);have m8:kJ y v8 s:=qV o8 Q0;have ml:kJ y (.slice a n n) s:=⟨a,n,n,rfl,Q0,m K⟩;have R:=h.keep K (λ_ _ h=>h);have bz:=h.bz;have s8:=K.size;have E:∀b,wr.heap.size<=b->v4.ownBlock≠some b/\v5.ownBlock≠some b:=λb C=>⟨λe=>by have:=(h.files.sz b (h.files.s2 b e)).2;omega,λe=>by have:=(h.files.sz b (h.files.s3 b e)).2;omega⟩;obtain⟨u4,t,u5,w,r9,r10,hcs,G,d,hK⟩:=Half.grow (tl:=46) xD underlying46 M8 R.files (N:=wr.heap.size) (bookG v0 v1 v2 v3 v4 v5 x) 4 5 R.row rfl rfl U0 U0 U0 h.bs bz s8 hc (.slice a n n) v6 v7 v8 s
  (λu r=>by
    simp at r;obtain rfl|rfl|rfl|rfl:=r
    .rfl
    .rw[Z];rfl
    .rw[e7];rfl
    .rw[e8];rfl)
  (λu r=>by
    simp at r;obtain rfl|rfl|rfl|rfl:=r
    .exact ml
    .exact m6
    .exact m7
    .exact m8)
  (λu r b c=>by
    simp at r;obtain rfl|rfl|rfl|rfl:=r
    .obtain⟨q1,q2,q3,F⟩:=C b c;exact⟨q1,Q0,λe=>F (h.files.s2 b e),λe=>F (h.files.s3 b e),.inr c⟩
    .rw[Z]at c;simp only[Value.ownBlock,iV]at c;subst c;exact⟨Q0,Q0,(E _ Q0).1,(E _ Q0).2,.inl Q0⟩
    .rw[e7]at c;simp only[Value.ownBlock,iV]at c;subst c;exact⟨Q0,Q0,(E _ Q0).1,(E _ Q0).2,.inl Q0⟩
    .rw[e8]at c;simp only[Value.ownBlock,iV]at c;subst c;exact⟨Q0,Q0,(E _ Q0).1,(E _ Q0).2,.inl Q0⟩)
 obtain⟨A,v,e4,_⟩:=jJ d.BD Q0;obtain⟨B,z,e5,_⟩:=jJ d.BF Q0;obtain⟨X,F,f4⟩:=WZ h.files.BD;obtain⟨Y,q5,f5⟩:=WZ h.files.BF;subst Z e7 e8 e4 e5;refine⟨O,J,i,P,L,f,Q,M,y,A,v,t,B,z,w,X,F,Y,q5,f4,f5,r6,r7,r8,r9,r10,⟨I,S,K⟩,hcs,⟨_,_,_,⟨?_,?_,d,λb hT hF=>?_,h.bs,?_⟩⟩,(K.mono (T:=λb=>b=gw\/v4.ownBlock=some b\/v5.ownBlock=some b) (λ_ _ h=>h.elim)).trans hK (λ_ _ h=>h)⟩
 .refine World.rowIs.congr G (λj l=>?_);by_cases e:j=5
  .subst e;rfl
  .rw[av e,(xC v0 v1 v2 v3 v4 v5 x _ j l).2.2.1,<-(xC v0 v1 v2 v3 (aU A (cf+4) v) v5 x (aU B (cf+4) z) j l).2.2.2.1,av e]
 .exact R.texts.keep IU hK (λb C e=>by
   obtain e|e|e:=e
   .have:=(h.texts.sz b C).1;have:=h.bs;omega
   .exact h.apart b C (h.files.s2 b e)
   .exact h.apart b C (h.files.s3 b e))
 .obtain q|q|q:=hF
  .exact h.apart b hT q
  .have:=(h.texts.sz b hT).2;omega
  .exact(C b q).2.2.1 hT
 .exact bY bz (bY s8 hK.size)
theorem KG.Uj{x:Int}{cf:Nat}(h:mM w base gw x v0 v1 v2 v3 v4 v5 ST SF ct cf LT LF MT MF)(y:Int):mM (w.setCell (aB gw 6) (ah y)) base gw y v0 v1 v2 v3 v4 v5 ST SF ct cf LT LF MT MF:=by have K:Keep (λb=>b=gw) w (w.setCell (aB gw 6) (ah y)):=Keep.setCell (S:=λb=>b=gw) (Keep.refl _ w) (p:=⟨gw,6,none⟩) (λ_=>rfl) _;have s:=h.bs;exact⟨World.rowIs.congr (h.row.set 6 _) (λj c=>(xC v0 v1 v2 v3 v4 v5 x _ j c).2.2.2.2 y rfl),h.texts.keep IU K (λb a e=>by have:=(h.texts.sz b a).1;omega),h.files.keep xD K (λb a e=>by have:=(h.files.sz b a).1;omega),h.apart,s,by simpa using h.bz⟩
def FI(base gw x:Nat)(a:Option Addr)(n:Nat)(v0 v1 v2 v3:aA)(ST SF:aD)(ct cf:Nat)(LT:Nat->aA)(MT:Nat->aN)(w w':au):Prop:=∃u4 u5 SF' LF' MF',mM w' base gw ((x+1:Nat):Int) v0 v1 v2 v3 u4 u5 ST SF' ct (cf+4) LT LF' MT MF'/\Keep (λb=>b=gw\/SF b\/(Value.slice a n n).ownBlock=some b) w w'
theorem zW(base gw x:Nat)(a:Option Addr)(n:Nat)(v0 v1 v2 v3 v4 v5:aA)(ST SF:aD)(ct cf:Nat)(LT LF:Nat->aA)(MT MF:Nat->aN)(w:au)(I:mM w base gw (x:Int) v0 v1 v2 v3 v4 v5 ST SF ct cf LT LF MT MF)(hx:x<=1000000000000)(hc:cf<=4000000000000)(hn:n<=1000)(hm:KJ w a n)
 (d:∀b,(Value.slice a n n).ownBlock=some b->base<=b/\b<w.heap.size/\¬ST b/\¬SF b):
 Calls prog 43 #[aJ gw 0,.slice a n n] w λe w'=>e=.returned (.tuple #[])/\FI base gw x a n v0 v1 v2 v3 ST SF ct cf LT MT w w':=by
 have SC:Hid (Calls prog 107 #[aJ gw 0] w λe w'=>∃s,e=.returned (aW s)/\w'=w.setCell (aB gw 6) (ah (x+1:Nat))):=FH gw x _ w Q0 I.row rfl;have Y:Hid (mM (w.setCell (aB gw 6) (ah (x+1:Nat))) base gw ((x+1:Nat):Int) v0 v1 v2 v3 v4 v5 ST SF ct cf LT LF MT MF):=I.Uj _;have K1:Keep (λb=>b=gw) w (w.setCell (aB gw 6) (ah (x+1:Nat))):=Keep.setCell (S:=λb=>b=gw) (Keep.refl _ w) (p:=⟨gw,6,none⟩) (λ_=>rfl) _;have v:Hid (Keep (λb=>b=gw) w (w.setCell (aB gw 6) (ah (x+1:Nat)))):=K1;have B:Hid (∀b,(Value.slice a n n).ownBlock=some b->base<=b/\b<w.heap.size/\¬ST b/\¬SF b):=d;have Z:Hid (gw<base):=I.bs;have M:Hid (KJ (w.setCell (aB gw 6) (ah (x+1:Nat))) a n):=⟨hm.1,λh=>by obtain⟨g,o,K,f,e,j,t⟩:=hm.2 h;exact⟨g,o,K,f,e,K1.row j (by have:=(d g V6).1;have:=I.bs;omega),t⟩⟩
 have hsz:(w.setCell (aB gw 6) (ah (x+1:Nat))).heap.size=w.heap.size:=by simp
 have A:Hid ((w.setCell (aB gw 6) (ah (x+1:Nat))).heap.size=w.heap.size):=hsz;clear I hm d K1 hsz
 go_enter func43,ntmps43
 go_wp2_with fail
 refine Calls.mono SC.out ?_;rintro e c ⟨s,rfl,Q⟩;rw[<-Q]at Y v M A;clear Q SC;go_wp2;obtain⟨W,m⟩:∃W,W=c.alloc (.cells #[aW s,aW s] 38):=⟨_,rfl⟩;rw[<-m];have l:Hid (Keep bD c W):=by rw[m];exact(Keep.refl bD c).alloc _
 have F:Hid (W.heap[c.heap.size]? =some (.cells #[aW s,aW s] 38 (0,0))):=by rw[m];exact Go.Deep.blk_alloc_new _ _
 have G:Hid (KJ W a n):=⟨M.out.1,λh=>by obtain⟨g,o,K,f,e,j,t⟩:=M.out.2 h;exact⟨g,o,K,f,e,l.out.row j (λh=>h),t⟩⟩
 have HZ:Hid (c.heap.size<W.heap.size):=(bJ.1 F.out).1;clear m;have L:∀wr,Keep (λb=>(Value.slice a n n).ownBlock=some b) W wr->wr.cell? (aB c.heap.size 0)=some (aW s)/\wr.cell? (aB c.heap.size 1)=some (aW s):=λwr k=>by
  have hno:¬(Value.slice a n n).ownBlock=some c.heap.size:=λe=>by have:=(B.out _ e).2.1;have:=A.out;omega
  have u:=(k.block _ HZ.out hno).trans F.out;exact⟨by rw[cell_of_row _ _ 0 _ _ (0,0) u];rfl,by rw[cell_of_row _ _ 1 _ _ (0,0) u];rfl⟩
 have E:Hid (∀wr,Keep (λb=>(Value.slice a n n).ownBlock=some b) W wr->wr.cell? (aB c.heap.size 0)=some (aW s)/\wr.cell? (aB c.heap.size 1)=some (aW s)):=L;clear L
 go_loopw [6] (λi wr=>∃q:Nat,q<=n/\i=ah q/\Keep (λb=>(Value.slice a n n).ownBlock=some b) W wr/\(0<n->∃g o K f,a=some ⟨g,o,none⟩/\wr.rowIs g 38 K f/\o+n*2<=K/\∀p,p<q->f (o+p*2)=aW s/\f (o+p*2+1)=aW s)) (λi _=>n-(intOf i).toNat)
 case atStart=>exact⟨0,bU _,X0,Keep.refl _ _,λh=>by obtain⟨g,o,K,f,e,j,t⟩:=G.out.2 h;exact⟨g,o,K,f,e,j,t,λp O=>aF O (dO _)⟩⟩
 case round=>
  obtain⟨q,hq,rfl,hK,hex⟩:=hrel;obtain⟨f0,f1⟩:=E.out wr hK;by_cases hlt:q<n
  .have i1:(q:Int)<(n:Int):=by omega
   obtain⟨g,o,K,f,rfl,D,hoK,hf⟩:=hex Q0;have ct:=D.cell (i:=o+q*2) Q0;have zt:=D.frozen (o+q*2);have ct1:=D.cell (i:=o+q*2+1) Q0;have zt1:=D.frozen (o+q*2+1);have HR:Hid (wr.rowIs g 38 K f):=D;have HF:Hid (∀p,p<q->f (o+p*2)=aW s/\f (o+p*2+1)=aW s):=hf;have HK:Hid (Keep (λb=>(Value.slice (some ⟨g,o,none⟩) n n).ownBlock=some b) W wr):=hK;clear D hf hK hex;generalize f (o+q*2)=ov at ct;generalize f (o+q*2+1)=ov1 at ct1;go_wp2;refine⟨⟨q+1,Q0,by go_num,(HK.out.setCell (p:=⟨g,o+q*2,none⟩) (λ_=>rfl) _).setCell (p:=⟨g,o+q*2+1,none⟩) (λ_=>rfl) _,λ_=>⟨g,o,K,_,rfl,(HR.out.set (o+q*2) _).set (o+q*2+1) _,hoK,λp O=>?_⟩⟩,by simp[intOf];omega⟩;by_cases e:p=q
   .subst e;exact⟨by rw[av Q0,aI rfl],by rw[aI rfl]⟩
   .obtain⟨t1,t2⟩:=HF.out p Q0;exact⟨by rw[av Q0,av Q0];exact t1,by rw[av Q0,av Q0];exact t2⟩
  .have:q=n:=by omega
   subst this;have X:mM wr base gw ((x+1:Nat):Int) v0 v1 v2 v3 v4 v5 ST SF ct cf LT LF MT MF:=by
    refine(Y.out.keep l.out (λ_ _ h=>h)).keep hK (λb d e=>?_);obtain⟨e1,e2,e3,e4⟩:=B.out b e;have:=Z.out;obtain d|d|d:=d
    .omega
    .exact e3 d
    .exact e4 d
   obtain⟨g6,e6,w6,g7,e7,w7,g8,e8,y,t,d2,w9,C,d3,w10,a2,q2,a3,q3,rfl,rfl,r6,r7,r8,r9,U,⟨k6,k7,k8⟩,⟨c1,c2,c3,c4,c5,c7⟩,⟨SF2,L2,M2,J⟩,N⟩:=X.ad8 a q s M.out.1 Q0 hc (λp O=>by
    obtain⟨g,o,K,f,e,j,t,C⟩:=hex Q0;refine⟨g,o,e,j.lt,?_,?_⟩
    .rw[j.cell Q0,(C p O).1]
    .rw[j.cell Q0,(C p O).2]) (λb d=>by
    obtain⟨j,t,C⟩:=B.out b d;have:=hK.size;have:=HZ.out;have:=A.out;exact⟨j,Q0,C⟩)
   have V:c.heap.size<wr.heap.size:=bG HZ.out hK.size;have f60:=(k6.cell (p:=⟨c.heap.size,0,none⟩) V (λh=>h)).trans f0;have f61:=(k6.cell (p:=⟨c.heap.size,1,none⟩) V (λh=>h)).trans f1;have f70:=(k7.cell (p:=⟨c.heap.size,0,none⟩) V (λh=>h)).trans f0;have f71:=(k7.cell (p:=⟨c.heap.size,1,none⟩) V (λh=>h)).trans f1;have HP:Hid (FI base gw x a q v0 v1 v2 v3 ST SF ct cf LT MT w (w10.setCell (aB gw 5) (aU C (cf+4) d3))):=by
    have hs:=X.files;refine⟨_,_,SF2,L2,M2,J,?_⟩;refine(((v.out.mono (T:=λb=>b=gw\/SF b\/(Value.slice a q q).ownBlock=some b) (λ_ _ h=>.inl h)).trans l.out (λ_ _ h=>h.elim)).trans hK (λ_ _ h=>.inr (.inr h))).trans N (λb _ h=>?_);obtain h|h|h:=h
    .exact .inl h
    .exact .inr (.inl (hs.s2 b h))
    .exact .inr (.inl (hs.s3 b h))
   clear X J N hex hK Y v M B E G F l k6 k7 k8;have R6:Hid (_=_):=r6;have R7:Hid (_=_):=r7;have R8:Hid (_=_):=r8;have R9:Hid (_=_):=r9;have R:Hid (_=_):=U;clear r6 r7 r8 r9 U
   go_wp2_with (at_builtin;(first|(refine uh R6.out rfl rfl rfl rfl ?_;clear R6)|(refine uh R7.out rfl rfl rfl rfl ?_;clear R7)|(refine uh R8.out rfl rfl rfl rfl ?_;clear R8)|(refine uh R9.out rfl rfl rfl rfl ?_;clear R9)|(refine uh R.out rfl rfl rfl rfl ?_;clear R)))
   go_end0
   exact⟨rfl,HP.out⟩
def dash:aN:=⟨#[45]⟩
theorem M9(w:au)(T x y e:bf)(b o d c:Nat)(a:Addr)(s f:Nat)(C:List aA)
 (u:P.underlying T=some (.slice e))(k:(P.info? e).map (·.size)=some 2)(t:C.length=Nat.min s d*2)
 (h:∀j v,C[j]? =some v->w.cell? (a.add j)=some v)(n:∀j,j<C.length->(w.cell? (aB b (o+j))).isSome=true)(p:∀j,j<C.length->w.frozen? (aB b (o+j))=false)(m:∀v∈C,v.oneCell'=true):
 (Builtin.copy_ #[T,x] y #[.slice (some ⟨b,o,none⟩) d c,.slice (some a) s f]).run P w=.ok (goInt (Nat.min s d)) (w.setCells b o C):=by
 have l:=run_loadCells_list (P:=P) w a C h;have g:=run_storeCells_cells (P:=P) b o C 0 w (by simpa using n) (by simpa using p) m;cases q:P.info? e with
 |none=>simp[q]at k
 |some i=>
  have r:i.size=2:=by simpa[q]using k
  rw[t]at l;simp[Builtin.copy_,run_underlying u,Builtin.lenOf,Builtin.firstCells,sizeOf,typeInfo,q,r,l,g]
theorem zX(w:au)(T f t e:bf)(d a:Option Addr)(L C s b:Nat)(u:P.underlying T=some (.slice e))(c:(P.info? e).map (·.size)=some 2)(n:Nat.min s L=0):
 (Builtin.copy_ #[T,f] t #[.slice d L C,.slice a s b]).run P w=.ok (goInt 0) w:=by
 cases h:P.info? e with
 |none=>simp[h]at c
 |some i=>
  have l:∀(x:Addr),(loadCells x 0).run P w=.ok #[] w:=λx=>by simpa using run_loadCells_list (P:=P) w x [] X0
  cases d<;>cases a<;>simp[Builtin.copy_,run_underlying u,Builtin.lenOf,Builtin.firstCells,sizeOf,typeInfo,h,n,storeCells,l]
theorem qF(a b:Option Addr)(n s t:Nat)(Z D:Nat->aN)(w:au)(x:n<=9223372036854775807)(A:cO w a n Z D)(B:cO w b n Z D):
 Calls prog 41 #[.slice a n s,.slice b n t] w λe w'=>e=.returned (.bool true)/\Keep bD w w':=by
 have f:Hid (cO w a n Z D):=A;have j:Hid (cO w b n Z D):=B;clear A B
 go_enter func41,ntmps41
 go_wp2
 go_loopw [5] (λi wr=>∃q:Nat,q<=n/\i=ah q/\Keep bD w wr) (λi _=>n-(intOf i).toNat)
 case atStart=>exact⟨0,bU _,X0,Keep.refl _ _⟩
 case round=>
  obtain⟨q,y,rfl,hK⟩:=hrel;by_cases hlt:q<n
  .have C:(q:Int)<(n:Int):=by omega
   obtain⟨g,o,rfl,l,cA,u⟩:=f.out q hlt;obtain⟨c,d,rfl,lb,cB,v⟩:=j.out q hlt;rw[<-hK.cell (p:=⟨g,o+q*2,none⟩) l (λh=>h)]at cA;rw[<-hK.cell (p:=⟨c,d+q*2,none⟩) lb (λh=>h)]at cB;rw[<-hK.cell (p:=⟨g,o+q*2+1,none⟩) l (λh=>h)]at u;rw[<-hK.cell (p:=⟨c,d+q*2+1,none⟩) lb (λh=>h)]at v;have m:Hid (Keep bD w wr):=hK;clear hK;go_wp2
   go_quiet (fail)
   go_wp2;exact⟨⟨q+1,Q0,by go_num,m.out.drewN _⟩,by simp[intOf];omega⟩
  .have:q=n:=by omega
   subst this;go_wp2
   go_ret
   exact⟨rfl,hK⟩
def FJ(Z D:Nat->aN)(j:Nat):aA:=if j%2=0 then .string (Z (j/2))else .string (D (j/2))
def lK(Z D:Nat->aN)(n j:Nat):aA:=if j<n*2 then FJ Z D j else if j%2=0 then .string dash else .string ByteArray.empty
theorem XL(w:au)(a:Option Addr)(n c:Nat)(Z D:Nat->aN)(T:cO w a n Z D):
 ∃w' f,(Builtin.copy_ #[30,30] 3 #[aU w.heap.size (n+2) (n+2),.slice a n c]).run prog (w.alloc (.cells (madeCells #[aW ByteArray.empty,aW ByteArray.empty] ((n+2)*2)) 38))=.ok (goInt (n:Nat)) w'/\w'.rowIs w.heap.size 38 ((n+2)*2) f/\(∀j,j<n*2->f j=FJ Z D j)/\Keep bD w w':=by
 have r:=World.rowIs_alloc w (madeCells #[aW ByteArray.empty,aW ByteArray.empty] ((n+2)*2)) 38 (λj=>(madeCells #[aW ByteArray.empty,aW ByteArray.empty] ((n+2)*2))[j]?.getD default) (λi p=>by rw[iU p];rfl);rw[size_madeCells]at r;by_cases s:0<n
 .obtain⟨g,o,rfl,q,T⟩:=T.some s;have h:=M9 (P:=prog) (w.alloc (.cells (madeCells #[aW ByteArray.empty,aW ByteArray.empty] ((n+2)*2)) 38)) 30 30 3 38 w.heap.size 0 (n+2) (n+2) ⟨g,o,none⟩ n c (upTo (FJ Z D) (n*2)) underlying30 M0 (by rw[vB];rw[show Nat.min n (n+2)=n from Nat.min_eq_left Q0])
   (λj v b=>by
     have d:j<n*2:=by have:=(List.getElem?_eq_some_iff.1 b).1;rwa[vB]at this
     rw[nJ _ _ _ d]at b;cases b;rw[iX,World.cell?_alloc_past _ _ _ q];obtain⟨l,m⟩:=T (j/2) Q0;unfold FJ;by_cases e:j%2=0
     .rw[aI e,<-l,show o+j/2*2=o+j by omega]
     .rw[av e,<-m,show o+j/2*2+1=o+j by omega])
   (λj b=>by rw[vB]at b;rw[eu,r.cell Q0];rfl)
   (λj _=>r.frozen _)
   (λv k=>by simp[upTo]at k;obtain⟨i,_,rfl⟩:=k;unfold FJ;split<;>rfl)
  rw[show Nat.min n (n+2)=n from Nat.min_eq_left Q0]at h;refine⟨_,_,h,rowIs_setCells _ _ _ _ r,λj b=>?_,sW (λh=>aF h (iQ _)) _ _ _ ((Keep.refl bD w).alloc _)⟩;simp[upTo,b]
 .have:n=0:=by omega
  subst this;exact⟨_,_,zX _ _ _ _ _ _ _ _ _ _ _ underlying30 M0 rfl,r,λj b=>aF b Q0,(Keep.refl bD w).alloc _⟩
theorem yO(a:Option Addr)(n c:Nat)(Z D:Nat->aN)(w:au)(M:n<=4398046510976)(T:cO w a n Z D):
 Calls prog 90 #[.slice a n c] w λe w'=>e=.returned (aU w.heap.size n (n+2))/\w'.rowIs w.heap.size 38 ((n+2)*2) (lK Z D n)/\Keep bD w w':=by
 obtain⟨C,s,g⟩:=gL.1 EP;simp only[Prod.mk.injEq]at g;obtain⟨u,v,x⟩:=g;have B:∀w:au,(Instr.makeSlice 30 (ah ((n:Int)+2)) (ah ((n:Int)+2))).run prog w=.ok (aU w.heap.size (n+2) (n+2)) (w.alloc (.cells (madeCells #[aW ByteArray.empty,aW ByteArray.empty] ((n+2)*2)) 38)):=λw=>by
  have:=run_make (P:=prog) w 30 38 C _ underlying30 s u .i64 .i64 ((n:Int)+2) ((n:Int)+2) Q0 (Int.le_refl _) (by rw[x];omega) Q0;rw[v]at this;have e:((n:Int)+2).toNat=n+2:=by omega
  rw[e]at this;simpa[Value.cells]using this
 obtain⟨t,f,A,b,q,hK⟩:=XL w a n c Z D T;have R:Hid (t.rowIs w.heap.size 38 ((n+2)*2) f):=b;have F:Hid (∀j,j<n*2->f j=FJ Z D j):=q;have y:Hid (Keep bD w t):=hK;have E:=b.cell (i:=n*2) Q0;have G:=b.cell (i:=n*2+1) Q0;have I:=b.cell (i:=(n+1)*2) Q0;have J:=b.cell (i:=(n+1)*2+1) Q0;have N:=b.frozen (n*2);have O:=b.frozen (n*2+1);have Q:=b.frozen ((n+1)*2);have S:=b.frozen ((n+1)*2+1);clear T b q hK s u v x;generalize f (n*2)=x1 at*;generalize f (n*2+1)=x2 at*;generalize f ((n+1)*2)=x3 at*;generalize f ((n+1)*2+1)=x4 at*
 go_enter func90,ntmps90
 go_wp2
 go_ret
 refine⟨rfl,World.rowIs.congr ((((R.out.set (n*2) _).set (n*2+1) _).set ((n+1)*2) _).set ((n+1)*2+1) _) (λj L=>?_),(((y.out.setCell (p:=⟨w.heap.size,n*2,none⟩) (λh=>aF h (iQ _)) _).setCell (p:=⟨w.heap.size,n*2+1,none⟩) (λh=>aF h (iQ _)) _).setCell (p:=⟨w.heap.size,(n+1)*2,none⟩) (λh=>aF h (iQ _)) _).setCell (p:=⟨w.heap.size,(n+1)*2+1,none⟩) (λh=>aF h (iQ _)) _⟩;unfold lK;by_cases d:j=(n+1)*2+1
 .rw[aI d,av Q0,av Q0];rfl
 .by_cases l:j=(n+1)*2
  .rw[av d,aI l,av Q0,aI Q0];rfl
  .by_cases m:j=n*2+1
   .rw[av d,av l,aI m,av Q0,av Q0];rfl
   .by_cases o:j=n*2
    .rw[av d,av l,av m,aI o,av Q0,aI Q0];rfl
    .rw[av d,av l,av m,av o,aI Q0,F.out j Q0]
theorem FK{Z D:Nat->aN}(h:w.rowIs g 38 ((n+2)*2) (lK Z D n)):cO w (some ⟨g,0,none⟩) n Z D:=λi a=>by
 refine⟨g,0,rfl,h.lt,?_,?_⟩
 .rw[eu,h.cell Q0]
  unfold lK FJ;rw[aI Q0,aI Q0,show i*2/2=i by omega]
 .rw[eu,h.cell Q0]
  unfold lK FJ;rw[aI Q0,av Q0,show(i*2+1)/2=i by omega]
theorem xE(g n:Nat)(b:Option Addr)(d:Nat)(Z D:Nat->aN)(w:au)(o:n<=4398046510976)(R:w.rowIs g 38 ((n+2)*2) (lK Z D n))(B:cO w b n Z D):
 Calls prog 92 #[aU g n (n+2),.slice b n d] w λe w'=>e=.returned (.bool true)/\Keep bD w w':=by
 have S:Hid (Calls prog 41 #[aU g n (n+2),.slice b n d] w λe w'=>e=.returned (.bool true)/\Keep bD w w'):=qF _ _ n _ _ Z D w Q0 (FK R) B;have i:Hid (w.rowIs g 38 ((n+2)*2) (lK Z D n)):=R;clear R B
 go_enter func92,ntmps92
 go_wp2_with fail
 refine Calls.mono S.out ?_;rintro e c ⟨rfl,hK⟩;have a:=hK.row i.out (λh=>h);have j:c.cell? (aB g (n*2))=some (aW ⟨#[45]⟩):=by rw[a.cell Q0];unfold lK;rw[av Q0,aI Q0];rfl
 have l:c.cell? (aB g (n*2+1))=some (aW ⟨#[]⟩):=by rw[a.cell Q0];unfold lK;rw[av Q0,av Q0];rfl
 have m:c.cell? (aB g ((n+1)*2))=some (aW ⟨#[45]⟩):=by rw[a.cell Q0];unfold lK;rw[av Q0,aI Q0];rfl
 have f:Hid (Keep bD w c):=hK;clear a hK;go_wp2
 go_ret
 exact⟨rfl,f.out⟩
def lU:aA:=.slice none 0 0
def EM(base gw xn cf:Nat)(w:au):Prop:=∃v4 v5 SF LF MF,mM w base gw (xn:Int) lU lU lU lU v4 v5 (λ_=>False) SF 0 cf (λ_=>lU) LF (λ_=>ByteArray.empty) MF
theorem EM.keep{x cf:Nat}(h:EM base gw x cf w)(k:Keep bD w w'):EM base gw x cf w':=by obtain⟨v4,v5,SF,LF,MF,B⟩:=h;exact⟨v4,v5,SF,LF,MF,B.keep k (λ_ _ h=>h)⟩
theorem Half.see{S:aD}(h:Half Mk el w base S c v2 v3 L M):∃b q d j,v2=.slice b c q/\v3=.slice d c j/\∀i,i<c->∃e f,b=some ⟨e,0,none⟩/\d=some ⟨f,0,none⟩/\e<w.heap.size/\f<w.heap.size/\w.cell? (aB e i)=some (L i)/\w.cell? (aB f i)=some (aW (M i)):=by
 have o:∃b q,v2=.slice b c q:=by
  obtain⟨rfl,l⟩|⟨g,a,cur,rfl,_⟩:=h.BD.2
  .subst l;exact⟨none,0,rfl⟩
  .exact⟨_,a,rfl⟩
 have p:∃d j,v3=.slice d c j:=by
  obtain⟨rfl,l⟩|⟨g,a,cur,rfl,_⟩:=h.BF.2
  .subst l;exact⟨none,0,rfl⟩
  .exact⟨_,a,rfl⟩
 obtain⟨b,q,rfl⟩:=o;obtain⟨d,j,rfl⟩:=p;refine⟨b,q,d,j,rfl,rfl,λi k=>?_⟩;obtain⟨e,t,m,_,r,_⟩:=jJ h.BD Q0;obtain⟨f,u,n,_,s,_⟩:=jJ h.BF Q0;simp at m n;obtain⟨rfl,rfl⟩:=m;obtain⟨rfl,rfl⟩:=n;exact⟨e,f,rfl,rfl,r,s,by rw[zf h.BD i k,nJ _ _ _ k],by rw[zf h.BF i k,nJ _ _ _ k]⟩
theorem DT(base gw:Nat)(x:Int)(v0 v1 v2 v3 v4 v5:aA)(ST SF:aD)(ct cf:Nat)(LT LF:Nat->aA)(MT MF:Nat->aN)(w:au)(B:mM w base gw x v0 v1 v2 v3 v4 v5 ST SF ct cf LT LF MT MF)(hct:ct<=8000000000000)(hcf:cf<=8000000000000):
 Calls prog 22 #[aJ gw 0] w λe w'=>e=.returned (.bool true)/\Keep bD w w':=by
 have A:w.cell? (aB gw 2)=some v2:=B.row.cell (i:=2) U0;have D:w.cell? (aB gw 3)=some v3:=B.row.cell (i:=3) U0;have j:w.cell? (aB gw 4)=some v4:=B.row.cell (i:=4) U0;have s:w.cell? (aB gw 5)=some v5:=B.row.cell (i:=5) U0;have u:=B.row.lt;obtain⟨S,q2,T,q3,Z,e3,Q⟩:=B.texts.see;obtain⟨U,q4,V,q5,e4,e5,Y⟩:=B.files.see;subst Z e3 e4 e5;have X:Hid (∀i,i<ct->∃b c,S=some ⟨b,0,none⟩/\T=some ⟨c,0,none⟩/\b<w.heap.size/\c<w.heap.size/\w.cell? (aB b i)=some (LT i)/\w.cell? (aB c i)=some (aW (MT i))):=Q;have R:Hid (∀i,i<cf->∃b c,U=some ⟨b,0,none⟩/\V=some ⟨c,0,none⟩/\b<w.heap.size/\c<w.heap.size/\w.cell? (aB b i)=some (LF i)/\w.cell? (aB c i)=some (aW (MF i))):=Y;have O:Hid (∀i,i<ct->vI w (LT i) (MT i)):=B.texts.lists;have F:Hid (∀i,i<cf->kJ w (LF i) (MF i)):=B.files.lists;clear B Q Y
 go_enter func22,ntmps22
 go_wp2
 go_loopw [3,4] (λi _ wr=>∃q:Nat,q<=ct/\i=ah q/\Keep bD w wr) (λi _ _=>ct-(intOf i).toNat)
 case atStart=>exact⟨0,bU _,X0,Keep.refl _ _⟩
 case round=>
  obtain⟨q,hq,rfl,hK⟩:=hrel;have t:=(hK.cell (p:=⟨gw,2,none⟩) u (λh=>h)).trans A;by_cases hlt:q<ct
  .have I:(q:Int)<(ct:Int):=by omega
   have E:Hid (Keep bD w wr):=hK;clear hK;go_wp2;obtain⟨b,c,rfl,rfl,J,M,d,m⟩:=X.out q hlt;obtain⟨G,n,W,L,hn,C⟩:=O.out q hlt;rw[L]at d;have f:Hid (∀p,p<n->∃g o,G=some ⟨g,o,none⟩/\g<w.heap.size/\w.cell? (aB g (o+p))=some (aW (MT q))):=C;clear C t L
   go_loopw [4] (λi N=>∃p:Nat,p<=n/\i=ah p/\Keep bD w N) (λi _=>n-(intOf i).toNat)
   case atStart=>exact⟨0,bU _,X0,E.out⟩
   case round=>
    obtain⟨p,hp,rfl,hK⟩:=hrel;have t:=(hK.cell (p:=⟨gw,2,none⟩) u (λh=>h)).trans A;have f3:=(hK.cell (p:=⟨gw,3,none⟩) u (λh=>h)).trans D;have y2:=(hK.cell (p:=⟨b,q,none⟩) J (λh=>h)).trans d;have y3:=(hK.cell (p:=⟨c,q,none⟩) M (λh=>h)).trans m;by_cases l:p<n
    .have j1:(p:Int)<(n:Int):=by omega
     obtain⟨g,o,rfl,lg,v⟩:=f.out p l;have y4:=(hK.cell (p:=⟨g,o+p,none⟩) lg (λh=>h)).trans v;have a:Hid (Keep bD w wr):=hK;clear hK A D j s d m v;go_wp2
     go_quiet (fail)
     go_wp2;exact⟨⟨p+1,Q0,by go_num,a.out.drewN _⟩,by simp[intOf];omega⟩
    .have:p=n:=by omega
     subst this;have a:Hid (Keep bD w wr):=hK;clear hK A D j s d m;go_wp2;exact⟨⟨q+1,Q0,by go_num,a.out⟩,by simp[intOf];omega⟩
  .have:q=ct:=by omega
   subst this;have a:Hid (Keep bD w wr):=hK;have I:¬(q:Int)<(q:Int):=by omega
   clear hK A D X O;go_wp2
   go_loopw [5,6] (λi _ wr=>∃q:Nat,q<=cf/\i=ah q/\Keep bD w wr) (λi _ _=>cf-(intOf i).toNat)
   case atStart=>exact⟨0,bU _,X0,a.out⟩
   case round=>
    clear t;obtain⟨q,hq,rfl,hK⟩:=hrel;have t:=(hK.cell (p:=⟨gw,4,none⟩) u (λh=>h)).trans j;by_cases hlt:q<cf
    .have I:(q:Int)<(cf:Int):=by omega
     have E:Hid (Keep bD w wr):=hK;clear hK;go_wp2;obtain⟨b,c,rfl,rfl,J,M,d,m⟩:=R.out q hlt;obtain⟨G,n,W,L,hn,C⟩:=F.out q hlt;rw[L]at d;have f:Hid (∀p,p<n->∃g o,G=some ⟨g,o,none⟩/\g<w.heap.size/\w.cell? (aB g (o+p*2))=some (aW (MF q))/\w.cell? (aB g (o+p*2+1))=some (aW (MF q))):=C;clear C t L
     go_loopw [6] (λi N=>∃p:Nat,p<=n/\i=ah p/\Keep bD w N) (λi _=>n-(intOf i).toNat)
     case atStart=>exact⟨0,bU _,X0,E.out⟩
     case round=>
      obtain⟨p,hp,rfl,hK⟩:=hrel;have t:=(hK.cell (p:=⟨gw,4,none⟩) u (λh=>h)).trans j;have f3:=(hK.cell (p:=⟨gw,5,none⟩) u (λh=>h)).trans s;have y2:=(hK.cell (p:=⟨b,q,none⟩) J (λh=>h)).trans d;have y3:=(hK.cell (p:=⟨c,q,none⟩) M (λh=>h)).trans m;by_cases l:p<n
      .have j1:(p:Int)<(n:Int):=by omega
       obtain⟨g,o,rfl,lg,v,y⟩:=f.out p l;have y4:=(hK.cell (p:=⟨g,o+p*2,none⟩) lg (λh=>h)).trans v;have y5:=(hK.cell (p:=⟨g,o+p*2+1,none⟩) lg (λh=>h)).trans y;have a:Hid (Keep bD w wr):=hK;clear hK j s d m v y;go_wp2
       go_quiet (fail)
       go_wp2;exact⟨⟨p+1,Q0,by go_num,a.out.drewN _⟩,by simp[intOf];omega⟩
      .have:p=n:=by omega
       subst this;have a:Hid (Keep bD w wr):=hK;clear hK j s d m;go_wp2;exact⟨⟨q+1,Q0,by go_num,a.out⟩,by simp[intOf];omega⟩
    .have:q=cf:=by omega
     subst this;have a:Hid (Keep bD w wr):=hK;have I:¬(q:Int)<(q:Int):=by omega
     clear hK j s;go_wp2
     go_ret
     exact⟨rfl,a.out⟩
theorem Na(w:au):EM (w.heap.size+1) w.heap.size 0 0 (w.alloc (.cells xB 48)):=
 ⟨lU,lU,λ_=>False,λ_=>lU,λ_=>ByteArray.empty,World.rowIs_alloc w xB 48 (bookG lU lU lU lU lU lU ((0:Nat):Int)) (λi a=>by
   match i,a with
   |0,_=>rfl
   |1,_=>rfl
   |2,_=>rfl
   |3,_=>rfl
   |4,_=>rfl
   |5,_=>rfl
   |6,_=>rfl),Half.start _ _ _ _,Half.start _ _ _ _,λb h=>h.elim,Q0,X0⟩
theorem vJ:prog.cellsOf 51=10:=by kernel_rfl
theorem FM:prog.cellsOf 3=1:=by kernel_rfl
theorem vK:prog.cellsOf 9=1:=by kernel_rfl
theorem IW:prog.cellsOf 34=1:=by kernel_rfl
theorem FP:prog.cellsOf 49=1:=by kernel_rfl
theorem IX:prog.cellsOf 30=1:=by kernel_rfl
theorem zY:prog.cellsOf 188=2:=by kernel_rfl
def strOf:Option aA->aN
 |some (.string s)=>s
 |_=>ByteArray.empty
def XM:Option aA->Int
 |some (.int .i64 n)=>n
 |_=>0
theorem PN:prog.bytesOf 9=16:=by kernel_rfl
theorem IY:prog.bytesOf 188=24:=by kernel_rfl
theorem Uk:prog.bytesOf 51=144:=by kernel_rfl
theorem xG:prog.cellsOf 38=2:=by kernel_rfl
theorem Nb:prog.bytesOf 38=32:=by kernel_rfl
def fits(t:bf)(d:DataW H):Prop:=∀k∈d.weights prog t,k<=reachBytes
theorem lV(h:prog.underlying t=some (.slice e))(l f:List (DataW H)):(l.length+f.length)*prog.bytesOf e∈(DataW.slice l f).weights prog t:=by simp[DataW.weights,h]
theorem zZ(h:d∈l):∀k∈d.weights prog e,k∈DataW.weightsAll prog e l:=by
 induction l with
 |nil=>cases h
 |cons x r i=>
  intro k a;simp only[DataW.weightsAll,List.mem_append];obtain e|e:=lS.1 h
  .subst e;exact .inl a
  .exact .inr (i e k a)
theorem lW(u:prog.underlying t=some (.slice e)){l f:List (DataW H)}(h:d∈l):∀k∈d.weights prog e,k∈(DataW.slice l f).weights prog t:=λk a=>by
 simp only[DataW.weights,u,lS,List.mem_append]
 exact .inr (.inl (zZ h k a))
theorem iF(e:prog.underlying t=some (.struct fs)){u:bf}(c:(fs.toList.map (·.type))[j]? =some u)(a:h[j]? =some d):∀k∈d.weights prog u,k∈(DataW.agg h).weights prog t:=λk b=>by
 simp only[DataW.weights,e]
 exact DataW.weights_mem_each c a k b
theorem Ct(h:(Lit.int .i64 z).wf=true):mG z:=by
 have a:IntKind.i64.min= -9223372036854775808:=by decide
 have m:IntKind.i64.max=9223372036854775807:=by decide
 unfold Lit.wf at h;simp[a,m]at h;exact h
theorem IZ(h:DataW.trod o prog W base f held E 34 [v]=some x):
 ∃a n c T,v=.slice a n c/\(fits 34 x.1->n<=8796093021952/\∀i,i<n->(T i).size<=140737488351232)/\EX W a n T:=by
 obtain⟨d,_⟩|⟨p,l,c,m,n,D,Pl,d,_,M,N,ZW,u,A⟩:=open_slice underlying34 h
 .simp at d;subst d;exact⟨none,0,0,λ_=>ByteArray.empty,rfl,λ_=>⟨bU _,λi j=>aF j (dO _)⟩,λi j=>aF j (dO _)⟩
 .simp at d;subst d;have r:fits 34 x.1->l<=8796093021952:=λhw=>by
   rw[u]at hw;have:=hw _ (lV underlying34 _ _);rw[PN,List.length_map,List.length_range]at this;unfold reachBytes at this;omega
  rw[vK]at A;have g:∀i,i<l->∃s:aN,W.cell? (p.add i)=some (aW s)/\(fits 34 x.1->s.size<=140737488351232):=λi j=>by
   obtain⟨C,G,H⟩:=A i J5;obtain⟨s,e,F,w⟩:=DataW.trod_string underlying9 H;obtain⟨_,_,J⟩:=World.cells?_some G;refine⟨s,?_,λhw=>?_⟩
   case refine_2=>
    have B:D i=.lit (.string s.data.toList):=by have:=congrArg Prod.fst F;simpa using this
    have t:D i∈(List.range l).map D:=gQ.2 ⟨i,gY.2 j,rfl⟩;rw[u]at hw;have I:=hw s.data.toList.length (lW underlying34 t _ (by rw[B];simp[DataW.weights]));have L:s.data.toList.length=s.size:=uZ;unfold reachBytes at I;omega
   have:=J 0 U0;rw[e]at this;simpa[Go.Deep.add_add]using this
  refine⟨some p,l,c,λi=>strOf (W.cell? (p.add i)),rfl,λhw=>⟨r hw,λi j=>?_⟩,λi j=>?_⟩
  .obtain⟨s,k,K⟩:=g i j;show(strOf (W.cell? (p.add i))).size<=_;rw[k];exact K hw
  .obtain⟨b,y,z⟩:=p;have q:z=none:=by
    obtain⟨s,k,_⟩:=g 0 Q0;simpa[Addr.add]using World.cell?_spot (v:=aW s) k
   subst q;obtain⟨s,k,_⟩:=g i j;rw[iX]at k;refine⟨b,y,rfl,World.block_lt_of_cell? W _ k,?_⟩;show W.cell? _=some (aW (strOf (W.cell? ((⟨b,y,none⟩:Addr).add i))));rw[iX,k];rfl
theorem FQ(h:DataW.trod o prog W base f held E 49 [v]=some x):
 ∃a n c Z T,v=.slice a n c/\(fits 49 x.1->n<=5864062014634)/\Cc W a n Z T/\(∀i,i<n->mG (Z i))/\∀i,i<n->(T i).size<=9223372036854775807:=by
 obtain⟨g,_⟩|⟨p,l,c,m,n,D,Pl,g,_,S,U,ZW,G,L⟩:=open_slice underlying49 h
 .simp at g;subst g;exact⟨none,0,0,λ_=>0,λ_=>ByteArray.empty,rfl,λ_=>bU _,λi e=>aF e (dO _),λi e=>aF e (dO _),λi e=>aF e (dO _)⟩
 .simp at g;subst g;have t:fits 49 x.1->l<=5864062014634:=λhw=>by
   rw[G]at hw;have:=hw _ (lV underlying49 _ _);rw[IY,List.length_map,List.length_range]at this;unfold reachBytes at this;omega
  rw[zY]at L;have d:∀i,i<l->∃(z:Int)(s:aN),W.cell? ((p.add (i*2)).add 0)=some (ah z)/\W.cell? ((p.add (i*2)).add 1)=some (aW s)/\(Lit.int .i64 z).wf=true/\s.size<=maxLen:=λi e=>by
   obtain⟨C,j,k⟩:=L i J5;obtain⟨xs,M,Q,R,u,F,K⟩:=DataW.trod_struct underlying188 k;rw[zY]at u
   match C,u with
   |[c0,c1],_=>
   match xs,F with
   |[x0,x1],_=>
   have A:DataW.trod o prog W base f held M 3 (([c0,c1].drop 0).take (prog.cellsOf 3))=some x0:=K 0 _ rfl;have B:DataW.trod o prog W base f held M 9 (([c0,c1].drop 1).take (prog.cellsOf 9))=some x1:=K 1 _ rfl;rw[FM]at A;rw[vK]at B;simp only[List.drop,List.take]at A B;obtain⟨z,H,_,P⟩:=DataW.trod_int underlying3 A;obtain⟨s,I,_,O⟩:=DataW.trod_string underlying9 B;simp only[List.cons.injEq,and_true]at H I;subst H I;obtain⟨_,_,J⟩:=World.cells?_some j;exact⟨z,s,J 0 U0,J 1 U0,P,O⟩
  refine⟨some p,l,c,λi=>XM (W.cell? ((p.add (i*2)).add 0)),λi=>strOf (W.cell? ((p.add (i*2)).add 1)),rfl,t,λi e=>?_,λi e=>?_,λi e=>?_⟩
  .obtain⟨b,r,w⟩:=p;have q:w=none:=by
    obtain⟨z,s,N,_⟩:=d 0 Q0;simpa[Addr.add]using World.cell?_spot (v:=ah z) N
   subst q;obtain⟨z,s,j,k,_⟩:=d i e;rw[iX,iX,oI]at j;rw[iX,iX]at k;refine⟨b,r,rfl,World.block_lt_of_cell? W _ j,?_,?_⟩
   .show W.cell? _=some (ah (XM (W.cell? (((⟨b,r,none⟩:Addr).add (i*2)).add 0))));rw[iX,iX,oI,j];rfl
   .show W.cell? _=some (aW (strOf (W.cell? (((⟨b,r,none⟩:Addr).add (i*2)).add 1))));rw[iX,iX,k];rfl
  .obtain⟨z,s,j,k,y,_⟩:=d i e;show mG (XM (W.cell? ((p.add (i*2)).add 0)));rw[j];exact Ct y
  .obtain⟨z,s,j,k,_,y⟩:=d i e;unfold maxLen at y;show(strOf (W.cell? ((p.add (i*2)).add 1))).size<=_;rw[k];exact y
theorem I8(h:DataW.trod o prog W base f held E 30 [v]=some x):
 ∃a n c Z T,v=.slice a n c/\(fits 30 x.1->n<=4398046510976/\∀i,i<n->(Z i).size<=140737488351232/\(T i).size<=140737488351232)/\cO W a n Z T:=by
 obtain⟨d,_⟩|⟨p,l,c,m,n,D,Pl,d,_,hl,hm,ZW,A,O⟩:=open_slice underlying30 h
 .simp at d;subst d;exact⟨none,0,0,λ_=>ByteArray.empty,λ_=>ByteArray.empty,rfl,λ_=>⟨bU _,λi g=>aF g (dO _)⟩,λi g=>aF g (dO _)⟩
 .simp at d;subst d;have w:fits 30 x.1->l<=4398046510976:=λhw=>by
   rw[A]at hw;have:=hw _ (lV underlying30 _ _);rw[Nb,List.length_map,List.length_range]at this;unfold reachBytes at this;omega
  rw[xG]at O;have e:∀i,i<l->∃(z s:aN),W.cell? ((p.add (i*2)).add 0)=some (aW z)/\W.cell? ((p.add (i*2)).add 1)=some (aW s)/\(fits 30 x.1->z.size<=140737488351232/\s.size<=140737488351232):=λi g=>by
   obtain⟨C,q,u⟩:=O i J5;obtain⟨xs,P,e1,Q,y,H,N⟩:=DataW.trod_struct underlying38 u;rw[xG]at y
   match C,y with
   |[c0,c1],_=>
   match xs,H with
   |[x0,x1],_=>
   have F:DataW.trod o prog W base f held P 9 (([c0,c1].drop 0).take (prog.cellsOf 9))=some x0:=N 0 _ rfl;have G:DataW.trod o prog W base f held P 9 (([c0,c1].drop 1).take (prog.cellsOf 9))=some x1:=N 1 _ rfl;rw[vK]at F G;simp only[List.drop,List.take]at F G;obtain⟨z,I,R,wz⟩:=DataW.trod_string underlying9 F;obtain⟨s,J,S,ws⟩:=DataW.trod_string underlying9 G;simp only[List.cons.injEq,and_true]at I J;subst I J;obtain⟨_,_,M⟩:=World.cells?_some q;refine⟨z,s,M 0 U0,M 1 U0,λhw=>?_⟩;have K:D i=.agg [.lit (.string z.data.toList),.lit (.string s.data.toList)]:=by have L:=congrArg Prod.fst Q;rw[R,S]at L;simpa using L
   have k:D i∈(List.range l).map D:=gQ.2 ⟨i,gY.2 g,rfl⟩;rw[A]at hw;have U:=hw z.data.toList.length (lW underlying30 k _ (by rw[K];exact iF underlying38 (j:=0) rfl rfl _ (by simp[DataW.weights])));have V:=hw s.data.toList.length (lW underlying30 k _ (by rw[K];exact iF underlying38 (j:=1) rfl rfl _ (by simp[DataW.weights])));have h5:z.data.toList.length=z.size:=uZ;have h6:s.data.toList.length=s.size:=uZ;unfold reachBytes at U V;omega
  refine⟨some p,l,c,λi=>strOf (W.cell? ((p.add (i*2)).add 0)),λi=>strOf (W.cell? ((p.add (i*2)).add 1)),rfl,λhw=>⟨w hw,λi g=>?_⟩,λi g=>?_⟩
  .obtain⟨z,s,q,u,Y⟩:=e i g;show(strOf (W.cell? ((p.add (i*2)).add 0))).size<=_/\(strOf (W.cell? ((p.add (i*2)).add 1))).size<=_;rw[q,u];exact Y hw
  .obtain⟨b,t,B⟩:=p;have r:B=none:=by
    obtain⟨z,s,X,_⟩:=e 0 Q0;simpa[Addr.add]using World.cell?_spot (v:=aW z) X
   subst r;obtain⟨z,s,q,u,_⟩:=e i g;rw[iX,iX,oI]at q;rw[iX,iX]at u;refine⟨b,t,rfl,World.block_lt_of_cell? W _ q,?_,?_⟩
   .show W.cell? _=some (aW (strOf (W.cell? (((⟨b,t,none⟩:Addr).add (i*2)).add 0))));rw[iX,iX,oI,q];rfl
   .show W.cell? _=some (aW (strOf (W.cell? (((⟨b,t,none⟩:Addr).add (i*2)).add 1))));rw[iX,iX,u];rfl
theorem Aa(h:DataW.trod o prog W base f held E 51 C=some x):
 ∃(k t q y z:Int)(n s:aN)(O M N:aA),C=[ah k,ah t,ah q,ah y,ah z,aW n,aW s,O,M,N]/\mG k/\mG t/\mG q/\mG y/\mG z/\(fits 51 x.1->n.size<=140737488351232/\s.size<=140737488351232)/\∃m R P Q,DataW.trod o prog W base f held m 34 [O]=some R/\DataW.trod o prog W base f held m 49 [M]=some P/\DataW.trod o prog W base f held m 30 [N]=some Q/\(fits 51 x.1->fits 34 R.1/\fits 49 P.1/\fits 30 Q.1):=by
 obtain⟨xs,m,rfl,rfl,L,B,a⟩:=DataW.trod_struct underlying51 h;rw[vJ]at L
 match C,L with
 |[c0,c1,c2,c3,c4,c5,c6,c7,c8,c9],_=>
 match xs,B with
 |[x0,x1,x2,x3,x4,x5,x6,x7,x8,x9],_=>
 have d:DataW.trod o prog W base f held m 3 (([c0,c1,c2,c3,c4,c5,c6,c7,c8,c9].drop 0).take (prog.cellsOf 3))=some x0:=a 0 _ rfl;have g:DataW.trod o prog W base f held m 3 (([c0,c1,c2,c3,c4,c5,c6,c7,c8,c9].drop 1).take (prog.cellsOf 3))=some x1:=a 1 _ rfl;have i:DataW.trod o prog W base f held m 3 (([c0,c1,c2,c3,c4,c5,c6,c7,c8,c9].drop 2).take (prog.cellsOf 3))=some x2:=a 2 _ rfl;have l:DataW.trod o prog W base f held m 3 (([c0,c1,c2,c3,c4,c5,c6,c7,c8,c9].drop 3).take (prog.cellsOf 3))=some x3:=a 3 _ rfl;have p:DataW.trod o prog W base f held m 3 (([c0,c1,c2,c3,c4,c5,c6,c7,c8,c9].drop 4).take (prog.cellsOf 3))=some x4:=a 4 _ rfl;have r:DataW.trod o prog W base f held m 9 (([c0,c1,c2,c3,c4,c5,c6,c7,c8,c9].drop 5).take (prog.cellsOf 9))=some x5:=a 5 _ rfl;have u:DataW.trod o prog W base f held m 9 (([c0,c1,c2,c3,c4,c5,c6,c7,c8,c9].drop 6).take (prog.cellsOf 9))=some x6:=a 6 _ rfl;have v:DataW.trod o prog W base f held m 34 (([c0,c1,c2,c3,c4,c5,c6,c7,c8,c9].drop 7).take (prog.cellsOf 34))=some x7:=a 7 _ rfl;have w:DataW.trod o prog W base f held m 49 (([c0,c1,c2,c3,c4,c5,c6,c7,c8,c9].drop 8).take (prog.cellsOf 49))=some x8:=a 8 _ rfl;have A:DataW.trod o prog W base f held m 30 (([c0,c1,c2,c3,c4,c5,c6,c7,c8,c9].drop 9).take (prog.cellsOf 30))=some x9:=a 9 _ rfl;rw[FM]at d g i l p;rw[vK]at r u;rw[IW]at v;rw[FP]at w;rw[IX]at A;simp only[List.drop,List.take]at d g i l p r u v w A;obtain⟨k,D,_,U⟩:=DataW.trod_int underlying3 d;obtain⟨t,F,_,V⟩:=DataW.trod_int underlying3 g;obtain⟨q,G,_,w2⟩:=DataW.trod_int underlying3 i;obtain⟨y,H,_,w3⟩:=DataW.trod_int underlying3 l;obtain⟨z,I,_,X⟩:=DataW.trod_int underlying3 p;obtain⟨n,J,e,w5⟩:=DataW.trod_string underlying9 r;obtain⟨s,K,c,w6⟩:=DataW.trod_string underlying9 u;simp only[List.cons.injEq,and_true]at D F G H I J K;subst D F G H I J K;have Y:n.data.toList.length=n.size:=uZ;have Z:s.data.toList.length=s.size:=uZ;refine⟨k,t,q,y,z,n,s,c7,c8,c9,rfl,Ct U,Ct V,Ct w2,Ct w3,Ct X,λhw=>?_,m,x7,x8,x9,v,w,A,λhw=>⟨λk b=>hw k (iF underlying51 (j:=7) rfl rfl k b),λk b=>hw k (iF underlying51 (j:=8) rfl rfl k b),λk b=>hw k (iF underlying51 (j:=9) rfl rfl k b)⟩⟩;have S:=hw n.data.toList.length (iF underlying51 (j:=5) rfl rfl _ (by rw[e];simp[DataW.weights]));have T:=hw s.data.toList.length (iF underlying51 (j:=6) rfl rfl _ (by rw[c];simp[DataW.weights]));unfold reachBytes at S T;omega
def Ul(w:au)(a:Option Addr)(i:Nat):Prop:=∃b off k at_ x y z n s al nl cl ab nb cb af nf cf T Z D FN FD,a=some ⟨b,off,none⟩/\b<w.heap.size/\opAt w b off i k at_ x y z n s (.slice al nl cl) (.slice ab nb cb) (.slice af nf cf)/\(mG k/\mG at_/\mG x/\mG y/\mG z)/\(n.size<=140737488351232/\s.size<=140737488351232)/\(nl<=8796093021952/\(∀i,i<nl->(T i).size<=140737488351232)/\EX w al nl T)/\(nb<=5864062014634/\Cc w ab nb Z D/\(∀i,i<nb->mG (Z i))/\∀i,i<nb->(D i).size<=9223372036854775807)/\(nf<=4398046510976/\(∀i,i<nf->(FN i).size<=140737488351232/\(FD i).size<=140737488351232)/\cO w af nf FN FD)
theorem DU{len J:Nat}(h:DataW.trod o prog W base f held E 22 [.slice a len J]=some x)(e:fits 22 x.1):
 len<=977343669106/\∀i,i<len->Ul W a i:=by
 obtain⟨g,_⟩|⟨p,l,c,m,n,D,Pl,g,_,hl,hm,ZW,N,hx⟩:=open_slice underlying22 h
 .simp at g;obtain⟨_,rfl,_⟩:=g;exact⟨bU _,λi M=>aF M (dO _)⟩
 .simp at g;obtain⟨rfl,rfl,rfl⟩:=g;rw[N]at e;replace e:fits 22 (DataW.slice ((List.range len).map D) ((List.range (m-len)).map λj=>D (len+j))):=e;have F:len<=977343669106:=by
   have:=e _ (lV underlying22 _ _);rw[Uk,List.length_map,List.length_range]at this;unfold reachBytes at this;omega
  refine⟨F,λi M=>?_⟩;obtain⟨C,Y,h2⟩:=hx i J5;obtain⟨k,w,q,y,z,nn,s,vl,vb,vf,rfl,w0,w1,w2,w3,w4,H,m',yl,yb,yf,g1,g2,g3,t⟩:=Aa h2;have G:D i∈(List.range len).map D:=gQ.2 ⟨i,gY.2 M,rfl⟩;have hD:fits 51 (D i):=λk hk=>e k (lW underlying22 G k hk);obtain⟨X,fb,V⟩:=t hD;obtain⟨Q,nl,U,T,rfl,k1,k2⟩:=IZ g1;obtain⟨O,nb,S,Z,B,rfl,k4,k5,k6,k7⟩:=FQ g2;obtain⟨P,nf,cf,FN,FD,rfl,k8,k9⟩:=I8 g3;rw[vJ]at Y;obtain⟨_,_,hc⟩:=World.cells?_some Y;obtain⟨b,r,I⟩:=p;have u:I=none:=by obtain⟨cs0,A,K⟩:=hx 0 J5;obtain⟨k0,_,_,_,_,_,_,_,_,_,rfl,_⟩:=Aa K;rw[vJ]at A;obtain⟨_,_,L⟩:=World.cells?_some A;have c0:=L 0 U0;simpa[Addr.add]using World.cell?_spot (v:=ah k0) c0
  subst u;have hp:∀j,((⟨b,r,none⟩:Addr).add (i*10)).add j=⟨b,r+i*10+j,none⟩:=λj=>by rw[Go.Deep.add_add];unfold Addr.add;split<;>simp_all<;>omega
  have d:∀j,j<10->W.cell? ⟨b,r+i*10+j,none⟩=[ah k,ah w,ah q,ah y,ah z,aW nn,aW s,.slice Q nl U,.slice O nb S,.slice P nf cf][j]? :=λj hj=>by rw[<-hp];exact hc j hj
  have R:=d 0 U0;exact⟨b,r,k,w,q,y,z,nn,s,Q,nl,U,O,nb,S,P,nf,cf,T,Z,B,FN,FD,rfl,World.block_lt_of_cell? W _ R,⟨R,d 1 U0,d 2 U0,d 3 U0,d 4 U0,d 5 U0,d 6 U0,d 7 U0,d 8 U0,d 9 U0⟩,⟨w0,w1,w2,w3,w4⟩,H hD,⟨(k1 X).1,(k1 X).2,k2⟩,⟨k4 fb,k5,k6,k7⟩,⟨(k8 V).1,(k8 V).2,k9⟩⟩
