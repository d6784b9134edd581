import Derived.Test.YtmhafipgbfaapaaGreatDoorAbb0
import Derived.Test.YtmhafipgbfaapaaGreatDoorAbb1
import Derived.Conc.Events
import Derived.DeepKeys3
import Derived.MapKept
import Derived.Conc.ClockLaws
import Derived.Conc.AtomicLaws2
import Derived.Conc.MarkLaws
import Derived.Laws.AppendOwn
import Derived.AtR
import Derived.RangeFuncRecord
import Derived.Test.YtmhafipgbfaapaaGreatDoorPck03
set_option maxRecDepth 100000
set_option maxHeartbeats 8000000
set_option linter.unusedVariables false
set_option linter.unusedSimpArgs false
set_option linter.unusedSectionVars false
namespace Go.Proofs.YtmhafipgbfaapaaGreatDoor.Ren
section
open Go Go.Conc Go.ConcN Go.Conc.Lib Go.ConcR.Gen Go.ConcN.Gen
open Go.ConcR (KK WgAt wgBlock stA smA rd wr mk Payload DC0)
variable [Payload] [Zb]
section
variable {P : Program} {ty : bf} {Post : aA -> au -> Prop} {M : Md} {O : aD} {g : dN} {w u : au}
theorem GE.Gz(r:g.status=.running)(h:∀u,dU ty M O w u->(stepG P true g u).goes (λc b s=>∃a,jW O a u b/\(∀e∈s,EvM M a e)/\GE P ty Post M a c b)):GE P ty Post M O g w:=by
 refine .mk (.idle r λu j=>?_);have:=h u j;cases d:stepG P true g u with
 |go c b s=>rw[d]at this;obtain⟨a,i,f,k⟩:=this;exact⟨c,b,s,a,rfl,i,f,k⟩
 |_=>rw[d]at this;exact this.elim
theorem yU(w:au)(o:Obj)(i:Nat)(h:i<w.heap.size):(w.alloc o).heap[i]? =w.heap[i]? :=by show(w.heap.push o)[i]? =_;rw[Array.getElem?_push_lt h,iU h]
theorem qp(c:∀b,O b->b<u.heap.size)(o:Obj):jW O (λb=>O b\/b=u.heap.size) u (u.alloc o):=by
 refine⟨λb h=>.inl h,λb h=>h.imp id λe=>Q0,λb h=>?_,X0,λb a _=>?_,rfl,rfl,rfl⟩
 .have e:(u.alloc o).heap.size=u.heap.size+1:=by simp
  rw[e];obtain h|h:=h
  .have:=c b h;omega
  .omega
 .exact yU u o b a
theorem Qy(d:∀b,O b->b<u.heap.size){a:Addr}(c:O a.block)(v:aA):jW O O u (u.setCell a v):=by have s:=aside_setCell u a v;exact⟨λb h=>h,λb h=>.inl h,λb h=>by rw[s.size];exact d b h,by rw[s.size];exact aS _,λb _ n=>s.block b λe=>n (e▸c),s.tape,s.os,s.output⟩
variable {F : Ph} {C : au -> Prop}
theorem Il.new(h:Il F O C)(n:Nat)(v:aA):Il F (λb=>O b\/b=n) (λw=>C w/\w.cell? (aB n 0)=some v):=λw u r x=>⟨h w u ⟨r.size,λb a=>r.keep b (a.imp .inl id),r.os⟩ x.1,(cell_of_block (r.keep n (.inl (.inr rfl))) 0).trans x.2⟩
theorem Kn.new(h:Kn ty F O C u)(d:Il F O C)(s:∀b,b=Zb.z\/F.Sh b->b<u.heap.size)(v:aA)(t:bf):Kn ty F (λb=>O b\/b=u.heap.size) (λw=>C w/\w.cell? (aB u.heap.size 0)=some v) (u.alloc (.cells #[v] t)):=by
 have l:∀b,O b\/b=Zb.z\/F.Sh b->b<u.heap.size:=λb a=>a.elim (h.bd b) (s b);refine⟨⟨d _ _ ⟨X0,λb a=>yU u _ b (l b a),.refl _⟩ h.fx,?_⟩,?_,λb a=>?_⟩
 .have:=heap_alloc_new u (.cells #[v] t);rw[show(u.alloc (.cells #[v] t)).cell? (aB u.heap.size 0)=((u.alloc (.cells #[v] t)).heap[u.heap.size]?).bind (λo=>match o with|.cells c _ _=>c[0]? |_=>none)from ?_]
  .rw[this];rfl
  .unfold World.cell?;rw[this];rfl
 .obtain⟨st,sm,hw⟩:=h.live;exact⟨st,sm,hw.of_block (yU u _ _ (bJ.1 hw).1)⟩
 .have e:(u.alloc (.cells #[v] t)).heap.size=u.heap.size+1:=by simp
  rw[e];obtain a|a:=a
  .have:=h.bd b a;omega
  .omega
theorem Kn.Yh(h:Kn ty F O C u):F.Wg<u.heap.size:=by obtain⟨st,sm,hw⟩:=h.live;exact(bJ.1 hw).1
end
variable [Payload] [Zb]
section
variable {P : Program} {ty : bf} {Post : aA -> au -> Prop}
theorem qH.wide{Sh O d:aD}(h:∀b,O b->d b){e:Event}(c:qH Sh O e):qH Sh d e:=by
 unfold qH at c ⊢;cases l:e.loc with
 |cell a=>rw[l]at c;exact⟨c.1,c.2.imp (h _) id⟩
 |obj r=>rw[l]at c;exact⟨c.1,h _ c.2⟩
 |output=>trivial
 |goroutines=>rw[l]at c;exact c
 |mark m=>rw[l]at c;cases m<;>exact c
theorem EvM.wide{M:Md}{O a:aD}(h:∀b,O b->a b){e:Event}(c:EvM M O e):EvM M a e:=c.imp (qH.wide h) id
theorem dU.less{M:Md}{O a:aD}(h:∀b,O b->a b){w u:au}(r:dU ty M a w u):dU ty M O w u:=⟨⟨r.o.size,λb c=>r.o.keep b (c.imp (h b) id),r.o.os⟩,r.live⟩
theorem Joined.less{F:Ph}{O a:aD}(h:∀b,O b->a b){G Z:aD}{v:Nat->aA}{s:Nat->aD}{u:au}(j:Joined F a G Z v s u):Joined F O G Z v s u:=⟨j.has,j.res,j.pay,λi A b c=>let⟨x,y,z⟩:=j.own i A b c;⟨x,λo=>y (h b o),z⟩,j.apart,λb c=>j.mine b (h b c),j.sh,λK w=>let⟨l,m,n,p,q,r,d,t⟩:=j.lk K w;⟨l,λo=>m (h _ o),n,p,q,r,⟨d.j,λb c=>let⟨e,f,k⟩:=d.g b c;⟨e,λo=>f (h _ o),k⟩,λb c=>let⟨e,f,k⟩:=d.z b c;⟨e,λo=>f (h _ o),k⟩⟩,t⟩⟩
theorem GS.wide:∀(S:Rs){M:Md}{O i:aD}{g:dN}{w:au},(∀b,O b->i b)->(∀b,i b->b<w.heap.size)->GS P ty Post S M O g w->GE P ty Post M i g w:=by
 intro S
 induction S with
 |zero=>intro M O i g w _ _ h;exact h.elim
 |node f q=>
  intro M O i g w s hb h;have bd:∀{u:au},w.heap.size<=u.heap.size->∀b,i b->b<u.heap.size:=λh b p=>bG (hb b p) h;have t:∀{u:au}(a:Addr)(v:aA),w.heap.size<=u.heap.size->∀b,i b->b<(u.setCell a v).heap.size:=λ{u} a v h b p=>by rw[(aside_setCell u a v).size];exact bd h b p
  change Mv P ty Post _ M O g w at h;cases h with
  |idle n h=>refine .mk (.idle n λu d=>?_);obtain⟨m,I,C,A,l,r,Q,k⟩:=h u (d.less s);have D:∀b,A b\/i b->b<I.heap.size:=λb p=>p.elim (r.bound b) λh=>bG (bd d.o.size b h) r.size;exact⟨m,I,C,λb=>A b\/i b,l,⟨λb h=>.inr h,λb h=>h.elim (λh=>(r.fresh b h).imp (s b) id) .inl,D,r.size,λb p hn=>r.frame b p λh=>hn (s b h),r.tape,r.os,r.output⟩,λe R=>(Q e R).wide λb h=>.inl h,q _ _ _ _ (λb h=>.inl h) D k⟩
  |CK n h=>refine .mk (.CK n λu d=>?_);obtain⟨m,l,k⟩:=h u (d.less s);exact⟨m,l,q _ _ _ _ s (bd d.o.size) k⟩
  |en n h=>refine .mk (.en n λu d=>?_);obtain⟨m,l,k⟩:=h u (d.less s);exact⟨m,l,q _ _ _ _ s (bd d.o.size) k⟩
  |Uz n h=>refine .mk (.Uz n λu d=>?_);obtain⟨m,l,k⟩:=h u (d.less s);exact⟨m,l,q _ _ _ _ s (bd d.o.size) k⟩
  |begin n h=>refine .mk (.begin n λu d=>?_);obtain⟨m,I,C,F,A,l,Q,B,N,e5,e6,e7,e8,e9,ea,V,ec,k⟩:=h u (d.less s);exact⟨m,I,C,F,A,l,λe h=>(Q e h).wide s,B,N,e5,e6,e7,s _ e8,e9,λb h=>(ea b h).imp id λx=>⟨s _ x.1,x.2⟩,λb h=>⟨s _ (V b h).1,(V b h).2⟩,λK hK=>let⟨X,Y,a3,a4,a5,a6,J,Z,a7,T,U⟩:=ec K hK;⟨X,s _ Y,a3,a4,a5,a6,J,Z,a7,λb h=>⟨s _ (T b h).1,(T b h).2⟩,λb h=>⟨s _ (U b h).1,(U b h).2⟩⟩,⟨_,k⟩⟩
  |add n hj h=>refine .mk (.add n hj λu d v a b=>?_);obtain⟨m,l,k⟩:=h u (d.less s) v a b;exact⟨m,l,q _ _ _ _ s (t _ _ d.o.size) k⟩
  |spawn n h=>refine .mk (.spawn n λu d=>?_);obtain⟨m,y,H,A,l,L,B,N,k⟩:=h u (d.less s);exact⟨m,y,H,A,l,λb h=>s _ (L b h),λb h=>⟨s _ (B b h).1,(B b h).2⟩,N,⟨_,k⟩⟩
  |load n h=>refine .mk (.load n λu d v a b c=>?_);obtain⟨m,l,E,G⟩:=h u (d.less s) v a b c;exact⟨m,l,λz=>q _ _ _ _ s (bd d.o.size) (E z),λz=>q _ _ _ _ s (bd d.o.size) (G z)⟩
  |cas n h=>refine .mk (.cas n λu d v a b c=>?_);obtain⟨E,G⟩:=h u (d.less s) v a b c;exact⟨λz=>let⟨m,l,k⟩:=E z;⟨m,l,q _ _ _ _ s (t _ _ d.o.size) k⟩,λz=>let⟨m,l,k⟩:=G z;⟨m,l,q _ _ _ _ s (bd d.o.size) k⟩⟩
  |sem n h2 h=>refine .mk (.sem n h2 λu d=>?_);obtain⟨E,G⟩:=h u (d.less s);exact⟨E,λz=>let⟨m,l,k⟩:=G z;⟨m,l,q _ _ _ _ s (t _ _ d.o.size) k⟩⟩
  |Xd n h=>refine .mk (.Xd n λu d a=>?_);obtain⟨m,l,k⟩:=h u (d.less s) a;exact⟨m,l,q _ _ _ _ s (bd d.o.size) k⟩
  |acq n h=>refine .mk (.acq n λu d=>?_);obtain⟨m,l,k⟩:=h u (d.less s);exact⟨m,l,λJ Z vs W j=>q _ _ _ _ (λb h=>h.imp (s b) id) (wL j) (k J Z vs W (j.less s))⟩
  |done n h=>refine .mk (.done n λu d=>?_);obtain⟨v,C,l,L,B⟩:=h u (d.less s);exact⟨v,C,l,λe h=>(L e h).wide s,B⟩
theorem GE.wide{M:Md}{O a:aD}{g:dN}{w:au}(s:∀b,O b->a b)(c:∀b,a b->b<w.heap.size)(h:GE P ty Post M O g w):GE P ty Post M a g w:=let⟨d,k⟩:=h;GS.wide d s c k
end
section
variable {S : aD} {π : Map} {w D : au}
theorem bI.adopt(h:bI S π w D){g:Nat}{o:Obj}(q:D.heap[g]? =some o)(u:ko S π o o)(l:¬π.img g)(s:¬π.sh g):bI S (π.grow w.heap.size g) {w with heap:=w.heap.push o} D:=by
 have le:=π.vO w.heap.size g;refine⟨λc v a=>?_,λc a=>?_,λb c d a f=>?_,λb c d a f=>?_,λb c a=>?_,by have:=h.high;simp[Map.grow];omega,h.os⟩
 .obtain a|⟨rfl,rfl⟩:=a
  .have:=h.lt a;obtain⟨x,j,e,i,r⟩:=h.own _ _ a;refine⟨x,j,?_,i,r.mono le⟩;rw[oL,av Q0];exact e
  .exact⟨o,o,X0,q,u.mono le⟩
 .obtain⟨x,j,t,z,n,e,i,r,m⟩:=h.sh _ a;have k:=(bJ.1 e).1;refine⟨x,j,t,z,n,?_,i,r.mono le,m⟩;rw[oL,av Q0];exact e
 .obtain a|⟨rfl,rfl⟩:=a<;>obtain f|⟨k,rfl⟩:=f
  .exact h.fn _ _ _ a f
  .have:=h.lt a;omega
  .have:=h.lt f;omega
  .rfl
 .obtain a|⟨rfl,rfl⟩:=a<;>obtain f|⟨rfl,k⟩:=f
  .exact h.inj _ _ _ a f
  .exact aF ⟨_,k▸a⟩ l
  .exact aF ⟨_,f⟩ l
  .rfl
 .obtain a|⟨rfl,rfl⟩:=a
  .exact h.apart _ _ a
  .refine⟨λp=>?_,s⟩;obtain⟨x,j,t,z,n,e,i,r,m⟩:=h.sh _ p;have:=(bJ.1 e).1;omega
theorem Js{c:Array aA}(e:bf)(z:Nat×Nat)(h:∀x∈c,Flat x):ko S π (.cells c e z) (.cells c e z):=
 .cells e z (bq.jc rfl λi v d b a=>by rw[b]at a;cases a;exact Flat.rel (h v (qW b)))
def Lst(u:au)(Os:aD)(v:aA):Prop:=(∃l c,v=.slice none l c)\/∃g l c cur e z,v=aU g l c/\u.heap[g]? =some (.cells cur e z)/\(∀x∈cur,Flat x)/\Os g
def Eql(n₀:Nat)(w u:au)(x v:aA):Prop:=(∃l c,v=.slice none l c/\x=.slice none l c)\/∃g g₂ l c,v=aU g l c/\x=aU g₂ l c/\n₀<=g₂/\g₂<w.heap.size/\w.heap[g₂]? =u.heap[g]?
structure Tkn(S:aD)(π:Map)(w u:au)(vs:Nat->aA)(Os:Nat->aD)(i:Nat)(nQ:Map)(w₂:au)(ls:Nat->aA):Prop where
 rel:bI S nQ w₂ u
 le:π.le nQ
 img:∀b,nQ.img b->π.img b\/∃j,j<i/\Os j b
 size:w.heap.size<=w₂.heap.size
 keep:∀b,b<w.heap.size->w₂.heap[b]? =w.heap[b]?
 os:w₂.os=w.os
 val:∀j,j<i->aL S nQ (ls j) (vs j)/\Eql w.heap.size w₂ u (ls j) (vs j)
theorem bI.Yi{u:au}(h:bI S π w u){n:Nat}{vs:Nat->aA}{Os:Nat->aD}(O:∀i,i<n->Lst u (Os i) (vs i))(q:∀i,i<n->∀b,Os i b->¬π.img b/\¬π.sh b)
 (r:∀i j,i<n->j<n->i≠j->∀b,Os i b->¬Os j b):∀i,i<=n->∃f d s,Tkn S π w u vs Os i f d s:=by
 intro i
 induction i with
 |zero=>exactλ_=>⟨π,w,λ_=>.nilFunc,h,.refl π,λb k=>.inl k,aS _,λ_ _=>rfl,rfl,λj p=>aF p (dO j)⟩
 |succ i P=>
  intro T;obtain⟨f,d,s,t⟩:=P Q0;obtain⟨l,c,v⟩|⟨g,l,c,cur,e,z,v,D,x,o⟩:=O i Q0
  .refine⟨f,d,λj=>if j=i then .slice none l c else s j,t.rel,t.le,λb k=>(t.img b k).imp id λ⟨j,p,k⟩=>⟨j,Q0,k⟩,t.size,t.keep,t.os,λj p=>?_⟩;by_cases m:j=i
   .subst m;simp only[if_true,v];exact⟨Flat.rel (.dQ l c),.inl ⟨l,c,rfl,rfl⟩⟩
   .simp only[av m];exact t.val j Q0
  .have B:¬f.img g:=λA=>by
    obtain J|⟨j,p,k⟩:=t.img g A
    .exact(q i Q0 g o).1 J
    .exact r i j Q0 Q0 Q0 g o k
   have C:¬f.sh g:=λA=>(q i Q0 g o).2 ((t.le.sh g).2 A);have y:=t.rel.adopt D (Js e z x) B C;have lg:=f.vO d.heap.size g;have N:(d.heap.push (Obj.cells cur e z)).size=d.heap.size+1:=Array.size_push _;refine⟨f.grow d.heap.size g,{d with heap:=d.heap.push (.cells cur e z)},λj=>if j=i then aU d.heap.size l c else s j,y,t.le.trans lg,?_,?_,?_,t.os,λj p=>?_⟩
   .rintro b ⟨a,M|⟨rfl,rfl⟩⟩
    .exact(t.img b ⟨a,M⟩).imp id λ⟨j,p,k⟩=>⟨j,Q0,k⟩
    .exact .inr ⟨i,Q0,o⟩
   .show w.heap.size<=(d.heap.push _).size;have:=t.size;omega
   .intro b k;show(d.heap.push _)[b]? =_;rw[oL,av (by have:=t.size;omega)];exact t.keep b k
   .by_cases m:j=i
    .subst m;simp only[if_true,v];refine⟨.slice l c ⟨⟨.inl (.inr ⟨rfl,rfl⟩),?_⟩,rfl,rfl⟩,.inr ⟨g,d.heap.size,l,c,rfl,rfl,t.size,?_,?_⟩⟩
     .exact .inl t.rel.high
     .show _<(d.heap.push _).size;omega
     .show(d.heap.push _)[d.heap.size]? =_;rw[Array.getElem?_push_size,D]
    .simp only[av m];obtain⟨K,L⟩:=t.val j Q0;refine⟨K.mono lg,L.imp id λ⟨a,b,Q,E,F,G,H,R,I⟩=>⟨a,b,Q,E,F,G,H,?_,?_⟩⟩
     .show b<(d.heap.push _).size;omega
     .show(d.heap.push _)[b]? =_;rw[oL,av Q0];exact I
end
section
variable [Payload] {S : aD} {π : Map} {w D u : au}
theorem bI.stays(h:bI S π w D)(r:bB π.sh π.img D u):bI S π w u:=by
 refine⟨λb d a=>?_,λb a=>?_,h.fn,h.inj,h.apart,h.high,h.os.trans r.os⟩
 .obtain⟨o,l,e,g,m⟩:=h.own b d a;exact⟨o,l,e,(r.keep d (.inl ⟨b,a⟩)).trans g,m⟩
 .obtain⟨c,f,e,z,n,i,j,k⟩:=h.sh b a;exact⟨c,f,e,z,n,i,(r.keep b (.inr a)).trans j,k⟩
theorem Lh(a:Array Obj)(i:Nat)(o:Obj)(b:i<a.size)(c:Nat):(a.setIfInBounds i o)[c]? =if c=i then some o else a[c]? :=by
 rw[Array.getElem?_setIfInBounds];by_cases h:i=c
 .subst h;rw[aI rfl,aI rfl,aI b]
 .rw[av h,av (Ne.symm h)]
structure Jnd(S:aD)(π:Map)(w u:au)(Cl n:Nat)(vs:Nat->aA)(Os:Nat->aD)(nQ:Map)(w₂:au)(ls:Nat->aA):Prop where
 rel:bI S nQ w₂ u
 le:π.le nQ
 img:∀b,nQ.img b->π.img b\/∃j,j<n/\Os j b
 size:w.heap.size<=w₂.heap.size
 keep:∀b,b<w.heap.size->b≠Cl->w₂.heap[b]? =w.heap[b]?
 os:w₂.os=w.os
 row:w₂.heap[Cl]? =some (.cells (Array.ofFn λi:Fin n=>ls i) Payload.ety)
 val:∀j,j<n->aL S nQ (ls j) (vs j)/\Eql w.heap.size w₂ u (ls j) (vs j)
theorem bI.join(h:bI S π w D){f C n:Nat}(U:π.own f C)(hp:PayAt C n D){vs:Nat->aA}{Os:Nat->aD}(hpu:PayAt C n u)(hr:bB π.sh (λb=>π.img b/\b≠C) D u)(J:∀i,i<n->Has C i (vs i) u)
 (hL:∀i,i<n->Lst u (Os i) (vs i))(G:∀i,i<n->∀b,Os i b->¬π.img b/\¬π.sh b)(I:∀i j,i<n->j<n->i≠j->∀b,Os i b->¬Os j b):∃d a s,Jnd S π w u f n vs Os d a s:=by
 obtain⟨r,Y,hcn⟩:=hp;obtain⟨cu,m,hun⟩:=hpu;have X:C<u.heap.size:=(bJ.1 m).1;have W:=(h.lt U).1;have V:π.img C:=⟨f,U⟩;have O:∀i,i<n->∀b,Os i b->b≠C:=λi o b H e=>(G i o b H).1 (e▸V);have A:∀c,({u with heap:=u.heap.setIfInBounds C (.cells r Payload.ety)}:au).heap[c]? =if c=C then some (.cells r Payload.ety)else u.heap[c]? :=Lh _ _ _ X
 have su:({u with heap:=u.heap.setIfInBounds C (.cells r Payload.ety)}:au).heap.size=u.heap.size:=Array.size_setIfInBounds;have p:({u with heap:=u.heap.setIfInBounds C (.cells r Payload.ety)}:au).os=u.os:=rfl;generalize({u with heap:=u.heap.setIfInBounds C (.cells r Payload.ety)}:au)=u₀ at A su p;have h0:bI S π w u₀:=h.stays ⟨by rw[su];exact hr.size,λb H=>by
  rw[A];by_cases k:b=C
  .rw[aI k,k,Y]
  .rw[av k];exact hr.keep b (H.imp (λx=>⟨x,k⟩) id),hr.os.trans (.of p)⟩
 obtain⟨d,a,s,t⟩:=h0.Yi (n:=n) (vs:=vs) (Os:=Os) (λi o=>by refine(hL i o).imp id λ⟨g,l,c,cur,e,z,h1,h2,h3,N⟩=>⟨g,l,c,cur,e,z,h1,?_,h3,N⟩;rw[A,av (O i o g N)];exact h2) G I n (aS n)
 have F:f<a.heap.size:=bG W t.size;have B:∀c,({a with heap:=a.heap.setIfInBounds f (.cells (Array.ofFn λi:Fin n=>s i) Payload.ety)}:au).heap[c]? =if c=f then some (.cells (Array.ofFn λi:Fin n=>s i) Payload.ety)else a.heap[c]? :=Lh _ _ _ F
 have R:({a with heap:=a.heap.setIfInBounds f (.cells (Array.ofFn λi:Fin n=>s i) Payload.ety)}:au).heap.size=a.heap.size:=Array.size_setIfInBounds;have q:({a with heap:=a.heap.setIfInBounds f (.cells (Array.ofFn λi:Fin n=>s i) Payload.ety)}:au).os=a.os:=rfl;generalize({a with heap:=a.heap.setIfInBounds f (.cells (Array.ofFn λi:Fin n=>s i) Payload.ety)}:au)=v at B R q;have L:ko S d (.cells (Array.ofFn λi:Fin n=>s i) Payload.ety) (.cells cu Payload.ety):=by
  refine .cells _ _ (bq.jc (by rw[Array.size_ofFn,hun]) λi x x' hx M=>?_);obtain⟨o,e⟩:=bJ.1 hx;rw[Array.getElem_ofFn]at e;have K:i<n:=by rw[Array.size_ofFn]at o;exact o
  have hv:=J i K;unfold Has World.cell? at hv;rw[m]at hv;have hv':cu[i]? =some (vs i):=hv;rw[hv']at M;cases M;rw[<-e];exact(t.val i K).1
 refine⟨d,v,s,t.rel.turn (t.le.own _ _ U) L B (λc=>?_) R q p.symm,t.le,t.img,by rw[R];exact t.size,λb H Z=>by rw[B,av Z];exact t.keep b H,q.trans t.os,by rw[B,aI rfl],λj Q=>⟨(t.val j Q).1,?_⟩⟩
 .by_cases P:c=C
  .rw[aI P,P];exact m
  .rw[av P,A,av P]
 .refine(t.val j Q).2.imp id λ⟨g,E,l,c,y,e2,e3,e4,e5⟩=>⟨g,E,l,c,y,e2,e3,by rw[R];exact e4,?_⟩;have hg:g≠C:=by
   obtain⟨l',c',T⟩|⟨g',l',c',cur,e,z,T,-,-,N⟩:=hL j Q
   .rw[T]at y;cases y
   .rw[T]at y;cases y;exact O j Q _ N
  rw[B,av Q0,e5,A,av hg]
end
section
variable [Payload] [Zb] {S : aD} {P : Program} {ty : bf} {Post : aA -> au -> Prop}
theorem CP.draw{b:Frame}{a:Act}{k:List Item}{i:Nat}{o:Array Oper}{s:List PF}{w:au}(B:P.follows .mixedOrders=true)
 (h:∀t,CP S P ty Post ⟨b,a,aT o (Region.linearise .any o t)::k⟩ s w):CP S P ty Post ⟨b,a,.code (.region i o true)::k⟩ s w:=by
 intro d j y f D l m C x;obtain⟨c,v,q⟩:=y;obtain⟨rfl,rfl,A⟩:c=b/\q=_/\fQ S j a v:=⟨m.b,m.k,m.a⟩;refine .mk (.idle rfl λu p=>⟨_,_,_,own j.img,stepG_region_draw,?_,X0,?_⟩)
 .have g:=dV l x p;exact⟨g.sub,g.fresh,g.bound,g.size,λ_ _ _=>rfl,rfl,rfl,rfl⟩
 .have n:bI S j w {u with drawn:=u.drawn+1}:=x.stays (let r:=dG l p;⟨r.size,r.keep,r.os⟩);have R:=l.rely p;have:=h (u.tape u.drawn (.order c.fn i)) d j ⟨c,v,aT o (Region.linearise .any o (u.tape u.drawn (.order c.fn i)))::k⟩ f {u with drawn:=u.drawn+1} ⟨R.g,R.sh,R.z,⟨R.kd.img,R.kd.kp,R.kd.sz⟩⟩ ⟨rfl,rfl,A⟩ C n;have e:Region.schedule (P.follows .mixedOrders) o (u.tape u.drawn (.order c.fn i))=Region.linearise .any o (u.tape u.drawn (.order c.fn i)):=by simp[Region.schedule,B]
  rw[e];exact this
theorem CP.any{b:Frame}{k:List Item}{o:Array Oper}{s:List PF}{Inv:Array Bool->Act->au->Prop}
 (step:∀(l:Array Bool)(a:Act)(w:au)(i:Nat)(r:List Nat),l.size=o.size->Inv l a w->i∈Region.ready .any o l->(∀c j,Inv (l.setIfInBounds i true) c j->CP S P ty Post ⟨b,c,aT o r::k⟩ s j)->CP S P ty Post ⟨b,a,aT o (i::r)::k⟩ s w)
 (fin:∀(l:Array Bool)(a:Act)(w:au),Inv l a w->Region.ready .any o l=[]->CP S P ty Post ⟨b,a,aT o []::k⟩ s w):
 ∀(f t:Nat)(l:Array Bool)(a:Act)(w:au),l.size=o.size->Te o.size l<=f->Inv l a w->CP S P ty Post ⟨b,a,aT o (Region.linearise.go .any o f t l [])::k⟩ s w:=by
 intro f
 induction f with
 |zero=>intro t l a w g q I;refine fin l a w I ?_;apply List.eq_nil_iff_forall_not_mem.2;intro i h;obtain⟨d,e,_⟩:=kE h;rw[Gy Q0 d]at e;cases e
 |succ f v=>
  intro t l a w g q I;simp only[Region.linearise.go];change CP S P ty Post ⟨b,a,.inRegion o (match(Region.ready .any o l)[t%(Region.ready .any o l).length]? with
   |some i=>Region.linearise.go .any o f (t/(Region.ready .any o l).length) (l.setIfInBounds i true) [i]
   |none=>[].reverse)::k⟩ s w
  cases h:(Region.ready .any o l)[t%(Region.ready .any o l).length]? with
  |none=>
   refine fin l a w I ?_;cases u:Region.ready .any o l with
   |nil=>rfl
   |cons x xs=>rw[u]at h;have n:t%(x::xs).length<(x::xs).length:=Nat.mod_lt _ X0;simp at h;simp at n;omega
  |some i=>have p:=List.mem_of_getElem? h;obtain⟨d,e,_⟩:=kE p;simp only[];rw[linearise_go_acc,List.reverse_singleton,List.singleton_append];refine step l a w i _ g I p λc j m=>?_;refine v _ _ c j (by simp[g]) ?_ m;have:=Le d (by rw[g];exact d) e;omega
end
section
variable {S : aD} {p : Program}
def AP(Q R:Act->au->Prop)(b:Frame)(fr:Frame)(w:au):Prop:=(∃a,fr=b.at a sent/\Q a w)\/(∃a todo,fr={b.at a todo with mode:=.returning}/\a.defers=[]/\R a w)
theorem Jt(J:fH S p){Q R:Act->au->Prop}(T:∀a w t d,Q a w->Q a (tp w t d))(U:∀a w t d,R a w->R a (tp w t d)){c:Code}(hc:eF S p c){b:Frame}(C:b.kind=.normal)(B:∃N,p.funcs[b.fn]? =some N){a y:Act}{w I:au}{j:Map}(X:p.globals.size=j.g)
 (G:∀t d,c.wp p (λe x u=>(e=.normal/\Q x u)\/(e=.ret/\x.defers=[]/\R x u)) a (tp w t d))(s:∃f:Map,p.globals.size=f.g/\fQ S f a a/\bI S f w w)
 (W:fQ S j a y)(Y:bI S j w I)(M:Bool)(k:List Item)(A:List Frame):
 iK p M j.sh (XV S p sent k (AP Q R b) j A) j.img (gr (b.at y (.code c::k)) A) I:=by
 have O:Ak (AP Q R b) p sent ⟨b.at a (.code c::sent),[],w⟩:=by
  intro t d;obtain⟨e,x,u,h,v⟩:=G t d b sent [door p];obtain⟨rfl,D⟩|⟨rfl,z,E⟩:=h
  .obtain⟨n,v⟩:=v;exact⟨n,⟨b.at x sent,[],u⟩,v,⟨rfl,.inr ⟨rfl,rfl,rfl⟩⟩,.inl ⟨x,rfl,D⟩⟩
  .obtain⟨o,n,v⟩:=v;exact⟨n,⟨{b.at x o with mode:=.returning},[],u⟩,v,⟨rfl,.inl ⟨z,X0⟩⟩,.inr ⟨x,o,rfl,z,E⟩⟩
 have fr:∀{j:Map}{a y:Act}(k:List Item),fQ S j a y->ng S p j sent k (b.at a (.code c::sent)) (b.at y (.code c::k)):=λk h=>⟨rfl,B,h.tmps,⟨[.code c],rfl,rfl,λi K=>by rw[List.mem_singleton]at K;subst K;exact .code hc⟩,h.defers,.run,rfl,C,rfl,rfl⟩
 obtain⟨f,q,l,r⟩:=s;have m:Free S p sent (AP Q R b):=by
  rintro c _ _ h t d;obtain⟨x,e,D⟩|⟨x,Z,e,z,E⟩:=h
  .exact .inl ⟨x,e,T _ _ _ _ D⟩
  .exact .inr ⟨x,Z,e,z,U _ _ _ _ E⟩
 have V:=Gl _ J (.inr rfl) m (c:=⟨b.at a (.code c::sent),[],w⟩) ⟨f,q,⟨sent,sent,fr sent l,.nil,λh=>(h rfl).elim⟩,r⟩ O;exact CG J (.inr rfl) M A V j _ [] I (.refl _) X ⟨sent,k,fr k W,.nil,λh=>(h rfl).elim⟩ Y
end
section
variable [Payload] [Zb] {S : aD} {P : Program} {ty : bf} {Post : aA -> au -> Prop}
end
section
variable [Payload] [Zb] {S : aD} {P : Program} {ty : bf} {Post : aA -> au -> Prop}
theorem CP.done{b:Frame}(j:b.kind=.normal){a:Act}{k:List Item}{w:au}{n:Func}(M:a.defers=[])(J:P.funcs[b.fn]? =some n)(p:P.inits.idxOf? b.fn=none){V:Act->aA}
 (r:∀(a:Act) u,(results n a.tmps).run P u=.ok (V a) u)(m:∀(a:Act) u,(results n a.tmps).events P u #[]=#[])(I:∀(c:Map) a e,fQ S c a e->aL S c (V a) (V e))
 (E:∀c v u,Rd P c u->aL S c (V a) v->bI S c w u->Post v u):CP S P ty Post ⟨b,a,.code .ret::k⟩ [] w:=by
 intro d c D A N i h K z;obtain⟨x,e,s⟩:=D;obtain⟨rfl,rfl,y⟩:x=b/\s=_/\fQ S c a e:=⟨h.b,h.k,h.a⟩;cases K with
 |nil=>
  have l:e.defers=[]:=y.defers.2;refine .mk (.idle rfl λu q=>⟨_,u,#[],own c.img,stepG_ret',dV i z q,X0,?_⟩);have R:=i.rely q;have o:=z.rely (dG i q) w.tape w.drawn;refine .mk (.done rfl λg f=>⟨V e,#[],?_,X0,?_⟩)
  .have B:=r e g;have C:=m e g;show stepG P true (G {x.at e _ with mode:=.returning} []) g=_;simp[G,stepG,unwind,doReturn,Frame.at,j,l,J,B,C,p,seen,GStep.after]
  .exact E c _ g (R.rely f) (I c a _ y) (o.rely (dG R f) w.tape w.drawn)
end
theorem size_put(a:Act)(d:Option Tmp)(v:aA):(a.put d v).tmps.size=a.tmps.size:=by cases d<;>simp[Act.put]
theorem eval_put{a:Act}{d:Nat}(h:d<a.tmps.size)(v:aA)(x:Nat):(a.put (some d) v).eval (.tmp x)=if x=d then v else a.eval (.tmp x):=by
 by_cases e:x=d
 .subst e;simp[Act.put,Act.eval,h]
 .simp[Act.put,Act.eval,e,oP,jN (Ne.symm e)]
theorem Ju(a:Act)(d:Option Tmp)(v:aA):(a.put d v).defers=a.defers:=by cases d<;>rfl
def ent(args:Array aA)(n:Nat):Act:={tmps:=args++Array.replicate (n-args.size) ak,defers:=[]}
def At(ops:Array Oper)(i:Nat)(K:Op)(d:Option Tmp):Prop:=∃o,ops[i]? =some o/\o.op=K/\o.dst=d/\o.guard=none
theorem At.of{p:Array Oper}{i:Nat}{K:Op}{d:Option Tmp}(h:(p[i]?).map (λo=>(o.op,o.dst,o.guard))=some (K,d,none)):At p i K d:=by
 cases e:p[i]? with
 |none=>rw[e]at h;cases h
 |some o=>rw[e]at h;simp at h;exact⟨o,e,h.1,h.2.1,h.2.2⟩
section
variable [Payload] [Zb] {S : aD} {P : Program} {ty : bf} {Post : aA -> au -> Prop} {b : Frame} {a : Act} {k : List Item} {ops : Array Oper} {i : Nat} {A : List Nat} {K : Op} {dt : Option Tmp} {B : List PF} {w : au}
theorem CP.tp{f:PF}(h:CP S P ty Post f B w)(t:Nat->Question->Nat)(d:Nat):CP S P ty Post f B (tp w t d):=λd i b s g R c e a=>h d i b s g R c e ⟨a.1,a.2,a.3,a.4,a.5,a.6,a.7⟩
theorem CP.oQ(g:fH S P)(e:b.kind=.normal)(c:At ops i K dt)(f:gF S P K){v:aA}(h:∀t n o,o.op=K->(execOp a.eval o).run P (Ren.tp w t n)=.ok (.value v) (Ren.tp w t n))(j:CP S P ty Post ⟨b,a.put dt v,aT ops A::k⟩ B w):CP S P ty Post ⟨b,a,aT ops (i::A)::k⟩ B w:=by obtain⟨o,l,rfl,rfl,hg⟩:=c;exact CP.op g e l F5 f λt d=>⟨v,_,h t d o rfl,j.tp t d⟩
theorem CP.opW(j:fH S P)(f:b.kind=.normal)(e:At ops i K dt)(g:gF S P K)(h:∀t n o,o.op=K->∃v c,(execOp a.eval o).run P (Ren.tp w t n)=.ok (.value v) c/\CP S P ty Post ⟨b,a.put dt v,aT ops A::k⟩ B c):CP S P ty Post ⟨b,a,aT ops (i::A)::k⟩ B w:=by obtain⟨o,l,rfl,rfl,hg⟩:=e;exact CP.op j f l F5 g λt d=>h t d o rfl
theorem CP.opU(T:fH S P)(NI:b.kind=.normal)(p:At ops i K dt)(y:gF S P K)(h:∀t n o,o.op=K->∃c,(execOp a.eval o).run P (Ren.tp w t n)=.ok .skip c/\CP S P ty Post ⟨b,a.put dt ak,aT ops A::k⟩ B c):CP S P ty Post ⟨b,a,aT ops (i::A)::k⟩ B w:=by
 obtain⟨o,Z,rfl,rfl,hg⟩:=p;intro d π Q s w' R r hs W;obtain⟨G,D,C⟩:=Q;obtain⟨rfl,rfl,I⟩:G=b/\C=_/\fQ S π a D:=⟨r.b,r.k,r.a⟩;refine .mk (.idle rfl λu M=>?_);obtain⟨c,N,X⟩:=h u.tape u.drawn o rfl;have v:=W.rely (dG R M) u.tape u.drawn;have l:=R.rely M;have J:=runs (Ai (o:=o) T.D8 R.g I.eval y) (Ren.tp w u.tape u.drawn) u #[] v (λi q _ _=>rfl);rw[N]at J;obtain⟨n,f,O,j,E⟩:=J;have Y:=E.ans;obtain rfl:n=.skip:=by cases Y with|skip=>rfl
 have m:=rG E.turns E.heap;refine⟨_,f,_,own j.img,stepG_none Z F5 G6 O,m.own l.kd,λe V=>wJ R.sh (AO E.turns.le ?_),?_⟩
 .have:=jr P _ _ e V;obtain x|x:=E.evs e this
  .simp at x
  .exact x
 .exact X d j ⟨G,D.put o.dst ak,_⟩ s f ⟨R.g.trans E.turns.le.g.symm,λb U=>R.sh b ((E.turns.le.sh b).2 U),(E.turns.le.sh _).1 R.z,l.kd.guar m⟩ ⟨rfl,rfl,(I.mono E.turns.le).put _ .undef⟩ (hs.mono λ_ _ x=>x.mono E.turns.le) E.heap
theorem CP.opS(NI:b.kind=.normal)(j:At ops i K dt){v:aA}
 (h:∀e c u o,fQ S e a c->bI S e w u->o.op=K->∃g,(execOp c.eval o).run P u=.ok (.value g) u/\(∀C,seen P C ((execOp c.eval o).events P u #[])=#[])/\aL S e v g)(D:CP S P ty Post ⟨b,a.put dt v,aT ops A::k⟩ B w):CP S P ty Post ⟨b,a,aT ops (i::A)::k⟩ B w:=by
 obtain⟨o,E,rfl,rfl,hg⟩:=j;intro d e z s J R l G m;obtain⟨f,c,q⟩:=z;obtain⟨rfl,rfl,r⟩:f=b/\q=_/\fQ S e a c:=⟨l.b,l.k,l.a⟩;refine .mk (.idle rfl λu p=>?_);have n:=m.rely (dG R p) w.tape w.drawn;obtain⟨g,x,y,I⟩:=h e c u o r n rfl;refine⟨gr (f.at (c.put o.dst g) (aT ops A::k)) (s.map PF.fr),u,#[],own e.img,?_,dV R m p,X0,?_⟩
 .have:=stepG_value (P:=P) (main:=true) (k:=k) (cs:=s.map PF.fr) (rest:=A) E F5 (b:=f) G6 x;rw[show listed P f.fn c o u=#[]from y _]at this;exact this
 .exact D.stay R (f':=⟨f,c.put o.dst g,_⟩) ⟨rfl,rfl,r.put _ I⟩ G m p
def RC(S:aD)(P:Program)(ty:bf)(Post:aA->au->Prop)(f:FuncId)(args:Array aA)(w:au)(Q:aA->au->Prop):Prop:=∃fn c,P.funcs[f]? =some fn/\(fn.name== "runtime.NumGoroutine")=false/\fn.body=some c/\∀(b₀:Frame)(a₀:Act)(ops₀:Array Oper)(i₀:Nat)(rest₀:List Nat)(k₀:List Item)(B:List PF),(∀v u,Q v u->CP S P ty Post ⟨b₀,a₀.put ((ops₀[i₀]?).bind (·.dst)) v,aT ops₀ rest₀::k₀⟩ B u)->CPE S P ty Post args.size ⟨base f,ent args fn.ntmps,[.code c]⟩ (⟨b₀,a₀,aT ops₀ (i₀::rest₀)::k₀⟩::B) w
theorem RC.mono{f:FuncId}{a:Array aA}{Q e:aA->au->Prop}(h:RC S P ty Post f a w Q)(q:∀v u,Q v u->e v u):RC S P ty Post f a w e:=
 let⟨n,c,g,j,l,m⟩:=h
 ⟨n,c,g,j,l,λd b o i r k seg T=>m d b o i r k seg λv u x=>T v u (q v u x)⟩
theorem RC.call(e:b.kind=.normal){f:FuncId}{xs:Array Operand}{ats:Array bf}(d:At ops i (.call {callee:=.value (.func f),args:=xs,argTypes:=ats}) dt)(j:∀x∈xs,bE S x){vs:Array aA}(s:xs.map a.eval=vs){Q:aA->au->Prop}(h:RC S P ty Post f vs w Q)
 (r:∀v u,Q v u->CP S P ty Post ⟨b,a.put dt v,aT ops A::k⟩ B u):CP S P ty Post ⟨b,a,aT ops (i::A)::k⟩ B w:=by
 subst s;obtain⟨o,l,g,rfl,hg⟩:=d;obtain⟨t,c,m,n,p,q⟩:=h;refine CP.Xm e l F5 g j m n p ?_;have:=q b a ops i A k B (by rw[l];exact r);rw[Array.size_map]at this;exact this
theorem RC.lone(hB:fH S P){f:FuncId}(hf:S f){r:Array aA}{Q:aA->au->Prop}(hQ:∀v w t d,Q v w->Q v (Ren.tp w t d))(hc:∀t d,Calls P f r (Ren.tp w t d) (λe u=>∃v,e=.returned v/\Q v u)):RC S P ty Post f r w Q:=by
 obtain⟨D,c,U,h2,h3⟩:=hB.D8.fn f hf;refine⟨D,c,U,h3,h2,λK J o p h q seg hT=>?_⟩;intro d π f' abm w' R H M hs hh;obtain⟨b',B,k''⟩:=f';obtain⟨rfl,rfl,X⟩:b'=_/\k''=_/\fQ S π (ent r D.ntmps) B:=⟨H.b,H.k,H.a⟩;cases hs with
 |@cons _ c' _ s G hs=>
  obtain⟨n,m,N⟩:=c';obtain⟨rfl,rfl,F⟩:n=K/\N=_/\fQ S π J m:=⟨G.b,G.k,G.a⟩;have C:B.tmps.size=(r++Array.replicate (D.ntmps-r.size) ak).size:=X.tmps.1.symm;have Y:∃l,B.tmps=l++Array.replicate (D.ntmps-r.size) ak/\l.size=r.size:=by
   refine⟨B.tmps.extract 0 r.size,?_,?_⟩
   .apply Array.ext_getElem?;intro j;by_cases hj:j<r.size
    .rw[Array.getElem?_append_left (by simp at C ⊢;omega)];rw[Array.getElem?_extract];have:j<B.tmps.size:=by simp at C;omega
     simp[this];omega
    .have e:=M j Q0;have I:(B.tmps.extract 0 r.size).size=r.size:=by simp at C ⊢;omega
     rw[e,Array.getElem?_append_right Q0,I];show(r++Array.replicate (D.ntmps-r.size) ak)[j]? =_;rw[Array.getElem?_append_right Q0]
   .simp at C ⊢;omega
  obtain⟨l,V,es⟩:=Y;have E:bq S π r l:=by refine bq.jc es.symm λj x y hx hy=>?_;have U:=(bJ.1 hx).1;refine X.tmps.get (i:=j) (by rw[show(ent r D.ntmps).tmps=r++Array.replicate (D.ntmps-r.size) ak from rfl,Array.getElem?_append_left U];exact hx) ?_;rw[V,Array.getElem?_append_left Q0];exact hy
  have L:B.defers=[]:=X.defers.2;have Z:(PF.fr ⟨base f,B,[.code c]⟩)=Frame.enter P f l .normal:=by
   rw[enter_at _ U h2];show(base f).at B _=_
   congr 1
   cases B;simp only at V L;subst V L;rw[es]
  rw[Z];refine GE.wK R.sh (sI hB hQ hf R.g hc E hh true (PF.fr ⟨n,m,aT o (p::h)::q⟩) (s.map PF.fr)) R.kd ?_;rintro O g u ⟨A,v,v',T,hO,I,rfl,hv,hh2,hq⟩ hkd;have W:O=A.img:=funext λb=>propext (hO b);subst W;rw[show(PF.fr ⟨n,m,aT o (p::h)::q⟩)=n.at m (aT o (p::h)::q)from rfl,Frame.finish_at];exact hT v T hq d A ⟨n,m.put ((o[p]?).bind (·.dst)) v',aT o h::q⟩ s u ⟨R.g.trans I.g.symm,λb hb=>R.sh b ((I.sh b).2 hb),(I.sh _).1 R.z,hkd⟩ ⟨rfl,rfl,(F.mono I).put _ hv⟩ (hs.mono λ_ _ x=>x.mono I) hh2
end
def fM(ops:Array Oper)(i:Nat):Option Tmp:=(ops[i]?).bind (·.dst)
def BN(ops:Array Oper)(i j:Nat):Bool:=((ops[i]?).map λo=>o.after.any λe=>Region.binds .any e&&e.on==j).getD false
def CW(ops:Array Oper):Bool:=(List.range ops.size).all λi=>((ops[i]?).map λo=>o.after.all λe=> !Region.binds .any e||decide (e.on<i)).getD true
def wM(ops:Array Oper)(x:Nat):Bool:=ops.all λo=>o.dst !=some x
def Ef(ops:Array Oper)(N:Nat):Bool:=(List.range ops.size).all λi=>match fM ops i with|none=>true|some x=>decide (x<N)&&(List.range ops.size).all λj=>j==i||fM ops j !=some x
structure Sme(ops:Array Oper)(a₀ a:Act):Prop where
 sz:a.tmps.size=a₀.tmps.size
 df:a.defers=a₀.defers
 old:∀x,wM ops x=true->a.eval (.tmp x)=a₀.eval (.tmp x)
section
variable [Payload] [Zb] {S : aD} {P : Program} {ty : bf} {Post : aA -> au -> Prop} {b : Frame} {k : List Item} {ops : Array Oper} {B : List PF}
theorem NM(a:CW ops=true){l:Array Bool}(s:l.size=ops.size)(h:Region.ready .any ops l=[]):∀i,i<ops.size->l.getD i false=true:=by
 intro i
 induction i using Nat.strongRecOn with
 |_ i k=>
  intro c;cases f:l.getD i false with
  |true=>rfl
  |false=>
   exfalso;have j:l.getD i true=false:=by
    have:i<l.size:=by omega
    simp only[Array.getD,this,dite_true]at f ⊢;exact f
   have b:((ops[i]?).map λo=>o.after.all λe=> !Region.binds .any e||decide (e.on<i)).getD true=true:=by unfold CW at a;rw[List.all_eq_true]at a;exact a i (by simpa using c)
   have:i∈Region.ready .any ops l:=by
    unfold Region.ready;simp only[List.mem_filter,gY,gu,Bool.not_eq_true'];refine⟨c,j,?_⟩;rw[iU c]at b ⊢;simp only[gq,fq]at b ⊢;rw[Aq]at b ⊢;intro e g;have:=b e g;rw[Bool.or_eq_true]at this ⊢;obtain x|x:=this
    .exact .inl x
    .have d:=of_decide_eq_true x;exact .inr (k e.on d Q0)
   rw[h]at this;cases this
def Qz(ops:Array Oper):Nat->Nat->Nat->Bool
 |0,_,_=>false
 |n+1,e,i=>BN ops e i||(List.range ops.size).any λj=>BN ops e j&&Qz ops n j i
theorem GA{l:Array Bool}(a:∀j i,l.getD j false=true->BN ops j i=true->l.getD i false=true)(i:Nat):∀n e,Qz ops n e i=true->l.getD e false=true->l.getD i false=true
 |0,_,h,_=>by cases h
 |n+1,e,h,b=>by
  unfold Qz at h
  rw[Bool.or_eq_true]at h
  obtain h|h:=h
  .exact a e i b h
  .rw[List.any_eq_true]at h
   obtain⟨j,_,h⟩:=h
   rw[gu]at h
   exact GA a i n j h.2 (a e j b h.1)
theorem CP.aeG(hm:P.follows .mixedOrders=true){id:Nat}{d:Act}{p:au}(hb:CW ops=true)(G:Ef ops d.tmps.size=true)(T:Nat->au->aA->Prop)(e:Nat)(J:Bool->au->Prop)(le:au->au->Prop)(mono:∀w s,le w s->∀j x,T j w x->T j s x)(hJ:J false p)
 (step:∀q i a w r,i<ops.size->(i=e->q=false)->(∀n,Qz ops n e i=true->q=false)->Sme ops d a->J q w->(∀j x,BN ops i j=true->fM ops j=some x->T j w (a.eval (.tmp x)))->(∀v s,le w s->J (q||i==e) s->T i s v->CP S P ty Post ⟨b,a.put (fM ops i) v,aT ops r::k⟩ B s)->CP S P ty Post ⟨b,a,aT ops (i::r)::k⟩ B w)
 (fin:∀q a w,(e<ops.size->q=true)->Sme ops d a->J q w->(∀i x,i<ops.size->fM ops i=some x->T i w (a.eval (.tmp x)))->(∀i,i<ops.size->fM ops i=none->∃v,T i w v)->CP S P ty Post ⟨b,a,k⟩ B w):CP S P ty Post ⟨b,d,.code (.region id ops true)::k⟩ B p:=by
 refine CP.draw hm λt=>?_;refine CP.any (Inv:=λl a w=>l.size=ops.size/\Sme ops d a/\J (l.getD e false) w/\(∀i x,l.getD i false=true->fM ops i=some x->T i w (a.eval (.tmp x)))/\(∀i,l.getD i false=true->fM ops i=none->∃v,T i w v)/\∀j i,l.getD j false=true->BN ops j i=true->l.getD i false=true) ?_ ?_ ops.size t (Array.replicate ops.size false) _ p X0 (by
  unfold Te;have:∀n,sumTo n (λj=>if(Array.replicate ops.size false).getD j true then 0 else 1)<=n:=by
   intro n
   induction n with
   |zero=>exact aS _
   |succ n ih=>simp only[sumTo];split<;>omega
  exact this _) ⟨X0,⟨rfl,rfl,λ_ _=>rfl⟩,by rw[show(Array.replicate ops.size false).getD e false=false from by simp only[oP,Array.getElem?_replicate];split<;>rfl];exact hJ,?_,?_,?_⟩
 .rintro l a w i r _ ⟨K,z,E,V,F,O⟩ m hk;obtain⟨D,h2,U⟩:=kE m;have H:i<l.size:=by omega
  have L:l.getD i false=false:=by simp only[Array.getD,H,dite_true]at h2 ⊢;exact h2
  have A:∀j,BN ops i j=true->l.getD j false=true:=by
   intro j f;unfold BN at f;rw[iU D]at f U;simp only[gq,fq]at f U;rw[Array.any_eq_true']at f;obtain⟨ed,Q,c⟩:=f;rw[gu]at c;rw[Aq]at U;have:=U ed Q;rw[c.1]at this;have ej:ed.on=j:=by simpa using c.2
   rw[<-ej];simpa using this
  refine step _ i a w r D (λZ=>by subst Z;exact L) (λn hn=>Bool.eq_false_iff.2 λQ=>by rw[GA O i n e hn Q]at L;cases L) z E (λj x f c=>V j x (A j f) c) λv s R N W=>hk _ _ ⟨by simp[K],?_,?_,?_,?_,?_⟩
  .refine⟨(size_put _ _ _).trans z.sz,(Ju _ _ _).trans z.df,λx c=>?_⟩;rw[<-z.old x c];cases g:fM ops i with
   |none=>rfl
   |some y=>
    have C:y<a.tmps.size:=by unfold Ef at G;rw[List.all_eq_true]at G;have:=G i (by simpa using D);rw[g]at this;simp only[gu]at this;rw[z.sz];exact of_decide_eq_true this.1
    rw[eval_put C];have:x≠y:=by rintro rfl;unfold wM at c;rw[Aq]at c;unfold fM at g;rw[iU D]at g;have:=c _ (Array.getElem_mem D);simp at g this;exact this g
    rw[av this]
  .by_cases X:i=e
   .subst X;have:(l.setIfInBounds i true).getD i false=true:=by simp[Array.getD,H]
    rw[this];simpa using N
   .have:(l.setIfInBounds i true).getD e false=l.getD e false:=by simp only[oP,jN X]
    rw[this];rwa[show(i==e)=false from by simpa using X,Bool.or_false]at N
  .intro j x f c;by_cases o:j=i
   .subst o;have C:x<a.tmps.size:=by
     unfold Ef at G;rw[List.all_eq_true]at G;have:=G j (by simpa using D);rw[c]at this;simp only[gu]at this;rw[z.sz];exact of_decide_eq_true this.1
    rw[c,eval_put C,aI rfl];exact W
   .have I:l.getD j false=true:=by
     simp only[oP,jN (Ne.symm o)]at f ⊢;exact f
    have hjl:j<ops.size:=by
     obtain h|h:=jY j ops.size
     .exact h
     .unfold fM at c;rw[Array.getElem?_eq_none h]at c;cases c
    have:=mono w s R j _ (V j x I c);cases g:fM ops i with
    |none=>exact this
    |some y=>
     have Y:Ef ops d.tmps.size=true:=G;unfold Ef at Y;rw[List.all_eq_true]at Y;have M:=Y i (by simpa using D);rw[g]at M;simp only[gu]at M;have C:y<a.tmps.size:=by rw[z.sz];exact of_decide_eq_true M.1
     rw[List.all_eq_true]at M;have h6:=M.2 j (by simpa using hjl);rw[c]at h6;have hxy:x≠y:=by rintro rfl;simp[o]at h6
     rw[eval_put C,av hxy];exact this
  .intro j f c;by_cases o:j=i
   .subst o;exact⟨v,W⟩
   .have I:l.getD j false=true:=by
     simp only[oP,jN (Ne.symm o)]at f ⊢;exact f
    obtain⟨v,W⟩:=F j I c;exact⟨v,mono w s R j _ W⟩
  .intro j x f c;have key:∀y,l.getD y false=true->(l.setIfInBounds i true).getD y false=true:=by
    intro y C;by_cases o:y=i
    .subst o;simp[Array.getD,H]
    .simp only[oP,jN (Ne.symm o)]at C ⊢;exact C
   by_cases o:j=i
   .subst o;exact key x (A x c)
   .refine key x (O j x ?_ c);simp only[oP,jN (Ne.symm o)]at f ⊢;exact f
 .rintro l a w ⟨K,z,E,V,F,_⟩ hr;refine CP.ctl (λa' cs u=>stepG_region_end) ?_;have:=NM hb K hr;exact fin _ a w (λQ=>this e Q) z E (λi x m c=>V i x (this i m) c) λi m c=>F i (this i m) c
 .intro i x m;exfalso;simp only[oP,Array.getElem?_replicate]at m
  split at m<;>simp at m
 .intro i m;exfalso;simp only[oP,Array.getElem?_replicate]at m
  split at m<;>simp at m
 .intro j i f;exfalso;simp only[oP,Array.getElem?_replicate]at f
  split at f<;>simp at f
end
def Xn:Code->Nat->Array Oper
 |.region id ops _,n=>if id=n then ops else #[]
 |.seq x y,n=>let r:=Xn x n;if r.isEmpty then Xn y n else r
 |.cond _ x y,n=>let r:=Xn x n;if r.isEmpty then Xn y n else r
 |.block _ x,n=>Xn x n
 |.loop x,n=>Xn x n
 |.scope x,n=>Xn x n
 |_,_=>#[]
section
variable [Payload] [Zb] {S : aD} {P : Program} {ty : bf} {Post : aA -> au -> Prop} {b : Frame} {a : Act} {k : List Item} {ops : Array Oper} {B : List PF} {w : au}
theorem CP.seq{x y:Code}(h:CP S P ty Post ⟨b,a,.code x:: .code y::k⟩ B w):CP S P ty Post ⟨b,a,.code (.seq x y)::k⟩ B w:=CP.ctl (λ_ _ _=>stepG_seq) h
theorem CP.dx(h:CP S P ty Post ⟨b,a,k⟩ B w):CP S P ty Post ⟨b,a,.code .skip::k⟩ B w:=CP.ctl (λ_ _ _=>stepG_skip) h
theorem CP.reg{i:Nat}{l:List Nat}(c:List.range ops.size=l)(h:CP S P ty Post ⟨b,a,aT ops l::k⟩ B w):CP S P ty Post ⟨b,a,.code (.region i ops false)::k⟩ B w:=by subst c;exact CP.ctl (λ_ _ _=>stepG_region) h
theorem CP.jO(h:CP S P ty Post ⟨b,a,k⟩ B w):CP S P ty Post ⟨b,a,aT ops []::k⟩ B w:=CP.ctl (λ_ _ _=>stepG_region_end) h
theorem CP.copy{i:Nat}{r:List Nat}{e:Option Tmp}{x:Operand}(g:fH S P)(d:b.kind=.normal)(c:At ops i (.move x) e\/At ops i (.assign x) e)(j:bE S x)(h:CP S P ty Post ⟨b,a.put e (a.eval x),aT ops r::k⟩ B w):CP S P ty Post ⟨b,a,aT ops (i::r)::k⟩ B w:=by
 obtain c|c:=c
 .exact CP.oQ g d c (.move x j) (λt n o f=>by unfold execOp;rw[f];rfl) h
 .exact CP.oQ g d c (.assign x j) (λt n o f=>by unfold execOp;rw[f];rfl) h
theorem CP.UJ{h:Frame}(z:b.kind=.normal){g:Act}{c:List Item}{i:Nat}{r:List Nat}{y:Func}(U:a.defers=[])(Q:P.funcs[b.fn]? =some y){v:aA}
 (n:∀(a:Act) u,(results y a.tmps).run P u=.ok v u)(C:∀(a:Act) u,(results y a.tmps).events P u #[]=#[])(V:∀m:Map,aL S m v v)
 (T:CP S P ty Post ⟨h,g.put ((ops[i]?).bind (·.dst)) v,aT ops r::c⟩ B w):CP S P ty Post ⟨b,a,[]⟩ (⟨h,g,aT ops (i::r)::c⟩::B) w:=by
 intro d m N J W R l E D;obtain⟨K,s,G⟩:=N;obtain⟨rfl,rfl,O⟩:K=b/\G=_/\fQ S m a s:=⟨l.b,l.k,l.a⟩;cases E with
 |@cons _ M _ x hc E=>
  obtain⟨f,e,q⟩:=M;obtain⟨rfl,rfl,j⟩:f=h/\q=_/\fQ S m g e:=⟨hc.b,hc.k,hc.a⟩;have A:s.defers=[]:=O.defers.2;refine .mk (.idle rfl λu o=>⟨_,u,#[],own m.img,stepG_end,dV R D o,X0,?_⟩);refine .mk (.idle rfl λI p=>⟨_,I,#[],own m.img,stepG_leave z A Q (n s I) (C s I),?_,X0,?_⟩)
  .exact dV (R.rely o) (D.rely (dG R o) w.tape w.drawn) p
  .rw[show(PF.fr ⟨f,e,aT ops (i::r)::c⟩)=f.at e (aT ops (i::r)::c)from rfl,Frame.finish_at];exact T.stay (f':=⟨f,e.put ((ops[i]?).bind (·.dst)) v,aT ops r::c⟩) (R.rely o) ⟨rfl,rfl,j.put _ (V m)⟩ E (D.rely (dG R o) w.tape w.drawn) p
end
def fa(N:Nat)(f:Nat->aA):Act:=⟨Array.ofFn λi:Fin N=>f i,[]⟩
def aC(f:Nat->aA)(d:Nat)(v:aA):Nat->aA:=λx=>if x=d then v else f x
theorem zm{N:Nat}{f:Nat->aA}:(fa N f).tmps.size=N:=by simp[fa]
theorem bN{N:Nat}{f:Nat->aA}{x:Nat}(h:x<N):(fa N f).tmps.getD x ak=f x:=by simp[fa,Array.getD,h]
theorem aO{N:Nat}{f:Nat->aA}{x:Nat}(h:x<N):(fa N f).tmps[x]?.getD ak=f x:=by simp[fa,h]
theorem aj{N:Nat}{f:Nat->aA}{x:Nat}(h:x<N):(fa N f).eval (.tmp x)=f x:=by simp[fa,Act.eval,Array.getD,h]
theorem jm{N:Nat}{f:Nat->aA}{d:Nat}{v:aA}:(fa N f).put (some d) v=fa N (aC f d v):=by
 have e:(Array.ofFn λi:Fin N=>f i).setIfInBounds d v=Array.ofFn λi:Fin N=>aC f d v i:=by
  apply Array.ext_getElem?;intro i;rw[Array.getElem?_setIfInBounds];by_cases e:d=i
  .subst e;by_cases h:d<N<;>simp[aC,h]
  .by_cases h:i<N<;>simp[aC,h,e,Ne.symm e]
 show(⟨_,_⟩:Act)=⟨_,_⟩;exact congrArg (Act.mk · []) e
theorem QA{a:Array aA}{n:Nat}(h:a.size<=n):ent a n=fa n λi=>a.getD i ak:=by
 unfold ent fa
 congr 1
 apply Array.ext
 .simp;omega
 .intro i b c;simp only[Array.getElem_append,Array.getElem_ofFn,Array.getD]
  split<;>simp
section
variable [Payload] [Zb] {S : aD} {P : Program} {ty : bf} {Post : aA -> au -> Prop} {b : Frame} {N : Nat} {f : Nat -> aA} {k : List Item} {ops : Array Oper} {i : Nat} {A : List Nat} {K : Op} {d : Nat} {B : List PF} {w : au} {v : aA}
theorem CP.fV(g:fH S P)(c:b.kind=.normal)(a:At ops i K (some d))(e:gF S P K)(h:∀t n o,o.op=K->(execOp (fa N f).eval o).run P (Ren.tp w t n)=.ok (.value v) (Ren.tp w t n))(j:CP S P ty Post ⟨b,fa N (aC f d v),aT ops A::k⟩ B w):CP S P ty Post ⟨b,fa N f,aT ops (i::A)::k⟩ B w:=CP.oQ g c a e h (jm▸j)
theorem CP.fW(j:fH S P)(e:b.kind=.normal)(c:At ops i K (some d))(g:gF S P K)(h:∀t n o,o.op=K->∃v a,(execOp (fa N f).eval o).run P (Ren.tp w t n)=.ok (.value v) a/\CP S P ty Post ⟨b,fa N (aC f d v),aT ops A::k⟩ B a):CP S P ty Post ⟨b,fa N f,aT ops (i::A)::k⟩ B w:=CP.opW j e c g (by simpa only[jm]using h)
theorem CP.fU(g:fH S P)(d:b.kind=.normal)(c:At ops i K none)(e:gF S P K)(h:∀t n o,o.op=K->∃a,(execOp (fa N f).eval o).run P (Ren.tp w t n)=.ok .skip a/\CP S P ty Post ⟨b,fa N f,aT ops A::k⟩ B a):CP S P ty Post ⟨b,fa N f,aT ops (i::A)::k⟩ B w:=CP.opU g d c e h
theorem CP.fS(e:b.kind=.normal)(c:At ops i K (some d))(h:∀g a u o,fQ S g (fa N f) a->bI S g w u->o.op=K->∃j,(execOp a.eval o).run P u=.ok (.value j) u/\(∀n,seen P n ((execOp a.eval o).events P u #[])=#[])/\aL S g v j)(l:CP S P ty Post ⟨b,fa N (aC f d v),aT ops A::k⟩ B w):CP S P ty Post ⟨b,fa N f,aT ops (i::A)::k⟩ B w:=CP.opS e c h (jm▸l)
theorem CP.fC{x:Nat}(g:x<N)(e:fH S P)(c:b.kind=.normal)(a:At ops i (.move (.tmp x)) (some d)\/At ops i (.assign (.tmp x)) (some d))(h:CP S P ty Post ⟨b,fa N (aC f d (f x)),aT ops A::k⟩ B w):CP S P ty Post ⟨b,fa N f,aT ops (i::A)::k⟩ B w:=CP.copy e c a trivial (by rw[aj g,jm];exact h)
theorem CP.fK{c:aA}(j:Flat c)(g:fH S P)(e:b.kind=.normal)(a:At ops i (.move (.const c)) (some d)\/At ops i (.assign (.const c)) (some d))(h:CP S P ty Post ⟨b,fa N (aC f d c),aT ops A::k⟩ B w):CP S P ty Post ⟨b,fa N f,aT ops (i::A)::k⟩ B w:=CP.copy g e a j (jm▸h)
theorem RC.mX(c:b.kind=.normal){g:FuncId}{xs:Array Operand}{ats:Array bf}(a:At ops i (.call {callee:=.value (.func g),args:=xs,argTypes:=ats}) (some d))(e:∀x∈xs,bE S x){vs:Array aA}(l:xs.map (fa N f).eval=vs){Q:aA->au->Prop}(h:RC S P ty Post g vs w Q)
 (j:∀v u,Q v u->CP S P ty Post ⟨b,fa N (aC f d v),aT ops A::k⟩ B u):CP S P ty Post ⟨b,fa N f,aT ops (i::A)::k⟩ B w:=RC.call c a e l h λv u q=>jm▸j v u q
theorem RC.of{g:FuncId}{n:Func}{c:Code}{f:Array aA}{Q:aA->au->Prop}(j:P.funcs[g]? =some n)(l:(n.name== "runtime.NumGoroutine")=false)(m:n.body=some c)(p:f.size<=n.ntmps)
 (h:∀(b:Frame)(a:Act)(o:Array Oper)(d:Nat)(r:List Nat)(k:List Item)(B:List PF),(∀v u,Q v u->CP S P ty Post ⟨b,a.put ((o[d]?).bind (·.dst)) v,aT o r::k⟩ B u)->CP S P ty Post ⟨base g,fa n.ntmps λi=>f.getD i ak,[.code c]⟩ (⟨b,a,aT o (d::r)::k⟩::B) w):RC S P ty Post g f w Q:=
 ⟨n,c,j,l,m,λb a o d r k B T=>by rw[QA p];exact(h b a o d r k B T).e⟩
theorem CP.Li(L:P.follows .mixedOrders=true){O:Nat}(I:CW ops=true)(r:Ef ops N=true)(T:Nat->au->aA->Prop)(e:Nat)(J:Bool->au->Prop)(le:au->au->Prop)(mono:∀w d,le w d->∀j x,T j w x->T j d x)(o:J false w)
 (step:∀q i g w A,i<ops.size->(i=e->q=false)->(∀n,Qz ops n e i=true->q=false)->(∀x,wM ops x=true->x<N->g x=f x)->J q w->(∀j x,BN ops i j=true->fM ops j=some x->T j w (g x))->(∀v d,le w d->J (q||i==e) d->T i d v->CP S P ty Post ⟨b,(fa N g).put (fM ops i) v,aT ops A::k⟩ B d)->CP S P ty Post ⟨b,fa N g,aT ops (i::A)::k⟩ B w)
 (fin:∀q g w,(e<ops.size->q=true)->(∀x,wM ops x=true->x<N->g x=f x)->J q w->(∀i x,i<ops.size->fM ops i=some x->T i w (g x))->(∀i,i<ops.size->fM ops i=none->∃v,T i w v)->CP S P ty Post ⟨b,fa N g,k⟩ B w):CP S P ty Post ⟨b,fa N f,.code (.region O ops true)::k⟩ B w:=by
 have p:∀i x,fM ops i=some x->x<N:=by
  intro i x m;have D:i<ops.size:=by
   obtain h|h:=jY i ops.size
   .exact h
   .unfold fM at m;rw[Array.getElem?_eq_none h]at m;cases m
  unfold Ef at r;rw[List.all_eq_true]at r;have:=r i (by simpa using D);rw[m]at this;simp only[gu]at this;exact of_decide_eq_true this.1
 have key:∀a,Sme ops (fa N f) a->∃g,a=fa N g/\∀x,wM ops x=true->x<N->g x=f x:=by
  rintro⟨t,df⟩ ⟨l,c,H⟩;rw[zm]at l;cases c;have G:(⟨t,[]⟩:Act)=fa N λx=>t.getD x ak:=by
   unfold fa
   congr 1
   apply Array.ext
   .simpa using l
   .intro i Q R;have F:i<t.size:=Q;simp[Array.getD,F]
  refine⟨λx=>t.getD x ak,G,λx m M=>?_⟩;have:=H x m;rw[aj M]at this;exact this
 refine CP.aeG L I (by rw[zm];exact r) T e J le mono o ?_ ?_
 .rintro q i a w A D E z s o u K;obtain⟨g,rfl,C⟩:=key a s;exact step q i g w A D E z C o (λj x l c=>by have:=u j x l c;rwa[aj (p j x c)]at this) K
 .rintro q a w E s o u y;obtain⟨g,rfl,C⟩:=key a s;exact fin q g w E C o (λi x l c=>by have:=u i x l c;rwa[aj (p i x c)]at this) y
theorem CP.GD(s:P.follows .mixedOrders=true){t:Nat}(p:CW ops=true)(r:Ef ops N=true)(T:Nat->au->aA->Prop)(e:Nat)(J:Bool->au->Prop)(le:au->au->Prop)(mono:∀w a,le w a->∀j x,T j w x->T j a x)(o:J false w)
 (step:∀q i g w A,i<ops.size->(i=e->q=false)->(∀x,wM ops x=true->x<N->g x=f x)->J q w->(∀j x,BN ops i j=true->fM ops j=some x->T j w (g x))->(∀v a,le w a->J (q||i==e) a->T i a v->CP S P ty Post ⟨b,(fa N g).put (fM ops i) v,aT ops A::k⟩ B a)->CP S P ty Post ⟨b,fa N g,aT ops (i::A)::k⟩ B w)
 (fin:∀q g w,(e<ops.size->q=true)->(∀x,wM ops x=true->x<N->g x=f x)->J q w->(∀i x,i<ops.size->fM ops i=some x->T i w (g x))->(∀i,i<ops.size->fM ops i=none->∃v,T i w v)->CP S P ty Post ⟨b,fa N g,k⟩ B w):CP S P ty Post ⟨b,fa N f,.code (.region t ops true)::k⟩ B w:=
 CP.Li s p r T e J le mono o (λq i g w A h c _ d l m n=>step q i g w A h c d l m n) fin
theorem CP.NP(p:P.follows .mixedOrders=true){r:Nat}(l:CW ops=true)(m:Ef ops N=true)(T:Nat->au->aA->Prop)(J:au->Prop)(le:au->au->Prop)(mono:∀w a,le w a->∀j x,T j w x->T j a x)(h:J w)
 (step:∀i g w A,i<ops.size->(∀x,wM ops x=true->x<N->g x=f x)->J w->(∀j x,BN ops i j=true->fM ops j=some x->T j w (g x))->(∀v a,le w a->J a->T i a v->CP S P ty Post ⟨b,(fa N g).put (fM ops i) v,aT ops A::k⟩ B a)->CP S P ty Post ⟨b,fa N g,aT ops (i::A)::k⟩ B w)
 (fin:∀g w,(∀x,wM ops x=true->x<N->g x=f x)->J w->(∀i x,i<ops.size->fM ops i=some x->T i w (g x))->(∀i,i<ops.size->fM ops i=none->∃v,T i w v)->CP S P ty Post ⟨b,fa N g,k⟩ B w):CP S P ty Post ⟨b,fa N f,.code (.region r ops true)::k⟩ B w:=
 CP.GD p l m T 0 (λ_=>J) le mono h (λq i g w A n _ e h c o=>step i g w A n e h c o) λq g w _ e h c d=>fin g w e h c d
end
section
variable {S : aD} {π : Map}
structure Cln(S:aD)(π:Map)(v u:aA):Prop where
 rel:aL S π u v
 u8:∀n,u≠ .int .u8 n
 int:∀k n,v=.int k n->k≠ .u8->u=v
 str:∀s,v=.string s->u=v
 nil:∀l c,v=.slice none l c->u=v
 win:∀a l c,v=.slice (some a) l c->π.sh a.block->u=v
 no:∀a,v=.slice (some a) 0 0->∃a',u=.slice a' 0 0
theorem kY{v:aA}(h:Nc v)(i:∀k n,v≠ .int k n)(d:∀s,v≠ .string s)(b:∀a l c,v≠ .slice a l c):Cln S π v (.tuple #[]):=⟨.junk h,nofun,λk n e _=>aF e (i k n),λs e=>aF e (d s),λl c e=>aF e (b _ l c),λa l c e=>aF e (b _ l c),λa e=>aF e (b _ _ _)⟩
theorem jP{v:aA}(h:aL S π v v)(i:∀n,v≠ .int .u8 n):Cln S π v v:=⟨h,i,λ_ _ _ _=>rfl,λ_ _=>rfl,λ_ _ _=>rfl,λ_ _ _ _ _=>rfl,λa e=>⟨_,e⟩⟩
theorem Jv:∀v:aA,∃u,Cln S π v u
 |.bool b=>⟨_,jP (.bool b) nofun⟩
 |.int k n=>by
  by_cases h:k=.u8
  .subst h
   exact⟨.tuple #[],.junk trivial,nofun,(λk n e p=>by cases e;exact(p rfl).elim),nofun,nofun,nofun,nofun⟩
  .exact⟨_,jP (.int k n) ((λn e=>by cases e;exact h rfl))⟩
 |.float k b=>⟨_,kY trivial nofun nofun nofun⟩
 |.complex k r i=>⟨_,kY trivial nofun nofun nofun⟩
 |.string s=>⟨_,jP (.string s) nofun⟩
 |.pointer none=>⟨_,jP .jL nofun⟩
 |.pointer (some a)=>⟨_,kY trivial nofun nofun nofun⟩
 |.slice none l c=>⟨_,jP (.dQ l c) nofun⟩
 |.slice (some a) l c=>by
  by_cases h:π.sh a.block
  .exact⟨_,jP (.slice l c ⟨⟨.inr ⟨h,rfl⟩,.inr rfl⟩,rfl,rfl⟩) nofun⟩
  .by_cases j:l=0/\c=0
   .obtain⟨rfl,rfl⟩:=j
    exact⟨_,.fG a,nofun,nofun,nofun,nofun,(λa l c e g=>by cases e;exact(h g).elim),λa e=>⟨_,rfl⟩⟩
   .exact⟨.tuple #[],.junk trivial,nofun,nofun,nofun,nofun,(λa l c e g=>by cases e;exact(h g).elim),(λa e=>by cases e;exact(j ⟨rfl,rfl⟩).elim)⟩
 |.map none=>⟨_,jP .iT nofun⟩
 |.map (some r)=>⟨_,kY trivial nofun nofun nofun⟩
 |.chan r=>⟨_,kY trivial nofun nofun nofun⟩
 |.func f x y=>by
  cases f with
  |method n=>exact⟨_,.DV n x y,nofun,nofun,nofun,nofun,nofun,nofun⟩
  |_=>exact⟨_,kY trivial nofun nofun nofun⟩
 |.nilFunc=>⟨_,jP .nilFunc nofun⟩
 |.iface t v=>⟨_,kY trivial nofun nofun nofun⟩
 |.nilIface=>⟨_,jP .nilIface nofun⟩
 |.agg x=>by
  have m:∀i:Fin x.size,∃u,Cln S π x[i] u:=λi=>Jv x[i]
  refine⟨.agg (Array.ofFn λi=>(m i).choose),.agg X0 λi o=>?_,nofun,nofun,nofun,nofun,nofun,nofun⟩
  have d:i<x.size:=by simpa using o
  have:=(m ⟨i,d⟩).choose_spec.rel
  simpa[Array.getD,d]using this
 |.tuple x=>⟨_,kY trivial nofun nofun nofun⟩
termination_by v=>SizeOf.sizeOf v
decreasing_by
 have h1:SizeOf.sizeOf x[i.1]<SizeOf.sizeOf x:=Array.sizeOf_lt_of_mem (Array.getElem_mem i.2)
 have h2:SizeOf.sizeOf (Value.agg x)=1+SizeOf.sizeOf x:=Value.agg.sizeOf_spec x
 show SizeOf.sizeOf x[i.1]<SizeOf.sizeOf (Value.agg x)
 omega
noncomputable def QB(S:aD)(π:Map)(v:aA):aA:=(Jv (S:=S) (π:=π) v).choose
theorem iL(v:aA):Cln S π v (QB S π v):=(Jv v).choose_spec
noncomputable def Yj(S:aD)(π:Map):Obj->Obj
 |.cells c e _=>.cells (c.map (QB S π)) e (0,c.size)
 |o=>o
noncomputable def yV(S:aD)(π:Map)(W:au):au:={W with heap:=W.heap.map (Yj S π)}
theorem sJ(W:au):(yV S π W).heap.size=W.heap.size:=by simp[yV]
theorem GH(W:au)(b:Nat):(yV S π W).heap[b]? =(W.heap[b]?).map (Yj S π):=by simp[yV]
theorem qw{W:au}{b:Nat}{c:Array aA}{e:bf}{z:Nat×Nat}(h:W.heap[b]? =some (.cells c e z)):(yV S π W).heap[b]? =some (.cells (c.map (QB S π)) e (0,c.size)):=by rw[GH,h];rfl
theorem fI{W:au}{a:Addr}{v:aA}(h:W.cell? a=some v):(yV S π W).cell? a=some (QB S π v):=by
 unfold World.cell? at h ⊢;cases e:W.heap[a.block]? with
 |none=>rw[e]at h;cases h
 |some o=>
  rw[e]at h;cases o with
  |cells c t z=>
   rw[qw e];simp only at h ⊢
   split at h
   .cases h
   .rename_i s;rw[av s,Array.getElem?_map,h];rfl
  |_=>cases h
theorem Jw{W:au}{a:Addr}{v:aA}(h:W.cell? a=some v):∃c e z,W.heap[a.block]? =some (.cells c e z):=by
 unfold World.cell? at h;cases e:W.heap[a.block]? with
 |none=>rw[e]at h;cases h
 |some o=>
  rw[e]at h;cases o with
  |cells c t z=>exact⟨c,t,z,rfl⟩
  |_=>cases h
def iT(W:au)(g:Nat)(hg:∃c e z,W.heap[g]? =some (.cells c e z)):Map:=⟨λ_ _=>False,λb=>∃c e z,W.heap[b]? =some (.cells c e z),g,hg⟩
theorem QC(W:au)(g:Nat)(d:∃c e z,W.heap[g]? =some (.cells c e z)):bI S (iT W g d) (yV S (iT W g d) W) W:=by
 refine⟨λ_ _ h=>h.elim,λb k=>?_,λ_ _ _ h=>h.elim,λ_ _ _ h=>h.elim,λ_ _ h=>h.elim,?_,.refl _⟩
 .obtain⟨c,e,z,h⟩:=k;refine⟨_,c,e,c.size,z,qw h,h,bq.jc X0 λi v l j f=>?_,X0,λi n a=>?_⟩
  .rw[Array.getElem?_map,f]at j;cases j;exact(iL l).rel
  .rw[Array.getElem?_map]at a;cases x:c[i]? with
   |none=>rw[x]at a;cases a
   |some y=>rw[x]at a;exact(iL y).u8 n (gH a)
 .obtain⟨c,e,z,h⟩:=d;rw[sJ];exact Nat.le_of_lt (bJ.1 h).1
abbrev QD(W:au)(g:Nat):Zb:=⟨g,W.heap.size,λb=>W.heap[b]?,W.output⟩
end
section
variable [Payload] {S : aD} {P : Program}
theorem UK(W:au)(g:∃c e z,W.heap[P.globals.size]? =some (.cells c e z)):letI:=QD W P.globals.size;Rd P (iT W P.globals.size g) W:=
 letI:=QD W P.globals.size
 ⟨rfl,λb⟨c,e,z,h⟩=>.inr (bJ.1 h).1,g,⟨λb h=>by obtain⟨_,h⟩:=h;exact h.elim,λb _=>rfl,aS _⟩⟩
theorem Jy{y:bf}{d:aA->au->Prop}(W:au)(g:∃c e z,W.heap[P.globals.size]? =some (.cells c e z)){b:Frame}{a f:Act}{k:List Item}
 (l:fQ S (iT W P.globals.size g) a f)(i:letI:=QD W P.globals.size;CP S P y d ⟨b,a,k⟩ [] (yV S (iT W P.globals.size g) W)):
 ∃N last o w t,runNT P (N+1) (solo (gr (b.at f k) []) W) #[]=(.ended o w,t)/\runN P N (solo (gr (b.at f k) []) W)=.next last/\step P last=.ended o w/\Good P (λv u=>d v u/\u.output=W.output) last o w t:=by
 letI:=QD W P.globals.size
 have m:Zb.z<W.heap.size:=by obtain⟨c,e,z,h⟩:=g;exact(bJ.1 h).1
 refine Ee (O:=own (iT W P.globals.size g).img) (i 0 _ ⟨b,f,k⟩ [] W (UK W g) ⟨rfl,rfl,l⟩ .nil (QC W _ g)) rfl (λx j=>?_) m (λj=>?_)
 .obtain⟨_,h⟩|⟨h,_⟩:=j
  .exact h.elim
  .exact h
 .obtain⟨_,h⟩|⟨_,h⟩:=j
  .exact h.elim
  .exact h rfl
end
section
variable [Payload] [Zb] {S : aD} {P : Program} {ty : bf} {Post : aA -> au -> Prop} {a : Act} {k : List Item} {ops : Array Oper} {B : List PF} {w : au}
theorem CP.aeH{g:FuncId}{l:Frame}{j:Act}{c:List Item}{i:Nat}{r:List Nat}{Q:Func}(hd:a.defers=[])(hf:P.funcs[g]? =some Q){v:aA}(K:∀t n,(results Q a.tmps).run P (Ren.tp w t n)=.ok v (Ren.tp w t n))
 (hk:CP S P ty Post ⟨l,j.put ((ops[i]?).bind (·.dst)) v,aT ops r::c⟩ B w):CP S P ty Post ⟨base g,a,.code .ret::k⟩ (⟨l,j,aT ops (i::r)::c⟩::B) w:=by
 intro d T f' abm w' R C X hh;obtain⟨b',O,Z⟩:=f';obtain⟨rfl,rfl,ha⟩:b'=_/\Z=_/\fQ S T a O:=⟨C.b,C.k,C.a⟩;cases X with
 |@cons _ c' _ s hc X=>
  obtain⟨h,f,N⟩:=c';obtain⟨rfl,rfl,A⟩:h=l/\N=_/\fQ S T j f:=⟨hc.b,hc.k,hc.a⟩;have U:O.defers=[]:=ha.defers.2;refine .mk (.idle rfl λu Y=>⟨_,u,#[],own T.img,stepG_ret',dV R hh Y,X0,?_⟩);have D:=R.rely Y;have W:=hh.rely (dG R Y) w.tape w.drawn;refine .mk (.idle rfl λy M=>?_);have V:=W.rely (dG D M) y.tape y.drawn;have I:=D.rely M;have hr:=runs (sG (S:=S) (p:=P) (π:=T) Q ha.tmps) (Ren.tp w y.tape y.drawn) y #[] V (λi q _ _=>rfl);rw[K]at hr;obtain⟨v',m,e2,o,E⟩:=hr;have J:=rG E.turns E.heap;refine⟨gr ((PF.fr ⟨h,f,aT ops (i::r)::c⟩).finish v') (s.map PF.fr),m,seen P g ((results Q O.tmps).events P y #[]),own o.img,?_,J.own I.kd,λe he=>wJ R.sh (AO E.turns.le ?_),?_⟩
  .show stepG P true (G {(base g).at O _ with mode:=.returning} _) y=_;simp[G,gr,stepG,unwind,doReturn,Frame.at,base,U,hf,e2,GStep.after]
  .obtain x|x:=E.evs e (jr P _ _ e he)
   .simp at x
   .exact x
  .rw[show(PF.fr ⟨h,f,aT ops (i::r)::c⟩)=h.at f (aT ops (i::r)::c)from rfl,Frame.finish_at];exact hk.tp y.tape y.drawn d o ⟨h,f.put ((ops[i]?).bind (·.dst)) v',aT ops r::c⟩ s m ⟨R.g.trans E.turns.le.g.symm,λb hb=>R.sh b ((E.turns.le.sh b).2 hb),(E.turns.le.sh _).1 R.z,I.kd.guar J⟩ ⟨rfl,rfl,(A.mono E.turns.le).put _ E.ans⟩ (X.mono λ_ _ x=>x.mono E.turns.le) E.heap
end
section
variable {P : Program} {R h γ U : Type}
def Qt(P:Program){R:Type}(s:Sem R):Prop:=∀w es,s.events P w es=es
theorem Qt.bind{x:Sem R}{f:R->Sem h}(g:Qt P x)(d:∀w a c,x.run P w=.ok a c->Qt P (f a)):Qt P (x>>=f):=by
 intro w e;rw[Sem.events_bind,g];cases b:x.run P w with
 |ok a c=>exact d w a c b c e
 |halt _ _=>rfl
theorem Qt.ite{c:Prop}[Decidable c]{x y:Sem R}(h:Qt P x)(a:Qt P y):Qt P (if c then x else y):=by split<;>assumption
theorem dX(a:R):Qt P (Pure.pure a:Sem R):=λ_ _=>rfl
theorem jQ(s:String):Qt P (stuck s:Sem R):=λw e=>events_stuck P w e s
theorem Jz(u:Unsupported):Qt P (unsupported u:Sem R):=λw e=>events_unsupported P w e u
theorem Qt.QE{f:γ->U->Sem (ForInStep U)}:∀(l:List γ)(s:U),(∀a∈l,∀s,Qt P (f a s))->Qt P (forIn l s f)
 |[],s,_=>by rw[List.forIn_nil];exact dX _
 |a::l,s,h=>by
  rw[List.forIn_cons]
  refine Qt.bind (h a (.head _) s) λw r d _=>?_
  cases r with
  |done b=>exact dX _
  |yield b=>exact Qt.QE l b λx c=>h x (.tail _ c)
inductive PlC:aA->Prop
 |bool (b:Bool):PlC (.bool b)
 |int (k:IntKind) (n:Int):PlC (.int k n)
def Pl(v:aA):Prop:=PlC v\/∃xs:Array aA,v=.agg xs/\∀c∈xs,PlC c
theorem sK{t:bf}{c:Array aA}{o:Nat}:Qt P (part t c o):=by
 unfold part;refine Qt.bind (λw e=>events_isAgg P w e t) λw a b _=>?_;refine Qt.ite (Qt.bind (λw e=>events_sizeOf P w e t) λ_ _ _ _=>dX _) ?_;cases c[o]? with
 |none=>exact jQ _
 |some v=>exact dX _
theorem sM{t:bf}{s:Array aA}{o:Nat}{w e:au}{v:aA}(h:∀c∈s,PlC c)(r:(part t s o).run P w=.ok v e):Pl v:=by
 unfold part at r;rw[Sem.run_bind]at r;cases d:(isAgg t).run P w with
 |halt _ _=>rw[d]at r;cases r
 |ok b f=>
  rw[d]at r;simp only[Result.andThen_ok]at r;cases b with
  |true=>
   simp only[if_true]at r;rw[Sem.run_bind]at r;cases a:(sizeOf t).run P f with
   |halt _ _=>rw[a]at r;cases r
   |ok n w2=>rw[a]at r;simp only[Result.andThen_ok,Sem.run_pure,Result.ok.injEq]at r;obtain⟨rfl,_⟩:=r;refine .inr ⟨_,rfl,λc hc=>h c ?_⟩;obtain⟨j,g,rfl⟩:=Array.mem_iff_getElem.1 hc;rw[Array.getElem_extract];exact Array.getElem_mem _
  |false=>
   simp only[gU,if_false]at r;cases a:s[o]? with
   |none=>rw[a]at r;simp at r
   |some x=>rw[a]at r;simp only[Sem.run_pure,Result.ok.injEq]at r;obtain⟨rfl,_⟩:=r;exact .inl (h _ (qW a))
theorem QF:∀(d:Nat)(t:bf)(x y:aA),Pl x->Pl y->Qt P (Op.equalIn d t x y):=by
 intro d
 induction d with
 |zero=>intro t x y _ _;unfold Op.equalIn;exact Jz _
 |succ d v=>
  intro t x y o g;unfold Op.equalIn;refine Qt.bind (λw i=>events_underlying P w i t) λw k e _=>?_;obtain o|⟨xs,rfl,j⟩:=o
  .obtain g|⟨z,rfl,c⟩:=g
   .cases o<;>cases g<;>cases k<;>first|exact jQ _|exact dX _|(simp only[];exact Qt.ite (dX _) (jQ _))
   .cases o<;>cases k<;>exact jQ _
  .obtain g|⟨z,rfl,c⟩:=g
   .cases g<;>cases k<;>exact jQ _
   .cases k with
    |struct m=>
     simp only[];refine Qt.bind (λw i=>events_program P w i) λw p e _=>?_;refine Qt.ite (Qt.bind (Jz _) λw a e h=>by simp at h) ?_;rw[<-Array.forIn_toList];refine Qt.bind (Qt.QE _ _ λf _ s=>?_) λ_ s _ _=>by split<;>exact dX _
     split
     .refine Qt.bind sK λw a e q=>Qt.bind sK λw b e u=>Qt.bind (v _ _ _ (sM j q) (sM c u)) λ_ r _ _=>?_
      split<;>exact dX _
     .exact dX _
    |array len l=>
     simp only[];refine Qt.bind (λw i=>events_sizeOf P w i l) λw n e _=>?_;rw[Std.Legacy.Range.forIn_eq_forIn_range'];refine Qt.bind (Qt.QE _ _ λf _ s=>?_) λ_ s _ _=>by split<;>exact dX _
     refine Qt.bind sK λw a e q=>Qt.bind sK λw b e u=>Qt.bind (v _ _ _ (sM j q) (sM c u)) λ_ r _ _=>?_
     split<;>exact dX _
    |_=>exact jQ _
theorem Lj{kt:bf}{x:aA}(a:Pl x):∀(s:List MapEntry)(i:Nat),(∀e∈s,Pl e.key)->Qt P (Instr.findAsking kt x s i)
 |[],i,_=>by unfold Instr.findAsking;exact dX _
 |e::s,i,h=>by
  unfold Instr.findAsking
  refine Qt.bind (QF _ _ _ _ a (h e (.head _))) λ_ b _ _=>?_
  exact Qt.ite (dX _) (Lj a s (i+1) λe c=>h e (.tail _ c))
theorem uO{kt:bf}{x:aA}(a:Pl x)(s:List MapEntry)(h:∀e∈s,Pl e.key):Qt P (Instr.findKey kt x s):=by
 unfold Instr.findKey;refine Qt.bind (λw s=>events_underlying P w s kt) λ_ d _ _=>?_;cases Instr.findNow d x s 0 with
 |none=>exact Lj a s 0 h
 |some r=>exact dX _
theorem AQ:∀(n:Nat)(b:Bool)(t:bf)(v:aA),Pl v->Qt P (Instr.checkKey b n t v):=by
 intro n
 induction n with
 |zero=>intro b t v _;unfold Instr.checkKey;exact Jz _
 |succ n l=>
  intro b t v g;unfold Instr.checkKey;refine Qt.bind (λw c=>events_underlying P w c t) λw k j _=>?_;obtain g|⟨xs,rfl,h⟩:=g
  .cases g<;>cases k<;>first|exact jQ _|exact dX _
  .cases k with
   |struct i=>
    simp only[];rw[<-Array.forIn_toList];refine Qt.bind (Qt.QE _ _ λf _ s=>?_) λ_ s _ _=>dX _
    split
    .refine Qt.bind sK λw a j d=>Qt.bind (l _ _ _ (sM h d)) λ_ r _ _=>dX _
    .exact dX _
   |array len e=>simp only[];rw[Std.Legacy.Range.forIn_eq_forIn_range'];refine Qt.bind (Qt.QE _ _ λf _ s=>?_) λ_ s _ _=>dX _;refine Qt.bind (λw c=>events_sizeOf P w c e) λw m j _=>Qt.bind sK λw a j d=>Qt.bind (l _ _ _ (sM h d)) λ_ r _ _=>dX _
   |interface _=>exact jQ _
   |_=>exact dX _
end
variable [Payload] [Zb]
theorem rH{u:au}{a:Addr}{v x:aA}(h:u.cell? a=some x):(u.setCell a v).cell? a=some v:=World.cell?_setCell_same _ _ _ h
theorem MuAt.ne(L:Lk):L.mu≠L.sm:=by simp[Lk.mu,Lk.sm]
section
variable {L : Lk} {W Y : Wd} {s J : Nat} {u w : au}
theorem Eff.refl(u:au):Eff L u u:=⟨rfl,rfl,rfl,.refl _,λ_ _=>rfl,λ_ _ _=>rfl⟩
theorem Eff.asked(u:au):Eff L u u.asked:=⟨rfl,rfl,rfl,.refl _,λ_ _=>rfl,λ_ _ _=>rfl⟩
theorem Eff.later(u:au):Eff L u u.later:=⟨rfl,rfl,rfl,⟨u.tick,rfl⟩,λ_ _=>rfl,λ_ _ _=>rfl⟩
theorem MuAt.asked(h:MuAt L W s u):MuAt L W s u.asked:=⟨h.mu,h.sm,h.ro⟩
theorem MuAt.later(h:MuAt L W s u):MuAt L W s u.later:=⟨h.mu,h.sm,h.ro⟩
theorem Eff.set{a:Addr}(c:a=L.mu\/a=L.sm)(v:aA):Eff L u (u.setCell a v):=by
 have s:=aside_setCell u a v;have g:a.block=L.B:=by obtain rfl|rfl:=c<;>rfl
 refine⟨s.tape,s.output,s.size,.of s.os,λb h=>s.block b (by rw[g];exact h),λj d f=>World.cell?_setCell_other _ _ _ _ ?_⟩;obtain rfl|rfl:=c
 .intro e;exact d (by simpa[Lk.mu]using e.symm)
 .intro e;exact f (by simpa[Lk.sm]using e.symm)
theorem MuAt.setMu(h:MuAt L W s u)(Y:Wd):MuAt L Y s (u.setCell L.mu (.int .i32 Y.int)):=⟨rH h.mu,(World.cell?_setCell_other _ _ _ _ (MuAt.ne L)).trans h.sm,Jj h.ro _⟩
theorem MuAt.setSm(h:MuAt L W s u)(J:Nat):MuAt L W J (u.setCell L.sm (.int .u32 J)):=⟨(World.cell?_setCell_other _ _ _ _ (MuAt.ne L).symm).trans h.mu,rH h.sm,Jj h.ro _⟩
end
structure KQ(ty:bf)(F:Ph)(L:Lk)(O:aD)(Fx:au->Prop)(w:au):Prop where
 fx:Fx w
 live:WgLive ty F.Wg w
 pay:PayAt F.C F.n w
 bd:∀b,O b->b<w.heap.size
 mu:∃W s,MuAt L W s w
def FC(F:Ph)(Z O:aD)(Fx:au->Prop):Prop:=∀w u,bB (λb=>F.Sh b\/Z b) O w u->Fx w->Fx u
section
variable {P : Program} {ty : bf} {F : Ph} {L : Lk} {i : Nat} {γ : Gh} {κ bF : Nat} {O : aD} {C : au -> Prop} {g g' : dN} {w u : au} {W Y : Wd} {s J : Nat}
theorem KQ.rely(h:KQ ty F L O C w)(a:F.lk=some L)(s:FC F γ.Z O C)(r:fA ty F i γ O κ w bF u):KQ ty F L O C u:=⟨s w u r.o h.fx,r.r.live h.live,r.r.pay h.pay,λb c=>bG (h.bd b c) r.o.size,r.l L a h.mu⟩
theorem KQ.xO(h:KQ ty F L O C u)(c:FC F γ.Z O C)(i:∀b,O b\/F.Sh b\/γ.Z b\/b=F.Wg\/b=F.C->b≠L.B)(e:Eff L u w)(M:MuAt L W s w):KQ ty F L O C w:=by
 have keep:∀b,O b\/F.Sh b\/γ.Z b\/b=F.Wg\/b=F.C->w.heap[b]? =u.heap[b]? :=λb a=>e.block b (i b a);refine⟨c u w ⟨by rw[e.size];exact aS _,λb a=>keep b (a.imp id λx=>x.imp id .inl),e.os⟩ h.fx,?_,?_,λb a=>by rw[e.size];exact h.bd b a,⟨W,s,M⟩⟩
 .obtain⟨st,sm,hw⟩:=h.live;exact⟨st,sm,(keep _ (.inr (.inr (.inr (.inl rfl))))).trans hw⟩
 .obtain⟨d,f,g⟩:=h.pay;exact⟨d,(keep _ (.inr (.inr (.inr (.inr rfl))))).trans f,g⟩
theorem bS.goes(f:∀b,O b->b<w.heap.size)(r:g.status=.running)
 (h:∀bF u,fA ty F i γ O κ w bF u->(stepG P false g u).goes λg' c s=>c=u/\(∀e∈s,False)/\bS P ty F i γ bF O g' u):bS P ty F i γ κ O g w:=by
 refine .mk (.idle r λbF u d=>?_);have a:=h bF u d;cases e:stepG P false g u with
 |go g' c s=>rw[e]at a;simp only[goes_go]at a;obtain⟨rfl,j,k⟩:=a;exact⟨g',c,s,O,rfl,⟨λb h=>h,λb h=>.inl h,λb h=>bG (f b h) d.o.size,aS _,λ_ _ _ _ _=>rfl,rfl,rfl,rfl,id,λ_ _=>rfl,λ_ _ _ _ h=>h⟩,λx a=>(j x a).elim,k⟩
 |_=>rw[e]at a;exact a.elim
theorem QG(a:Addr)(b:a=L.mu\/a=L.sm):∀e∈(#[⟨.cell a,false,true⟩]:Array Event),XZ L e:=λe h=>by simp at h;subst h;exact .inr (.inr ⟨a,false,rfl,b⟩)
theorem qx(a:Addr)(h:a=L.mu\/a=L.sm):∀e∈(#[⟨.cell a,false,true⟩,⟨.cell a,true,true⟩]:Array Event),XZ L e:=λe b=>by
 simp at b
 obtain rfl|rfl:=b
 .exact .inr (.inr ⟨a,false,rfl,h⟩)
 .exact .inr (.inr ⟨a,true,rfl,h⟩)
theorem bS.look(r:F.lk=some L)(z:g.status=.running)(t:γ.df=1)(y:γ.ow=false)
 (h:∀bF u,fA ty F i γ O κ w bF u->∀W s,MuAt L W s u->W.n<=131072->Lf γ.T W->∃g' c d f,Lm γ.T W s f W s/\stepG P false g u=.go g' c d/\Eff L u c/\MuAt L W s c/\(∀e∈d,XZ L e)/\deafBehind 1 d=1/\∀b,b<=bF->bS P ty F i {γ with T:=f} b O g' c):bS P ty F i γ κ O g w:=by
 refine .mk (.lock r z t y λbF u A W s M x B v=>?_);obtain⟨g',c,d,f,j,k,l,m,o,p,q⟩:=h bF u A W s M x v;exact⟨g',c,d,f,W,s,j,k,l,m,o,p,.inl (aS _),λb a _=>q b a⟩
theorem bS.cas(r:F.lk=some L)(x:g.status=.running)(t:γ.df=1)(v:γ.ow=false)(old new:Wd)
 (l:∀bF u s,fA ty F i γ O κ w bF u->MuAt L old s u->old.n<=131072->Lf γ.T old->∃g' f,Lm γ.T old s f new s/\stepG P false g u=.go g' (u.setCell L.mu (.int .i32 new.int)) #[⟨.cell L.mu,false,true⟩,⟨.cell L.mu,true,true⟩]/\∀d,d<=bF->(new≠old->d<bF)->bS P ty F i {γ with T:=f} d O g' (u.setCell L.mu (.int .i32 new.int)))
 (miss:∀bF u W s,fA ty F i γ O κ w bF u->MuAt L W s u->W≠old->W.n<=131072->Lf γ.T W->∃g',stepG P false g u=.go g' u #[⟨.cell L.mu,false,true⟩]/\∀d,d<=bF->bS P ty F i γ d O g' u):bS P ty F i γ κ O g w:=by
 refine .mk (.lock r x t v λbF u p W s h o y m=>?_);by_cases e:W=old
 .subst e;obtain⟨g',f,q,j,k⟩:=l bF u s p h o m;exact⟨g',_,_,f,new,s,q,j,Eff.set (.inl rfl) _,h.setMu new,qx _ (.inl rfl),rfl,.inl (aS _),λd a b=>k d a λc=>b (.inl c)⟩
 .obtain⟨g',j,k⟩:=miss bF u W s p h e o m;exact⟨g',u,_,γ.T,W,s,.stay,j,.refl u,h,QG _ (.inl rfl),rfl,.inl (aS _),λd a _=>k d a⟩
end
theorem wN(n c:Nat)(h:c<8)(j:Nat):(8*n+c).testBit j=if j<3 then c.testBit j else n.testBit (j-3):=by have:=Nat.testBit_two_pow_mul_add n (i:=3) (b:=c) Q0 j;simpa using this
theorem AU{c:Nat}(a:c<8){j:Nat}(h:¬j<3):c.testBit j=false:=Nat.testBit_lt_two_pow (bG a (by
 have:=tH (n:=2) Q0 (show 3<=j by omega)
 simpa using this))
theorem Ll(n c m:Nat)(a:c<8)(b:m<8):(8*n+c)&&&m=c&&&m:=by
 apply Nat.eq_of_testBit_eq;intro j;rw[Nat.testBit_and,Nat.testBit_and,wN n c a]
 split
 .rfl
 .rename_i h;rw[AU b h,Bool.and_false,Bool.and_false]
theorem Yk(n c m:Nat)(a:c<8)(b:m<8)(o:c|||m<8):(8*n+c)|||m=8*n+(c|||m):=by
 apply Nat.eq_of_testBit_eq;intro j;rw[Nat.testBit_or,wN n c a,wN n _ o,Nat.testBit_or]
 split
 .rfl
 .rename_i h;rw[AU b h,Bool.or_false]
theorem UL(n c m:Nat)(a:c<8)(b:m<8)(o:c^^^m<8):(8*n+c)^^^m=8*n+(c^^^m):=by
 apply Nat.eq_of_testBit_eq;intro j;rw[Nat.testBit_xor,wN n c a,wN n _ o,Nat.testBit_xor]
 split
 .rfl
 .rename_i h;rw[AU b h,Bool.xor_false]
section
variable (n c m : Nat)
theorem wrap32(x:Nat)(h:x<2147483648):IntKind.i32.wrap (x:Int)=x:=by unfold IntKind.wrap;simp[IntKind.signed,IntKind.bits];omega
theorem NQ(x:Nat):BitVec.ofInt 32 (x:Int)=BitVec.ofNat 32 x:=by simp
theorem oU(d:n<=131073)(h:c<8)(a:m<8):bits .and .i32 ((8*n+c:Nat):Int) (m:Int)=((c&&&m:Nat):Int):=by
 have b:c&&&m<8:=Nat.lt_of_le_of_lt Nat.and_le_left h;have e:((BitVec.ofInt 32 ((8*n+c:Nat):Int)&&&BitVec.ofInt 32 (m:Int)).toNat)=c&&&m:=by rw[NQ,NQ,BitVec.toNat_and,BitVec.toNat_ofNat,BitVec.toNat_ofNat,eP Q0,eP Q0,Ll n c m h a]
 show IntKind.i32.wrap (((BitVec.ofInt 32 ((8*n+c:Nat):Int)&&&BitVec.ofInt 32 (m:Int)).toNat:Nat):Int)=_;rw[e,wrap32 _ Q0]
theorem Eh(b:n<=131073)(h:c<8)(a:m<8)(o:c|||m<8):bits .or .i32 ((8*n+c:Nat):Int) (m:Int)=((8*n+(c|||m):Nat):Int):=by
 have e:((BitVec.ofInt 32 ((8*n+c:Nat):Int)|||BitVec.ofInt 32 (m:Int)).toNat)=8*n+(c|||m):=by rw[NQ,NQ,BitVec.toNat_or,BitVec.toNat_ofNat,BitVec.toNat_ofNat,eP Q0,eP Q0,Yk n c m h a o]
 show IntKind.i32.wrap (((BitVec.ofInt 32 ((8*n+c:Nat):Int)|||BitVec.ofInt 32 (m:Int)).toNat:Nat):Int)=_;rw[e,wrap32 _ Q0]
theorem NR{k:Nat}(a b:BitVec k):a&&& ~~~b=a^^^(a&&&b):=by apply BitVec.eq_of_getElem_eq;intro i h;simp only[BitVec.getElem_and,BitVec.getElem_not,BitVec.getElem_xor];cases a[i]<;>cases b[i]<;>rfl
theorem GI(d:n<=131073)(h:c<8)(b:m<8)(o:c^^^(c&&&m)<8):bits .andNot .i32 ((8*n+c:Nat):Int) (m:Int)=((8*n+(c^^^(c&&&m)):Nat):Int):=by
 have a:c&&&m<8:=Nat.lt_of_le_of_lt Nat.and_le_left h;have e:((BitVec.ofInt 32 ((8*n+c:Nat):Int)&&& ~~~BitVec.ofInt 32 (m:Int)).toNat)=8*n+(c^^^(c&&&m)):=by rw[NR,NQ,NQ,BitVec.toNat_xor,BitVec.toNat_and,BitVec.toNat_ofNat,BitVec.toNat_ofNat,eP Q0,eP Q0,Ll n c m h b,UL n c _ h a o]
 show IntKind.i32.wrap (((BitVec.ofInt 32 ((8*n+c:Nat):Int)&&& ~~~BitVec.ofInt 32 (m:Int)).toNat:Nat):Int)=_;rw[e,wrap32 _ Q0]
end
def Wd.c(W:Wd):Nat:=W.l.toNat+2*W.k.toNat+4*W.v.toNat
theorem Wd.int_eq(W:Wd):W.int=((8*W.n+W.c:Nat):Int):=by simp only[Wd.int,Wd.c];omega
theorem Wd.wO(W:Wd):W.c<8:=by have:=Bool.toNat_le W.l;have:=Bool.toNat_le W.k;have:=Bool.toNat_le W.v;simp only[Wd.c];omega
theorem Wd.shr(W:Wd):W.int/8=W.n:=by rw[Wd.int_eq];have:=W.wO;omega
section
variable {l k v : Bool} {n : Nat}
theorem zo(a:n<=131073):bits .and .i32 (Wd.int ⟨l,k,v,n⟩) 1=(l.toNat:Int):=by have h:=oU n (Wd.c ⟨l,k,v,n⟩) 1 a (Wd.wO _) Q0;rw[Wd.int_eq];refine Eq.trans h ?_;cases l<;>cases k<;>cases v<;>simp[Wd.c]
theorem Lp(a:n<=131073):bits .and .i32 (Wd.int ⟨l,k,v,n⟩) 2=2*(k.toNat:Int):=by have h:=oU n (Wd.c ⟨l,k,v,n⟩) 2 a (Wd.wO _) Q0;rw[Wd.int_eq];refine Eq.trans h ?_;cases l<;>cases k<;>cases v<;>simp[Wd.c]
theorem UM(a:n<=131073):bits .and .i32 (Wd.int ⟨l,k,v,n⟩) 3=(l.toNat:Int)+2*(k.toNat:Int):=by have h:=oU n (Wd.c ⟨l,k,v,n⟩) 3 a (Wd.wO _) Q0;rw[Wd.int_eq];refine Eq.trans h ?_;cases l<;>cases k<;>cases v<;>simp[Wd.c]
theorem zq(a:n<=131073):bits .and .i32 (Wd.int ⟨l,k,v,n⟩) 4=4*(v.toNat:Int):=by have h:=oU n (Wd.c ⟨l,k,v,n⟩) 4 a (Wd.wO _) Q0;rw[Wd.int_eq];refine Eq.trans h ?_;cases l<;>cases k<;>cases v<;>simp[Wd.c]
theorem UN(a:n<=131073):bits .and .i32 (Wd.int ⟨l,k,v,n⟩) 5=(l.toNat:Int)+4*(v.toNat:Int):=by have h:=oU n (Wd.c ⟨l,k,v,n⟩) 5 a (Wd.wO _) Q0;rw[Wd.int_eq];refine Eq.trans h ?_;cases l<;>cases k<;>cases v<;>simp[Wd.c]
theorem zu(a:n<=131073):bits .and .i32 (Wd.int ⟨l,k,v,n⟩) 7=(l.toNat:Int)+2*(k.toNat:Int)+4*(v.toNat:Int):=by have h:=oU n (Wd.c ⟨l,k,v,n⟩) 7 a (Wd.wO _) Q0;rw[Wd.int_eq];refine Eq.trans h ?_;cases l<;>cases k<;>cases v<;>simp[Wd.c]
theorem Yl(a:n<=131073):bits .or .i32 (Wd.int ⟨l,k,v,n⟩) 1=Wd.int ⟨true,k,v,n⟩:=by have h:=Eh n (Wd.c ⟨l,k,v,n⟩) 1 a (Wd.wO _) Q0 Z4;rw[Wd.int_eq,Wd.int_eq];refine Eq.trans h ?_;cases l<;>cases k<;>cases v<;>simp[Wd.c]
theorem QH(a:n<=131073):bits .or .i32 (Wd.int ⟨l,k,v,n⟩) 2=Wd.int ⟨l,true,v,n⟩:=by have h:=Eh n (Wd.c ⟨l,k,v,n⟩) 2 a (Wd.wO _) Q0 Z4;rw[Wd.int_eq,Wd.int_eq];refine Eq.trans h ?_;cases l<;>cases k<;>cases v<;>simp[Wd.c]
theorem Ym(a:n<=131073):bits .or .i32 (Wd.int ⟨l,k,v,n⟩) 4=Wd.int ⟨l,k,true,n⟩:=by have h:=Eh n (Wd.c ⟨l,k,v,n⟩) 4 a (Wd.wO _) Q0 Z4;rw[Wd.int_eq,Wd.int_eq];refine Eq.trans h ?_;cases l<;>cases k<;>cases v<;>simp[Wd.c]
theorem Lr(a:n<=131073):bits .andNot .i32 (Wd.int ⟨l,k,v,n⟩) 2=Wd.int ⟨l,false,v,n⟩:=by have h:=GI n (Wd.c ⟨l,k,v,n⟩) 2 a (Wd.wO _) Q0 Z4;rw[Wd.int_eq,Wd.int_eq];refine Eq.trans h ?_;cases l<;>cases k<;>cases v<;>simp[Wd.c]
theorem UO(a:n<=131072):IntKind.i32.wrap (Wd.int ⟨l,k,v,n⟩+8)=Wd.int ⟨l,k,v,n+1⟩:=by have h:=Wd.wO ⟨l,k,v,n⟩;rw[show Wd.int ⟨l,k,v,n⟩+8=((8*(n+1)+Wd.c ⟨l,k,v,n⟩:Nat):Int)by rw[Wd.int_eq];simp only[Wd.c];omega,wrap32 _ Q0,Wd.int_eq];rfl
theorem AV:Wd.int ⟨l,k,v,n⟩/8=(n:Int):=Wd.shr _
end
structure KS(ty:bf)(F:Ph)(L:Lk)(O:aD)(Fx:au->Prop)(aX:Nat)(old:Wd)(κ:Nat)(w:au):Prop where
 q:KQ ty F L O Fx w
 k:κ<=aX
 m:κ=aX->∃s,MuAt L old s w
section
variable {ty : bf} {F : Ph} {L : Lk} {i : Nat} {γ : Gh} {aX κ bF : Nat} {O : aD} {C : au -> Prop} {w u : au} {old W : Wd} {s : Nat}
theorem KS.rely(h:KS ty F L O C aX old κ w)(b:F.lk=some L)(a:FC F γ.Z O C)(r:fA ty F i γ O κ w bF u):KS ty F L O C aX old bF u:=by refine⟨h.q.rely b a r,bY r.k h.k,λe=>?_⟩;have d:=r.k;have f:=h.k;obtain⟨s,c⟩:=h.m Q0;exact⟨s,r.m L b Q0 _ _ c⟩
theorem MuAt.word{c:Nat}(h:MuAt L W s u)(b:MuAt L old c u):W=old:=by have:=h.mu.symm.trans b.mu;injection this with e;injection e with d a;exact Wd.int_inj a
theorem KS.miss(h:KS ty F L O C aX old κ u)(M:MuAt L W s u)(n:W≠old):κ<aX:=by
 have c:=h.k;obtain a|a:=jY κ aX
 .exact a
 obtain⟨d,b⟩:=h.m Q0;exact aF (M.word b) n
end
variable [Payload] [Zb]
structure KH(ty:bf)(F:Ph)(L:Lk)(O G Z:aD)(Fx:au->Prop)(w:au):Prop where
 got:Got F L O G Z w
 q:KQ ty F L O Fx w
section
variable {P : Program} {ty : bf} {F : Ph} {L : Lk} {i : Nat} {γ : Gh} {κ bF : Nat} {O G Z : aD} {C : au -> Prop} {g : dN} {w u : au} {T : Lt} {d : Nat}
theorem KH.bd(h:KH ty F L O G Z C w):∀b,O b\/G b->b<w.heap.size:=λb a=>a.elim (h.q.bd b) λx=>(h.got.g b x).1
theorem FC.any(h:FC F (λ_=>False) O C)(Z:aD):FC F Z O C:=λw u r=>h w u ⟨r.size,λb a=>r.keep b (a.imp id λx=>.inl (x.elim id False.elim)),r.os⟩
theorem KH.rely(h:KH ty F L O G Z C w)(e:F.lk=some L)(c:FC F Z O C)(r:fA ty F i ⟨T,true,Z,d⟩ (λb=>O b\/G b) κ w bF u):KH ty F L O G Z C u:=by have s:=r.o.size;refine⟨⟨L.iG G Z w u (λb a=>r.o.keep b (a.elim (λx=>.inl (.inr x)) λx=>.inr (.inr x))) (r.g L e rfl) h.got.j,λb a=>⟨bG (h.got.g b a).1 s,(h.got.g b a).2⟩,λb a=>⟨bG (h.got.z b a).1 s,(h.got.z b a).2⟩⟩,?_⟩;exact⟨c w u ⟨s,λb a=>r.o.keep b (a.imp .inl id),r.o.os⟩ h.q.fx,r.r.live h.q.live,r.r.pay h.q.pay,λb a=>bG (h.q.bd b a) s,r.l L e h.q.mu⟩
theorem bS.en(r:g.status=.running)(d:γ.df=1)(h:∀bF u,fA ty F i γ O κ w bF u->∃a,stepG P false g u=.go a u #[Go.ConcR.mk .enable]/\bS P ty F i {γ with df:=0} bF O a u):bS P ty F i γ κ O g w:=.mk (.en r d h)
theorem bS.CK(r:g.status=.running)(d:γ.df=0)(h:∀bF u,fA ty F i γ O κ w bF u->∃a,stepG P false g u=.go a u #[Go.ConcR.mk .disable]/\bS P ty F i {γ with df:=1} bF O a u):bS P ty F i γ κ O g w:=.mk (.CK r d h)
theorem bS.acq(f:F.lk=some L)(s:FC F (λ_=>False) O C)(k:KQ ty F L O C w)(p:g.status=.running)(m:γ.T=.hold)(o:γ.ow=false)(n:γ.df=0)
 (h:∀bF u G Z,KH ty F L O G Z C u->∃a,stepG P false g u=.go a u #[Go.ConcR.mk (.acquire L.mu)]/\bS P ty F i ⟨.hold,true,Z,0⟩ bF (λb=>O b\/G b) a u)
 (q:∀u,∃a,stepG P false g u=.go a u #[Go.ConcR.mk (.acquire L.mu)]):bS P ty F i γ κ O g w:=by
 refine .mk (.acq f p m o n λbF u r=>?_);obtain⟨a,c⟩:=q u;refine⟨a,c,λG Z l=>?_⟩;obtain⟨d,e,j⟩:=h bF u G Z ⟨l,k.rely f (s.any _) r⟩;rw[c]at e;cases e;exact j
structure Ei(ty:bf)(F:Ph)(i:Nat)(γ:Gh)(O:aD)(K:Nat->au->Prop):Prop where
 bd:∀κ w,K κ w->∀b,O b->b<w.heap.size
 rely:∀κ w bF u,K κ w->fA ty F i γ O κ w bF u->K bF u
variable {K : Nat -> au -> Prop} {g' : dN}
theorem kF(a:F.lk=some L)(s:FC F γ.Z O C):Ei ty F i γ O λ_ w=>KQ ty F L O C w:=⟨λ_ _ h=>h.bd,λ_ _ _ _ h r=>h.rely a s r⟩
theorem dZ(a:F.lk=some L)(s:FC F γ.Z O C){aX:Nat}{old:Wd}:Ei ty F i γ O λκ w=>KS ty F L O C aX old κ w:=⟨λ_ _ h=>h.q.bd,λ_ _ _ _ h r=>h.rely a s r⟩
theorem UQ(a:F.lk=some L)(s:FC F Z O C):Ei ty F i ⟨T,true,Z,d⟩ (λb=>O b\/G b) λ_ w=>KH ty F L O G Z C w:=⟨λ_ _ h=>h.bd,λ_ _ _ _ h r=>h.rely a s r⟩
theorem Ei.step(R:Ei ty F i γ O K)(a:K κ w)(b:g.status=.running)(h:∀κ u,K κ u->(stepG P false g u).goes λg' c s=>c=u/\(∀e∈s,False)/\bS P ty F i γ κ O g' u):bS P ty F i γ κ O g w:=bS.goes (R.bd _ _ a) b λbF u r=>h bF u (R.rely _ _ _ _ a r)
end
end
section
open Go Go.Conc Go.ConcN
open Go.ConcR (Payload)
variable [Payload] [Zb] {P : Program} {ty : bf} {F : Ph} {L : Lk} {i : Nat} {γ : Gh} {κ bF : Nat} {O : aD} {g : dN} {w : au}
theorem bS.aeI(r:F.lk=some L)(x:g.status=.running)(t:γ.df=1)(v:γ.ow=false)(old new:Wd)
 (m:∀bF u s,fA ty F i γ O κ w bF u->MuAt L old s u->old.n<=131072->Lf γ.T old->∃h f,Lm γ.T old s f new s/\stepG P false g u=.go h (u.setCell L.mu (.int .i32 new.int)) #[⟨.cell L.mu,false,true⟩,⟨.cell L.mu,true,true⟩]/\∀d,d<=bF->(new≠old->d<bF)->bS P ty F i {γ with T:=f} d O h (u.setCell L.mu (.int .i32 new.int)))
 (miss:∀bF u W s,fA ty F i γ O κ w bF u->MuAt L W s u->W≠old->W.n<=131072->Lf γ.T W->∃h f,Lm γ.T W s f W s/\stepG P false g u=.go h u #[⟨.cell L.mu,false,true⟩]/\∀d,d<=bF->bS P ty F i {γ with T:=f} d O h u):bS P ty F i γ κ O g w:=by
 refine .mk (.lock r x t v λbF u q W s M p y o=>?_);by_cases e:W=old
 .subst e;obtain⟨h,f,j,k,l⟩:=m bF u s q M p o;exact⟨h,_,_,f,new,s,j,k,Eff.set (.inl rfl) _,M.setMu new,qx _ (.inl rfl),rfl,.inl (aS _),λd a b=>l d a λc=>b (.inl c)⟩
 .obtain⟨h,f,j,k,l⟩:=miss bF u W s q M e p o;exact⟨h,u,_,f,W,s,j,k,.refl u,M,QG _ (.inl rfl),rfl,.inl (aS _),λd a _=>l d a⟩
theorem bS.wake(k:F.lk=some L)(r:g.status=.running)(l:γ.T=.us)(m:γ.df=1)(o:γ.ow=false)(hw:mayWake P g=true)
 (h:∀bF u W s,fA ty F i γ O κ w bF u->MuAt L W s u->s<=1->∃b,stepG P false g u=.go b (u.setCell L.sm (.int .u32 ((s+1:Nat):Int))) (semEvents L.sm)/\b.status=.running/\∀a,bS P ty F i {γ with T:=.done} a O b (u.setCell L.sm (.int .u32 ((s+1:Nat):Int)))):bS P ty F i γ κ O g w:=by
 refine .mk (.lock k r m o λbF u p W s M t n q=>?_);obtain⟨b,d,f,j⟩:=h bF u W s p M n;refine⟨b,_,_,.done,W,s+1,by rw[l];exact .rel,d,Eff.set (.inr rfl) _,M.setSm (s+1),?_,rfl,.inr ⟨hw,f⟩,λa _ _=>j a⟩;intro e c;simp[semEvents]at c;obtain rfl|rfl|rfl|rfl:=c
 .exact .inl rfl
 .exact .inr (.inr ⟨_,_,rfl,.inr rfl⟩)
 .exact .inr (.inr ⟨_,_,rfl,.inr rfl⟩)
 .exact .inr (.inl rfl)
end
section
open Go Go.Conc Go.ConcN
open Go.ConcR (Payload)
variable [Payload] [Zb]
def Rls(P:Program)(ty:bf)(F:Ph)(L:Lk)(i:Nat)(Z O:aD)(u:au)(g:dN):Prop:=∃(Gd Z' O':aD)(Fx:au->Prop),L.J Gd (λb=>Z b\/Z' b) u/\(∀b,Gd b->O b/\¬Z' b)/\(∀b,Z' b->O b)/\(∀b,O' b->O b/\¬Gd b/\¬Z' b)/\FC F (λb=>Z b\/Z' b) O' Fx/\(∀b,O' b\/F.Sh b\/(Z b\/Z' b)\/b=F.Wg\/b=F.C->b≠L.B)/\KQ ty F L O' Fx u/\∀κ u,KQ ty F L O' Fx u->bS P ty F i ⟨.done,false,λb=>Z b\/Z' b,0⟩ κ O' g u
variable [Payload] [Zb]
section
variable {P : Program} {ty : bf} {F : Ph} {L : Lk} {i : Nat} {γ : Gh} {κ bF : Nat} {O I : aD} {g g' : dN} {w u v : au} {K : Nat -> au -> Prop}
theorem mV.refl(a:∀b,O b->b<u.heap.size):mV F i γ O O u u:=⟨λb h=>h,λb h=>.inl h,a,aS _,λ_ _ _ _ _=>rfl,rfl,rfl,rfl,id,λ_ _=>rfl,λ_ _ _ _ h=>h⟩
theorem Ei.stepW(R:Ei ty F i γ O K)(f:K κ w)(j:g.status=.running)(h:∀κ u,K κ u->(stepG P false g u).goes λg' a s=>∃I,mV F i γ O I u a/\(∀e∈s,EvW F i γ I e)/\bS P ty F i γ κ I g' a):bS P ty F i γ κ O g w:=by
 refine .mk (.idle j λbF u r=>?_);have x:=h bF u (R.rely _ _ _ _ f r);cases e:stepG P false g u with
 |go g' a s=>rw[e]at x;simp only[goes_go]at x;obtain⟨I,b,c,d⟩:=x;exact⟨g',a,s,I,rfl,b,c,d⟩
 |_=>rw[e]at x;exact x.elim
theorem Ei.bK(R:Ei ty F i γ O K)(d:K κ w)(f:g.status=.running)(h:∀κ u,K κ u->(stepG P false g u).goes λg' a s=>a=u/\(∀e∈s,EvW F i γ O e)/\bS P ty F i γ κ O g' u):bS P ty F i γ κ O g w:=by
 refine .mk (.idle f λbF u r=>?_);have k:=R.rely _ _ _ _ d r;have x:=h bF u k;cases e:stepG P false g u with
 |go g' a s=>rw[e]at x;simp only[goes_go]at x;obtain⟨rfl,b,c⟩:=x;exact⟨g',a,s,O,rfl,.refl (R.bd _ _ k),b,c⟩
 |_=>rw[e]at x;exact x.elim
theorem kZ(l:∀b,O b->b<u.heap.size)(o:Obj)(c:F.C<u.heap.size)(j:∀L,F.lk=some L->L.B<u.heap.size):mV F i γ O (λb=>O b\/b=u.heap.size) u (u.alloc o):=by
 have k:∀b,b<u.heap.size->(u.alloc o).heap[b]? =u.heap[b]? :=λb h=>yU u o b h;have m:(u.alloc o).heap.size=u.heap.size+1:=by simp
 refine⟨λb h=>.inl h,λb h=>h.imp id λe=>Q0,λb h=>by rw[m];obtain h|rfl:=h;have:=l b h;omega;omega,Q0,λb h _ _ _=>k b h,rfl,rfl,rfl,?_,λn _=>cell_of_block (k _ c) _,λL a W s M=>M.of_block (k _ (j L a))⟩;rintro⟨d,f,g⟩;exact⟨d,(k _ c).trans f,g⟩
theorem oV{a:Nat}(n:∀b,O b->b<u.heap.size)(p:O a)(f:a≠F.C)(m:∀L,F.lk=some L->a≠L.B)(q:v.heap.size=u.heap.size)(k:∀b,b≠a->v.heap[b]? =u.heap[b]?)(t:v.tape=u.tape)(d:v.os=u.os)(o:v.output=u.output):mV F i γ O O u v:=by refine⟨λb h=>h,λb h=>.inl h,λb h=>by rw[q];exact n b h,Q0,λb _ h _ _=>k b λe=>h (e▸p),t,d,o,?_,λr _=>cell_of_block (k _ f.symm) _,λL c W s M=>M.of_block (k _ (m L c).symm)⟩;rintro⟨g,j,l⟩;exact⟨g,(k _ f.symm).trans j,l⟩
theorem QI(n:∀b,O b->b<u.heap.size)(l:F.lk=some L)(o:γ.ow=true)(g:L.B≠F.C){j:Nat}(d:j≠L.e)(f:j≠L.e+1)(x:aA):mV F i γ O O u (u.setCell (aB L.B j) x):=by
 have a:=aside_setCell u ⟨L.B,j,none⟩ x;have k:∀b,b≠L.B->(u.setCell (aB L.B j) x).heap[b]? =u.heap[b]? :=λb h=>a.block b h;refine⟨λb h=>h,λb h=>.inl h,λb h=>by rw[a.size];exact n b h,by rw[a.size];exact aS _,λb _ _ _ h=>k b (h L l o),a.tape,a.os,a.output,?_,λq _=>cell_of_block (k _ g.symm) _,λp c W s M=>?_⟩
 .rintro⟨m,d,f⟩;exact⟨m,(k _ g.symm).trans d,f⟩
 .rw[l]at c;cases c;exact⟨(World.cell?_setCell_other _ _ _ _ (by simp[Lk.mu,d])).trans M.mu,(World.cell?_setCell_other _ _ _ _ (by simp[Lk.sm,f])).trans M.sm,Jj M.ro _⟩
end
theorem Ls[Payload][Zb]{b:Type}{ops:Array Oper}{R:List Nat->b->Prop}{Inv:Array Bool->b->Prop}
 (step:∀(l:Array Bool)(s:b)(i:Nat)(r:List Nat),l.size=ops.size->Inv l s->i∈Region.ready .any ops l->(∀e,Inv (l.setIfInBounds i true) e->R r e)->R (i::r) s)
 (fin:∀(l:Array Bool)(s:b),l.size=ops.size->Inv l s->Region.ready .any ops l=[]->R [] s):
 ∀(f t:Nat)(l:Array Bool)(s:b),l.size=ops.size->Te ops.size l<=f->Inv l s->R (Region.linearise.go .any ops f t l []) s:=by
 intro f
 induction f with
 |zero=>intro t l s h k I;refine fin l s h I ?_;apply List.eq_nil_iff_forall_not_mem.2;intro i a;obtain⟨c,d,_⟩:=kE a;rw[Gy Q0 c]at d;cases d
 |succ f o=>
  intro t l s h k I;simp only[Region.linearise.go];change R (match(Region.ready .any ops l)[t%(Region.ready .any ops l).length]? with
   |some i=>Region.linearise.go .any ops f (t/(Region.ready .any ops l).length) (l.setIfInBounds i true) [i]
   |none=>[].reverse) s
  cases a:(Region.ready .any ops l)[t%(Region.ready .any ops l).length]? with
  |none=>
   refine fin l s h I ?_;cases n:Region.ready .any ops l with
   |nil=>rfl
   |cons x xs=>rw[n]at a;have j:t%(x::xs).length<(x::xs).length:=Nat.mod_lt _ X0;simp at a;simp at j;omega
  |some i=>have m:=List.mem_of_getElem? a;obtain⟨c,d,_⟩:=kE m;simp only[];rw[linearise_go_acc,List.reverse_singleton,List.singleton_append];refine step l s i _ h I m λe g=>?_;refine o _ _ e (by simp[h]) ?_ g;have:=Le c (by rw[h];exact c) d;omega
theorem QJ[Payload][Zb](n:Nat)(l:Array Bool):Te n l<=n:=by
 unfold Te
 induction n with
 |zero=>exact aS _
 |succ n i=>
  simp only[sumTo]
  split<;>omega
section
variable [Payload] [Zb] {P : Program} {ty : bf} {F : Ph} {i : Nat} {γ : Gh} {κ : Nat} {O : aD} {w : au} {K : Nat -> au -> Prop}
theorem Ei.drawn(p:Ei ty F i γ O K)(A:K κ w)(q:∀κ u,K κ u->K κ {u with drawn:=u.drawn+1}){b:Frame}{a:Act}{k:List Item}{cs:List Frame}{v:Nat}{o:Array Oper}(B:P.follows .mixedOrders=true)
 {Inv:Array Bool->Act×Nat×(aD)×au->Prop}(y:∀κ u,K κ u->Inv (Array.replicate o.size false) (a,κ,O,u))
 (step:∀(l:Array Bool)(a:Act)(κ:Nat)(O:aD)(w:au)(j:Nat)(e:List Nat),l.size=o.size->Inv l (a,κ,O,w)->j∈Region.ready .any o l->(∀n c m x,Inv (l.setIfInBounds j true) (n,c,m,x)->bS P ty F i γ c m (G (b.at n (aT o e::k)) cs) x)->bS P ty F i γ κ O (G (b.at a (aT o (j::e)::k)) cs) w)
 (fin:∀(l:Array Bool)(a:Act)(κ:Nat)(O:aD)(w:au),l.size=o.size->Inv l (a,κ,O,w)->Region.ready .any o l=[]->bS P ty F i γ κ O (G (b.at a (aT o []::k)) cs) w):
 bS P ty F i γ κ O (G (b.at a (.code (.region v o true)::k)) cs) w:=by
 refine .mk (.idle rfl λc u r=>?_);have t:=p.rely _ _ _ _ A r;refine⟨_,_,_,O,stepG_region_draw,⟨λb h=>h,λb h=>.inl h,p.bd _ _ (q _ _ t),aS _,λ_ _ _ _ _=>rfl,rfl,rfl,rfl,λh=>h,λ_ _=>rfl,λ_ _ _ _ h=>⟨h.mu,h.sm,h.ro⟩⟩,X0,?_⟩;have:=Ls (ops:=o) (R:=λl(s:Act×Nat×(aD)×au)=>bS P ty F i γ s.2.1 s.2.2.1 (G (b.at s.1 (aT o l::k)) cs) s.2.2.2) (Inv:=Inv)
  (λl s j e d f g z=>step l s.1 s.2.1 s.2.2.1 s.2.2.2 j e d f g λa κ O w I=>z (a,κ,O,w) I) (λl s d f g=>fin l s.1 s.2.1 s.2.2.1 s.2.2.2 d f g)
  o.size (u.tape u.drawn (.order b.fn v)) (Array.replicate o.size false) (a,c,O,{u with drawn:=u.drawn+1}) X0 (QJ _ _) (y c _ (q _ _ t))
 simpa[Region.schedule,B,Region.linearise]using this
end
variable [Payload] [Zb]
structure Asp(F:Ph)(L:Lk)(O Z:aD):Prop where
 o:∀b,O b->b≠L.B/\b≠F.C/\b≠F.Wg/\¬F.Sh b/\¬Z b
 z:∀b,F.Sh b\/Z b->b≠L.B/\b≠F.C/\b≠F.Wg
 bc:L.B≠F.C
 bw:L.B≠F.Wg
 cw:F.Wg≠F.C
structure KR(ty:bf)(F:Ph)(L:Lk)(O Z:aD)(Fx:au->Prop)(w:au):Prop where
 q:KQ ty F L O Fx w
 zb:∀b,F.Sh b\/Z b->b<w.heap.size
 ap:Asp F L O Z
def Yp(F:Ph)(L:Lk)(ow:Bool)(Z O:aD)(Fx:au->Prop):Prop:=∀w u,bB (λb=>F.Sh b\/Z b) O w u->(ow=true->∀j,j≠L.e->j≠L.e+1->u.cell? (aB L.B j)=w.cell? (aB L.B j))->Fx w->Fx u
section
variable {P : Program} {ty : bf} {F : Ph} {L : Lk} {i : Nat} {γ : Gh} {κ bF : Nat} {O I H Z : aD} {C V : au -> Prop} {g g' : dN} {w u v : au}
theorem KR.QK(h:KR ty F L O Z C w):L.B<w.heap.size:=by
 obtain⟨W,s,M⟩:=h.q.mu;obtain⟨c,e,z,a⟩:∃c e z,w.heap[L.B]? =some (.cells c e z):=by
  have:=M.mu;unfold World.cell? at this;cases e:w.heap[L.mu.block]? with
  |none=>rw[e]at this;cases this
  |some o=>rw[e]at this;cases o with
   |cells c t z=>exact⟨c,t,z,e⟩
   |_=>cases this
 exact(bJ.1 a).1
theorem KR.Yn(h:KR ty F L O Z C w):F.C<w.heap.size:=by obtain⟨s,c,_⟩:=h.q.pay;exact(bJ.1 c).1
theorem KR.ltW(h:KR ty F L O Z C w):F.Wg<w.heap.size:=by obtain⟨st,sm,hw⟩:=h.q.live;exact(bJ.1 hw).1
theorem KR.rely(h:KR ty F L O γ.Z C w)(c:F.lk=some L)(s:Yp F L γ.ow γ.Z O C)(r:fA ty F i γ O κ w bF u):KR ty F L O γ.Z C u:=⟨⟨s w u r.o (λe=>r.g L c e) h.q.fx,r.r.live h.q.live,r.r.pay h.q.pay,λb a=>bG (h.q.bd b a) r.o.size,r.l L c h.q.mu⟩,λb a=>bG (h.zb b a) r.o.size,h.ap⟩
theorem dY(a:F.lk=some L)(s:Yp F L γ.ow γ.Z O C):Ei ty F i γ O λ_ w=>KR ty F L O γ.Z C w:=⟨λ_ _ h=>h.q.bd,λ_ _ _ _ h r=>h.rely a s r⟩
theorem KR.fx(h:KR ty F L O Z C w)(f:V w):KR ty F L O Z V w:=⟨⟨f,h.q.live,h.q.pay,h.q.bd,h.q.mu⟩,h.zb,h.ap⟩
theorem KR.turn(h:KR ty F L O γ.Z C u)(d:F.lk=some L)(g:mV F i γ O I u v)(f:V v):KR ty F L I γ.Z V v:=by
 have kW:v.heap[F.Wg]? =u.heap[F.Wg]? :=g.frame _ h.ltW (λx=>(h.ap.o _ x).2.2.1 rfl) h.ap.cw λj a _ e=>by rw[d]at a;cases a;exact h.ap.bw e.symm
 refine⟨⟨f,?_,g.pay h.q.pay,g.bound,?_⟩,λb c=>bG (h.zb b c) g.size,λb c=>?_,h.ap.z,h.ap.bc,h.ap.bw,h.ap.cw⟩
 .obtain⟨st,sm,hw⟩:=h.q.live;exact⟨st,sm,hw.of_block kW⟩
 .obtain⟨W,s,M⟩:=h.q.mu;exact⟨W,s,g.mu L d W s M⟩
 .obtain x|x:=g.fresh b c
  .exact h.ap.o b x
  .have k:=h.QK;have l:=h.Yn;have m:=h.ltW;refine⟨Q0,Q0,Q0,λy=>?_,λy=>?_⟩
   .have:=h.zb b (.inl y);omega
   .have:=h.zb b (.inr y);omega
theorem bS.wK{Sh:aD}{S:(aD)->dN->au->Prop}{f:aD}(K:F.lk=some L)(v:∀b,Sh b->F.Sh b\/γ.Z b)(h:iK P false Sh S f g w)(z:Yp F L γ.ow γ.Z H C)(p:∀b,f b->¬H b)
 (N:KR ty F L (λb=>f b\/H b) γ.Z C w)
 (k:∀d bF g' u,S d g' u->(∀b,d b->¬H b)->KR ty F L (λb=>d b\/H b) γ.Z C u->bS P ty F i γ bF (λb=>d b\/H b) g' u):bS P ty F i γ κ (λb=>f b\/H b) g w:=by
 induction h generalizing κ with
 |@stop O g w h=>exact k O κ g w (h w (.refl _ _ _)) p N
 |@step O g w g' G U O' hr I J V _ ih=>
  have A:Yp F L γ.ow γ.Z (λb=>O b\/H b) C:=λw u r hg hf=>z w u ⟨r.size,λb c=>r.keep b (c.imp .inr id),r.os⟩ hg hf;refine .mk (.idle hr λbF u r=>?_);have E:bB Sh O w u:=⟨r.o.size,λb c=>r.o.keep b (c.imp .inl (v b)),r.o.os⟩;have n:=N.rely K A r;have l:=J u E;have keep:∀b,b<u.heap.size->¬O b->(G u).heap[b]? =u.heap[b]? :=λb=>l.frame b;have kC:=keep F.C n.Yn λx=>(n.ap.o _ (.inl x)).2.1 rfl;have R:=keep L.B n.QK λx=>(n.ap.o _ (.inl x)).1 rfl;have M:mV F i γ (λb=>O b\/H b) (λb=>O' u b\/H b) u (G u):=by
   refine⟨λb c=>c.imp (l.sub b) id,λb c=>?_,λb c=>?_,l.size,λb c hn _ _=>keep b c λx=>hn (.inl x),l.tape,l.os,l.output,?_,λi' _=>cell_of_block kC i',λL' t W s X=>?_⟩
   .obtain c|c:=c
    .exact(l.fresh b c).imp .inl id
    .exact .inl (.inr c)
   .obtain c|c:=c
    .exact l.bound b c
    .exact bG (n.q.bd b (.inr c)) l.size
   .rintro⟨T,I,J⟩;exact⟨T,kC.trans I,J⟩
   .rw[K]at t;cases t;exact X.of_block R
  refine⟨g' u,G u,U u,_,I u E,M,λe Y=>.inl ?_,ih u E (λb c Q=>?_) (n.turn K M (z u (G u) ⟨l.size,λb c=>?_,.of l.os⟩ (λ_ j _ _=>cell_of_block R j) n.q.fx))⟩
  .have:=V u E e Y;unfold qH at this ⊢;cases D:e.loc with
   |cell a=>rw[D]at this;exact⟨this.1,this.2.imp .inl λy=>⟨v _ y.1,y.2⟩⟩
   |obj r=>rw[D]at this;exact⟨this.1,.inl this.2⟩
   |output=>trivial
   |goroutines=>rw[D]at this;exact this
   |mark m=>rw[D]at this;cases m<;>exact this
  .obtain x|x:=l.fresh b c
   .exact p b x Q
   .have:=n.q.bd b (.inr Q);omega
  .obtain c|c:=c
   .exact keep b (n.q.bd b (.inr c)) λx=>p b x c
   .exact keep b (n.zb b c) λx=>by have:=n.ap.o b (.inl x);exact c.elim this.2.2.2.1 this.2.2.2.2
theorem bS.UR{Sh:aD}{S:(aD)->dN->au->Prop}(d:F.lk=some L)(s:∀b,Sh b->F.Sh b\/γ.Z b)(a:Yp F L γ.ow γ.Z H C)(c:KR ty F L H γ.Z C w)(h:iK P false Sh S (λ_=>False) g w)
 (k:∀O bF g' u,S O g' u->(∀b,O b->¬H b)->KR ty F L (λb=>O b\/H b) γ.Z C u->bS P ty F i γ bF (λb=>O b\/H b) g' u):bS P ty F i γ κ H g w:=by
 have e:(λb=>False\/H b)=H:=funext λb=>by simp
 have:=bS.wK (H:=H) (κ:=κ) (i:=i) (ty:=ty) d s h a (λ_ h=>h.elim) (by rw[e];exact c) k;rw[e]at this;exact this
theorem jR{a:Addr}{x:Bool}(h:O a.block):EvW F i γ O ⟨.cell a,x,false⟩:=.inl ⟨rfl,.inl h⟩
theorem jS{a:Addr}(h:F.Sh a.block\/γ.Z a.block):EvW F i γ O ⟨.cell a,false,false⟩:=.inl ⟨rfl,.inr ⟨h,rfl⟩⟩
theorem Lu{r:Nat}{x:Bool}(h:O r):EvW F i γ O ⟨.obj r,x,false⟩:=.inl ⟨rfl,h⟩
theorem AX{j:Nat}{x:Bool}(b:F.lk=some L)(o:γ.ow=true)(h:j≠L.e)(a:j≠L.e+1):EvW F i γ O ⟨.cell ⟨L.B,j,none⟩,x,false⟩:=.inr (.inr ⟨L,b,o,⟨j,h,a,rfl⟩,rfl⟩)
end
section
variable [Payload] [Zb] {P : Program} {ty : bf} {F : Ph} {L : Lk} {i : Nat} {γ : Gh} {κ : Nat} {O Z : aD} {C : au -> Prop} {w u : au} {K : Nat -> au -> Prop}
theorem Ei.Yo(t:Ei ty F i γ O K)(C:K κ w)(v:∀κ u,K κ u->K κ {u with drawn:=u.drawn+1}){b:Frame}{a:Act}{k:List Item}{d:List Frame}{y:Nat}{o:Array Oper}(D:P.follows .mixedOrders=true)
 {Inv:Array Bool->Gh×Act×Nat×(aD)×au->Prop}(A:∀κ u,K κ u->Inv (Array.replicate o.size false) (γ,a,κ,O,u))
 (step:∀(l:Array Bool)(γ:Gh)(a:Act)(κ:Nat)(O:aD)(w:au)(j:Nat)(e:List Nat),l.size=o.size->Inv l (γ,a,κ,O,w)->j∈Region.ready .any o l->(∀f q c p z,Inv (l.setIfInBounds j true) (f,q,c,p,z)->bS P ty F i f c p (G (b.at q (aT o e::k)) d) z)->bS P ty F i γ κ O (G (b.at a (aT o (j::e)::k)) d) w)
 (fin:∀(l:Array Bool)(γ:Gh)(a:Act)(κ:Nat)(O:aD)(w:au),l.size=o.size->Inv l (γ,a,κ,O,w)->Region.ready .any o l=[]->bS P ty F i γ κ O (G (b.at a (aT o []::k)) d) w):
 bS P ty F i γ κ O (G (b.at a (.code (.region y o true)::k)) d) w:=by
 refine .mk (.idle rfl λc u r=>?_);have x:=t.rely _ _ _ _ C r;refine⟨_,_,_,O,stepG_region_draw,⟨λb h=>h,λb h=>.inl h,t.bd _ _ (v _ _ x),aS _,λ_ _ _ _ _=>rfl,rfl,rfl,rfl,λh=>h,λ_ _=>rfl,λ_ _ _ _ h=>⟨h.mu,h.sm,h.ro⟩⟩,X0,?_⟩;have:=Ls (ops:=o) (R:=λl(s:Gh×Act×Nat×(aD)×au)=>bS P ty F i s.1 s.2.2.1 s.2.2.2.1 (G (b.at s.2.1 (aT o l::k)) d) s.2.2.2.2) (Inv:=Inv)
  (λl s j e g m n B=>step l s.1 s.2.1 s.2.2.1 s.2.2.2.1 s.2.2.2.2 j e g m n λγ a κ O w I=>B (γ,a,κ,O,w) I) (λl s g m n=>fin l s.1 s.2.1 s.2.2.1 s.2.2.2.1 s.2.2.2.2 g m n)
  o.size (u.tape u.drawn (.order b.fn y)) (Array.replicate o.size false) (γ,a,c,O,{u with drawn:=u.drawn+1}) X0 (QJ _ _) (A c _ (v _ _ x))
 simpa[Region.schedule,D,Region.linearise]using this
theorem Lv(p:PayAt F.C F.n u)(j:i<F.n)(x:aA):(∃c,u.cell? (aB F.C i)=some c)/\u.frozen? (aB F.C i)=false/\PayAt F.C F.n (u.setCell (aB F.C i) x)/\Has F.C i x (u.setCell (aB F.C i) x)/\∀e,e≠i->(u.setCell (aB F.C i) x).cell? (aB F.C e)=u.cell? (aB F.C e):=by
 obtain⟨s,b,g⟩:=p;have a:u.cell? (aB F.C i)=some (s.getD i ak):=by simp[World.cell?,b,Array.getD,g,j]
 have d:=setCell_eq_setRow u F.C i s Payload.ety (0,0) x b;have h:(u.setCell (aB F.C i) x).heap[F.C]? =some (.cells (s.setIfInBounds i x) Payload.ety):=by rw[d,setRow_heap u F.C _ _ Payload.ety _ b]
 refine⟨⟨_,a⟩,by simp[World.frozen?,b],⟨_,h,by simp[g]⟩,by simp[Has,World.cell?,h,g,j],λe f=>?_⟩;simp[World.cell?,h,b,jN (Ne.symm f)]
theorem UU(c:KR ty F L O γ.Z C u)(g:F.lk=some L)(k:i<F.n)(x:aA):mV F i γ O O u (u.setCell (aB F.C i) x):=by have d:=aside_setCell u ⟨F.C,i,none⟩ x;obtain⟨_,_,e,_,f⟩:=Lv (i:=i) c.q.pay k x;refine⟨λ_ h=>h,λ_ h=>.inl h,λb h=>by rw[d.size];exact c.q.bd b h,by rw[d.size];exact aS _,λb _ _ j _=>d.block b j,d.tape,d.os,d.output,λ_=>e,f,λl a W s M=>?_⟩;rw[g]at a;cases a;exact M.of_block (d.block _ c.ap.bc)
end
def GJ(P:Program)(K:Nat->au->Prop)(E:Event->Prop)(g g':dN):Prop:=∀R:dN->Prop,R g'->(∀g,g.status=.running->(∀κ u,K κ u->(stepG P false g u).goes λx w' es=>w'=u/\(∀e∈es,E e)/\R x)->R g)->R g
section
variable [Payload] [Zb] {P : Program} {K : Nat -> au -> Prop} {E : Event -> Prop} {g g' : dN}
theorem GJ.refl:GJ P K E g g:=λ_ h _=>h
theorem GJ.step(r:g.status=.running)(h:∀c u,K c u->(stepG P false g u).goes λx w s=>w=u/\(∀e∈s,E e)/\GJ P K E x g'):GJ P K E g g':=λR f d=>d g r λc u k=>goes_mono (h c u k) λx w s⟨a,b,k⟩=>⟨a,b,k R f d⟩
end
section
variable [Payload] [Zb] {P : Program} {ty : bf} {F : Ph} {L : Lk} {i : Nat} {γ : Gh} {aX κ : Nat} {O : aD} {C : au -> Prop} {w : au} {old : Wd} {g g' : dN}
theorem uS{n:Nat}(b:n<=131072)(l k v:Bool):bits .and .i32 (Wd.int ⟨l,k,v,n⟩) 1=l.toNat/\bits .and .i32 (Wd.int ⟨l,k,v,n⟩) 2=2*k.toNat/\bits .and .i32 (Wd.int ⟨l,k,v,n⟩) 3=l.toNat+2*k.toNat/\bits .and .i32 (Wd.int ⟨l,k,v,n⟩) 4=4*v.toNat/\bits .and .i32 (Wd.int ⟨l,k,v,n⟩) 5=l.toNat+4*v.toNat/\bits .or .i32 (Wd.int ⟨l,k,v,n⟩) 1=Wd.int ⟨true,k,v,n⟩/\bits .or .i32 (Wd.int ⟨l,k,v,n⟩) 2=Wd.int ⟨l,true,v,n⟩/\bits .or .i32 (Wd.int ⟨l,k,v,n+1⟩) 4=Wd.int ⟨l,k,true,n+1⟩/\bits .andNot .i32 (Wd.int ⟨l,k,v,n⟩) 2=Wd.int ⟨l,false,v,n⟩/\bits .andNot .i32 (Wd.int ⟨l,k,v,n+1⟩) 2=Wd.int ⟨l,false,v,n+1⟩/\IntKind.i32.wrap ((Wd.int ⟨l,k,v,n⟩)+8)=Wd.int ⟨l,k,v,n+1⟩/\(Wd.int ⟨l,k,v,n⟩)/8=n/\bits .and .i32 (Wd.int ⟨l,k,v,n+1⟩) 2=2*k.toNat:=
 have a:n+1<=131073:=Nat.succ_le_succ b
 have h:n<=131073:=Nat.le_succ_of_le b
 ⟨zo h,Lp h,UM h,zq h,UN h,Yl h,QH h,Ym a,Lr h,Lr a,UO b,AV,Lp a⟩
theorem BO(a:F.lk=some L)(s:FC F γ.Z O C){m:Nat}:Ei ty F i γ O λκ w=>KS ty F L O C aX old κ w/\κ<=m:=⟨λ_ _ h=>h.1.q.bd,λ_ _ _ _ h r=>⟨h.1.rely a s r,bY r.k h.2⟩⟩
theorem Ei.run{K:Nat->au->Prop}(R:Ei ty F i γ O K)(f:K κ w)(h:∀κ u,K κ u->bS P ty F i γ κ O g' u)
 (s:GJ P K (EvW F i γ O) g g':=by
   repeat(try clear f
          refine GJ.step rfl (λκ u f=>?_);first
    |(first
      |(first|rw[stepG_seq]|rw[stepG_region_end]|rw[stepG_skip]|rw[stepG_end]|rw[stepG_ret']|rw[stepG_block]|rw[stepG_loop]|rw[stepG_inLoop]|rw[stepG_inBlock]);simp only[goes_go]
      |rw[stepG_region];simp only[goes_go,List.size_toArray,List.length_cons,List.length_nil,Nat.reduceAdd,eu,List.range,List.range.loop]
      |(first|rw[stepG_cond (t:=true) rfl]|rw[stepG_cond (t:=false) rfl]);simp only[goes_go,if_true,if_false,gU,↓reduceIte]
      |refine goes_exit rfl ?_);refine⟨Z0,by intro e d;simp at d,?_⟩
    |with_reducible refine xQ 0 rfl rfl ?_;refine goes_oper_k rfl rfl Y0 (λK j=>?_)
     go_simp
     refine j _ _ ⟨Z0,?_,?_⟩
     .intro e d;have m:=mem_listed d;simp[go_sem, *]at m
     clear j K
     try simp only[hit]
     try simp only[nums,Bool.toNat_true,Bool.toNat_false,Int.ofNat_eq_natCast,Nat.cast_ofNat,Nat.cast_one,Nat.cast_zero,Int.mul_zero,Int.mul_one,Int.add_zero,Int.zero_add,Int.reduceAdd,Int.reduceMul,Int.reduceEq,decide_true,decide_false,Int.natCast_zero,Int.natCast_one,Int.cast_ofNat_Int,bne_self_eq_false,beq_self_eq_true,Bool.not_true,Bool.not_false,eq_self_iff_true]
    |(first|rw[stepG_unwanted rfl rfl];simp only[goes_go];refine⟨Z0,by intro e d;simp at d,?_⟩|refine goes_leave0 rfl rfl hlv rfl ⟨Z0,by intro e d;simp at d,?_⟩);walk_nrm
    |with_reducible refine xQ 1 rfl rfl ?_;refine goes_oper_k rfl rfl Y0 (λK j=>?_)
     go_simp
     refine j _ _ ⟨Z0,?_,?_⟩
     .intro e d;have m:=mem_listed d;simp[go_sem, *]at m
     clear j K)
   exact GJ.refl):bS P ty F i γ κ O g w:=
 s (λg=>∀κ w,K κ w->bS P ty F i γ κ O g w) (λκ w f=>h κ w f) (λg r n κ w f=>R.bK f r λl u k=>goes_mono (n l u k) λx p o⟨a,b,c⟩=>⟨a,b,c l u k⟩) κ w f
end
section
variable {S : aD} {π : Map} {Sh O : aD}
def jv(O Sh:aD)(g:Nat)(hg:Sh g):Map:=⟨λa b=>a=b/\O b,Sh,g,hg⟩
theorem sO{g:Nat}{a:Sh g}:(jv O Sh g a).img=O:=funext λb=>propext ⟨λ⟨_,_,h⟩=>h,λh=>⟨b,rfl,h⟩⟩
open Classical in
noncomputable def nR(S:aD)(π:Map)(Sh:aD)(u:au):au:={u with heap:=u.heap.mapIdx λb o=>if Sh b then Yj S π o else o}
theorem qy(u:au):(nR S π Sh u).heap.size=u.heap.size:=by simp[nR]
theorem sP(u:au){b:Nat}(h:¬Sh b):(nR S π Sh u).heap[b]? =u.heap[b]? :=by simp only[nR,Array.getElem?_mapIdx,av h];cases u.heap[b]? <;>rfl
theorem GK(u:au){b:Nat}(h:Sh b):(nR S π Sh u).heap[b]? =(yV S π u).heap[b]? :=by rw[GH];simp only[nR,Array.getElem?_mapIdx,aI h]
theorem JA{u:au}{b j:Nat}(h:¬Sh b):(nR S π Sh u).cell? (aB b j)=u.cell? (aB b j):=cell_of_block (sP u h) j
theorem NS{u:au}{b j:Nat}{v:aA}(h:Sh b)(a:u.cell? (aB b j)=some v):(nR S π Sh u).cell? (aB b j)=some (QB S π v):=(cell_of_block (GK u h) j).trans (fI a)
theorem CX{u:au}{b j:Nat}{k:IntKind}{n:Int}(a:k≠ .u8)(v:u.cell? (aB b j)=some (.int k n)):(nR S π Sh u).cell? (aB b j)=some (.int k n):=by
 by_cases h:Sh b
 .rw[NS h v,(iL (S:=S) (π:=π) (Value.int k n)).int k n rfl a]
 .rw[JA h,v]
theorem wP{u:au}{g:Nat}{f:Sh g}(s:∀b,Sh b->∃c e z,u.heap[b]? =some (.cells c e z))(j:∀b,O b->¬Sh b/\∃o,u.heap[b]? =some o/\ko S (jv O Sh g f) o o):
 bI S (jv O Sh g f) (nR S (jv O Sh g f) Sh u) u:=by
 refine⟨?_,λb m=>?_,?_,?_,?_,?_,.refl _⟩
 .rintro b q ⟨rfl,h⟩;obtain⟨a,o,l,r⟩:=j b h;exact⟨o,o,(sP u a).trans l,l,r⟩
 .obtain⟨c,e,z,h⟩:=s b m;refine⟨_,c,e,c.size,z,(GK u m).trans (qw h),h,bq.jc X0 λi v t p k=>?_,X0,λi n a=>?_⟩
  .rw[Array.getElem?_map,k]at p;cases p;exact(iL t).rel
  .rw[Array.getElem?_map]at a;cases x:c[i]? with
   |none=>rw[x]at a;cases a
   |some y=>rw[x]at a;exact(iL y).u8 n (gH a)
 .rintro b c d ⟨rfl,_⟩ ⟨rfl,_⟩;rfl
 .rintro b c d ⟨rfl,_⟩ ⟨rfl,_⟩;rfl
 .rintro b q ⟨rfl,h⟩;exact⟨(j b h).1,(j b h).1⟩
 .obtain⟨c,e,z,h⟩:=s g f;rw[qy];exact Nat.le_of_lt (bJ.1 h).1
inductive Num:aA->Prop
 |int (k:IntKind) (n:Int):Num (.int k n)
 |string (s:aN):Num (.string s)
 |bool (b:Bool):Num (.bool b)
theorem Num.rel{v:aA}(h:Num v):aL S π v v:=by cases h<;>constructor
theorem Num.eq{v a:aA}(h:Num v)(r:aL S π v a):a=v:=by cases h<;>cases r<;>rfl
theorem AY{c:Array aA}(h:∀x∈c,Num x):bq S π c c:=bq.jc rfl λi v d b a=>by rw[b]at a;cases a;exact(h v (qW b)).rel
theorem UW{c d:Array aA}(h:∀x∈c,Num x)(r:bq S π c d):d=c:=by
 apply Array.ext_getElem?;intro j;obtain⟨a,b⟩|⟨x,f,a,b,e⟩:=r.get? j
 .rw[a,b]
 .rw[a,b,(h x (qW a)).eq e]
theorem bI.row{w u:au}(j:bI S π w u){b a:Nat}(h:π.own b a){c:Array aA}{e:bf}{z:Nat×Nat}(g:w.heap[b]? =some (.cells c e z))(i:∀x∈c,Num x):u.heap[a]? =some (.cells c e z):=by
 obtain⟨o,l,d,f,k⟩:=j.own _ _ h;rw[g]at d;cases d;cases k with
 |cells _ _ r=>rw[f,UW i r]
theorem bI.Lx{w u:au}(l:bI S π w u){b d:Nat}(i:π.own b d){j:Nat}{v:aA}(h:w.cell? (aB b j)=some v)(k:Num v):u.cell? (aB d j)=some v:=by
 obtain⟨o,q,f,g,n⟩:=l.own _ _ i;unfold World.cell? at h ⊢;rw[f]at h;rw[g];cases n with
 |@cells c p t z r=>
  simp only at h ⊢;obtain⟨a,e⟩|⟨x,s,a,e,m⟩:=r.get? j
  .rw[a]at h;simp at h
  .rw[a]at h;rw[e];simp at h ⊢;subst h;exact k.eq m
 |_=>cases h
theorem aL.oW{b n c:Nat}{v:aA}(h:aL S π (aU b n c) v)(i:¬π.sh b):∃e,v=aU e n c/\π.own b e:=by
 generalize f:aU b n c=y at h;cases h with
 |@slice a g l c d=>cases f;obtain⟨e,o,p⟩:=g;have j:o=0:=d.off;have s:p=none:=d.spot;subst j s;exact⟨e,rfl,d.block.or.elim id λx=>(i x.1).elim⟩
 |_=>cases f
theorem bI.ownsRow{w u:au}(N:bI S π w u){b e s n:Nat}{v q:aA}{xs:List aA}(h:w.ownsRow b e s v n xs)(p:aL S π v q)(P:∀x∈xs,Num x)(K:∀g,b<=g->¬π.sh g):u.ownsRow 0 e s q n xs/\∀g,q.ownBlock=some g->π.img g:=by
 obtain⟨A,h⟩:=h;obtain⟨rfl,G⟩|⟨g,f,cur,rfl,M,L,H,I,J,t⟩:=h
 .generalize z:Value.slice none 0 0=y at p;cases p with
  |dQ l c=>cases z;exact⟨⟨A,.inl ⟨rfl,G⟩⟩,nofun⟩
  |_=>cases z
 .obtain⟨D,rfl,B⟩:=p.oW (K g M);obtain⟨o,U,r,F,R⟩:=N.own _ _ B;rw[L]at r;cases r;cases R with
  |@cells _ E _ _ C=>
   refine⟨⟨A,.inr ⟨D,f,E,rfl,bU _,F,H,I,C.1.symm.trans J,?_⟩⟩,λT k=>by cases k;exact⟨g,B⟩⟩;rw[<-t];apply List.ext_getElem?;intro j;by_cases m:j<n*s
   .rw[vw m,vw m,jE,jE];obtain⟨a,d⟩|⟨x,V,a,d,Q⟩:=C.get? j
    .rw[a,d]
    .have O:x∈xs:=by
      rw[<-t];refine List.mem_of_getElem? (i:=j) ?_;rw[vw m,jE,a]
     rw[a,d,(P x O).eq Q]
   .rw[vH M4,vH M4]
end
section
variable [Payload] [Zb] {S : aD} {p : Program}
theorem NT(hB:fH S p){Q R:Act->au->Prop}(hQ:∀a w t d,Q a w->Q a (tp w t d))(hR:∀a w t d,R a w->R a (tp w t d)){c:Code}(hc:eF S p c){b:Frame}(D:b.kind=.normal)(C:∃fn,p.funcs[b.fn]? =some fn){a K:Act}{w z:au}{π:Map}(P:p.globals.size=π.g)
 (I:∀t d,c.wp p (λe x u=>(e=.normal/\Q x u)\/(e=.ret/\x.defers=[]/\R x u)) a (tp w t d))(M:fQ S π a K)(T:bI S π w z)(J:Bool)(k:List Item)(y:List Frame):
 iK p J π.sh (λO g u=>∃f x A j,O=f.img/\π.le f/\fQ S f x A/\bI S f j u/\((g=gr (b.at A k) y/\Q x j)\/∃V,g=gr {b.at A V with mode:=.returning} y/\A.defers=[]/\R x j)) π.img (gr (b.at K (.code c::k)) y) z:=by
 refine(Jt hB hQ hR hc D C P I ⟨π.left,P,M.left,T.left⟩ M T J k y).rec (motive:=λO g w _=>iK p J π.sh _ O g w) (λh=>.stop λu hu=>?_) (λg' z X W hr m n o _ ih=>.step g' z X W hr m n o ih);obtain⟨f,fr,r,j,hO,U,rfl,i,v,_,_,N,H⟩:=h u hu;have s:=funext λb=>propext (hO b);obtain⟨x,rfl,G⟩|⟨x,V,rfl,hd,G⟩:=H
 .refine⟨f,x,⟨r.tmps,r.defers⟩,j,s,U,⟨i.tmps,i.defers⟩,v,.inl ⟨?_,G⟩⟩;obtain⟨l,B,L,_⟩:=i.todo;have F:l=[]:=by
   have B:sent=l++sent:=B;have:=congrArg List.length B;simp at this;exact this
  subst F
  congr 1
  obtain⟨Y,Z,f3,f4,f5,f6,f7⟩:=r;have m:=i.fn;have n:=i.mode;have o:=i.kind;have q:=i.round';simp only[Frame.at]at m n o q L;simp only[Frame.at];cases n;subst m o q L;rfl
 .have E:=i.defers;refine⟨f,x,⟨r.tmps,r.defers⟩,j,s,U,⟨i.tmps,i.defers⟩,v,.inr ⟨r.todo,?_,?_,G⟩⟩
  .congr 1
   obtain⟨Y,Z,f3,f4,f5,f6,f7⟩:=r;have m:=i.fn;have n:=i.mode;have o:=i.kind;have q:=i.round';simp only[Frame.at]at m n o q;simp only[Frame.at];cases n;subst m o q;rfl
  .exact E.2
end
section
variable {S : aD} {π : Map} {w u : au}
theorem QL(h:Array Obj)(b c:Nat)(o:Obj)(a:b<h.size):(h.setIfInBounds b o)[c]? =if c=b then some o else h[c]? :=by
 by_cases e:c=b
 .subst e;simp[a]
 .rw[av e,jN (Ne.symm e)]
theorem bI.setRow(h:bI S π w u){b j:Nat}(i:π.own b j){o m:Obj}(s:ko S π o m):bI S π {w with heap:=w.heap.setIfInBounds b o} {u with heap:=u.heap.setIfInBounds j m}:=by
 obtain⟨x,B,e,q,_⟩:=h.own _ _ i;have lb:=(bJ.1 e).1;have l:=(bJ.1 q).1;refine⟨λc p g=>?_,λc g=>?_,h.fn,h.inj,h.apart,by have:=h.high;simpa using this,h.os⟩
 .by_cases a:c=b
  .subst a;obtain rfl:=h.fn _ _ _ i g;exact⟨o,m,by simp[lb],by simp[l],s⟩
  .have d:p≠j:=λd=>a (h.inj _ _ _ (d▸g) i);obtain⟨y,n,f,k,v⟩:=h.own _ _ g;exact⟨y,n,by simp[Ne.symm a,f],by simp[Ne.symm d,k],v⟩
 .obtain⟨y,n,t,z,A,f,k,r⟩:=h.sh _ g;have a:c≠b:=λa=>(h.apart _ _ i).1 (a▸g);have d:c≠j:=λd=>(h.apart _ _ i).2 (d▸g);exact⟨y,n,t,z,A,by simp[Ne.symm a,f],by simp[Ne.symm d,k],r⟩
end
section
variable [Payload] [Zb] {S : aD} {π : Map} {w D u : au}
structure aeK(S:aD)(π:Map)(w u:au)(Cl Bl n:Nat)(ob:Obj)(vs:Nat->aA)(Os:Nat->aD)(nQ:Map)(w₂:au)(ls:Nat->aA):Prop where
 rel:bI S nQ w₂ u
 le:π.le nQ
 img:∀b,nQ.img b->π.img b\/∃j,j<n/\Os j b
 size:w.heap.size<=w₂.heap.size
 keep:∀b,b<w.heap.size->b≠Cl->b≠Bl->w₂.heap[b]? =w.heap[b]?
 os:w₂.os=w.os
 row:w₂.heap[Cl]? =some (.cells (Array.ofFn λi:Fin n=>ls i) Payload.ety)
 lock:w₂.heap[Bl]? =some ob
 val:∀j,j<n->aL S nQ (ls j) (vs j)/\Eql w.heap.size w₂ u (ls j) (vs j)
theorem bI.joinL(h:bI S π w D){R C n m B:Nat}(hC:π.own R C)(U:π.own m B)(F:R≠m)(hp:PayAt C n D){vs:Nat->aA}{Os:Nat->aD}(hpu:PayAt C n u)(hr:bB π.sh (λb=>π.img b/\b≠C/\b≠B) D u)(K:∀i,i<n->Has C i (vs i) u)
 (hL:∀i,i<n->Lst u (Os i) (vs i))(G:∀i,i<n->∀b,Os i b->¬π.img b/\¬π.sh b)(I:∀i j,i<n->j<n->i≠j->∀b,Os i b->¬Os j b)
 {E P:Obj}(L:u.heap[B]? =some P)(hro:ko S π E P):∃f Q ls,aeK S π w u R m n E vs Os f Q ls:=by
 obtain⟨x,x',e,e',rx⟩:=h.own _ _ U;have N:=(bJ.1 L).1;have q:C≠B:=λk=>F (h.inj _ _ _ (k▸hC) U)
 let a:au:={u with heap:=u.heap.setIfInBounds B x'}
 have v:∀b,b≠B->a.heap[b]? =u.heap[b]? :=λb H=>by simp[a,Ne.symm H]
 have g2:a.heap[B]? =some x':=by simp[a,N]
 have O:∀i,i<n->∀b,Os i b->b≠B:=λi A b H k=>(G i A b H).1 (k▸⟨_,U⟩);obtain⟨f,d,ls,J⟩:=h.join (u:=a) (vs:=vs) (Os:=Os) hC hp (by obtain⟨cs,o,Y⟩:=hpu;exact⟨cs,(v C q).trans o,Y⟩)
  ⟨by simpa[a]using hr.size,λb H=>by
    by_cases k:b=B
    .subst k;rw[g2,e']
    .rw[v b k];exact hr.keep b (H.imp (λy=>⟨y.1,y.2,k⟩) id),hr.os⟩ (λi A=>(cell_of_block (v C q) i).trans (K i A)) (λi A=>by
    obtain o|⟨g,l,c,cur,t,z,s,W,X,T⟩:=hL i A
    .exact .inl o
    .exact .inr ⟨g,l,c,cur,t,z,s,(v g (O i A g T)).trans W,X,T⟩) G I
 have lBl:m<w.heap.size:=(bJ.1 e).1;have M:m<d.heap.size:=bG lBl J.size;have Z:=J.le.own _ _ U;have r:=J.rel.setRow Z (hro.mono J.le);have hu:({a with heap:=a.heap.setIfInBounds B P}:au)=u:=by
  have:a.heap.setIfInBounds B P=u.heap:=by
   apply Array.ext_getElem?;intro c;rw[QL _ _ _ _ (by simpa[a]using N)];by_cases k:c=B
   .subst k;rw[aI rfl,L]
   .rw[av k,v c k]
  show({u with heap:=a.heap.setIfInBounds B P}:au)=u;rw[this]
 rw[hu]at r;refine⟨f,{d with heap:=d.heap.setIfInBounds m E},ls,r,J.le,J.img,by simpa using J.size,λb o Y h3=>?_,J.os,?_,by simp[M],λj V=>⟨(J.val j V).1,?_⟩⟩
 .show(d.heap.setIfInBounds m E)[b]? =_;rw[jN (Ne.symm h3)];exact J.keep b o Y
 .show(d.heap.setIfInBounds m E)[R]? =_;rw[jN (Ne.symm F)];exact J.row
 .rcases(J.val j V).2 with o|⟨g,p,l,c,s,W,X,T,a5⟩
  .exact .inl o
  .have hgB:g≠B:=by
    obtain⟨l',c',o⟩|⟨g',l',c',cur,t,z,b1,_,_,b4⟩:=hL j V
    .rw[o]at s;cases s
    .rw[b1]at s;cases s;exact O j V _ b4
   refine .inr ⟨g,p,l,c,s,W,X,by simpa using T,?_⟩;show(d.heap.setIfInBounds m E)[p]? =_;rw[jN Q0,a5,v g hgB]
end
section
variable [Payload] [Zb]
structure Nw(O:aD)(L:List (Nat×Obj))(u:au):Prop where
 ob:∀b o,(b,o)∈L->u.heap[b]? =some o
 hi:∀b,b∈L.map Prod.fst->Zb.n<=b/\b≠Zb.z/\¬O b
 nd:(L.map Prod.fst).Nodup
def jU(O:aD)(L:List (Nat×Obj))(b:Nat):Prop:=own O b\/b∈L.map Prod.fst
abbrev CY(O:aD)(u₀ u:au):Prop:=bB (λb=>b=Zb.z) (own O) u₀ u
structure St(O:aD)(u₀:au):Prop where
 bd:∀b,own O b->b<u₀.heap.size
 z:Zb.z<u₀.heap.size
 n:Zb.n<=u₀.heap.size
def RO(P:Program)(ty:bf)(Post:aA->au->Prop)(d:Nat)(O:aD)(u₀:au)(L:List (Nat×Obj))(g:dN):Prop:=∀u,CY O u₀ u->Nw O L u->GE P ty Post (.calm d) (jU O L) g u
variable {P : Program} {ty : bf} {Post : aA -> au -> Prop} {d : Nat} {O : aD} {u₀ u v : au} {L Q : List (Nat × Obj)} {g g' : dN}
theorem Nw.UY(h:Nw O L u){b:Nat}(d:b∈L.map Prod.fst):¬own O b:=λx=>by
 obtain⟨a,e,c⟩:=h.hi b d
 obtain x|⟨x,_⟩:=x
 .exact c x
 .exact aF a (Nat.not_le.2 x)
theorem Nw.rely(h:Nw O L u)(r:dU ty (.calm d) (jU O L) u v):Nw O L v:=⟨λb o a=>(r.o.keep b (.inl (.inr (gQ.2 ⟨_,a,rfl⟩)))).trans (h.ob b o a),h.hi,h.nd⟩
theorem CY.rely(h:CY O u₀ u)(r:dU ty (.calm d) (jU O L) u v):CY O u₀ v:=h.trans ⟨r.o.size,λb a=>r.o.keep b (a.imp .inl .inl),r.o.os⟩
theorem Nw.bd(h:Nw O L u)(s:St O u₀)(l:CY O u₀ u):∀b,jU O L b->b<u.heap.size:=λb a=>by
 obtain a|a:=a
 .exact bG (s.bd b a) l.size
 .obtain⟨⟨_,o⟩,c,rfl⟩:=gQ.1 a
  exact(bJ.1 (h.ob _ o c)).1
theorem RO.mk(r:g.status=.running)(h:∀u,CY O u₀ u->Nw O L u->∃g' w s Q,stepG P true g u=.go g' w s/\jW (jU O L) (jU O Q) u w/\(∀e∈s,qH (λb=>b=Zb.z) (jU O Q) e)/\CY O u₀ w/\Nw O Q w/\RO P ty Post d O u₀ Q g'):RO P ty Post d O u₀ L g:=by
 intro u p o;refine .mk (.idle r λv c=>?_);obtain⟨g',w,s,Q,f,i,j,k,l,m⟩:=h v (p.rely c) (o.rely c);refine⟨g',w,s,jU O Q,f,i,λe n=>.inl ?_,m w k l⟩;have:=j e n;revert this;unfold qH
 split
 .rintro⟨a,b⟩;exact⟨a,b.imp id λx=>⟨.inl x.1,x.2⟩⟩
 all_goals exactλx=>x
theorem RO.silent(s:St O u₀)(r:g.status=.running)(h:∀u,CY O u₀ u->Nw O L u->∃a,stepG P true g u=.go g' u a/\∀e∈a,qH (λb=>b=Zb.z) (jU O L) e)(k:RO P ty Post d O u₀ L g'):RO P ty Post d O u₀ L g:=
 .mk r λu c n=>
  let⟨a,f,i⟩:=h u c n
  ⟨g',u,a,L,f,⟨λ_ x=>x,λ_ x=>.inl x,n.bd s c,aS _,λ_ _ _=>rfl,rfl,rfl,rfl⟩,i,c,n,k⟩
theorem Nw.alloc(s:St O u₀)(f:CY O u₀ u)(d:Nw O L u)(c:Obj):jW (jU O L) (jU O ((u.heap.size,c)::L)) u (u.alloc c)/\CY O u₀ (u.alloc c)/\Nw O ((u.heap.size,c)::L) (u.alloc c):=by
 have g:(u.alloc c).heap.size=u.heap.size+1:=by simp
 refine⟨⟨λb h=>h.imp id λx=>List.mem_cons_of_mem _ x,λb h=>?_,λb h=>?_,Q0,λb a _=>yU u c b a,rfl,rfl,rfl⟩,?_,?_⟩
 .obtain h|h:=h
  .exact .inl (.inl h)
  .obtain rfl|h:=lS.1 h
   .exact .inr (aS _)
   .exact .inl (.inr h)
 .rw[g];obtain h|h:=h
  .have:=d.bd s f b (.inl h);omega
  .obtain rfl|h:=lS.1 h
   .exact Nat.lt_succ_self _
   .have:=d.bd s f b (.inr h);omega
 .refine f.trans ⟨Q0,λb a=>?_,.refl _⟩;refine yU u c b (bG ?_ f.size);obtain a|rfl:=a
  .exact s.bd b a
  .exact s.z
 .refine⟨λb o a=>?_,λb a=>?_,?_⟩
  .obtain e|a:=lS.1 a
   .cases e;exact World.alloc_heap_new u c
   .exact(yU u c b (d.bd s f b (.inr (gQ.2 ⟨_,a,rfl⟩)))).trans (d.ob b o a)
  .obtain rfl|a:=lS.1 a
   .have i:=s.n;have k:=s.z;have j:=f.size;refine⟨bY i j,(by show u.heap.size≠_;omega),λx=>?_⟩;have:u.heap.size<_:=s.bd _ (.inl x);omega
   .exact d.hi b a
  .refine List.nodup_cons.2 ⟨λx=>?_,d.nd⟩;have:=d.bd s f _ (.inr x);exact aF this (iQ _)
theorem RO.alloc(s:St O u₀)(r:g.status=.running){o:Obj}{gn:Nat->dN}(h:∀u,CY O u₀ u->Nw O L u->∃a,stepG P true g u=.go (gn u.heap.size) (u.alloc o) a/\∀e∈a,qH (λb=>b=Zb.z) (jU O ((u.heap.size,o)::L)) e)
 (p:∀n,RO P ty Post d O u₀ ((n,o)::L) (gn n)):RO P ty Post d O u₀ L g:=
 .mk r λu f c=>
  let⟨a,l,m⟩:=h u f c
  let⟨i,j,k⟩:=c.alloc s f o
  ⟨gn u.heap.size,_,a,_,l,i,m,j,k,p _⟩
def lZ(b:Nat)(ob:Obj)(L:List (Nat×Obj)):List (Nat×Obj):=L.map λp=>if p.1=b then(b,ob)else p
theorem xR(b:Nat)(o:Obj)(L:List (Nat×Obj)):(lZ b o L).map Prod.fst=L.map Prod.fst:=by simp only[lZ,List.map_map];refine List.map_congr_left λp _=>?_;by_cases e:p.1=b<;>simp[e]
theorem GL(b:Nat)(o:Obj):jU O (lZ b o L)=jU O L:=by unfold jU;rw[xR]
theorem Nw.put(s:St O u₀)(k:CY O u₀ u)(n:Nw O L u){b:Nat}(d:b∈L.map Prod.fst){f:Obj}{w:au}(g:w.heap=u.heap.set! b f)(t:w.tape=u.tape)(q:w.os=u.os)(v:w.output=u.output):
 jW (jU O L) (jU O (lZ b f L)) u w/\CY O u₀ w/\Nw O (lZ b f L) w:=by
 have l:=n.bd s k b (.inr d);have a:∀c,c≠b->w.heap[c]? =u.heap[c]? :=λc h=>by rw[g];simp[Array.set!_eq_setIfInBounds,jN (Ne.symm h)]
 have i:w.heap[b]? =some f:=by rw[g];simp[Array.set!_eq_setIfInBounds,l]
 have j:w.heap.size=u.heap.size:=by rw[g];simp
 have p:=n.UY d;refine⟨?_,k.trans ⟨Q0,λc h=>a c ?_,.of q⟩,?_⟩
 .rw[GL];exact⟨λ_ x=>x,λ_ x=>.inl x,λc x=>by rw[j];exact n.bd s k c x,Q0,λc _ h=>a c λe=>h (e▸ .inr d),t,q,v⟩
 .rintro rfl;obtain h|h:=h
  .exact p h
  .exact(n.hi _ d).2.1 h
 .refine⟨λc o h=>?_,by rw[xR];exact n.hi,by rw[xR];exact n.nd⟩;obtain⟨⟨r,z⟩,y,m⟩:=gQ.1 h;by_cases e:r=b
  .rw[aI e]at m;cases m;exact i
  .rw[av e]at m;cases m;exact(a _ e).trans (n.ob _ _ y)
theorem RO.put(s:St O u₀)(x:g.status=.running){b:Nat}{o:Obj}(t:b∈L.map Prod.fst)(h:∀u,CY O u₀ u->Nw O L u->∃w a,stepG P true g u=.go g' w a/\(w.heap=u.heap.set! b o/\w.tape=u.tape/\w.os=u.os/\w.output=u.output)/\∀e∈a,qH (λb=>b=Zb.z) (jU O L) e)
 (v:RO P ty Post d O u₀ (lZ b o L) g'):RO P ty Post d O u₀ L g:=
 .mk x λu c n=>
  let⟨w,a,k,⟨l,m,p,q⟩,r⟩:=h u c n
  let⟨f,i,j⟩:=n.put s c t l m p q
  ⟨g',w,a,_,k,f,by rw[GL];exact r,i,j,v⟩
theorem RO.of(s:St O u₀)(h:∀u,CY O u₀ u->GE P ty Post (.calm d) (own O) g u):RO P ty Post d O u₀ L g:=λu a n=>.wide (λb x=>.inl x) (n.bd s a) (h u a)
theorem RO.start(h:RO P ty Post d O u₀ [] g):GE P ty Post (.calm d) (own O) g u₀:=by have:=h u₀ (.refl _ _ _) ⟨λ_ _ h=>(by cases h),λ_ h=>(by cases h),.nil⟩;have e:jU O []=own O:=funext λb=>propext ⟨λx=>x.resolve_right X0,.inl⟩;rwa[e]at this
end
section
variable [Payload] [Zb]
variable {P : Program} {ty : bf} {Post : aA -> au -> Prop} {d : Nat} {O : aD} {u₀ u v : au} {L Q : List (Nat × Obj)} {g g' : dN} {b c : Frame} {a : Act} {k : List Item} {cs : List Frame} {ops : Array Oper} {i : Nat} {A : List Nat} {K : Op} {dt : Option Tmp}
theorem RO.go(s:St O u₀)(h:∀u,stepG P true g u=.go g' u #[])(r:g.status=.running)(k:RO P ty Post d O u₀ L g'):RO P ty Post d O u₀ L g:=.silent s r (λu _ _=>⟨#[],h u,X0⟩) k
theorem RO.skip(s:St O u₀)(h:RO P ty Post d O u₀ L (gr (b.atR a k) cs)):RO P ty Post d O u₀ L (gr (b.atR a (.code .skip::k)) cs):=.go s (λu=>by simp[gr,stepG,stepG.exec,Frame.atR]) rfl h
theorem RO.inBlock(s:St O u₀){i:Nat}(h:RO P ty Post d O u₀ L (gr (b.atR a k) cs)):RO P ty Post d O u₀ L (gr (b.atR a (.inBlock i::k)) cs):=.go s (λu=>by simp[gr,stepG,stepG.exec,Frame.atR]) rfl h
theorem RO.seq(s:St O u₀){x y:Code}(h:RO P ty Post d O u₀ L (gr (b.atR a (.code x:: .code y::k)) cs)):RO P ty Post d O u₀ L (gr (b.atR a (.code (.seq x y)::k)) cs):=.go s (λu=>by simp[gr,stepG,stepG.exec,Frame.atR]) rfl h
theorem RO.block(s:St O u₀){i:Nat}{x:Code}(h:RO P ty Post d O u₀ L (gr (b.atR a (.code x:: .inBlock i::k)) cs)):RO P ty Post d O u₀ L (gr (b.atR a (.code (.block i x)::k)) cs):=.go s (λu=>by simp[gr,stepG,stepG.exec,Frame.atR]) rfl h
theorem RO.loop(s:St O u₀){x:Code}(h:RO P ty Post d O u₀ L (gr (b.atR a (.code x:: .inLoop x::k)) cs)):RO P ty Post d O u₀ L (gr (b.atR a (.code (.loop x)::k)) cs):=.go s (λu=>by simp[gr,stepG,stepG.exec,Frame.atR]) rfl h
theorem RO.inLoop(s:St O u₀){x:Code}(h:RO P ty Post d O u₀ L (gr (b.atR a (.code x:: .inLoop x::k)) cs)):RO P ty Post d O u₀ L (gr (b.atR a (.inLoop x::k)) cs):=.go s (λu=>by simp[gr,stepG,stepG.exec,Frame.atR]) rfl h
theorem RO.exit(s:St O u₀){i:Nat}{k':List Item}(h:exitTo i k=some k')(c:RO P ty Post d O u₀ L (gr (b.atR a k') cs)):RO P ty Post d O u₀ L (gr (b.atR a (.code (.exit i)::k)) cs):=.go s (λu=>by simp[gr,stepG,stepG.exec,Frame.atR,h]) rfl c
theorem RO.cond(s:St O u₀){x:Operand}{y z:Code}{t:Bool}(h:a.eval x=.bool t)(c:RO P ty Post d O u₀ L (gr (b.atR a (.code (if t then y else z)::k)) cs)):RO P ty Post d O u₀ L (gr (b.atR a (.code (.cond x y z)::k)) cs):=by have e:=Frame.eval_atR b a (.code (.cond x y z)::k);simp only[Frame.atR]at e;exact .go s (λu=>by simp[gr,stepG,stepG.exec,Frame.atR,e,h]) rfl c
theorem RO.region(s:St O u₀){i:Nat}{l:List Nat}(c:List.range ops.size=l)(h:RO P ty Post d O u₀ L (gr (b.atR a (aT ops l::k)) cs)):RO P ty Post d O u₀ L (gr (b.atR a (.code (.region i ops false)::k)) cs):=by subst c;exact .go s (λu=>by simp[gr,stepG,stepG.exec,Frame.atR]) rfl h
theorem RO.jO(s:St O u₀)(h:RO P ty Post d O u₀ L (gr (b.atR a k) cs)):RO P ty Post d O u₀ L (gr (b.atR a (aT ops []::k)) cs):=.go s (λu=>by simp[gr,stepG,stepG.exec,Frame.atR]) rfl h
theorem RO.ret(s:St O u₀)(h:b.roundOf=none)(c:RO P ty Post d O u₀ L (gr {b.atR a (.code .ret::k)with mode:=.returning} cs)):RO P ty Post d O u₀ L (gr (b.atR a (.code .ret::k)) cs):=.go s (λu=>by simp[gr,stepG,stepG.exec,Frame.atR,h]) rfl c
theorem RO.fin(s:St O u₀)(h:b.roundOf=none)(k:RO P ty Post d O u₀ L (gr {b.atR a []with mode:=.returning} cs)):RO P ty Post d O u₀ L (gr (b.atR a []) cs):=.go s (λu=>by simp[gr,stepG,stepG.exec,Frame.atR,h]) rfl k
theorem CZ{o:Oper}(d:ops[i]? =some o)(hw:Region.wanted o (yielded ops a.tmps)=true)(h:∀c,o.op≠ .defer c)(u:au):
 stepG P true (gr (b.atR a (aT ops (i::A)::k)) cs) u=stepG.apply P true (b.atR a (aT ops (i::A)::k)) cs none (execOp a.eval o) u:=by
 have:=stepGR_op (P:=P) (b:=b) (a:=a) (k:=k) (cs:=cs) (w:=u) (rest:=A) d hw;rw[Oper.semAt_eq _ _ _ h]at this;exact this
structure Opn(ops:Array Oper)(i:Nat)(a:Act)(o:Oper):Prop where
 is:ops[i]? =some o
 wd:Region.wanted o (yielded ops a.tmps)=true
 nd:∀c,o.op≠ .defer c
section
variable {o : Oper} (s : St O u₀) (hk : b.kind = .normal) (ho : Opn ops i a o)
include s hk ho
theorem RO.val{x:aA}(h:∀u,CY O u₀ u->Nw O L u->(execOp a.eval o).run P u=.ok (.value x) u/\∀e∈(execOp a.eval o).events P u #[],qH (λb=>b=Zb.z) (jU O L) e)(T:RO P ty Post d O u₀ L (gr (b.atR (a.put o.dst x) (aT ops A::k)) cs)):
 RO P ty Post d O u₀ L (gr (b.atR a (aT ops (i::A)::k)) cs):=by
 have g:(b.atR a (aT ops (i::A)::k)).finish x=b.atR (a.put o.dst x) (aT ops A::k):=by rw[Frame.finish_atR,ho.is];rfl
 rw[<-g]at T;refine .silent s rfl (λu c n=>⟨seen P b.fn ((execOp a.eval o).events P u #[]),?_,λe f=>(h u c n).2 e (mem_seen f)⟩) T;rw[CZ ho.is ho.wd ho.nd];simp[stepG.apply,(h u c n).1,gr,Frame.atR,hk,GStep.after]
theorem RO.new{g:Obj}{x:Nat->aA}(h:∀u,CY O u₀ u->Nw O L u->(execOp a.eval o).run P u=.ok (.value (x u.heap.size)) (u.alloc g)/\(execOp a.eval o).events P u #[]=#[])(T:∀n,RO P ty Post d O u₀ ((n,g)::L) (gr (b.atR (a.put o.dst (x n)) (aT ops A::k)) cs)):
 RO P ty Post d O u₀ L (gr (b.atR a (aT ops (i::A)::k)) cs):=by
 have l:∀x,(b.atR a (aT ops (i::A)::k)).finish x=b.atR (a.put o.dst x) (aT ops A::k):=λx=>by rw[Frame.finish_atR,ho.is];rfl
 refine .alloc s rfl (gn:=λn=>gr (b.atR (a.put o.dst (x n)) (aT ops A::k)) cs) (λu f c=>⟨seen P b.fn ((execOp a.eval o).events P u #[]),?_,λe j=>?_⟩) T
 .rw[CZ ho.is ho.wd ho.nd,<-l];simp[stepG.apply,(h u f c).1,gr,Frame.atR,hk,GStep.after]
 .have:=mem_seen j;rw[(h u f c).2]at this;simp at this
theorem RO.sto{n:Nat}{f:Obj}(c:n∈L.map Prod.fst)(h:∀u,CY O u₀ u->Nw O L u->∃w,(execOp a.eval o).run P u=.ok .skip w/\(w.heap=u.heap.set! n f/\w.tape=u.tape/\w.os=u.os/\w.output=u.output)/\∀e∈(execOp a.eval o).events P u #[],qH (λb=>b=Zb.z) (jU O L) e)
 (T:RO P ty Post d O u₀ (lZ n f L) (gr (b.atR (a.put o.dst ak) (aT ops A::k)) cs)):RO P ty Post d O u₀ L (gr (b.atR a (aT ops (i::A)::k)) cs):=by
 have p:(b.atR a (aT ops (i::A)::k)).finish ak=b.atR (a.put o.dst ak) (aT ops A::k):=by rw[Frame.finish_atR,ho.is];rfl
 rw[<-p]at T;refine .put s rfl c (λu q c=>?_) T;obtain⟨w,g,j,l⟩:=h u q c;refine⟨w,seen P b.fn ((execOp a.eval o).events P u #[]),?_,j,λe m=>l e (mem_seen m)⟩;rw[CZ ho.is ho.wd ho.nd];simp[stepG.apply,g,gr,Frame.atR,hk,GStep.after]
theorem RO.ent{f:FuncId}{args:Array aA}{n:Func}{x:Code}(c:P.funcs[f]? =some n)(g:n.body=some x)(h:∀u,(execOp a.eval o).run P u=.ok (.enter f args) u/\(execOp a.eval o).events P u #[]=#[])
 (T:RO P ty Post d O u₀ L (gr ((base f).atR {tmps:=args++Array.replicate (n.ntmps-args.size) ak,defers:=[]} [.code x]) (b.atR a (aT ops (i::A)::k)::cs))):RO P ty Post d O u₀ L (gr (b.atR a (aT ops (i::A)::k)) cs):=by
 rw[Frame.atR_of_none (b:=base f) rfl,<-enter_at args c g]at T;refine .silent s rfl (λu m l=>⟨seen P b.fn ((execOp a.eval o).events P u #[]),?_,λe j=>?_⟩) T
 .rw[CZ ho.is ho.wd ho.nd];simp[stepG.apply,(h u).1,gr,Frame.atR,hk,GStep.after]
 .have:=mem_seen j;rw[(h u).2]at this;simp at this
theorem RO.yld{l:Nat}{r:Loop}{c:Array aA}(f:(l,Obj.loop r)∈L)(g:c.size=r.params.size)(h:execOp a.eval o=Instr.yield l c)
 (T:RO P ty Post d O u₀ L (gr (Frame.round l r.fn ((r.params.zip c).foldl (λm(t,a)=>m.setIfInBounds t a) r.tmps) r.assign r.body .normal) (b.atR a (aT ops (i::A)::k)::cs))):RO P ty Post d O u₀ L (gr (b.atR a (aT ops (i::A)::k)) cs):=by
 refine .silent s rfl (λu q n=>⟨seen P b.fn ((execOp a.eval o).events P u #[]),?_,λe j=>?_⟩) T
 .rw[CZ ho.is ho.wd ho.nd];have:=run_yield (P:=P) (w:=u) (args:=c) (n.ob _ _ f) g;rw[<-h]at this;simp[stepG.apply,this,gr,Frame.atR,hk,GStep.after]
 .have:=mem_seen j;have x:=n.ob _ _ f;rw[h]at this;have p:l∈L.map Prod.fst:=gQ.2 ⟨_,f,rfl⟩;simp[Instr.yield,Instr.getLoop,getObj,Sem.events,Sem.runT,bind,Sem.bind,pure,x,g,-Sem.runT_eq]at this;subst this;exact⟨rfl,.inr p⟩
end
end
section
variable [Payload] [Zb]
variable {P : Program} {ty : bf} {Post : aA -> au -> Prop} {d : Nat} {O : aD} {u₀ u v : au} {L Q : List (Nat × Obj)} {g g' : dN} {b c : Frame} {a : Act} {k : List Item} {cs : List Frame} {l : Nat} {r : Loop}
theorem oZ(w:au)(n:Nat)(o:Obj):(w.putObj n o).heap=w.heap.set! n o/\(w.putObj n o).tape=w.tape/\(w.putObj n o).os=w.os/\(w.putObj n o).output=w.output:=by simp[World.putObj]
theorem QM(h:u.heap[l]? =some (.loop r))(a:r.state=.ready):∀e∈(Instr.beginRound l).events P u #[],e.loc=.obj l/\e.sync=false:=by simp[Instr.beginRound,Instr.getLoop,getObj,setObj,Sem.events,Sem.runT,bind,Sem.bind,pure,h,a,-Sem.runT_eq];exact⟨rfl,rfl⟩
theorem yF(j:Option Code)(h:u.heap[l]? =some (.loop r)):∀e∈(Instr.endRound l j).events P u #[],e.loc=.obj l/\e.sync=false:=by simp[Instr.endRound,Instr.getLoop,getObj,setObj,Sem.events,Sem.runT,bind,Sem.bind,pure,h,-Sem.runT_eq];exact⟨rfl,rfl⟩
theorem JB(h:u.heap[l]? =some (.loop r))(a:r.state≠ .busy):∀e∈(Instr.endLoop l).events P u #[],e.loc=.obj l/\e.sync=false:=by simp[Instr.endLoop,Instr.getLoop,getObj,setObj,Sem.events,Sem.runT,bind,Sem.bind,pure,h,a,-Sem.runT_eq];exact⟨rfl,rfl⟩
theorem UZ{d:List Deferred}(h:u.heap[l]? =some (.deferred (some d))):∀e∈(Instr.takeDeferred l).events P u #[],e.loc=.obj l/\e.sync=false:=by simp[Instr.takeDeferred,getObj,setObj,Sem.events,Sem.runT,bind,Sem.bind,pure,h,-Sem.runT_eq];exact⟨rfl,rfl⟩
theorem wQ{e:Event}(h:e.loc=.obj l/\e.sync=false)(m:l∈L.map Prod.fst):qH (λb=>b=Zb.z) (jU O L) e:=by unfold qH;rw[h.1];exact⟨h.2,.inr m⟩
theorem RO.beginRound(s:St O u₀)(p:b.kind=.normal)(j:b.roundOf=some l)(h:(l,Obj.loop r)∈L)(c:r.state=.ready)(T:RO P ty Post d O u₀ (lZ l (.loop {r with state:=.busy}) L) (gr (b.atR a k) cs)):RO P ty Post d O u₀ L (gr (b.atR a (.beginRound::k)) cs):=by
 have m:l∈L.map Prod.fst:=gQ.2 ⟨_,h,rfl⟩;refine .put s rfl m (λu q n=>⟨u.putObj l (.loop {r with state:=.busy}),seen P b.fn ((Instr.beginRound l).events P u #[]),?_,oZ _ _ _,λe o=>wQ (QM (n.ob _ _ h) c e (mem_seen o)) m⟩) T;have f:=run_beginRound (P:=P) (n.ob _ _ h) c;have g:(do Instr.beginRound l;pure Go.Next.skip:Sem Go.Next).run P u=.ok .skip (u.putObj l (.loop {r with state:=.busy})):=by simp[Sem.run_bind,f,Result.andThen]
 have i:(do Instr.beginRound l;pure Go.Next.skip:Sem Go.Next).events P u #[]=(Instr.beginRound l).events P u #[]:=by simp[Instr.beginRound,Instr.getLoop,getObj,setObj,Sem.events,Sem.runT,bind,Sem.bind,pure,n.ob _ _ h,c,-Sem.runT_eq]
 simp only[gr,stepG,stepG.exec,Frame.atR,j,Option.elim,stepG.apply,Sem.runT_eq,g,i];simp[p,Frame.finish,GStep.after]
theorem RO.roundEnd(s:St O u₀)(k:b.kind=.normal)(g:b.roundOf=some l)(h:(l,Obj.loop r)∈L)(T:RO P ty Post d O u₀ (lZ l (.loop {r with state:=.ready,pending:=none}) L) (gr (c.finish (.bool true)) cs)):RO P ty Post d O u₀ L (gr (b.atR a []) (c::cs)):=by have m:l∈L.map Prod.fst:=gQ.2 ⟨_,h,rfl⟩;refine .put s rfl m (λu j n=>⟨_,seen P b.fn ((Instr.endRound l none).events P u #[]),?_,oZ u l _,λe i=>wQ (yF none (n.ob _ _ h) e (mem_seen i)) m⟩) T;have f:=run_endRound (P:=P) none (n.ob _ _ h);simp[gr,stepG,stepG.exec,Frame.atR,g,k,Sem.runT_eq,f,doReturn,GStep.after]
theorem RO.QN(s:St O u₀)(j:b.kind=.normal)(g:b.roundOf=some l)(h:(l,Obj.loop r)∈L)(T:RO P ty Post d O u₀ (lZ l (.loop {r with state:=.done,pending:=some .ret}) L) (gr (c.finish (.bool false)) cs)):RO P ty Post d O u₀ L (gr (b.atR a (.code .ret::k)) (c::cs)):=by have m:l∈L.map Prod.fst:=gQ.2 ⟨_,h,rfl⟩;refine .put s rfl m (λu o n=>⟨_,seen P b.fn ((Instr.endRound l (some .ret)).events P u #[]),?_,oZ u l _,λe i=>wQ (yF _ (n.ob _ _ h) e (mem_seen i)) m⟩) T;have f:=run_endRound (P:=P) (some .ret) (n.ob _ _ h);simp[gr,stepG,stepG.exec,Frame.atR,g,j,Sem.runT_eq,f,doReturn,GStep.after]
theorem RO.GN(s:St O u₀)(h:(l,Obj.loop r)∈L)(c:r.state≠ .busy)(T:RO P ty Post d O u₀ (lZ l (.loop {r with state:=.exhausted}) L) (gr (b.atR a ((r.pending.map Item.code).toList++k)) cs)):RO P ty Post d O u₀ L (gr (b.atR a (.endRangeFunc l::k)) cs):=by have m:l∈L.map Prod.fst:=gQ.2 ⟨_,h,rfl⟩;refine .put s rfl m (λu i n=>⟨_,seen P b.fn ((Instr.endLoop l).events P u #[]),?_,oZ u l _,λe g=>wQ (JB (n.ob _ _ h) c e (mem_seen g)) m⟩) T;have f:=run_endLoop (P:=P) (n.ob _ _ h) c;simp[gr,stepG,stepG.exec,Frame.atR,Sem.runT_eq,f,GStep.after]
theorem wR(k:List Item)(x:aA):(b.atR a (.inRangeFunc l::k)).finish x=b.atR a (.endRangeFunc l::k):=rfl
theorem RO.take(s:St O u₀){ds:List Deferred}(h:(l,Obj.deferred (some []))∈L)(f:a.defers={target:=.collected l,args:=#[]}::ds)(T:RO P ty Post d O u₀ (lZ l (.deferred none) L) (gr {b.atR {a with defers:=ds} k with mode:=.returning} cs)):RO P ty Post d O u₀ L (gr {b.atR a k with mode:=.returning} cs):=by have m:l∈L.map Prod.fst:=gQ.2 ⟨_,h,rfl⟩;refine .put s rfl m (λu i n=>⟨_,seen P b.fn ((Instr.takeDeferred l).events P u #[]),?_,oZ u l _,λe g=>wQ (UZ (n.ob _ _ h) e (mem_seen g)) m⟩) T;have c:=run_takeDeferred (P:=P) (n.ob _ _ h);simp[gr,stepG,unwind,Frame.atR,f,Sem.runT_eq,c,GStep.after]
theorem RO.leave(s:St O u₀){f:Func}{x:aA}(m:b.kind=.normal)(i:a.defers=[])(l:P.funcs[b.fn]? =some f)(h:∀u,CY O u₀ u->Nw O L u->(results f a.tmps).run P u=.ok x u/\∀e∈(results f a.tmps).events P u #[],qH (λb=>b=Zb.z) (jU O L) e)
 (T:RO P ty Post d O u₀ L (gr (c.finish x) cs)):RO P ty Post d O u₀ L (gr {b.atR a k with mode:=.returning} (c::cs)):=by
 refine .silent s rfl (λu g n=>⟨seen P b.fn ((results f a.tmps).events P u #[]),?_,λe j=>(h u g n).2 e (mem_seen j)⟩) T;simp[gr,stepG,unwind,doReturn,Frame.atR,m,i,l,(h u g n).1,Sem.runT_eq,GStep.after]
theorem RO.range(s:St O u₀)(K:b.kind=.normal)(o:b.roundOf=none){x:Operand}{p:Array Tmp}{c body:Code}{f:FuncId}{xs:Array aA}{j:Func}{y:Code}(Q:a.eval x=.func (.func f) #[] xs)(t:P.funcs[f]? =some j)(v:j.body=some y)(z:(j.name== "runtime.NumGoroutine")=false)
 (H:∀n,RO P ty Post d O u₀ ((n+1,.loop {state:=.ready,pending:=none,fn:=b.fn,tmps:=a.tmps,params:=p,assign:=c,body,defers:=n})::(n,.deferred (some []))::L)
   (gr ((base f).atR {tmps:=(#[Value.func (.yield (n+1)) #[] #[]]++xs)++Array.replicate (j.ntmps-(1+xs.size)) ak,defers:=[]} [.code y]) (b.atR {a with defers:={target:=.collected n,args:=#[]}::a.defers} (.inRangeFunc (n+1)::k)::cs))):
 RO P ty Post d O u₀ L (gr (b.atR a (.code (.rangeFunc x p c body)::k)) cs):=by
 refine .mk rfl λu M m=>?_;obtain⟨i,E,F⟩:=m.alloc s M (.deferred (some []))
 let r:Loop:={state:=.ready,pending:=none,fn:=b.fn,tmps:=a.tmps,params:=p,assign:=c,body,defers:=u.heap.size}
 obtain⟨g,S,A⟩:=F.alloc s E (.loop r);have R:(u.alloc (.deferred (some []))).heap.size=u.heap.size+1:=by simp
 rw[R]at g A;have I:=run_enterLoop_outer (P:=P) (w:=u) b.fn a.tmps p c body;have N:(Instr.enterLoop b.fn a.tmps p c body none).events P u #[]=#[]:=by simp[Instr.enterLoop,newObj,Sem.events,Sem.runT,bind,Sem.bind,pure,-Sem.runT_eq]
 have T:=H u.heap.size;rw[Frame.atR_of_none (b:=base f) rfl]at T;have B:(#[Value.func (.yield (u.heap.size+1)) #[] #[]]++xs).size=1+xs.size:=by simp
 rw[<-B,<-enter_at _ t v]at T;refine⟨_,_,#[],_,?_,⟨λb h=>g.sub b (i.sub b h),λb h=>?_,g.bound,bY i.size g.size,λb o m=>?_,g.tape.trans i.tape,g.os.trans i.os,g.output.trans i.output⟩,X0,S,A,T⟩
 .have l:(Frame.atR b {a with defers:={target:=.collected u.heap.size,args:=#[]}::a.defers} (.inRangeFunc (u.heap.size+1)::k)).eval x=.func (.func f) #[] xs:=by rw[Frame.eval_atR];exact Q
  generalize e:Frame.atR b {a with defers:={target:=.collected u.heap.size,args:=#[]}::a.defers} (.inRangeFunc (u.heap.size+1)::k)=fr at l;have r1:resolve fr.eval {callee:=.value x,args:=#[.const (.func (.yield (u.heap.size+1)) #[] #[])],argTypes:=#[]} 0=pure {target:=.fn (.func f) xs,args:=#[Value.func (.yield (u.heap.size+1)) #[] #[]]}:=by simp only[resolve,l];simp[Deferred.ofValue,Frame.eval]
  have U:∀W:au,(invoke (.fn (.func f) xs) #[Value.func (.yield (u.heap.size+1)) #[] #[]]).runT P W #[]=(.ok (.enter f (#[Value.func (.yield (u.heap.size+1)) #[] #[]]++xs)) W,#[]):=λW=>by
   simp[invoke,callFunc,Sem.runT,bind,Sem.bind,pure,t,v,z,program,-Sem.runT_eq]
   try(have G:j.name≠ "runtime.NumGoroutine" :=by simpa using z);try simp[G,Sem.runT,-Sem.runT_eq]
  have J:∀W:au,(do let d <-resolve fr.eval {callee:=.value x,args:=#[.const (.func (.yield (u.heap.size+1)) #[] #[])],argTypes:=#[]} 0;invoke d.target d.args:Sem Go.Next).runT P W #[]=(.ok (.enter f (#[Value.func (.yield (u.heap.size+1)) #[] #[]]++xs)) W,#[]):=λW=>by rw[r1];exact U W
  have q:stepG P true (gr (b.atR a (.code (.rangeFunc x p c body)::k)) cs) u=GStep.after #[] (stepG.apply P true fr cs none (do let d <-resolve fr.eval {callee:=.value x,args:=#[.const (.func (.yield (u.heap.size+1)) #[] #[])],argTypes:=#[]} 0;invoke d.target d.args:Sem Go.Next) ((u.alloc (.deferred (some []))).alloc (.loop r))):=by rw[<-e];simp only[gr,stepG,stepG.exec,Frame.atR,o,Sem.runT_eq,I,N,seen_none];rfl
  rw[q];simp only[stepG.apply,if_true,J];have C:fr.kind=.normal:=by rw[<-e];exact K
  have D:fr.todo=.inRangeFunc (u.heap.size+1)::k:=by rw[<-e];rfl
  simp[C,D,GStep.after,seen_none,gr,e]
 .obtain h|h:=g.fresh b h
  .exact i.fresh b h
  .exact .inr Q0
 .exact(g.frame b Q0 λx=>(i.fresh b x).elim m Q0).trans (i.frame b o m)
end
section
variable [Payload] [Zb]
variable {S : aD} {P : Program} {ty : bf} {Post : aA -> au -> Prop} {d : Nat} {O X : aD} {u₀ u v w : au} {L Q : List (Nat × Obj)} {g g' : dN} {b c : Frame} {a : Act} {k : List Item} {cs : List Frame}
theorem GE.QO{S:(aD)->dN->au->Prop}(h:iK P true (λb=>b=Zb.z) S O g w)(A:∀b,X b\/b=Zb.z->b<w.heap.size/\¬O b)(F:∀b,O b->b<w.heap.size)
 (s:∀l g' u,S l g' u->bB (λb=>b=Zb.z) X w u->(∀b,l b->b<u.heap.size)->GE P ty Post (.calm d) (λb=>X b\/l b) g' u):GE P ty Post (.calm d) (λb=>X b\/O b) g w:=by
 induction h with
 |@stop O g w h=>exact s O g w (h w (.refl _ _ _)) (.refl _ _ _) F
 |@step O g w g' v B l J C D E _ L=>
  refine .mk (.idle J λu k=>?_);have f:bB (λb=>b=Zb.z) O w u:=⟨k.o.size,λb a=>k.o.keep b (a.imp .inr .inl),k.o.os⟩;have G:=D u f;have c:∀b,X b\/b=Zb.z->b<u.heap.size/\¬O b:=λb a=>⟨bG (A b a).1 k.o.size,(A b a).2⟩;have p:∀b,X b\/b=Zb.z->b<(v u).heap.size/\¬l u b:=λb a=>⟨bG (c b a).1 G.size,λx=>(G.fresh b x).elim (c b a).2 λy=>aF (c b a).1 (Nat.not_lt.2 y)⟩;refine⟨g' u,v u,B u,λb=>X b\/l u b,C u f,⟨λb=>.imp id (G.sub b),λb a=>?_,λb a=>a.elim (λx=>(p b (.inl x)).1) (G.bound b),G.size,λb a I=>G.frame b a λx=>I (.inr x),G.tape,G.os,G.output⟩,λe H=>.inl ?_,L u f p G.bound λm n t K j i=>s m n t K (bB.trans (b:=v u) ⟨bY k.o.size G.size,λb a=>?_,G.os▸k.o.os⟩ j) i⟩
  .obtain x|x:=a
   .exact .inl (.inl x)
   .exact(G.fresh b x).imp .inr id
  .have:=E u f e H;revert this;unfold qH
   split
   .rintro⟨q,r⟩;exact⟨q,r.imp .inr λx=>⟨.inl x.1,x.2⟩⟩
   .rintro⟨q,r⟩;exact⟨q,.inr r⟩
   all_goals exactλx=>x
  .exact(G.frame b (c b a).1 (c b a).2).trans (k.o.keep b (a.imp .inl .inl))
theorem RO.lone(s:St O u₀)(H:fH S P){f:FuncId}(K:S f)(V:P.globals.size=Zb.z)(q:∃c e z,u₀.heap[Zb.z]? =some (.cells c e z))(W:¬own O Zb.z){a:Array aA}{x:aA}(I:∀y∈a,Num y)(U:Num x)(J:∀w,Calls P f a w λe u=>e=.returned x)
 (T:RO P ty Post d O u₀ L (gr (c.finish x) cs)):RO P ty Post d O u₀ L (gr (Frame.enter P f a .normal) (c::cs)):=by
 intro u m l
 let k:Map:=jv (λ_=>False) (λb=>b=Zb.z) Zb.z rfl
 have M:bI S k (nR S k (λb=>b=Zb.z) u) u:=wP (λb g=>by subst g;obtain⟨c,e,z,h⟩:=q;exact⟨c,e,z,(m.keep _ (.inr rfl)).trans h⟩) λb g=>g.elim
 have F:bq S k a a:=bq.jc rfl λi y Y h B=>by rw[h]at B;cases B;exact(I y (qW h)).rel
 have G:=sI H (Q:=λv _=>v=x) (λv w t d h=>h) K (π:=k) V (λt d=>(J _).mono λe u h=>⟨x,h,rfl⟩) F M true c cs;have N:k.img=λ_=>False:=sO;rw[N]at G;have p:∀b,jU O L b\/b=Zb.z->b<u.heap.size/\¬False:=λb g=>⟨g.elim (l.bd s m b) λe=>e▸bG s.z m.size,id⟩;have:=GE.QO (ty:=ty) (Post:=Post) (d:=d) (X:=jU O L) G p (λb h=>h.elim) λZ g' v R r g=>?_
 .have e:(λb=>jU O L b\/False)=jU O L:=funext λb=>by simp
  rwa[e]at this
 .obtain⟨A,y,Y,C,h1,h2,rfl,D,h5,E⟩:=R.ex;subst E;have:=U.eq D;subst this;have j:CY O u₀ v:=m.trans ⟨r.size,λb g=>r.keep b (g.imp .inl id),r.os⟩;have n:Nw O L v:=⟨λb o g=>(r.keep b (.inl (.inr (gQ.2 ⟨_,g,rfl⟩)))).trans (l.ob b o g),l.hi,l.nd⟩;exact .wide (λb h=>.inl h) (λb h=>h.elim (n.bd s j b) (g b)) (T v j n)
structure Xo(O:aD)(u₀:au):Prop extends St O u₀ where
 zc:∃c e z,u₀.heap[Zb.z]? =some (.cells c e z)
 zn:¬own O Zb.z
theorem Xo.of{f:Map}(R:Rd P f u)(d:bI S f w u):Xo f.img u:=by
 obtain⟨c,g,e,z,j,_,h,_⟩:=d.sh _ R.z;refine⟨⟨λb i=>i.elim (λ⟨x,a⟩=>(d.lt a).2) λx=>bG x.1 R.kd.sz,(bJ.1 h).1,R.kd.sz⟩,⟨g,e,j,h⟩,?_⟩;rintro(⟨x,a⟩|⟨_,a⟩)
 .exact(d.apart _ _ a).2 R.z
 .exact a rfl
theorem RC.right{f:FuncId}{n:Func}{x:Code}{r:Array aA}{y:aA}(h1:P.funcs[f]? =some n)(h2:(n.name== "runtime.NumGoroutine")=false)(h3:n.body=some x)(q:∀y∈r,Num y)(hy:Num y)
 (h:∀(d:Nat)(O:aD)(u₀:au)(c:Frame)(cs:List Frame),Xo O u₀->(∀L,RO P ty Post d O u₀ L (gr (c.finish y) cs))->RO P ty Post d O u₀ [] (gr ((base f).atR (ent r n.ntmps) [.code x]) (c::cs))):
 RC S P ty Post f r w λv u=>v=y/\u=w:=by
 refine⟨n,x,h1,h2,h3,λD C o l e m seg hT=>?_⟩;intro d J f' abm w' R B G U Z;obtain⟨b',p,W⟩:=f';obtain⟨rfl,rfl,N⟩:b'=_/\W=_/\fQ S J (ent r n.ntmps) p:=⟨B.b,B.k,B.a⟩;cases U with
 |@cons _ c' _ s A U=>
  obtain⟨i,g,I⟩:=c';obtain⟨rfl,rfl,t⟩:i=D/\I=_/\fQ S J C g:=⟨A.b,A.k,A.a⟩;have E:p.defers=[]:=N.defers.2;have H:p.tmps=(ent r n.ntmps).tmps:=by
   apply Array.ext_getElem?;intro j;by_cases T:j<r.size
   .have K:(ent r n.ntmps).tmps[j]? =some r[j]:=by
     show(r++Array.replicate (n.ntmps-r.size) ak)[j]? =_;rw[Array.getElem?_append_left T,iU T]
    have hl:j<p.tmps.size:=by rw[<-N.tmps.1];exact(bJ.1 K).1
    have:=N.tmps.get K (iU hl);rw[K,iU hl,(q _ (Array.getElem_mem T)).eq this]
   .exact G j Q0
  have Q:(PF.fr ⟨base f,p,[.code x]⟩)=(base f).atR (ent r n.ntmps) [.code x]:=by
   rw[Frame.atR_of_none rfl];show(base f).at p _=_
   congr 1
   cases p;simp only at H E;subst H E;rfl
  have Y:=Xo.of R Z;rw[Q];refine RO.start (h d J.img w' (PF.fr ⟨i,g,aT o (l::e)::m⟩) (s.map PF.fr) Y λL=>.of Y.toSt λu V=>?_);have X:dU ty (.calm d) (own J.img) w' u:=⟨⟨V.size,λb hb=>V.keep b (hb.imp id λz=>z.elim id λ⟨F,M,_⟩=>by cases M),V.os⟩,λF M=>by cases M⟩;rw[show(PF.fr ⟨i,g,aT o (l::e)::m⟩)=i.at g (aT o (l::e)::m)from rfl,Frame.finish_at];exact hT y w ⟨rfl,rfl⟩ d J ⟨i,g.put ((o[l]?).bind (·.dst)) y,aT o e::m⟩ s u (R.rely X) ⟨rfl,rfl,t.put _ hy.rel⟩ U (Z.rely (dG R X) w.tape w.drawn)
end
def fd(N:Nat)(f:Nat->aA)(ds:List Deferred):Act:=⟨(fa N f).tmps,ds⟩
theorem Ej{N:Nat}{f:Nat->aA}{d:List Deferred}(x:Operand):(fd N f d).eval x=(fa N f).eval x:=by cases x<;>rfl
theorem jT{N:Nat}{f:Nat->aA}{ds:List Deferred}:(fd N f ds).eval=(fa N f).eval:=funext Ej
theorem xS{N:Nat}{f:Nat->aA}{d:Nat}{v:aA}{s:List Deferred}:(fd N f s).put (some d) v=fd N (aC f d v) s:=by have:=jm (N:=N) (f:=f) (d:=d) (v:=v);simp only[Act.put]at this ⊢;unfold fd;rw[<-this]
theorem At.opn{p:Array Oper}{i:Nat}{K:Op}{d:Option Tmp}{a:Act}(h:At p i K d)(j:∀c,K≠ .defer c):∃o,Opn p i a o/\o.op=K/\o.dst=d:=by obtain⟨o,e,b,f,g⟩:=h;exact⟨o,⟨e,by simp[Region.wanted,g],b▸j⟩,b,f⟩
def AtG(ops:Array Oper)(i:Nat)(a:Act)(K:Op)(d:Option Tmp):Prop:=∃o,ops[i]? =some o/\o.op=K/\o.dst=d/\Region.wanted o (yielded ops a.tmps)=true
section
variable [Payload] [Zb]
variable {P : Program} {ty : bf} {Post : aA -> au -> Prop} {d : Nat} {O : aD} {u₀ u v : au} {L Q : List (Nat × Obj)} {b c : Frame} {k : List Item} {cs : List Frame} {ops : Array Oper} {i : Nat} {A : List Nat} {K : Op} {N t : Nat} {f : Nat -> aA} {ds : List Deferred}
theorem AZ{a:Addr}{w:Bool}(h:a.block∈L.map Prod.fst):qH (λb=>b=Zb.z) (jU O L) ⟨.cell a,w,false⟩:=⟨rfl,.inl (.inr h)⟩
theorem RO.gP{x:aA}(s:St O u₀)(n:b.kind=.normal)(e:AtG ops i (fd N f ds) K (some t))(m:∀c,K≠ .defer c)(h:∀u o,o.op=K->(execOp (fa N f).eval o).run P u=.ok (.value x) u/\(execOp (fa N f).eval o).events P u #[]=#[])
 (T:RO P ty Post d O u₀ L (gr (b.atR (fd N (aC f t x) ds) (aT ops A::k)) cs)):RO P ty Post d O u₀ L (gr (b.atR (fd N f ds) (aT ops (i::A)::k)) cs):=by
 obtain⟨o,g,a,j,l⟩:=e;refine RO.val s n (o:=o) ⟨g,l,a▸m⟩ (x:=x) (λu _ _=>?_) (by rw[j,xS];exact T);rw[jT];exact⟨(h u o a).1,by rw[(h u o a).2];simp⟩
theorem RO.fP{x:aA}(s:St O u₀)(n:b.kind=.normal)(a:At ops i K (some t))(m:∀c,K≠ .defer c)(h:∀u o,o.op=K->(execOp (fa N f).eval o).run P u=.ok (.value x) u/\(execOp (fa N f).eval o).events P u #[]=#[])
 (T:RO P ty Post d O u₀ L (gr (b.atR (fd N (aC f t x) ds) (aT ops A::k)) cs)):RO P ty Post d O u₀ L (gr (b.atR (fd N f ds) (aT ops (i::A)::k)) cs):=by
 obtain⟨o,e,g,j,l⟩:=a;exact .gP s n ⟨o,e,g,j,by simp[Region.wanted,l]⟩ m h T
theorem RO.fC{x:Nat}(s:St O u₀)(g:b.kind=.normal)(j:x<N)(a:At ops i (.move (.tmp x)) (some t)\/At ops i (.assign (.tmp x)) (some t))(T:RO P ty Post d O u₀ L (gr (b.atR (fd N (aC f t (f x)) ds) (aT ops A::k)) cs)):RO P ty Post d O u₀ L (gr (b.atR (fd N f ds) (aT ops (i::A)::k)) cs):=by
 obtain h|h:=a
 .exact .fP s g h U2 (λu o e=>by unfold execOp;rw[e];simp[aj j]) T
 .exact .fP s g h U2 (λu o e=>by unfold execOp;rw[e];simp[aj j]) T
theorem RO.fK{x:aA}(s:St O u₀)(j:b.kind=.normal)(a:At ops i (.move (.const x)) (some t)\/At ops i (.assign (.const x)) (some t))(T:RO P ty Post d O u₀ L (gr (b.atR (fd N (aC f t x) ds) (aT ops A::k)) cs)):RO P ty Post d O u₀ L (gr (b.atR (fd N f ds) (aT ops (i::A)::k)) cs):=by
 have e:(fa N f).eval (.const x)=x:=rfl;obtain h|h:=a
 .exact .fP s j h U2 (λu o g=>by unfold execOp;rw[g];simp[e]) T
 .exact .fP s j h U2 (λu o g=>by unfold execOp;rw[g];simp[e]) T
theorem RO.fL{x:aA}{p n:Nat}{e:bf}{z:Nat×Nat}{y:bf}(s:St O u₀)(v:b.kind=.normal)(g:At ops i (.load y (.tmp p)) (some t))(B:p<N)(w:f p=aJ n 0)(l:(n,Obj.cells #[x] e z)∈L)
 (h:∀(u:au) ad,u.cell? ad=some x->(Instr.loadAt y (.pointer (some ad))).run P u=.ok x u/\(Instr.loadAt y (.pointer (some ad))).events P u #[]=#[⟨.cell ad,false,false⟩])
 (T:RO P ty Post d O u₀ L (gr (b.atR (fd N (aC f t x) ds) (aT ops A::k)) cs)):RO P ty Post d O u₀ L (gr (b.atR (fd N f ds) (aT ops (i::A)::k)) cs):=by
 obtain⟨o,m,q,r⟩:=g.opn (a:=fd N f ds) U2;refine RO.val s v m (x:=x) (λu _ C=>?_) (by rw[r,xS];exact T);have hc:u.cell? (aB n 0)=some x:=by unfold World.cell?;rw[C.ob _ _ l];rfl
 obtain⟨r1,D⟩:=h u _ hc;rw[jT];unfold execOp;rw[q];simp only[aj B,w];refine⟨by simp[r1],λE j=>?_⟩;simp only[Sem.events_bind,r1,D,Result.evThen_ok,Sem.events_pure]at j;rw[Array.mem_singleton.1 j];exact AZ (gQ.2 ⟨_,l,rfl⟩)
theorem RO.fSt{x x':aA}{p n:Nat}{q:Operand}{e:bf}{y:bf}(s:St O u₀)(I:b.kind=.normal)(m:At ops i (.store y (.tmp p) q) none)(C:p<N)(B:f p=aJ n 0)(D:(fa N f).eval q=x')(w:(n,Obj.cells #[x] e)∈L)
 (h:∀(u:au) ad,u.cell? ad=some x->u.frozen? ad=false->(Instr.storeAt y (.pointer (some ad)) x').run P u=.ok () (u.setCell ad x')/\(Instr.storeAt y (.pointer (some ad)) x').events P u #[]=#[⟨.cell ad,true,false⟩])
 (T:RO P ty Post d O u₀ (lZ n (.cells #[x'] e) L) (gr (b.atR (fd N f ds) (aT ops A::k)) cs)):RO P ty Post d O u₀ L (gr (b.atR (fd N f ds) (aT ops (i::A)::k)) cs):=by
 obtain⟨o,E,v,G⟩:=m.opn (a:=fd N f ds) U2;have z:n∈L.map Prod.fst:=gQ.2 ⟨_,w,rfl⟩;refine RO.sto s I E z (λu _ J=>?_) (by rw[G];exact T);have l:=J.ob _ _ w;have hc:u.cell? (aB n 0)=some x:=by unfold World.cell?;rw[l];rfl
 have K:u.frozen? (aB n 0)=false:=by unfold World.frozen?;rw[l];rfl
 obtain⟨r1,M⟩:=h u _ hc K;refine⟨u.setCell (aB n 0) x',?_,?_,λQ g=>?_⟩
 .rw[jT];unfold execOp;rw[v];simp only[aj C,B,D];simp[r1]
 .refine⟨?_,rfl,rfl,rfl⟩;apply Array.ext_getElem?;intro j;have r:=(bJ.1 l).1;by_cases e:j=n
  .subst e;simp only[World.setCell,Array.set!_eq_setIfInBounds,Array.getElem?_modify,l,if_true,gq];simp[r]
  .simp only[World.setCell,Array.set!_eq_setIfInBounds,Array.getElem?_modify,av (Ne.symm e),jN (Ne.symm e)]
 .rw[jT]at g;unfold execOp at g;rw[v]at g;simp only[aj C,B,D]at g;simp only[Sem.events_bind,r1,M,Result.evThen_ok,Sem.events_pure]at g;rw[Array.mem_singleton.1 g];exact AZ z
theorem RO.fB{x:Operand}{y:bf}{c:Array aA}(s:St O u₀)(m:b.kind=.normal)(h:At ops i (.box y x) (some t))(l:((fa N f).eval x).cells=c)
 (T:∀n,RO P ty Post d O u₀ ((n,.cells c y)::L) (gr (b.atR (fd N (aC f t (aJ n 0)) ds) (aT ops A::k)) cs)):RO P ty Post d O u₀ L (gr (b.atR (fd N f ds) (aT ops (i::A)::k)) cs):=by
 obtain⟨o,e,g,j⟩:=h.opn (a:=fd N f ds) U2;refine RO.new s m e (x:=λn=>aJ n 0) (λu _ p=>?_) (λn=>by rw[j,xS];exact T n);rw[jT];unfold execOp;rw[g,<-l];exact⟨rfl,rfl⟩
end
section
variable [Payload] [Zb]
variable {P : Program} {ty : bf} {Post : aA -> au -> Prop} {d : Nat} {O : aD} {u₀ u v : au} {L Q : List (Nat × Obj)} {b c : Frame} {k : List Item} {cs : List Frame} {ops : Array Oper} {i : Nat} {A : List Nat} {K : Op} {N t : Nat} {f : Nat -> aA} {ds : List Deferred}
theorem uT{a:Array aA}{n:Nat}(h:a.size<=n):Ren.ent a n=fd n (λi=>a.getD i ak) []:=by
 unfold Ren.ent fd fa
 congr 1
 apply Array.ext_getElem?;intro j;by_cases b:j<a.size
 .rw[Array.getElem?_append_left b];simp[Array.getElem?_ofFn,b,show j<n by omega]
 .rw[Array.getElem?_append_right Q0];by_cases c:j<n
  .simp[Array.getElem?_ofFn,Array.getElem?_replicate,b,c,show j-a.size<n-a.size by omega]
  .simp[Array.getElem?_ofFn,Array.getElem?_replicate,c,show¬j-a.size<n-a.size by omega]
theorem iN{dt:Nat}(h:(ops[i]?).bind (·.dst)=some dt)(x:aA):(b.atR (fd N f ds) (aT ops (i::A)::k)).finish x=b.atR (fd N (aC f dt x) ds) (aT ops A::k):=by rw[Frame.finish_atR,h,xS]
theorem RO.fE{g:FuncId}{xs:Array Operand}{ats:Array bf}{dt:Option Tmp}{n:Func}{x:Code}{vs:Array aA}(s:St O u₀)(q:b.kind=.normal)(j:At ops i (.call {callee:=.value (.func g),args:=xs,argTypes:=ats}) dt)(h:P.funcs[g]? =some n)(p:(n.name== "runtime.NumGoroutine")=false)(e:n.body=some x)(v:xs.map (fa N f).eval=vs)
 (T:RO P ty Post d O u₀ L (gr ((base g).atR (Ren.ent vs n.ntmps) [.code x]) (b.atR (fd N f ds) (aT ops (i::A)::k)::cs))):RO P ty Post d O u₀ L (gr (b.atR (fd N f ds) (aT ops (i::A)::k)) cs):=by
 obtain⟨o,r,l,_⟩:=j.opn (a:=fd N f ds) U2;have m:n.name≠ "runtime.NumGoroutine" :=by simpa using p
 refine RO.ent s q r (args:=vs) h e (λu=>?_) T;rw[jT];unfold execOp;rw[l,<-v];constructor
 .simp[resolve,Deferred.ofValue,invoke,callFunc,h,e,m,Act.eval]
 .simp[resolve,Deferred.ofValue,invoke,callFunc,h,e,m,Act.eval]
theorem RO.fY{l p:Nat}{r:Loop}{xs:Array Operand}{ats:Array bf}{j:Option Tmp}{vs:Array aA}(s:St O u₀)(q:b.kind=.normal)(h:At ops i (.call {callee:=.value (.tmp p),args:=xs,argTypes:=ats}) j)(w:p<N)(n:f p=.func (.yield l) #[] #[])(y:xs.map (fa N f).eval=vs)(u:(l,Obj.loop r)∈L)(x:vs.size=r.params.size)
 (T:RO P ty Post d O u₀ L (gr (Frame.round l r.fn ((r.params.zip vs).foldl (λm(t,a)=>m.setIfInBounds t a) r.tmps) r.assign r.body .normal) (b.atR (fd N f ds) (aT ops (i::A)::k)::cs))):RO P ty Post d O u₀ L (gr (b.atR (fd N f ds) (aT ops (i::A)::k)) cs):=by
 obtain⟨o,v,g,_⟩:=h.opn (a:=fd N f ds) U2;refine RO.yld s q v u x ?_ T;rw[jT];unfold execOp;rw[g,<-y];have e:=aj (f:=f) w;rw[n]at e;simp only[resolve];rw[e];simp[Deferred.ofValue,invoke]
theorem RO.fX{x:aA}(s:St O u₀)(r:b.kind=.normal)(j:At ops i K (some t))(p:∀c,K≠ .defer c)(h:∀u o,o.op=K->(execOp (fa N f).eval o).run P u=.ok (.value x) u/\∀n,seen P n ((execOp (fa N f).eval o).events P u #[])=#[])
 (T:RO P ty Post d O u₀ L (gr (b.atR (fd N (aC f t x) ds) (aT ops A::k)) cs)):RO P ty Post d O u₀ L (gr (b.atR (fd N f ds) (aT ops (i::A)::k)) cs):=by
 obtain⟨o,g,l,m⟩:=j.opn (a:=fd N f ds) p;have q:(b.atR (fd N f ds) (aT ops (i::A)::k)).finish x=b.atR (fd N (aC f t x) ds) (aT ops A::k):=by rw[Frame.finish_atR,g.is];show b.atR ((fd N f ds).put o.dst x) _=_;rw[m,xS]
 rw[<-q]at T;refine .silent s rfl (λu w v=>⟨#[],?_,X0⟩) T;have e:=h u o l;rw[<-jT (ds:=ds)]at e;rw[CZ g.is g.wd g.nd];simp[stepG.apply,e.1,e.2,gr,Frame.atR,r,GStep.after]
end
section
variable [Payload] [Zb]
variable {P : Program} {ty : bf} {Post : aA -> au -> Prop} {d : Nat} {O : aD} {u₀ : au} {L : List (Nat × Obj)} {g : dN}
theorem RO.nd(h:(L.map Prod.fst).Nodup->RO P ty Post d O u₀ L g):RO P ty Post d O u₀ L g:=λu a n=>h n.nd u a n
theorem dw{b n:Nat}{o ob:Obj}(h:(b,o)∈L)(a:b≠n):(b,o)∈lZ n ob L:=gQ.2 ⟨_,h,by simp[a]⟩
theorem mg{n:Nat}{o ob:Obj}(h:(n,o)∈L):(n,ob)∈lZ n ob L:=gQ.2 ⟨_,h,X0⟩
end
theorem AtG.of{N:Nat}{f:Nat->aA}{p:Array Oper}{i j x:Nat}{K:Op}{d:Option Tmp}{b:Bool}(h:(p[i]?).map (λo=>(o.op,o.dst,o.guard))=some (K,d,some (j,b)))(c:(p[j]?).bind (·.dst)=some x)(n:x<N)(a:f x=.bool b):AtG p i (fa N f) K d:=by
 cases e:p[i]? with
 |none=>rw[e]at h;cases h
 |some o=>rw[e]at h;simp at h;exact⟨o,e,h.1,h.2.1,by simp[Region.wanted,h.2.2,yielded,c,fa,n,a]⟩
section
variable [Payload] [Zb] {S : aD} {P : Program} {ty : bf} {Post : aA -> au -> Prop} {b : Frame} {N : Nat} {f : Nat -> aA} {k : List Item} {ops : Array Oper} {i : Nat} {A : List Nat} {K : Op} {d : Nat} {B : List PF} {w : au} {v : aA}
theorem CP.gV(g:fH S P)(c:b.kind=.normal)(a:AtG ops i (fa N f) K (some d))(e:gF S P K)(h:∀t n o,o.op=K->(execOp (fa N f).eval o).run P (Ren.tp w t n)=.ok (.value v) (Ren.tp w t n))(l:CP S P ty Post ⟨b,fa N (aC f d v),aT ops A::k⟩ B w):CP S P ty Post ⟨b,fa N f,aT ops (i::A)::k⟩ B w:=by obtain⟨o,m,rfl,j,hw⟩:=a;exact CP.op g c m hw e λt n=>⟨v,_,h t n o rfl,by rw[j,jm];exact l.tp t n⟩
theorem RC.QS(e:b.kind=.normal){g:FuncId}{xs:Array Operand}{ats:Array bf}(a:AtG ops i (fa N f) (.call {callee:=.value (.func g),args:=xs,argTypes:=ats}) (some d))(l:∀x∈xs,bE S x){vs:Array aA}(z:xs.map (fa N f).eval=vs){Q:aA->au->Prop}(h:RC S P ty Post g vs w Q)
 (y:∀v u,Q v u->CP S P ty Post ⟨b,fa N (aC f d v),aT ops A::k⟩ B u):CP S P ty Post ⟨b,fa N f,aT ops (i::A)::k⟩ B w:=by
 subst z;obtain⟨o,m,j,t,hw⟩:=a;obtain⟨C,c,n,p,r,s⟩:=h;refine CP.Xm e m hw j l n p r ?_;have:=s b (fa N f) ops i A k B (by rw[m];intro v u q;simp only[Option.bind_some,t,jm];exact y v u q);rw[Array.size_map]at this;exact this
theorem CP.pass{j x:Nat}{c:Bool}(g:(ops[i]?).map (λo=>(o.dst,o.guard))=some (some d,some (j,c)))(J:(ops[j]?).bind (·.dst)=some x)(H:x<N)(G:f x=.bool (!c))(v:CP S P ty Post ⟨b,fa N (aC f d ak),aT ops A::k⟩ B w):CP S P ty Post ⟨b,fa N f,aT ops (i::A)::k⟩ B w:=by
 intro D C F s K R h I t;obtain⟨q,e,p⟩:=F;obtain⟨rfl,rfl,l⟩:q=b/\p=_/\fQ S C (fa N f) e:=⟨h.b,h.k,h.a⟩;cases m:ops[i]? with
 |none=>rw[m]at g;cases g
 |some o=>
  rw[m]at g;simp at g;have E:e.tmps.getD x ak=.bool (!c):=by
   have:=l.tmps.getD x;rw[bN H,G]at this;generalize e.tmps.getD x ak=y at this;cases this with
   |bool=>rfl
  have r:e.tmps[x]?.getD ak=.bool (!c):=by rw[<-oP];exact E
  have hw:Region.wanted o (yielded ops e.tmps)=false:=by
   simp only[Region.wanted,g.2,yielded,J];have z:x<e.tmps.size:=by have:=l.tmps.1;rw[zm]at this;omega
   simp[z]at r;simp[z,r]
  refine .mk (.idle rfl λu n=>⟨_,u,#[],_,stepG_unwanted m hw,dV R t n,X0,?_⟩);rw[g.1];rw[<-jm]at v;exact v D C ⟨q,e.put (some d) ak,_⟩ s u (R.rely n) ⟨rfl,rfl,l.put (some d) .undef⟩ I (t.rely (dG R n) w.tape w.drawn)
