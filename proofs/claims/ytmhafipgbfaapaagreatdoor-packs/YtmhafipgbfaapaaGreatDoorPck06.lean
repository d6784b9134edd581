import Derived.Test.YtmhafipgbfaapaaGreatDoorAbb0
import Derived.Test.YtmhafipgbfaapaaGreatDoorAbb1
import Derived.Test.YtmhafipgbfaapaaGreatDoorPck05
set_option maxRecDepth 100000
set_option maxHeartbeats 8000000
set_option linter.unusedVariables false
set_option linter.unusedSimpArgs false
set_option linter.unusedSectionVars false
namespace Go.Proofs.YtmhafipgbfaapaaGreatDoor
section
open Go.Proofs.Tryz
open Go Go.Conc Go.ConcN Go.RowKit Go.Conc.Lib Go.ConcR.Gen Go.ConcN.Gen Go.Proofs.YtmhafipgbfaapaaGreatDoor.Ren
open Go.ConcR (KK WgAt wgBlock stA smA rd wr mk Payload DC0)
variable {f : au -> Prop} {O Z : aD} {X Y : Code} {o : List Frame} {i d : Nat} {g : bf}
section
variable [Payload] [Zb] {L : Lk} {F : Ph} {old : Wd}
theorem ae8:mY=.seq (bZ mY) (.seq (bZ (aG mY)) oh):=by kernel_rfl
theorem Ho(n:F.lk=some L)(c:FC F Z O f)(p:∀b,O b\/F.Sh b\/Z b\/b=F.Wg\/b=F.C->b≠L.B)(r:Behind g F L i Z O f o)(x:∀a,a<d->Head g F L i Z O f o a 4)(t:X=aM)(u:Y=dJ)
 (T:Array aA)(h:T.size=139)(j:T[0]? =some (.pointer (some L.mu)))(s:Int)(k:T[2]? =some (ah s))(v:Bool)(l:T[3]? =some (.bool v))(e:Nat)(w:au)(m:KS g F L O f d old e w):bS prog g F i ⟨.q v,false,Z,1⟩ e O (G ((base 247).at ⟨T,[]⟩ [.code oh,.inBlock 1,.inLoop X,.inBlock 0,.code Y]) o) w:=by
 rw[JQ h j k l];exact VG n c p r x t u _ s v e w m
theorem queued(n:F.lk=some L)(hst:FC F Z O f)(y:∀b,O b\/F.Sh b\/Z b\/b=F.Wg\/b=F.C->b≠L.B)(T:Behind g F L i Z O f o)(Q:∀j,j<d->Head g F L i Z O f o j 4)(K:X=aM)(N:Y=dJ)
 (J:Nat->aA)(c:Int)(v:Bool)(p:Nat)(w:au)(h:KS g F L O f d old p w):bS prog g F i ⟨.q v,false,Z,1⟩ p O (G ((base 247).at ⟨TQ L J c v,[]⟩ [.code mY,.inBlock 1,.inLoop X,.inBlock 0,.code Y]) o) w:=by
 have a:=hst;obtain⟨V,z⟩:∃V,V=oh:=⟨_,rfl⟩;rw[ae8,<-z];simp only[TQ,mY,tX,cnd,aM,gX,aG,bZ,Bc,f247,fq];by_cases hw:c=0
 .subst hw;refine(dZ n hst).run (g':=?_) h ?_;clear h;intro p u h;refine bS.look n rfl rfl rfl (λbF u r W2 s2 M hn2 U=>⟨_,u.later,#[],_,.stay,stepG_nanotime rfl rfl Y0 rfl func260 abN abO abP abQ abZ,Eff.later u,M.later,X0,rfl,λl E=>?_⟩);have x:=h.rely n hst r;have D:=x.q.xO (γ:=⟨.q v,false,Z,1⟩) a y (Eff.later u) M.later;have W:=x.k;have A:l=d->∃s,MuAt L old s u.later:=λe=>by
   obtain⟨s3,S⟩:=x.m Q0;exact⟨s3,S.later⟩
  generalize((u.os.mono+u.tick:Nat):Int)=tv;generalize u.later=u2 at D A ⊢;clear h r M x;have h:KS g F L O f d old l u2:=⟨D,Q0,A⟩;clear E D A
  walk_nrm
  refine(dZ n hst).run (g':=?_) h ?_;clear h;intro p u h;rw[z];refine Ho n a y T Q K N _ ?_ ?_ tv ?_ v ?_ _ _ h<;>rfl
 .have R:(c==0)=false:=beq_false_of_ne hw;have I:(c !=0)=true:=bne_iff_ne.2 hw;refine(dZ n hst).run (g':=?_) h ?_;clear h;intro p u h;rw[z];refine Ho n a y T Q K N _ ?_ ?_ c ?_ v ?_ _ _ h<;>rfl
theorem wU(n:F.lk=some L)(c:FC F Z O f)(p:∀b,O b\/F.Sh b\/Z b\/b=F.Wg\/b=F.C->b≠L.B)(r:Behind g F L i Z O f o)(x:∀a,a<d->Head g F L i Z O f o a 4)(t:X=aM)(u:Y=dJ)
 (T:Array aA)(h:T.size=139)(j:T[0]? =some (.pointer (some L.mu)))(s:Int)(k:T[2]? =some (ah s))(v:Bool)(l:T[3]? =some (.bool v))(e:Nat)(w:au)(m:KS g F L O f d old e w):bS prog g F i ⟨.q v,false,Z,1⟩ e O (G ((base 247).at ⟨T,[]⟩ [.code mY,.inBlock 1,.inLoop X,.inBlock 0,.code Y]) o) w:=by
 rw[JQ h j k l];exact queued n c p r x t u _ s v e w m
theorem ab9(j:F.lk=some L)(hst:FC F Z O f)(hO:∀b,O b\/F.Sh b\/Z b\/b=F.Wg\/b=F.C->b≠L.B)(hT:Behind g F L i Z O f o)(ih:∀p,p<d->Head g F L i Z O f o p 4)(hX:X=aM)(hY:Y=dJ)
 (J:Nat->aA)(y:Int)(k:Bool)(T:Int)(n A:Nat)(w:au)(h0:0<=T)(hn:n<=131072)(hF:KS g F L O f d ⟨true,k,false,n⟩ A w):bS prog g F i ⟨.loop false false,false,Z,1⟩ A O (G ((base 247).at ⟨TM L J y false false T ⟨true,k,false,n⟩,[]⟩ [.code uV,.inBlock 1,.inLoop X,.inBlock 0,.code Y]) o) w:=by
 have nums:=uS hn;have v:=hst;obtain⟨V,hV⟩:∃V,V=mY:=⟨_,rfl⟩;rw[go_eq,<-hV];simp only[TM,Hf,tX,cnd,aM,gX,aG,bZ,Bc,f247,fq];refine(dZ j hst).run (g':=?_) hF ?_;clear hF;intro A u hF;refine bS.cas j rfl rfl rfl ⟨true,k,false,n⟩ ⟨true,k,false,n+1⟩ (λU u s a M Q hf=>⟨_,.q false,Lm.queue (aw:=false) (sv:=false) (w:=⟨true,k,false,n⟩) (.inl rfl),stepG_cas_hit rfl rfl Y0 rfl func246 ni nu ny .i32 nC O1 rfl rfl M.mu M.fm,λc h1 h2=>?_⟩) (λU u W s a M hne Q hf=>⟨_,stepG_cas_miss rfl rfl Y0 rfl func246 ni nu ny .i32 nC O1 rfl rfl M.mu M.fm (λe=>hne (Wd.int_inj e)),λc h1=>?_⟩)
 .have N:=hF.rely j hst a;have x:=N.q.xO (γ:=⟨.q false,false,Z,1⟩) v hO (Eff.set (.inl rfl) _) (M.setMu ⟨true,k,false,n+1⟩);have l:=N.k;have hlt:=h2 X0;generalize u.setCell L.mu _=u1 at x ⊢;clear hF N a M;have hF:KS g F L O f d ⟨true,k,false,n+1⟩ c u1:=⟨x,Q0,λe=>Q0⟩
  walk_nrm
  refine(dZ j hst).run (g':=?_) hF ?_;clear hF;intro A u hF;rw[hV];refine wU j v hO hT ih hX hY _ ?_ ?_ y ?_ false ?_ _ _ hF<;>rfl
 .skip
  have hlt:c<d:=by have:=(hF.rely j hst a).miss M hne;omega
  have x:=(hF.rely j hst a).q;clear hF;have hF:KS g F L O f (c+1) W c u:=⟨x,Q0,λe=>Q0⟩;have l:c<=c:=aS _;clear M x
  walk_nrm
  refine(BO j hst).run (g':=?_) ⟨hF,l⟩ ?_;clear hF l;intro A u ⟨hF,l⟩;refine bS.look j rfl rfl rfl (λXt u a W2 s M R Zd=>⟨_,u,#[],_,.stay,bV rfl rfl Y0 rfl O1 M.mu gD,.refl u,M,X0,rfl,λI S=>?_⟩);have x:=(hF.rely j hst a).q;have l:=bY a.k l;clear hF a;obtain⟨m,E⟩:∃m,m=I:=⟨_,rfl⟩;have hF:KS g F L O f m W2 I u:=⟨x,Q0,λ_=>⟨s,M⟩⟩;have D:m<d:=by omega
  clear S E
  walk_nrm
  refine(dZ j hst).run (g':=?_) hF ?_;clear hF;intro A u hF;rw[hX,hY];refine(ih m D _ y false false T W2 _ _ ?_ ?_ ?_ ?_ ?_ ?_ ?_ Q0 h0 ?_ X0 R hF)<;>first|rfl|exactλh=>nomatch h
theorem acd(j:F.lk=some L)(hst:FC F Z O f)(hO:∀b,O b\/F.Sh b\/Z b\/b=F.Wg\/b=F.C->b≠L.B)(hT:Behind g F L i Z O f o)(ih:∀p,p<d->Head g F L i Z O f o p 4)(hX:X=aM)(hY:Y=dJ)
 (J:Nat->aA)(y:Int)(U:Int)(n A:Nat)(w:au)(h0:0<=U)(hn:n<=131072)(hF:KS g F L O f d ⟨true,true,false,n⟩ A w):bS prog g F i ⟨.loop true false,false,Z,1⟩ A O (G ((base 247).at ⟨TM L J y false true U ⟨true,true,false,n⟩,[]⟩ [.code uV,.inBlock 1,.inLoop X,.inBlock 0,.code Y]) o) w:=by
 have nums:=uS hn;have v:=hst;obtain⟨V,hV⟩:∃V,V=mY:=⟨_,rfl⟩;rw[go_eq,<-hV];simp only[TM,Hf,tX,cnd,aM,gX,aG,bZ,Bc,f247,fq];refine(dZ j hst).run (g':=?_) hF ?_;clear hF;intro A u hF;refine bS.cas j rfl rfl rfl ⟨true,true,false,n⟩ ⟨true,false,false,n+1⟩ (λbF u s a M R hf=>⟨_,.q false,Lm.queue (aw:=true) (sv:=false) (w:=⟨true,true,false,n⟩) (.inl rfl),stepG_cas_hit rfl rfl Y0 rfl func246 ni nu ny .i32 nC O1 rfl rfl M.mu M.fm,λc h1 h2=>?_⟩) (λbF u W s a M hne R hf=>⟨_,stepG_cas_miss rfl rfl Y0 rfl func246 ni nu ny .i32 nC O1 rfl rfl M.mu M.fm (λe=>hne (Wd.int_inj e)),λc h1=>?_⟩)
 .have Q:=hF.rely j hst a;have x:=Q.q.xO (γ:=⟨.q false,false,Z,1⟩) v hO (Eff.set (.inl rfl) _) (M.setMu ⟨true,false,false,n+1⟩);have l:=Q.k;have hlt:=h2 X0;generalize u.setCell L.mu _=u1 at x ⊢;clear hF Q a M;have hF:KS g F L O f d ⟨true,false,false,n+1⟩ c u1:=⟨x,Q0,λe=>Q0⟩
  walk_nrm
  refine(dZ j hst).run (g':=?_) hF ?_;clear hF;intro A u hF;rw[hV];refine wU j v hO hT ih hX hY _ ?_ ?_ y ?_ false ?_ _ _ hF<;>rfl
 .skip
  have hlt:c<d:=by have:=(hF.rely j hst a).miss M hne;omega
  have x:=(hF.rely j hst a).q;clear hF;have hF:KS g F L O f (c+1) W c u:=⟨x,Q0,λe=>Q0⟩;have l:c<=c:=aS _;clear M x
  walk_nrm
  refine(BO j hst).run (g':=?_) ⟨hF,l⟩ ?_;clear hF l;intro A u ⟨hF,l⟩;refine bS.look j rfl rfl rfl (λXt u a W2 s M S N=>⟨_,u,#[],_,.stay,bV rfl rfl Y0 rfl O1 M.mu gD,.refl u,M,X0,rfl,λI T=>?_⟩);have x:=(hF.rely j hst a).q;have l:=bY a.k l;clear hF a;obtain⟨m,E⟩:∃m,m=I:=⟨_,rfl⟩;have hF:KS g F L O f m W2 I u:=⟨x,Q0,λ_=>⟨s,M⟩⟩;have D:m<d:=by omega
  clear T E
  walk_nrm
  refine(dZ j hst).run (g':=?_) hF ?_;clear hF;intro A u hF;rw[hX,hY];refine(ih m D _ y false true U W2 _ _ ?_ ?_ ?_ ?_ ?_ ?_ ?_ Q0 h0 ?_ X0 S hF)<;>first|rfl|exactλ_=>N
theorem ace(j:F.lk=some L)(hst:FC F Z O f)(hO:∀b,O b\/F.Sh b\/Z b\/b=F.Wg\/b=F.C->b≠L.B)(hT:Behind g F L i Z O f o)(ih:∀p,p<d->Head g F L i Z O f o p 4)(hX:X=aM)(hY:Y=dJ)
 (J:Nat->aA)(y:Int)(U:Int)(n A:Nat)(w:au)(h0:0<=U)(hn:n<=131072)(hF:KS g F L O f d ⟨true,true,false,n⟩ A w):bS prog g F i ⟨.loop true true,false,Z,1⟩ A O (G ((base 247).at ⟨TM L J y true true U ⟨true,true,false,n⟩,[]⟩ [.code uV,.inBlock 1,.inLoop X,.inBlock 0,.code Y]) o) w:=by
 have nums:=uS hn;have v:=hst;obtain⟨V,hV⟩:∃V,V=mY:=⟨_,rfl⟩;rw[go_eq,<-hV];simp only[TM,Hf,tX,cnd,aM,gX,aG,bZ,Bc,f247,fq];refine(dZ j hst).run (g':=?_) hF ?_;clear hF;intro A u hF;refine bS.cas j rfl rfl rfl ⟨true,true,false,n⟩ ⟨true,false,true,n+1⟩ (λbF u s a M R hf=>⟨_,.q true,Lm.queue (aw:=true) (sv:=true) (w:=⟨true,true,false,n⟩) (.inl rfl),stepG_cas_hit rfl rfl Y0 rfl func246 ni nu ny .i32 nC O1 rfl rfl M.mu M.fm,λc h1 h2=>?_⟩) (λbF u W s a M hne R hf=>⟨_,stepG_cas_miss rfl rfl Y0 rfl func246 ni nu ny .i32 nC O1 rfl rfl M.mu M.fm (λe=>hne (Wd.int_inj e)),λc h1=>?_⟩)
 .have Q:=hF.rely j hst a;have x:=Q.q.xO (γ:=⟨.q true,false,Z,1⟩) v hO (Eff.set (.inl rfl) _) (M.setMu ⟨true,false,true,n+1⟩);have l:=Q.k;have hlt:=h2 X0;generalize u.setCell L.mu _=u1 at x ⊢;clear hF Q a M;have hF:KS g F L O f d ⟨true,false,true,n+1⟩ c u1:=⟨x,Q0,λe=>Q0⟩
  walk_nrm
  refine(dZ j hst).run (g':=?_) hF ?_;clear hF;intro A u hF;rw[hV];refine wU j v hO hT ih hX hY _ ?_ ?_ y ?_ true ?_ _ _ hF<;>rfl
 .skip
  have hlt:c<d:=by have:=(hF.rely j hst a).miss M hne;omega
  have x:=(hF.rely j hst a).q;clear hF;have hF:KS g F L O f (c+1) W c u:=⟨x,Q0,λe=>Q0⟩;have l:c<=c:=aS _;clear M x
  walk_nrm
  refine(BO j hst).run (g':=?_) ⟨hF,l⟩ ?_;clear hF l;intro A u ⟨hF,l⟩;refine bS.look j rfl rfl rfl (λXt u a W2 s M S N=>⟨_,u,#[],_,.stay,bV rfl rfl Y0 rfl O1 M.mu gD,.refl u,M,X0,rfl,λI T=>?_⟩);have x:=(hF.rely j hst a).q;have l:=bY a.k l;clear hF a;obtain⟨m,E⟩:∃m,m=I:=⟨_,rfl⟩;have hF:KS g F L O f m W2 I u:=⟨x,Q0,λ_=>⟨s,M⟩⟩;have D:m<d:=by omega
  clear T E
  walk_nrm
  refine(dZ j hst).run (g':=?_) hF ?_;clear hF;intro A u hF;rw[hX,hY];refine(ih m D _ y true true U W2 _ _ ?_ ?_ ?_ ?_ ?_ ?_ ?_ Q0 h0 ?_ X0 S hF)<;>first|rfl|exactλ_=>N
theorem Hq(p:F.lk=some L)(hst:FC F Z O f)(hO:∀b,O b\/F.Sh b\/Z b\/b=F.Wg\/b=F.C->b≠L.B)(hT:Behind g F L i Z O f o)(ih:∀I,I<d->Head g F L i Z O f o I 4)(hX:X=aM)(hY:Y=dJ)
 (J:Nat->aA)(D:Int)(l k:Bool)(it:Int)(n K:Nat)(w:au)(h0:0<=it)(hn:n<=131072)(a:KS g F L O f d ⟨l,k,true,n⟩ K w):bS prog g F i ⟨.loop false false,false,Z,1⟩ K O (G ((base 247).at ⟨TM L J D false false it ⟨l,k,true,n⟩,[]⟩ [.code aM,.inLoop X,.inBlock 0,.code Y]) o) w:=by
 have nums:=uS hn;have x:=hst;obtain⟨V,hV⟩:∃V,V=mY:=⟨_,rfl⟩;rw[Rt,<-hV];simp only[TM,Hf,tX,cnd,aM,gX,aG,bZ,Bc,f247,fq];cases l with
 |false=>
  refine(dZ p hst).run (g':=?_) a ?_;clear a;intro K u a;refine bS.cas p rfl rfl rfl ⟨false,k,true,n⟩ ⟨false,k,true,n+1⟩ (λU u s r M R hf=>⟨_,.q false,Lm.queue (aw:=false) (sv:=false) (w:=⟨false,k,true,n⟩) (.inr rfl),stepG_cas_hit rfl rfl Y0 rfl func246 ni nu ny .i32 nC O1 rfl rfl M.mu M.fm,λc h1 h2=>?_⟩) (λU u W s r M z R hf=>⟨_,stepG_cas_miss rfl rfl Y0 rfl func246 ni nu ny .i32 nC O1 rfl rfl M.mu M.fm (λe=>z (Wd.int_inj e)),λc h1=>?_⟩)
  .have N:=a.rely p hst r;have v:=N.q.xO (γ:=⟨.q false,false,Z,1⟩) x hO (Eff.set (.inl rfl) _) (M.setMu ⟨false,k,true,n+1⟩);have j:=N.k;have Q:=h2 X0;generalize u.setCell L.mu _=u1 at v ⊢;clear a N r M;have a:KS g F L O f d ⟨false,k,true,n+1⟩ c u1:=⟨v,Q0,λe=>Q0⟩
   walk_nrm
   refine(dZ p hst).run (g':=?_) a ?_;clear a;intro K u a;rw[hV];refine wU p x hO hT ih hX hY _ ?_ ?_ D ?_ false ?_ _ _ a<;>rfl
  .skip
   have Q:c<d:=by have:=(a.rely p hst r).miss M z;omega
   have v:=(a.rely p hst r).q;clear a;have a:KS g F L O f (c+1) W c u:=⟨v,Q0,λe=>Q0⟩;have j:c<=c:=aS _;clear M v
   walk_nrm
   refine(BO p hst).run (g':=?_) ⟨a,j⟩ ?_;clear a j;intro K u ⟨a,j⟩;refine bS.look p rfl rfl rfl (λXt u r W2 s M S Zd=>⟨_,u,#[],_,.stay,bV rfl rfl Y0 rfl O1 M.mu gD,.refl u,M,X0,rfl,λE T=>?_⟩);have v:=(a.rely p hst r).q;have j:=bY r.k j;clear a r;obtain⟨m,A⟩:∃m,m=E:=⟨_,rfl⟩;have a:KS g F L O f m W2 E u:=⟨v,Q0,λ_=>⟨s,M⟩⟩;have y:m<d:=by omega
   clear T A
   walk_nrm
   refine(dZ p hst).run (g':=?_) a ?_;clear a;intro K u a;rw[hX,hY];refine(ih m y _ D false false it W2 _ _ ?_ ?_ ?_ ?_ ?_ ?_ ?_ Q0 h0 ?_ X0 S a)<;>first|rfl|exactλh=>nomatch h
 |true=>
  refine(dZ p hst).run (g':=?_) a ?_;clear a;intro K u a;refine bS.cas p rfl rfl rfl ⟨true,k,true,n⟩ ⟨true,k,true,n+1⟩ (λU u s r M R hf=>⟨_,.q false,Lm.queue (aw:=false) (sv:=false) (w:=⟨true,k,true,n⟩) (.inr rfl),stepG_cas_hit rfl rfl Y0 rfl func246 ni nu ny .i32 nC O1 rfl rfl M.mu M.fm,λc h1 h2=>?_⟩) (λU u W s r M z R hf=>⟨_,stepG_cas_miss rfl rfl Y0 rfl func246 ni nu ny .i32 nC O1 rfl rfl M.mu M.fm (λe=>z (Wd.int_inj e)),λc h1=>?_⟩)
  .have N:=a.rely p hst r;have v:=N.q.xO (γ:=⟨.q false,false,Z,1⟩) x hO (Eff.set (.inl rfl) _) (M.setMu ⟨true,k,true,n+1⟩);have j:=N.k;have Q:=h2 X0;generalize u.setCell L.mu _=u1 at v ⊢;clear a N r M;have a:KS g F L O f d ⟨true,k,true,n+1⟩ c u1:=⟨v,Q0,λe=>Q0⟩
   walk_nrm
   refine(dZ p hst).run (g':=?_) a ?_;clear a;intro K u a;rw[hV];refine wU p x hO hT ih hX hY _ ?_ ?_ D ?_ false ?_ _ _ a<;>rfl
  .skip
   have Q:c<d:=by have:=(a.rely p hst r).miss M z;omega
   have v:=(a.rely p hst r).q;clear a;have a:KS g F L O f (c+1) W c u:=⟨v,Q0,λe=>Q0⟩;have j:c<=c:=aS _;clear M v
   walk_nrm
   refine(BO p hst).run (g':=?_) ⟨a,j⟩ ?_;clear a j;intro K u ⟨a,j⟩;refine bS.look p rfl rfl rfl (λXt u r W2 s M S Zd=>⟨_,u,#[],_,.stay,bV rfl rfl Y0 rfl O1 M.mu gD,.refl u,M,X0,rfl,λE T=>?_⟩);have v:=(a.rely p hst r).q;have j:=bY r.k j;clear a r;obtain⟨m,A⟩:∃m,m=E:=⟨_,rfl⟩;have a:KS g F L O f m W2 E u:=⟨v,Q0,λ_=>⟨s,M⟩⟩;have y:m<d:=by omega
   clear T A
   walk_nrm
   refine(dZ p hst).run (g':=?_) a ?_;clear a;intro K u a;rw[hX,hY];refine(ih m y _ D false false it W2 _ _ ?_ ?_ ?_ ?_ ?_ ?_ ?_ Q0 h0 ?_ X0 S a)<;>first|rfl|exactλh=>nomatch h
